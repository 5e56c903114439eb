import PyProof.Rows.All
import Wide.All
import OpenK.AllK
import Wide.FinOn
import KE.DatumOrd
import KE.GoesEnumKw
import HandS.ForMost
import HandS.Walk
import HandS.Zip
import HandS.SortKw
import HandS.TupAny
import HandS.TupMul
import HandS.IsInst
import HandS.SetFor
import HandS.RaiseMore
import PyProof.ReprRoads
import PySem.Challenge.RW_callsdown_k43_line_rules_by_hand
set_option Elab.async false
set_option linter.all false
set_option maxRecDepth 100000
/-! the mathematics of line rules: the walk from person to person, rounds that come again -/
namespace CD
abbrev Win := List (Option Int)
def leastO : List Int → Option Int
  | [] => none
  | n :: ns => some (ns.foldl min n)
/-- window[-step] -/
def back (ws : Win) (s : Int) : Option Int := ws.getD (ws.length - s.toNat) none
def callAt (ws : Win) (p : Int × Nat) : Option Int := (back ws p.1).map (· + (p.2 : Int))
def calls (rule : List Int) (ws : Win) : List Int := (rule.zipIdx 1).filterMap (callAt ws)
def calledAt (rule : List Int) (ws : Win) : Option Int := leastO (calls rule ws)
abbrev LState := Win × Int
def lastOf (tick : Option Int) (last : Int) : Int := match tick with | some t => if last < t then t else last | none => last
def behindP (st : LState) (tick : Option Int) : LState := (st.1.tail ++ [tick], lastOf tick st.2)
def few (rule : List Int) : Nat → LState → LState
  | 0, st => st
  | n + 1, st => few rule n (behindP st (calledAt rule st.1))
def laterW (ws : Win) (m : Int) : Win := ws.map (·.map (· + m))
def told (ws : Win) : List Int := ws.filterMap id
def baseOf (ws : Win) : Int := (leastO (told ws)).getD 0
def shapeOf (ws : Win) : Win := laterW ws (-(baseOf ws))
/-- a LINE RULE -/
structure IsRule (rule : List Int) : Prop where
  pos : 1 ≤ rule.length
  most : rule.length ≤ 4
  step : ∀ s ∈ rule, 1 ≤ s ∧ s ≤ 6
  nodup : rule.Nodup
def reach (rule : List Int) : Nat := (rule.foldl max 0).toNat
def ascB (ns : List Int) : Bool := (ns.zip ns.tail).all fun p => decide (p.1 < p.2)
theorem zip_at {α β : Type} {xs : List α} {ys : List β} {i : Nat} {p : α × β} (h : (xs.zip ys)[i]? = some p) : xs[i]? = some p.1 ∧ ys[i]? = some p.2 := by
  have z := List.getElem?_zip_eq_some.mp h
  exact z
end CD
namespace CD
/-! few -/
theorem few_succ (rule : List Int) : ∀ (n : Nat) (st : LState), few rule (n + 1) st = behindP (few rule n st) (calledAt rule (few rule n st).1)
  | 0, _ => rfl
  | n + 1, st => by
    show few rule (n + 1) (behindP st (calledAt rule st.1)) = _
    rw [few_succ rule n]
    rfl
theorem few_add (rule : List Int) : ∀ (a b : Nat) (st : LState), few rule (a + b) st = few rule b (few rule a st)
  | 0, b, st => by rw [Nat.zero_add]; rfl
  | a + 1, b, st => by
    rw [Nat.add_right_comm]
    show few rule (a + b) (behindP st _) = few rule b (few rule a (behindP st _))
    exact few_add rule a b _
theorem behindP_len (st : LState) (t : Option Int) (h : 1 ≤ st.1.length) : (behindP st t).1.length = st.1.length := by
  show (st.1.tail ++ [t]).length = _
  rw [List.length_append, List.length_tail, List.length_singleton]
  omega
theorem few_len (rule : List Int) : ∀ (n : Nat) (st : LState), 1 ≤ st.1.length → (few rule n st).1.length = st.1.length
  | 0, _, _ => rfl
  | n + 1, st, h => by
    show (few rule n (behindP st _)).1.length = _
    rw [few_len rule n _ (by rw [behindP_len st _ h]; exact h), behindP_len st _ h]
/-! later -/
theorem laterW_len (ws : Win) (m : Int) : (laterW ws m).length = ws.length := List.length_map ..
theorem laterW_add (ws : Win) (a b : Int) : laterW (laterW ws a) b = laterW ws (a + b) := by
  unfold laterW
  rw [List.map_map]
  refine List.map_congr_left fun o _ => ?_
  cases o with
  | none => rfl
  | some t => show some (t + a + b) = some (t + (a + b)); rw [Int.add_assoc]
theorem laterW_zero (ws : Win) : laterW ws 0 = ws := by
  unfold laterW
  conv => rhs; rw [← List.map_id ws]
  refine List.map_congr_left fun o _ => ?_
  cases o with
  | none => rfl
  | some t => show some (t + 0) = some t; rw [Int.add_zero]
theorem back_later (ws : Win) (s m : Int) : back (laterW ws m) s = (back ws s).map (· + m) := by
  unfold back
  rw [laterW_len]
  unfold laterW
  rw [List.getD_eq_getElem?_getD, List.getD_eq_getElem?_getD, List.getElem?_map]
  cases ws[ws.length - s.toNat]? <;> rfl
theorem foldmin_add (m : Int) : ∀ (ns : List Int) (n : Int), (ns.map (· + m)).foldl min (n + m) = ns.foldl min n + m
  | [], _ => rfl
  | k :: r, n => by
    rw [List.map_cons, List.foldl_cons, List.foldl_cons, ← foldmin_add m r]
    congr 1
    omega
theorem leastO_add (m : Int) (ns : List Int) : leastO (ns.map (· + m)) = (leastO ns).map (· + m) := by
  cases ns with
  | nil => rfl
  | cons n r => show some ((r.map (· + m)).foldl min (n + m)) = some (r.foldl min n + m); rw [foldmin_add]
theorem calls_later (rule : List Int) (ws : Win) (m : Int) : calls rule (laterW ws m) = (calls rule ws).map (· + m) := by
  unfold calls
  rw [List.map_filterMap]
  congr 1
  funext p
  unfold callAt
  rw [back_later]
  cases back ws p.1 with
  | none => rfl
  | some t => show some (t + m + _) = some (t + _ + m); rw [Int.add_right_comm]
theorem called_later (rule : List Int) (ws : Win) (m : Int) : calledAt rule (laterW ws m) = (calledAt rule ws).map (· + m) := by
  unfold calledAt
  rw [calls_later, leastO_add]
/-! ticks -/
def nextW (rule : List Int) (ws : Win) : Win := ws.tail ++ [calledAt rule ws]
def winN (rule : List Int) : Nat → Win → Win
  | 0, ws => ws
  | n + 1, ws => winN rule n (nextW rule ws)
def ticks (rule : List Int) : Nat → Win → List (Option Int)
  | 0, _ => []
  | n + 1, ws => calledAt rule ws :: ticks rule n (nextW rule ws)
def lastL (l : Int) (ts : List (Option Int)) : Int := ts.foldl (fun l t => lastOf t l) l
theorem few_eq (rule : List Int) : ∀ (n : Nat) (st : LState), few rule n st = (winN rule n st.1, lastL st.2 (ticks rule n st.1))
  | 0, _ => rfl
  | n + 1, st => by
    show few rule n (behindP st (calledAt rule st.1)) = _
    rw [few_eq rule n]
    rfl
theorem nextW_later (rule : List Int) (ws : Win) (m : Int) : nextW rule (laterW ws m) = laterW (nextW rule ws) m := by
  unfold nextW
  rw [called_later]
  unfold laterW
  rw [List.map_append, List.map_tail]
  rfl
theorem winN_later (rule : List Int) (m : Int) : ∀ (n : Nat) (ws : Win), winN rule n (laterW ws m) = laterW (winN rule n ws) m
  | 0, _ => rfl
  | n + 1, ws => by
    show winN rule n (nextW rule (laterW ws m)) = laterW (winN rule n (nextW rule ws)) m
    rw [nextW_later, winN_later rule m n]
theorem ticks_later (rule : List Int) (m : Int) : ∀ (n : Nat) (ws : Win), ticks rule n (laterW ws m) = (ticks rule n ws).map (·.map (· + m))
  | 0, _ => rfl
  | n + 1, ws => by
    show calledAt rule (laterW ws m) :: ticks rule n (nextW rule (laterW ws m)) = _
    rw [called_later, nextW_later, ticks_later rule m n]
    rfl
theorem winN_add (rule : List Int) : ∀ (a b : Nat) (ws : Win), winN rule (a + b) ws = winN rule b (winN rule a ws)
  | 0, b, ws => by rw [Nat.zero_add]; rfl
  | a + 1, b, ws => by
    rw [Nat.add_right_comm]
    exact winN_add rule a b _
theorem ticks_add (rule : List Int) : ∀ (a b : Nat) (ws : Win), ticks rule (a + b) ws = ticks rule a ws ++ ticks rule b (winN rule a ws)
  | 0, b, ws => by rw [Nat.zero_add]; rfl
  | a + 1, b, ws => by
    rw [Nat.add_right_comm]
    show calledAt rule ws :: ticks rule (a + b) (nextW rule ws) = calledAt rule ws :: (ticks rule a (nextW rule ws) ++ _)
    rw [ticks_add rule a b]
    rfl
/-! the greatest -/
theorem lastOf_ge (t : Option Int) (l : Int) : l ≤ lastOf t l := by
  cases t with
  | none => exact Int.le_refl _
  | some t => show l ≤ if l < t then t else l; split <;> omega
theorem lastL_ge : ∀ (ts : List (Option Int)) (l : Int), l ≤ lastL l ts
  | [], _ => Int.le_refl _
  | t :: r, l => Int.le_trans (lastOf_ge t l) (lastL_ge r (lastOf t l))
theorem lastL_mem : ∀ (ts : List (Option Int)) (l x : Int), some x ∈ ts → x ≤ lastL l ts
  | t :: r, l, x, h => by
    rcases List.mem_cons.mp h with e | h
    · subst e
      refine Int.le_trans ?_ (lastL_ge r (lastOf (some x) l))
      show x ≤ if l < x then x else l
      split <;> omega
    · exact lastL_mem r _ x h
theorem lastL_is : ∀ (ts : List (Option Int)) (l : Int), lastL l ts = l ∨ some (lastL l ts) ∈ ts
  | [], _ => .inl rfl
  | t :: r, l => by
    show lastL (lastOf t l) r = l ∨ _
    rcases lastL_is r (lastOf t l) with e | e
    · cases t with
      | none => exact .inl e
      | some x =>
        by_cases h : l < x
        · have e2 : lastOf (some x) l = x := if_pos h
          rw [e2] at e
          refine .inr ?_
          show some (lastL (lastOf (some x) l) r) ∈ _
          rw [e2, e]
          exact List.mem_cons_self
        · have e2 : lastOf (some x) l = l := if_neg h
          rw [e2] at e
          exact .inl (by rw [e2]; exact e)
    · exact .inr (List.mem_cons_of_mem _ e)
theorem lastL_append (a b : List (Option Int)) (l : Int) : lastL l (a ++ b) = lastL (lastL l a) b := List.foldl_append ..
/-- what comes ahead does not matter where something as great comes behind -/
theorem lastL_absorb {a b : List (Option Int)} (l : Int) (h : ∀ x, some x ∈ a → ∃ y, some y ∈ b ∧ x ≤ y) : lastL l (a ++ b) = lastL l b := by
  rw [lastL_append]
  refine Int.le_antisymm ?_ ?_
  · rcases lastL_is b (lastL l a) with e | e
    · rw [e]
      rcases lastL_is a l with e2 | e2
      · rw [e2]; exact lastL_ge b l
      · obtain ⟨y, hy, le⟩ := h _ e2
        exact Int.le_trans le (lastL_mem b l y hy)
    · exact lastL_mem b l _ e
  · rcases lastL_is b l with e | e
    · rw [e]
      exact Int.le_trans (lastL_ge a l) (lastL_ge b _)
    · exact lastL_mem b _ _ e
/-! rounds -/
theorem winN_rounds (rule : List Int) {ws : Win} {z : Nat} {m : Int} (h : winN rule z ws = laterW ws m) : ∀ r : Nat, winN rule (r * z) ws = laterW ws (r * m)
  | 0 => by rw [Nat.zero_mul]; show ws = laterW ws _; rw [show ((0 : Nat) : Int) * m = 0 by simp, laterW_zero]
  | r + 1 => by
    rw [Nat.add_mul, Nat.one_mul, winN_add, winN_rounds rule h r, winN_later, h, laterW_add]
    congr 1
    rw [show ((r + 1 : Nat) : Int) = (r : Int) + 1 by omega, Int.add_mul, Int.one_mul, Int.add_comm]
/-- the ticks of whole rounds are those of the first one, later -/
theorem ticks_rounds (rule : List Int) {ws : Win} {z : Nat} {m : Int} (h : winN rule z ws = laterW ws m) : ∀ (r : Nat) (x : Int), some x ∈ ticks rule (r * z) ws → ∃ (a : Nat) (y : Int), a < r ∧ some y ∈ ticks rule z ws ∧ x = y + a * m
  | 0, x, hx => by rw [Nat.zero_mul] at hx; cases hx
  | r + 1, x, hx => by
    rw [Nat.add_mul, Nat.one_mul, ticks_add, List.mem_append] at hx
    rcases hx with hx | hx
    · obtain ⟨a, y, ha, hy, e⟩ := ticks_rounds rule h r x hx
      exact ⟨a, y, by omega, hy, e⟩
    · rw [winN_rounds rule h r, ticks_later, List.mem_map] at hx
      obtain ⟨o, ho, e⟩ := hx
      cases o with
      | none => cases e
      | some y =>
        have e2 : some (y + r * m) = some x := e
        exact ⟨r, y, by omega, ho, (Option.some.inj e2).symm⟩
/-- THE ROUNDS: whole rounds may be left out -/
theorem few_rounds (rule : List Int) {ws : Win} {z : Nat} {m : Int} (hz : 1 ≤ z) (hm : 0 ≤ m) (h : winN rule z ws = laterW ws m) (L : Nat) (last : Int) :
    few rule L (ws, last) = few rule (L - (L / z - 1) * z) (laterW ws (((L / z - 1 : Nat) : Int) * m), last) := by
  generalize hr : L / z - 1 = r
  by_cases r0 : r = 0
  · subst r0
    rw [Nat.zero_mul, Nat.sub_zero, show ((0 : Nat) : Int) * m = 0 by simp, laterW_zero]
  have hdiv : z * (L / z) ≤ L := Nat.mul_div_le L z
  have hq : L / z = r + 1 := by omega
  have hL : r * z + z ≤ L := by
    have e : z * (r + 1) = r * z + z := by rw [Nat.mul_comm, Nat.add_mul, Nat.one_mul]
    rw [hq, e] at hdiv
    exact hdiv
  generalize hn : L - r * z = n
  have eL : L = r * z + n := by omega
  have hzn : z ≤ n := by omega
  rw [eL, few_eq, few_eq]
  have hw := winN_rounds rule h r
  refine Prod.ext ?_ ?_
  · show winN rule (r * z + n) ws = winN rule n (laterW ws (r * m))
    rw [winN_add, hw]
  · show lastL last (ticks rule (r * z + n) ws) = lastL last (ticks rule n (laterW ws (r * m)))
    rw [ticks_add, hw]
    refine lastL_absorb last fun x hx => ?_
    obtain ⟨a, y, ha, hy, rfl⟩ := ticks_rounds rule h r x hx
    refine ⟨y + r * m, ?_, ?_⟩
    · obtain ⟨k, rfl⟩ : ∃ k, n = z + k := ⟨n - z, by omega⟩
      rw [ticks_later, ticks_add]
      refine List.mem_map.mpr ⟨some y, List.mem_append_left _ hy, rfl⟩
    · have : (a : Int) * m ≤ r * m := Int.mul_le_mul_of_nonneg_right (by omega) hm
      omega
end CD
namespace CD
/-! base and shape -/
theorem told_mem {ws : Win} {t : Int} : t ∈ told ws ↔ some t ∈ ws := by
  unfold told
  rw [List.mem_filterMap]
  exact ⟨fun ⟨o, h, e⟩ => by rw [show o = some t from e] at h; exact h, fun h => ⟨_, h, rfl⟩⟩
theorem foldmin_le : ∀ (ns : List Int) (n : Int), ns.foldl min n ≤ n ∧ (∀ k ∈ ns, ns.foldl min n ≤ k) ∧ (ns.foldl min n = n ∨ ns.foldl min n ∈ ns)
  | [], n => ⟨Int.le_refl _, fun k h => (by cases h), .inl rfl⟩
  | k :: r, n => by
    obtain ⟨h1, h2, h3⟩ := foldmin_le r (min n k)
    rw [List.foldl_cons]
    refine ⟨by omega, fun j hj => ?_, ?_⟩
    · rcases List.mem_cons.mp hj with rfl | hj
      · omega
      · exact h2 j hj
    · rcases h3 with e | e
      · by_cases c : n ≤ k
        · exact .inl (by rw [e]; omega)
        · refine .inr ?_
          rw [e, show min n k = k by omega]
          exact List.mem_cons_self
      · exact .inr (List.mem_cons_of_mem _ e)
theorem leastO_spec {ns : List Int} {m : Int} (h : leastO ns = some m) : m ∈ ns ∧ ∀ k ∈ ns, m ≤ k := by
  cases ns with
  | nil => cases h
  | cons n r =>
    obtain ⟨h1, h2, h3⟩ := foldmin_le r n
    have e : r.foldl min n = m := Option.some.inj h
    rw [e] at h1 h2 h3
    refine ⟨?_, fun k hk => ?_⟩
    · rcases h3 with q | q
      · rw [q]; exact List.mem_cons_self
      · exact List.mem_cons_of_mem _ q
    · rcases List.mem_cons.mp hk with rfl | hk
      · exact h1
      · exact h2 k hk
theorem leastO_none {ns : List Int} (h : leastO ns = none) : ns = [] := by
  cases ns with
  | nil => rfl
  | cons n r => cases h
theorem told_later (ws : Win) (m : Int) : told (laterW ws m) = (told ws).map (· + m) := by
  unfold told laterW
  rw [List.filterMap_map, List.map_filterMap]
  congr 1
theorem base_later {ws : Win} (h : told ws ≠ []) (m : Int) : baseOf (laterW ws m) = baseOf ws + m := by
  unfold baseOf
  rw [told_later, leastO_add]
  cases e : told ws with
  | nil => exact absurd e h
  | cons n r => rfl
theorem later_shape (ws : Win) : laterW (shapeOf ws) (baseOf ws) = ws := by
  unfold shapeOf
  rw [laterW_add, Int.add_left_neg, laterW_zero]
theorem shape_eq {a b : Win} (h : shapeOf a = shapeOf b) : b = laterW a (baseOf b - baseOf a) := by
  have e := later_shape b
  rw [← h] at e
  unfold shapeOf at e
  rw [laterW_add] at e
  rw [← e]
  congr 1
  have q : baseOf (laterW a (-baseOf a + baseOf b)) = baseOf b := by rw [e]
  omega
/-! bounds -/
theorem back_mem {ws : Win} {s t : Int} (h : back ws s = some t) : some t ∈ ws := by
  unfold back at h
  rw [List.getD_eq_getElem?_getD] at h
  cases e : ws[ws.length - s.toNat]? with
  | none => rw [e] at h; cases h
  | some o =>
    rw [e] at h
    have h2 : o = some t := h
    subst h2
    exact List.mem_of_getElem? e
theorem called_bounds {rule : List Int} (hl : rule.length ≤ 4) {ws : Win} {lo hi t : Int} (h : ∀ x ∈ told ws, lo ≤ x ∧ x ≤ hi) (ht : calledAt rule ws = some t) : lo ≤ t ∧ t ≤ hi + 4 := by
  obtain ⟨hm, _⟩ := leastO_spec ht
  unfold calls at hm
  obtain ⟨p, hp, e⟩ := List.mem_filterMap.mp hm
  unfold callAt at e
  cases eb : back ws p.1 with
  | none => rw [eb] at e; cases e
  | some x =>
    rw [eb] at e
    have e2 : x + (p.2 : Int) = t := Option.some.inj e
    obtain ⟨b1, b2⟩ := h x (told_mem.mpr (back_mem eb))
    obtain ⟨i, hi2⟩ := List.mem_iff_getElem?.mp hp
    rw [List.getElem?_zipIdx] at hi2
    cases er : rule[i]? with
    | none => rw [er] at hi2; cases hi2
    | some s =>
      rw [er] at hi2
      have e3 : (s, 1 + i) = p := Option.some.inj hi2
      have hlt := (List.getElem?_eq_some_iff.mp er).1
      have e4 : p.2 = 1 + i := by rw [← e3]
      omega
theorem winN_bounds {rule : List Int} (hl : rule.length ≤ 4) {lo : Int} : ∀ (n : Nat) (ws : Win) (hi : Int), (∀ x ∈ told ws, lo ≤ x ∧ x ≤ hi) → ∀ x ∈ told (winN rule n ws), lo ≤ x ∧ x ≤ hi + 4 * (n : Int)
  | 0, ws, hi, h => fun x hx => by have := h x hx; omega
  | n + 1, ws, hi, h => fun x hx => by
    have step : ∀ y ∈ told (nextW rule ws), lo ≤ y ∧ y ≤ hi + 4 := fun y hy => by
      have hy' := told_mem.mp hy
      unfold nextW at hy'
      rcases List.mem_append.mp hy' with q | q
      · have := h y (told_mem.mpr (List.mem_of_mem_tail q))
        omega
      · exact called_bounds hl h (List.mem_singleton.mp q).symm
    have := winN_bounds hl n (nextW rule ws) (hi + 4) step x hx
    omega
theorem exists_max : ∀ (ns : List Int), ns ≠ [] → ∃ m ∈ ns, ∀ k ∈ ns, k ≤ m
  | [], h => absurd rfl h
  | [n], _ => ⟨n, List.mem_cons_self, fun k hk => by rw [List.mem_singleton.mp hk]; exact Int.le_refl _⟩
  | n :: k :: r, _ => by
    obtain ⟨m, hm, h⟩ := exists_max (k :: r) (by simp)
    by_cases c : n ≤ m
    · exact ⟨m, List.mem_cons_of_mem _ hm, fun j hj => by
        rcases List.mem_cons.mp hj with rfl | hj
        · exact c
        · exact h j hj⟩
    · exact ⟨n, List.mem_cons_self, fun j hj => by
        rcases List.mem_cons.mp hj with rfl | hj
        · exact Int.le_refl _
        · have := h j hj; omega⟩
/-- where a shape comes again, by how much it is later -/
theorem more_bounds {rule : List Int} (hl : rule.length ≤ 4) {ws : Win} {z : Nat} (h : shapeOf ws = shapeOf (winN rule z ws)) :
    winN rule z ws = laterW ws (baseOf (winN rule z ws) - baseOf ws) ∧ 0 ≤ baseOf (winN rule z ws) - baseOf ws ∧ baseOf (winN rule z ws) - baseOf ws ≤ 4 * (z : Int) := by
  have e := shape_eq h
  refine ⟨e, ?_⟩
  generalize hm : baseOf (winN rule z ws) - baseOf ws = m at e
  by_cases hn : told ws = []
  · have : baseOf ws = 0 := by unfold baseOf; rw [hn]; rfl
    have h2 : baseOf (winN rule z ws) = 0 := by
      rw [e]
      unfold baseOf
      rw [told_later, hn]
      rfl
    omega
  · have hb : ∃ b, leastO (told ws) = some b := by
      cases q : told ws with
      | nil => exact absurd q hn
      | cons n r => exact ⟨_, rfl⟩
    obtain ⟨b, hb⟩ := hb
    obtain ⟨b1, b2⟩ := leastO_spec hb
    obtain ⟨x, x1, x2⟩ := exists_max _ hn
    have bd := winN_bounds hl z ws x (lo := b) fun y hy => ⟨b2 y hy, x2 y hy⟩
    rw [e, told_later] at bd
    have c1 := bd (b + m) (List.mem_map.mpr ⟨b, b1, rfl⟩)
    have c2 := bd (x + m) (List.mem_map.mpr ⟨x, x1, rfl⟩)
    omega
/-! the film of all people -/
def backF (fs : List (Option Int)) (s : Int) : Option Int := if s.toNat ≤ fs.length then fs.getD (fs.length - s.toNat) none else none
def callF (fs : List (Option Int)) (p : Int × Nat) : Option Int := (backF fs p.1).map (· + (p.2 : Int))
def nextF (rule gone : List Int) (fs : List (Option Int)) : Option Int := if (fs.length : Int) ∈ gone then none else leastO ((rule.zipIdx 1).filterMap (callF fs))
def film (rule gone : List Int) : Nat → List (Option Int)
  | 0 => [some 0]
  | n + 1 => film rule gone n ++ [nextF rule gone (film rule gone n)]
theorem film_len (rule gone : List Int) : ∀ n, (film rule gone n).length = n + 1
  | 0 => rfl
  | n + 1 => by
    show (film rule gone n ++ [_]).length = _
    rw [List.length_append, film_len rule gone n]
    rfl
def winOf (R : Nat) (fs : List (Option Int)) : Win := (List.replicate R none ++ fs).drop fs.length
theorem winOf_len (R : Nat) (fs : List (Option Int)) : (winOf R fs).length = R := by
  unfold winOf
  rw [List.length_drop, List.length_append, List.length_replicate]
  omega
theorem winOf_snoc {R : Nat} (fs : List (Option Int)) (t : Option Int) (h : 1 ≤ R) : winOf R (fs ++ [t]) = (winOf R fs).tail ++ [t] := by
  unfold winOf
  rw [← List.append_assoc, List.length_append, List.length_singleton, List.drop_append_of_le_length (by rw [List.length_append, List.length_replicate]; omega), List.tail_drop]
theorem back_winOf {R : Nat} {fs : List (Option Int)} {s : Int} (h1 : 1 ≤ s) (h2 : s ≤ R) : back (winOf R fs) s = backF fs s := by
  unfold back backF
  rw [winOf_len, List.getD_eq_getElem?_getD]
  unfold winOf
  rw [List.getElem?_drop]
  by_cases c : s.toNat ≤ fs.length
  · rw [if_pos c, List.getElem?_append_right (by rw [List.length_replicate]; omega), List.length_replicate, List.getD_eq_getElem?_getD]
    congr 2
    omega
  · rw [if_neg c, List.getElem?_append_left (by rw [List.length_replicate]; omega), List.getElem?_replicate]
    split <;> rfl
structure Fits (rule : List Int) (R : Nat) : Prop where
  r1 : 1 ≤ R
  st : ∀ s ∈ rule, 1 ≤ s ∧ s ≤ (R : Int)
theorem filterMap_same {α β : Type} {f g : α → Option β} : ∀ {xs : List α}, (∀ x ∈ xs, f x = g x) → xs.filterMap f = xs.filterMap g
  | [], _ => rfl
  | x :: r, h => by
    rw [List.filterMap_cons, List.filterMap_cons, h x List.mem_cons_self, filterMap_same fun y hy => h y (List.mem_cons_of_mem _ hy)]
theorem called_winOf {rule : List Int} {R : Nat} (F : Fits rule R) (fs : List (Option Int)) : calledAt rule (winOf R fs) = leastO ((rule.zipIdx 1).filterMap (callF fs)) := by
  unfold calledAt calls
  congr 1
  refine filterMap_same fun p hp => ?_
  have hm : p.1 ∈ rule := by
    obtain ⟨i, hi⟩ := List.mem_iff_getElem?.mp hp
    rw [List.getElem?_zipIdx] at hi
    cases er : rule[i]? with
    | none => rw [er] at hi; cases hi
    | some s =>
      rw [er] at hi
      have e3 : (s, 1 + i) = p := Option.some.inj hi
      rw [← e3]
      exact List.mem_of_getElem? er
  unfold callAt callF
  rw [back_winOf (F.st _ hm).1 (F.st _ hm).2]
/-- the state behind the people 0 to n -/
def stF (rule gone : List Int) (R n : Nat) : LState := (winOf R (film rule gone n), lastL 0 (film rule gone n))
theorem stF_succ {rule gone : List Int} {R : Nat} (F : Fits rule R) (n : Nat) : stF rule gone R (n + 1) = behindP (stF rule gone R n) (nextF rule gone (film rule gone n)) := by
  unfold stF behindP
  refine Prod.ext ?_ ?_
  · exact winOf_snoc _ _ F.r1
  · show lastL 0 (film rule gone n ++ [_]) = _
    rw [lastL_append]
    rfl
theorem stF_few {rule gone : List Int} {R : Nat} (F : Fits rule R) (n : Nat) : ∀ k : Nat, (∀ j : Nat, n < j → j ≤ n + k → (j : Int) ∉ gone) → few rule k (stF rule gone R n) = stF rule gone R (n + k)
  | 0, _ => rfl
  | k + 1, h => by
    rw [few_succ, stF_few F n k fun j h1 h2 => h j h1 (by omega), ← Nat.add_assoc, stF_succ F]
    congr 1
    show calledAt rule (winOf R (film rule gone (n + k))) = nextF rule gone (film rule gone (n + k))
    rw [called_winOf F]
    unfold nextF
    rw [if_neg]
    rw [film_len]
    exact h _ (by omega) (by omega)
/-! the walk over those who are missing -/
def behindAll (rule : List Int) : List Int → Int → Int → LState → LState
  | [], person, people, st => few rule (people - person).toNat st
  | g :: gs, person, people, st => if g < people then behindAll rule gs (g + 1) people (behindP (few rule (g - person).toNat st) none) else behindAll rule gs person people st
theorem asc_cons {g : Int} {gs : List Int} (h : ascB (g :: gs) = true) : ascB gs = true ∧ ∀ k ∈ gs, g < k := by
  induction gs generalizing g with
  | nil => exact ⟨rfl, fun k hk => by cases hk⟩
  | cons k r ih =>
    have e : ascB (g :: k :: r) = (decide (g < k) && ascB (k :: r)) := rfl
    rw [e, Bool.and_eq_true, decide_eq_true_eq] at h
    refine ⟨h.2, fun j hj => ?_⟩
    rcases List.mem_cons.mp hj with rfl | hj
    · exact h.1
    · have := (ih h.2).2 j hj
      omega
theorem behindAll_film {rule G : List Int} {R : Nat} (F : Fits rule R) : ∀ (gs : List Int) (p n : Nat), ascB gs = true → (∀ k ∈ gs, (p : Int) < k) → (∀ k : Int, (p : Int) < k → (k ∈ G ↔ k ∈ gs)) → p ≤ n →
    behindAll rule gs ((p : Int) + 1) ((n : Int) + 1) (stF rule G R p) = stF rule G R n
  | [], p, n, _, _, hG, hn => by
    show few rule (((n : Int) + 1) - ((p : Int) + 1)).toNat _ = _
    obtain ⟨k, rfl⟩ : ∃ k, n = p + k := ⟨n - p, by omega⟩
    rw [show (((p + k : Nat) : Int) + 1 - ((p : Int) + 1)).toNat = k by omega]
    refine stF_few F p k fun j h1 h2 hm => ?_
    have := (hG (j : Int) (by omega)).mp hm
    cases this
  | g :: gs, p, n, ha, hp, hG, hn => by
    obtain ⟨a1, a2⟩ := asc_cons ha
    have hg := hp g List.mem_cons_self
    show (if g < (n : Int) + 1 then _ else _) = _
    by_cases c : g < (n : Int) + 1
    · rw [if_pos c]
      obtain ⟨q, hq⟩ : ∃ q : Nat, g = (q : Int) + 1 := ⟨(g - 1).toNat, by omega⟩
      obtain ⟨k, hk⟩ : ∃ k, q = p + k := ⟨q - p, by omega⟩
      have e1 : (g - ((p : Int) + 1)).toNat = k := by omega
      rw [e1, stF_few F p k (fun j h1 h2 hm => by
        have := (hG (j : Int) (by omega)).mp hm
        rcases List.mem_cons.mp this with e | e
        · omega
        · have := a2 _ e; omega), ← hk]
      have e2 : behindP (stF rule G R q) none = stF rule G R (q + 1) := by
        rw [stF_succ F]
        congr 1
        unfold nextF
        rw [film_len, if_pos]
        rw [show ((q + 1 : Nat) : Int) = g by omega]
        exact (hG g hg).mpr List.mem_cons_self
      have e3 : g + 1 = ((q + 1 : Nat) : Int) + 1 := by omega
      rw [e2, e3]
      refine behindAll_film F gs (q + 1) n a1 (fun k hk => by have := a2 k hk; omega) (fun k hk => ?_) (by omega)
      rw [hG k (by omega)]
      exact ⟨fun h => (List.mem_cons.mp h).resolve_left (by omega), List.mem_cons_of_mem _⟩
    · rw [if_neg c]
      -- g and all behind are beyond
      have : ∀ (l : List Int), (∀ k ∈ l, (n : Int) < k) → behindAll rule l ((p : Int) + 1) ((n : Int) + 1) (stF rule G R p) = few rule (n - p) (stF rule G R p) := by
        intro l
        induction l with
        | nil =>
          intro _
          show few rule (((n : Int) + 1) - ((p : Int) + 1)).toNat _ = _
          congr 1
          omega
        | cons x r ih =>
          intro hx
          show (if x < (n : Int) + 1 then _ else _) = _
          have := hx x List.mem_cons_self
          rw [if_neg (by omega)]
          exact ih fun k hk => hx k (List.mem_cons_of_mem _ hk)
      rw [this gs fun k hk => by have := a2 k hk; omega, stF_few F p (n - p) (fun j h1 h2 hm => by
        have := (hG (j : Int) (by omega)).mp hm
        rcases List.mem_cons.mp this with e | e
        · omega
        · have := a2 _ e; omega)]
      congr 1
      omega
def stInit (R : Nat) : LState := (List.replicate (R - 1) none ++ [some 0], 0)
theorem stInit_film {rule gone : List Int} {R : Nat} (h : 1 ≤ R) : stInit R = stF rule gone R 0 := by
  obtain ⟨r, rfl⟩ : ∃ r, R = r + 1 := ⟨R - 1, by omega⟩
  refine Prod.ext ?_ rfl
  show (List.replicate (r + 1 - 1) none ++ [some 0] : Win) = (List.replicate (r + 1) none ++ [some 0] : Win).drop 1
  rw [List.replicate_succ]
  rfl
theorem behindAll_eq {rule gone : List Int} {R : Nat} (F : Fits rule R) (ha : ascB gone = true) (h1 : ∀ k ∈ gone, 1 ≤ k) (n : Nat) : behindAll rule gone 1 ((n : Int) + 1) (stInit R) = stF rule gone R n := by
  rw [stInit_film (rule := rule) (gone := gone) F.r1]
  have := behindAll_film (G := gone) F gone 0 n ha (fun k hk => by have := h1 k hk; omega) (fun k _ => Iff.rfl) (Nat.zero_le _)
  exact this
end CD
namespace CD
/-- what tick_of tells of person n -/
def tickV (rule gone : List Int) (n : Nat) : Option Int := (film rule gone n).getD n none
theorem film_last (rule gone : List Int) (n : Nat) : (film rule gone (n + 1)).getD (n + 1) none = nextF rule gone (film rule gone n) := by
  show (film rule gone n ++ [_]).getD (n + 1) none = _
  rw [List.getD_eq_getElem?_getD, List.getElem?_append_right (by rw [film_len]; omega), film_len, Nat.sub_self]
  rfl
theorem film_pre (rule gone : List Int) : ∀ (k n i : Nat), i ≤ n → (film rule gone (n + k)).getD i none = (film rule gone n).getD i none
  | 0, _, _, _ => rfl
  | k + 1, n, i, h => by
    rw [← Nat.add_assoc]
    show (film rule gone (n + k) ++ [_]).getD i none = _
    rw [List.getD_eq_getElem?_getD, List.getElem?_append_left (by rw [film_len]; omega), ← List.getD_eq_getElem?_getD]
    exact film_pre rule gone k n i h
def maxOf (rule : List Int) : Int := match rule with | [] => 0 | n :: r => r.foldl max n
theorem foldmax_ge : ∀ (ns : List Int) (n : Int), n ≤ ns.foldl max n ∧ (∀ k ∈ ns, k ≤ ns.foldl max n) ∧ (ns.foldl max n = n ∨ ns.foldl max n ∈ ns)
  | [], n => ⟨Int.le_refl _, fun k h => (by cases h), .inl rfl⟩
  | k :: r, n => by
    obtain ⟨h1, h2, h3⟩ := foldmax_ge r (max n k)
    rw [List.foldl_cons]
    refine ⟨by omega, fun j hj => ?_, ?_⟩
    · rcases List.mem_cons.mp hj with rfl | hj
      · omega
      · exact h2 j hj
    · rcases h3 with e | e
      · by_cases c : k ≤ n
        · exact .inl (by rw [e]; omega)
        · refine .inr ?_
          rw [e, show max n k = k by omega]
          exact List.mem_cons_self
      · exact .inr (List.mem_cons_of_mem _ e)
theorem maxOf_ge {rule : List Int} {s : Int} (h : s ∈ rule) : s ≤ maxOf rule := by
  cases rule with
  | nil => cases h
  | cons n r =>
    obtain ⟨h1, h2, _⟩ := foldmax_ge r n
    rcases List.mem_cons.mp h with rfl | h
    · exact h1
    · exact h2 s h
theorem maxOf_mem {rule : List Int} (h : rule ≠ []) : maxOf rule ∈ rule := by
  cases rule with
  | nil => exact absurd rfl h
  | cons n r =>
    obtain ⟨_, _, h3⟩ := foldmax_ge r n
    rcases h3 with e | e
    · show r.foldl max n ∈ _
      rw [e]; exact List.mem_cons_self
    · exact List.mem_cons_of_mem _ e
def R6 (rule : List Int) : Nat := (maxOf rule).toNat
theorem IsRule.r {rule : List Int} (h : IsRule rule) : 1 ≤ maxOf rule ∧ maxOf rule ≤ 6 := by
  have h1 := h.pos
  exact h.step _ (maxOf_mem fun e => by rw [e] at h1; exact absurd h1 (by decide))
theorem IsRule.fits {rule : List Int} (h : IsRule rule) : Fits rule (R6 rule) := by
  have := h.r
  refine ⟨by unfold R6; omega, fun s hs => ?_⟩
  have h1 := h.step s hs
  have h2 := maxOf_ge hs
  unfold R6
  omega
end CD
set_option maxHeartbeats 4000000
/-! own rules: a dict with tuple keys of None and ints -/
namespace CD
open PySem PySem.Spec PyProof.Rows L2

/-! ### keys: None or an int -/
def oIs : Option Int → Value → Bool
  | none, .none => true
  | none, _ => false
  | some i, v => Value.isInt i v
def oH : Option Int → Int
  | none => 0xFCA86420
  | some i => hashInt i
def oV : Option Int → V
  | none => .non
  | some i => .int i
theorem oIs_shape : ∀ {k : Option Int} {v : Value}, oIs k v = true → (k = none ∧ v = Value.none) ∨ (∃ i t, k = some i ∧ v = Value.int i t)
  | none, v, h => by
    cases v <;> first | exact .inl ⟨rfl, rfl⟩ | exact absurd h (by simp [oIs])
  | some i, v, h => by
    obtain ⟨t, e⟩ := Value.isInt_shape (k := i) (v := v) h
    exact .inr ⟨i, t, rfl, e⟩
theorem oIs_none : oIs none .none = true := rfl
theorem oIs_int (i : Int) (t : Tok) : oIs (some i) (.int i t) = true := by simp [oIs, Value.isInt]
theorem wpAny_pyHash_none {prog : Program} {w : World} {A : Around} {E : Value → Shared → Prop} {s : Shared} {Q : Int → Shared → Prop} (h : Q 0xFCA86420 { s with toks := s.toks + 1 }) :
    wpAny (model prog w) A (pyHash .none) Q E s := by
  unfold pyHash
  have hT : s.TypeIs Value.none "NoneType" := rfl
  have hv : [Value.none].any Value.onHeap = false := rfl
  refine wpAny_bind ?_
  rw [cRoomFor, if_neg (by rw [hv]; exact Bool.false_ne_true)]; refine wpAny_pure ?_
  refine wpAny_bind (wpAny_specialOf hT F.slot_NoneType_hash.lookup ?_)
  show wpAny _ _ (if (some (Value.builtin "NoneType.__hash__") == some Value.none) = true then _ else _) Q E s
  rw [if_neg (by rw [beq_builtin_none]; exact Bool.false_ne_true)]
  refine wpAny_bind (wpAny_specialOf hT F.slot_NoneType_hash.lookup ?_)
  show wpAny _ _ (callSpecialIfBoundUnlessNone? .none "__hash__" _ >>= _) Q E s
  refine wpAny_bind (wpAny_callSpecialIfBoundUnlessNone?_slot hT F.slot_NoneType_hash
    (wpAny_call_entry F.slot_NoneType_hash hT F.entry_NoneType_hash
      (show wpAny _ _ (do ret (← mkInt 0xFCA86420)) _ _ s from wpAny_ret_mkInt ?_) (F.args_NoneType_hash_1 _)))
  show wpAny _ _ (if (decide (-(2 : Int) ^ 63 ≤ 0xFCA86420) && decide ((0xFCA86420 : Int) < 2 ^ 63)) = true then _ else _) Q E _
  rw [if_pos (by decide)]
  exact wpAny_pure h
theorem okey_ss (a b : Int) : decide (some a = some b) = (a == b) := by
  by_cases e : a = b
  · subst e; simp
  · have h : ¬ some a = some b := fun q => e (Option.some.inj q)
    rw [decide_eq_false h]
    exact (beq_eq_false_iff_ne.mpr e).symm
theorem wpAny_eqBool_none {prog : Program} {w : World} {A : Around} {E : Value → Shared → Prop} {s : Shared} {Q : Bool → Shared → Prop} (h : Q true s) :
    wpAny (model prog w) A (eqBool .none .none) Q E s := by
  unfold eqBool
  try with_reducible refine wpAny_holding ?_
  show wpAny _ _ (if (Value.none == Value.none) = true then _ else _) Q E s
  rw [if_pos (by rfl)]
  exact wpAny_bind (wpAny_rule (wpAny_pure h))
def optKind (prog : Program) (w : World) : PySem.KeyKind prog w (Option Int) where
  is := oIs
  hash := oH
  inj := fun v a b ha hb => by
    rcases oIs_shape ha with ⟨rfl, rfl⟩ | ⟨i, t, rfl, rfl⟩
    · rcases oIs_shape hb with ⟨rfl, _⟩ | ⟨j, u, rfl, e⟩
      · rfl
      · exact nomatch e
    · rcases oIs_shape hb with ⟨rfl, e⟩ | ⟨j, u, rfl, e⟩
      · exact nomatch e
      · injection e with e1 _; rw [e1]
  byValue := fun k v h => by
    rcases oIs_shape h with ⟨rfl, rfl⟩ | ⟨i, t, rfl, rfl⟩ <;> rfl
  pyHash := fun hv h => by
    rcases oIs_shape hv with ⟨rfl, rfl⟩ | ⟨i, t, rfl, rfl⟩
    · exact wpAny_pyHash_none h
    · exact wpAny_pyHash_int h
  eqBool := fun hu hv h => by
    rcases oIs_shape hu with ⟨rfl, rfl⟩ | ⟨i, t, rfl, rfl⟩
    · rcases oIs_shape hv with ⟨rfl, rfl⟩ | ⟨j, u, rfl, rfl⟩
      · rw [decide_eq_true rfl] at h; exact wpAny_eqBool_none h
      · rw [decide_eq_false (fun q => nomatch q)] at h; exact SeqAt.EqAt.none_int j u _ _ _ _ h
    · rcases oIs_shape hv with ⟨rfl, rfl⟩ | ⟨j, u, rfl, rfl⟩
      · rw [decide_eq_false (fun q => nomatch q)] at h; exact SeqAt.EqAt.int_none i t _ _ _ _ h
      · rw [okey_ss] at h; exact wpAny_eqBool_int h
  «strs» := fun k x t v h => by
    rcases oIs_shape h with ⟨rfl, e⟩ | ⟨i, u, rfl, e⟩ <;> exact nomatch e
theorem oV_is {P : Program} {w : World} {k : Option Int} {u : Value} (r : RelV (oV k) u) : (optKind P w).is k u = true := by
  cases k with
  | none => cases (show u = Value.none from r); rfl
  | some i => obtain ⟨t, e⟩ := (show ∃ t, u = Value.int i t from r); subst e; exact oIs_int i t
theorem oV_inj {a b : Option Int} (e : oV a = oV b) : a = b := by
  cases a <;> cases b
  · rfl
  · exact nomatch (show V.non = V.int _ from e)
  · exact nomatch (show V.int _ = V.non from e)
  · have e' : V.int _ = V.int _ := e; injection e' with e'; rw [e']
theorem oitems_are {P : Program} {w : World} : ∀ {ks : List (Option Int)} {us : List Value}, Vals (ks.map oV) us → ItemsAre (optKind P w) ks us
  | [], _, r => by rw [List.map_nil] at r; cases r; exact .nil
  | k :: ks, _, r => by
    rw [List.map_cons] at r
    cases r with
    | cons h t => exact .cons (oV_is h) (oitems_are t)

/-! ### the dict -/
abbrev OKey := List (Option Int)
/-- the raw dict object at a: xs its entries (key, where the key's tuple lies, value) -/
def RawO (P : Program) (w : World) (a : Addr) (xs : List (OKey × Addr × Value)) (h : Heap) : Prop :=
  ∃ o es ep, h.get? a = some o ∧ o.ExactDict ∧ o.data = .dict es ep ∧ es.toList = xs.map (entryOfKey (tupleKind (optKind P w))) ∧ (xs.map (·.1)).Nodup
/-- a dict with keys of None and ints: its entries, where each key lies -/
def DO (P : Program) (w : World) (a : Addr) (ds : List (OKey × Addr × V)) : HO :=
  .ext fun h => ∃ xs : List (OKey × Addr × Value), Paired (fun (p : OKey × Addr × V) (q : OKey × Addr × Value) => p.1 = q.1 ∧ p.2.1 = q.2.1 ∧ RelV p.2.2 q.2.2) ds xs ∧ (a == sysModules) = false ∧ RawO P w a xs h
/-- the keys lie where they are said to lie -/
def KeysO (H : Hp) (ds : List (OKey × Addr × V)) : Prop := ∀ p ∈ ds, H p.2.1 = some (.tup (p.1.map oV))
def valO (ds : List (OKey × Addr × V)) (k : OKey) : Option V := (ds.find? fun p => decide (p.1 = k)).map (·.2.2)

section
variable {P : Program} {w : World} {H : Hp} {h : Heap} {a : Addr}
theorem okey_of {ks : OKey} (ok : HOk P w H h) (e : H a = some (.tup (ks.map oV))) : (tupleKind (optKind P w)).is h ks a := by
  obtain ⟨_, its, r, o, h1, h2, n, h3⟩ := (show ObjOk P w H h a (.tup (ks.map oV)) from ok a _ e)
  exact ⟨o, its.toArray, n, h1, h2, h3, by simpa using oitems_are r⟩
abbrev OP := Paired (fun (p : OKey × Addr × V) (q : OKey × Addr × Value) => p.1 = q.1 ∧ p.2.1 = q.2.1 ∧ RelV p.2.2 q.2.2)
theorem OP.val {ds : List (OKey × Addr × V)} {xs : List (OKey × Addr × Value)} (r : OP ds xs) (k : OKey) : RelO (valO ds k) ((atKey xs k).map (·.2)) := by
  induction r with
  | nil => exact True.intro
  | @cons p q ps qs h t ih =>
    obtain ⟨h1, _, h2⟩ := h
    by_cases e : p.1 = k
    · have e' : q.1 = k := h1.symm.trans e
      have b : atKey (q :: qs) k = some q.2 := by simp [atKey, List.find?_cons, e']
      have c : valO (p :: ps) k = some p.2.2 := by simp [valO, List.find?_cons, e]
      rw [c, b]; exact h2
    · have e' : ¬ q.1 = k := fun z => e (h1.trans z)
      have b : atKey (q :: qs) k = atKey qs k := by simp [atKey, List.find?_cons, e']
      have c : valO (p :: ps) k = valO ps k := by simp [valO, List.find?_cons, e]
      rw [c, b]; exact ih
theorem do_of {ds : List (OKey × Addr × V)} (ok : HOk P w H h) (e : H a = some (DO P w a ds)) (ks : KeysO H ds) : (a == sysModules) = false ∧ ∃ xs, OP ds xs ∧ h.DictOfH (tupleKind (optKind P w)) a xs := by
  obtain ⟨⟨xs, r, y, o, es, ep, h1, h2, h3, h4, h5⟩, _, _⟩ := (show ObjOk P w H h a (DO P w a ds) from ok a _ e)
  refine ⟨y, xs, r, o, es, ep, h1, h2, h3, h4, fun x hx => ?_, h5⟩
  have all : ∀ {l : List (OKey × Addr × V)} {m : List (OKey × Addr × Value)}, OP l m → KeysO H l → ∀ x ∈ m, (tupleKind (optKind P w)).is h x.1 x.2.1 := by
    intro l m q
    induction q with
    | nil => intro _ x hx; exact nomatch hx
    | @cons p q ps qs hq t ih =>
      intro kk x hx
      rcases List.mem_cons.mp hx with e | hx
      · subst e
        have z := kk p List.mem_cons_self
        rw [hq.2.1] at z
        exact okey_of ok (by rw [← hq.1]; exact z)
      · exact ih (fun p hp => kk p (List.mem_cons_of_mem _ hp)) x hx
  exact all r ks x hx
theorem do_ok {ds : List (OKey × Addr × V)} {xs : List (OKey × Addr × Value)} {H' : Hp} {h' : Heap} (y : (a == sysModules) = false) (r : OP ds xs) (d : h'.DictOfH (tupleKind (optKind P w)) a xs) : ObjOk P w H' h' a (DO P w a ds) := by
  obtain ⟨o, es, ep, h1, h2, h3, h4, h5, h6⟩ := d
  refine ⟨⟨xs, r, y, o, es, ep, h1, h2, h3, h4, h6⟩, ⟨o, h1⟩, fun g1 g2 hg k => ?_⟩
  obtain ⟨xs', r', y', o', es', ep', e1, e2, e3, e4, e5⟩ := hg
  exact ⟨xs', r', y', o', es', ep', k _ e1, e2, e3, e4, e5⟩
end

section
variable {X : Cx} {pins : List (Addr × Obj)} {σ : L2.St} {H : Hp} {s : Shared} {a b : Addr} {v : V} {r : Value} {A : Around} {E : Value → Shared → Prop} {ds : List (OKey × Addr × V)} {k : OKey}
theorem o_getItem {Q : Value → Shared → Prop} (hu : A.units + 1 < cLine) (I : Inv X pins σ H s) (e : H a = some (DO X.prog X.w a ds)) (ks : KeysO H ds) (eb : H b = some (.tup (k.map oV))) (l : valO ds k = some v) (h : ∀ w' s', Inv X pins σ H s' → RelV v w' → Q w' s') :
    wpAny (model X.prog X.w) A (getItem (.ref a) (.ref b)) Q E s := by
  obtain ⟨hd, xs, rel, dd⟩ := do_of I.hok e ks
  obtain ⟨w', hw, rw'⟩ := RelO.some_of (v := v) (o := (atKey xs k).map (·.2)) (by rw [← l]; exact rel.val k)
  obtain ⟨p, hp, hp2⟩ := Option.map_eq_some_iff.mp hw
  refine wpAny_getItem_heap (tupleKind_room_in1 hu) (okey_of I.hok eb) dd hp ?_
  rw [hp2]
  exact h w' _ (I.tok _) rw'
theorem o_in {Q : Value → Shared → Prop} (hu : A.units + 1 < cLine) (I : Inv X pins σ H s) (e : H a = some (DO X.prog X.w a ds)) (ks : KeysO H ds) (eb : H b = some (.tup (k.map oV))) (h : ∀ s', Inv X pins σ H s' → Q (.bool (valO ds k).isSome) s') :
    wpAny (model X.prog X.w) A (compareOp .In (.ref b) (.ref a)) Q E s := by
  obtain ⟨hd, xs, rel, dd⟩ := do_of I.hok e ks
  refine wpAny_in_heap (tupleKind_room_in1 hu) (okey_of I.hok eb) hd dd ?_
  have q := (rel.val k).isSome_eq
  rw [Option.isSome_map] at q
  rw [← q]
  exact h _ (I.tok _)
theorem o_setItem {Q : Unit → Shared → Prop} (hu : A.units + 1 < cLine) (I : Inv X pins σ H s) (e : H a = some (DO X.prog X.w a ds)) (ks : KeysO H ds) (eb : H b = some (.tup (k.map oV))) (hn : valO ds k = none) (hl : ds.length < sizeLine) (rv : RelV v r)
    (h : ∀ s', Inv X pins σ (upd H a (DO X.prog X.w a (ds ++ [(k, b, v)]))) s' → Q () s') :
    wpAny (model X.prog X.w) A (setItem (.ref a) (.ref b) r) Q E s := by
  obtain ⟨hd, xs, rel, dd⟩ := do_of I.hok e ks
  have hz : xs.length ≤ sizeLine := by rw [← Paired.length rel]; exact Nat.le_of_lt hl
  refine wpAny_setItem_heap (hsz := hz) (tupleKind_room_in1 hu) (okey_of I.hok eb) dd fun h' dd' hs => h _ ?_
  have q := (rel.val k).isSome_eq
  rw [Option.isSome_map, hn] at q
  have es : storedH xs k b r = xs ++ [(k, b, r)] := by
    unfold storedH
    rw [← q]
    rfl
  rw [es] at dd'
  have he : ∃ q, h'.get? a = some q := let ⟨q, _, _, hq, _⟩ := dd'; ⟨q, hq⟩
  exact d_write I (by rw [e]; exact True.intro) hs he (do_ok hd (Paired.snoc (b := (k, b, r)) (a := (k, b, v)) rel ⟨rfl, rfl, rv⟩) dd')
end
/-- d[t], t in d, d[t] = v (t new) -/
def tOGet (P : Program) (w : World) (td ty : TE) : TE := fun σ H Q => td σ H fun x H1 => ty σ H1 fun y H2 => ∃ a b ds k v, x = .ref a ∧ y = .ref b ∧ H2 a = some (DO P w a ds) ∧ KeysO H2 ds ∧ H2 b = some (.tup (k.map oV)) ∧ valO ds k = some v ∧ Q v H2
def tOIn (P : Program) (w : World) (ty td : TE) : TE := fun σ H Q => ty σ H fun y H1 => td σ H1 fun x H2 => ∃ a b ds k, x = .ref a ∧ y = .ref b ∧ H2 a = some (DO P w a ds) ∧ KeysO H2 ds ∧ H2 b = some (.tup (k.map oV)) ∧ Q (.bl (valO ds k).isSome) H2
def sOPut (P : Program) (w : World) (td ty tv : TE) : TS := fun D σ H => tv σ H fun v H1 => td σ H1 fun x H2 => ty σ H2 fun y H3 => ∃ a b ds k, x = .ref a ∧ y = .ref b ∧ H3 a = some (DO P w a ds) ∧ KeysO H3 ds ∧ H3 b = some (.tup (k.map oV)) ∧ valO ds k = none ∧ ds.length < sizeLine ∧ D.nx σ (upd H3 a (DO P w a (ds ++ [(k, b, v)])))
section
variable {X : Cx} {o i e value : Expr} {pos pos' tpos : Pos} {td ty tv : TE}
theorem pe_oget (hu : X.A.units + 1 < cLine) (ho : PE X o td) (hi : PE X i ty) (hs : NoSl i) : PE X (.Subscript o i pos) (tOGet X.prog X.w td ty) := by
  refine ⟨fun pins s σ H Q I h => ?_⟩
  refine subD_of PySem.F.slot_dict_getitem.lookup hs (thn (ho.run pins s σ H _ I h) fun u s1 ⟨x, H1, I1, rx, q1⟩ => thn (hi.run pins s1 σ H1 _ I1 q1) fun iv s2 ⟨y, H2, I2, ry, a, b, ds, k, v, ex, ey, e1, e2, e3, e4, q2⟩ => ?_)
  subst ex ey
  obtain rfl : u = Value.ref a := rx
  obtain rfl : iv = Value.ref b := ry
  obtain ⟨_, xs, _, dd⟩ := do_of I2.hok e1 e2
  exact ⟨dd.typeIs, o_getItem hu I2 e1 e2 e3 e4 fun w' s3 I3 rw' => ⟨v, H2, I3, rw', q2⟩⟩
theorem pc_oin (hu : X.A.units + 1 < cLine) (hi : PE X i ty) (ho : PE X o td) : PC X .In i o (tOIn X.prog X.w ty td) := by
  refine ⟨fun pins s σ H Q I h => ?_⟩
  refine thn (hi.run pins s σ H _ I h) fun iv s1 ⟨y, H1, I1, ry, q1⟩ => thn (ho.run pins s1 σ H1 _ I1 q1) fun u s2 ⟨x, H2, I2, rx, a, b, ds, k, ex, ey, e1, e2, e3, q2⟩ => ?_
  subst ex ey
  obtain rfl : u = Value.ref a := rx
  obtain rfl : iv = Value.ref b := ry
  exact o_in hu I2 e1 e2 e3 fun s3 I3 => ⟨.bl _, H2, I3, rfl, q2⟩
theorem ps_oput (hu : X.A.units + 1 < cLine) (ho : PE X o td) (hi : PE X i ty) (hv : PE X value tv) (hs : swapsWith value (some (.Subscript o i pos')) pos.line X.env = pure false) :
    PS X (.Assign [.Subscript o i pos'] value pos) (sOPut X.prog X.w td ty tv) := by
  refine ⟨fun pins s σ H D I h => ?_⟩
  refine wpAny_Assign_Subscript (thn (hv.run pins s σ H _ I h) fun r s1 ⟨v, H1, I1, rv, q1⟩ => thn (ho.run pins s1 σ H1 _ I1 q1) fun u s2 ⟨x, H2, I2, rx, q2⟩ => thn (hi.run pins s2 σ H2 _ I2 q2) fun iv s3 ⟨y, H3, I3, ry, a, b, ds, k, ex, ey, e1, e2, e3, e4, e5, q3⟩ => ?_) hs
  subst ex ey
  obtain rfl : u = Value.ref a := rx
  obtain rfl : iv = Value.ref b := ry
  exact o_setItem hu I3 e1 e2 e3 e4 e5 rv fun s4 I4 => ⟨σ, _, I4, q3⟩
/-- {}: to be such a dict -/
def tDNewO (P : Program) (w : World) : TE := fun _ H Q => ∀ p, H p = none → Q (.ref p) (upd H p (DO P w p []))
theorem do_empty {P : Program} {w : World} {H : Hp} (h : Heap) (hb : sysModules < h.objs.size) : ObjOk P w H (h.push { cls := .type "dict", data := .dict #[] }) h.objs.size (DO P w h.objs.size []) := by
  have e := Heap.get?_push_size h (o := { cls := .type "dict", data := .dict #[] }) rfl
  refine ⟨⟨[], .nil, beq_eq_false_iff_ne.mpr (Ne.symm (Nat.ne_of_lt hb)), _, #[], 0, e, ⟨rfl, rfl, rfl⟩, rfl, rfl, List.nodup_nil⟩, ⟨_, e⟩, fun g1 g2 hg k => ?_⟩
  obtain ⟨xs', r', y', o', es', ep', e1, e2, e3, e4, e5⟩ := hg
  exact ⟨xs', r', y', o', es', ep', k _ e1, e2, e3, e4, e5⟩
theorem pe_dnewO : PE X (.Dict [] [] pos) (tDNewO X.prog X.w) := ⟨fun pins s σ H Q I h =>
  wpAny_Dict_empty ⟨.ref s.heap.objs.size, _, I.laid (a := s.heap.objs.size) (o := DO X.prog X.w s.heap.objs.size []) (t' := s.toks) (fun _ _ q => Heap.get?_push_of_some _ q) (Nat.le_refl _) (do_empty s.heap I.big), rfl, h _ (I.hok.fresh (Nat.le_refl _))⟩⟩
end
end CD
set_option maxHeartbeats 400000
/-! own rules 2: min(default=), max of a tuple, (x,) * k, enumerate(t, start=), sorted(t, reverse=True), len(set(t)), repr -/
namespace CD
open PySem PySem.Spec PyProof.Rows L2
section
variable {X : Cx}

/-! ### min(xs, default=d), max(t) -/
theorem alike_ints (ns : List Int)   : PySem.W.AlikeAll (ns.map PyData.int) := by
  refine ⟨fun x hx y hy => ?_, fun x hx e => ?_⟩
  · obtain ⟨i, _, rfl⟩ := List.mem_map.mp hx
    obtain ⟨j, _, rfl⟩ := List.mem_map.mp hy
    simp only [PySem.W.alike]
  · obtain ⟨i, _, rfl⟩ := List.mem_map.mp hx
    cases e
theorem reads_ints {h : Heap} : ∀ {us : List Value} {ns : List Int}, IntsAre us ns → ReadsAll h us (ns.map PyData.int) []
  | _, _, .nil => .nil
  | _, _, .cons n t r => ReadsAll.cons (as := []) (bs := []) (.int n t) (reads_ints r)
theorem depth_ints : ∀ ns : List Int, PyData.depthAll (ns.map PyData.int) = 0
  | [] => rfl
  | n :: ns => by
    rw [List.map_cons, PyData.depthAll, depth_ints ns]
    rfl
def orD (d : V) : Option Int → V
  | none => d
  | some m => .int m
def rMinD (K : PySem.W.Frag) : List V → List V → Hp → VK → Prop := fun vs zs H Q => ∃ (a : Addr) (ns : List Int) (d : V), vs = [V.ref a] ∧ zs = [d] ∧ SqL K H a (ns.map V.int) ∧ Q (orD d (leastO ns)) H
theorem cr_minDef (hc : X.calm = true) (hu : X.A.units + 1 < cLine) : CallRK X (.builtin "min") [Str.ofString "default"] (rMinD X.K) := by
  intro pins s σ H vs zs us ws Q I r rz h
  obtain ⟨a, ns, d, rfl, rfl, hs, q⟩ := h
  obtain rfl := Vals.ref1 r
  obtain ⟨w1, rfl, e1⟩ := vals1 rz
  obtain ⟨its, rv, hl, _⟩ := I.list hs
  have hi := rv.ints
  refine PySem.W.min_list_default (I.ok.hd hc) hl.isList (xs := ns.map PyData.int) (as := []) (by simpa using reads_ints hi) (alike_ints ns) (by rw [depth_ints]; exact hu) (fun e h' tk hk => ?_) fun y ys i v h' tk bs e hv hr hk => ?_
  · have e2 : ns = [] := List.map_eq_nil_iff.mp e
    subst e2
    exact ⟨d, H, I.kept hk, e1, q⟩
  · cases ns with
    | nil => cases e
    | cons n ns =>
      rw [List.map_cons] at e
      injection e with e2 e3
      subst e2 e3
      rw [PySem.W.minD_ints] at hr
      cases hr with
      | int i t => exact ⟨.int _, H, I.kept hk, ⟨t, rfl⟩, q⟩
def rMaxT (K : PySem.W.Frag) : List V → Hp → VK → Prop := fun vs H Q => ∃ (a : Addr) (n : Int) (ns : List Int), vs = [V.ref a] ∧ SqT K H a ((n :: ns).map V.int) ∧ Q (.int (ns.foldl max n)) H
theorem cr_maxT (hc : X.calm = true) (hu : X.A.units + 1 < cLine) : CallR X (.builtin "max") (rMaxT X.K) := by
  intro pins s σ H vs us Q I r h
  obtain ⟨a, n, ns, rfl, hs, q⟩ := h
  obtain rfl := Vals.ref1 r
  obtain ⟨its, rv, hl, _⟩ := I.tuple hs
  have hi := rv.ints
  refine PySem.W.max_tuple_data (I.ok.hd hc) (show s.heap.IsTuple a its.toArray from hl) (x := .int n) (xs := ns.map PyData.int) (as := []) (by simpa using reads_ints hi) (alike_ints (n :: ns)) (by
    have := depth_ints (n :: ns)
    rw [List.map_cons] at this
    rw [this]
    exact hu) fun i v h' tk bs hv hr hk => ?_
  rw [PySem.W.maxD_ints] at hr
  cases hr with
  | int i t => exact ⟨.int _, H, I.kept hk, ⟨t, rfl⟩, q⟩

/-! ### t * k, k at most 1 -/
theorem tuple_mul1 (l : Addr) (items : Array Value) (n : Nat) (dd : Option Addr) (sl : Array (Option Value)) (u : Tok) :
    Meets (Builtin.«tuple.__mul__» ⟨[.ref l, .int 1 u], []⟩) (fun _ R s => s.heap.get? l = some { cls := .type "tuple", dict := dd, data := .seq items n, slots := sl } ∧ R (.ok (.ret (Value.ref l))) s) :=
  .of_wp fun prog w A R s h => by
    obtain ⟨hp, g, d, tk, os⟩ := s
    obtain ⟨hl, h⟩ := h
    have f1 := AutoSeq1.idx_int
    wp_walk using wpAny_loadPart' hl
    repeat (first
      | (refine wpAny_ite_false (by decide) ?_; wp_walk using wpAny_loadPart' hl)
      | (refine wpAny_ite_true (by simp) ?_; wp_walk using wpAny_loadPart' hl))
    exact ⟨_, rfl, h⟩
theorem tuple_mul0 (l : Addr) (items : Array Value) (n : Nat) (dd : Option Addr) (sl : Array (Option Value)) (u : Tok) (c1 : items.isEmpty = false) :
    Meets (Builtin.«tuple.__mul__» ⟨[.ref l, .int 0 u], []⟩) (fun _ R s => s.heap.get? l = some { cls := .type "tuple", dict := dd, data := .seq items n, slots := sl } ∧
      R (.ok (.ret (Value.ref s.heap.objs.size))) { s with heap := s.heap.push { cls := Value.type "tuple", data := Data.seq #[] }, toks := s.toks }) :=
  .of_wp fun prog w A R s h => by
    obtain ⟨hp, g, d, tk, os⟩ := s
    obtain ⟨hl, h⟩ := h
    have f1 := AutoSeq1.idx_int
    wp_walk using wpAny_loadPart' hl
    repeat (first
      | (refine wpAny_ite_false (by rw [c1]; decide) ?_; wp_walk using wpAny_loadPart' hl)
      | (refine wpAny_ite_false (by decide) ?_; wp_walk using wpAny_loadPart' hl)
      | (refine wpAny_ite_true (by simp) ?_; wp_walk using wpAny_loadPart' hl))
    exact ⟨_, rfl, h⟩
/-- t * k for k = 0, 1 and more -/
def rRepA (K : PySem.W.Frag) : R2 := fun x y H Q => ∃ l xs, ∃ k : Nat, x = .ref l ∧ y = .int k ∧ SqT K H l xs ∧ xs ≠ [] ∧ k ≤ 1000 ∧ xs.length ≤ 1000 ∧
  (k = 1 → Q (.ref l) H) ∧ (k ≠ 1 → ∀ p, H p = none → Q (.ref p) (upd H p (.tup (List.replicate k xs).flatten)))
theorem op_repA : OpR X (binaryOp .Mult) (rRepA X.K) := by
  intro pins s σ H x y v u Q I rx ry h
  obtain ⟨l, xs, k, rfl, rfl, hT, hne, h2, hz, q1, q2⟩ := h
  by_cases k2 : 2 ≤ k
  · refine op_repT pins s σ H _ _ v u Q I rx ry ⟨l, (k : Int), xs, rfl, rfl, hT, hne, by omega, by omega, hz, ?_⟩
    rw [Int.toNat_natCast]
    exact q2 (by omega)
  · cases rx
    obtain ⟨t, rfl⟩ := ry
    obtain ⟨its, r, ⟨⟨cls, dd, data, sl⟩, ho, hc, n, hd⟩, hs⟩ := I.tuple hT
    simp only at hc hd
    subst hc hd
    have hi : its.toArray.isEmpty = false := by
      cases its with
      | nil =>
        have e := r.length
        cases xs with
        | nil => exact absurd rfl hne
        | cons a b => simp at e
      | cons a b => rfl
    have road : ∀ {Q' : Value → Shared → Prop} (kk : Int), wpAny (model X.prog X.w) X.A (call (.builtin "tuple.__mul__") [.ref l, .int kk t]) Q' X.xe s → wpAny (model X.prog X.w) X.A (binaryOp .Mult (.ref l) (.int kk t)) Q' X.xe s := fun {Q'} kk hq =>
      wpAny_binaryOp_repeat_ref (T := "tuple") (U := "int") (by decide) ⟨_, ho, rfl⟩ (fun s' => typeIs_int s' kk t) noFill_tuple_mul F.fills_int_mul F.slot_int_rmul repeat_tuple F.slot_int_index.lookup
        (call_meets F.slot_int_rmul (typeIs_int s kk t) F.entry_int_rmul (F.args_int_rmul_2 _ _) (int_rmul_tuple kk t l its.toArray n dd sl) ⟨ho, rfl, ⟨_, ho, rfl⟩, hq⟩)
    by_cases k1 : k = 1
    · subst k1
      refine road 1 (call_meets F.slot_tuple_mul ⟨_, ho, rfl⟩ F.entry_tuple_mul (F.args_tuple_mul_2 _ _) (tuple_mul1 l its.toArray n dd sl t) ⟨ho, ?_⟩)
      exact ⟨.ref l, H, I, rfl, q1 rfl⟩
    · obtain rfl : k = 0 := by omega
      refine road 0 (call_meets F.slot_tuple_mul ⟨_, ho, rfl⟩ F.entry_tuple_mul (F.args_tuple_mul_2 _ _) (tuple_mul0 l its.toArray n dd sl t hi) ⟨ho, ?_⟩)
      exact ⟨.ref s.heap.objs.size, _, I.laid (t' := s.toks) (o := .tup []) (fun b ob q => Heap.get?_push_of_some _ q) (Nat.le_refl _) ⟨Nat.zero_le _, [], .nil, IsTup.new _ _⟩, rfl, q2 (by omega) _ (I.hok.fresh (Nat.le_refl _))⟩

/-! ### for i, x in enumerate(t, start=k), t a tuple -/
def IteT (K : PySem.W.Frag) (a : Addr) (k : Int) : It :=
  ⟨fun i H => ∃ (xs : List V) (x : V), SqT K H a xs ∧ xs[i]? = some x,
    fun i H v H' => ∃ T x, v = .ref T ∧ H T = none ∧ H' = upd H T (.tup [.int (k + (i : Nat)), x]) ∧ ∀ xs, SqT K H a xs → xs[i]? = some x,
    fun i H => ∃ xs : List V, SqT K H a xs ∧ xs.length = i⟩
theorem turn_enumT {P : Program} {w : World} {K : PySem.W.Frag} {elts : List Expr} {kk : Nat} {tpos : Pos} (a e it : Addr) (k : Int) :
    Turn P w K (.Tuple elts kk tpos) (IteT K a k) [e, it] e (fun i h => (∃ old, IsEnum h e it (k + (i : Nat)) old) ∧ h.IsTupleIter it a i ∧ e ≠ it) where
  mem := by simp
  obj := fun i h st b hb => by
    obtain ⟨⟨old, he⟩, ⟨o, ho, hc, hd⟩, _⟩ := st
    rcases (by simpa using hb : b = e ∨ b = it) with rfl | rfl
    · exact ⟨_, he, fun v q => nomatch q⟩
    · exact ⟨o, ho, fun v q => by rw [hd] at q; cases q⟩
  keep := fun i h h' st q => ⟨⟨st.1.choose, q e (by simp) _ st.1.choose_spec⟩, st.2.1.at fun o z => q it (by simp) o z, st.2.2⟩
  item := by
    intro X hP hw hK hc i pins s σ H E I hf st hg
    subst hP hw hK
    obtain ⟨⟨old, he⟩, hit, hne⟩ := st
    obtain ⟨xs, x, hq, hx⟩ := hg
    obtain ⟨its, rv, p, hz⟩ := I.tuple hq
    obtain ⟨u, hu, ru⟩ := rv.get hx
    have hel : e < s.heap.objs.size := Heap.lt_size he
    have hil : it < s.heap.objs.size := by obtain ⟨_, q, _⟩ := hit; exact Heap.lt_size q
    have hai : a ≠ it := by
      intro z
      obtain ⟨o1, h1, c1, _⟩ := p
      obtain ⟨o2, h2, c2, _⟩ := hit
      rw [z, h2] at h1
      cases h1
      rw [c1] at c2
      exact absurd c2 (by decide)
    have hae : e ≠ a := by
      intro z
      obtain ⟨o1, h1, c1, _⟩ := p
      rw [← z, he] at h1
      cases h1
      have c2 : Value.type "enumerate" = Value.type "tuple" := c1
      exact absurd c2 (by decide)
    have hlen : its.toArray.size = xs.length := by rw [List.size_toArray]; exact rv.length.symm
    have hi : i < its.toArray.size := by
      rw [hlen]
      exact (List.getElem?_eq_some_iff.mp hx).1
    refine PySem.wpAny_pyNext_enum_itemC (Draws.tuple (A := X.A.in1) (I.ok.hd hc) it a hai its.toArray) he ⟨hit, show s.heap.IsTuple a its.toArray from p⟩ hi hne (by simp [hne, hae]) fun y h' tk hy ho hst' hT hsz hk => ?_
    obtain rfl : u = y := by
      have z : its.toArray[i]? = some u := by simpa using hu
      exact Option.some.inj (z.symm.trans hy)
    refine ⟨_, rfl, wpAny_letOwnedTupleGo_enum (s := { s with heap := h', toks := tk + 1 }) ho fun h'' he' sb => ?_⟩
    have hT2 := (sb.2 _ (Nat.ne_of_gt hel)).trans hT
    have new : ObjOk X.prog X.w (upd H s.heap.objs.size (.tup [.int (k + (i : Nat)), x])) h'' s.heap.objs.size (.tup [.int (k + (i : Nat)), x]) :=
      ⟨(by decide : 2 ≤ sizeLine), _, .cons ⟨tk, rfl⟩ (.cons ru .nil), ⟨_, hT2, rfl, _, rfl⟩⟩
    have ap : ∀ b, b ∉ [e, it] → b ≠ e ∧ b ≠ it := fun b hb => by simpa using hb
    have I1 := I.turnedNew (t' := tk + 1) (ch := [e, it]) (fun b ob hb q => (sb.2 b (ap b hb).1).trans (hk b ob (ap b hb).1 (ap b hb).2 q)) hf (Nat.le_refl _) new
    refine ⟨.ref s.heap.objs.size, _, I1, rfl, ⟨_, x, rfl, I.hok.fresh (Nat.le_refl _), rfl, fun ys hy => by rw [I.tuple_inj hy hq]; exact hx⟩, ⟨⟨u, ?_⟩, hst'.1.at fun o q => (sb.2 it (Ne.symm hne)).trans q, hne⟩, fun b hb => ?_⟩
    · have e1 : k + ((i + 1 : Nat) : Int) = k + (i : Nat) + 1 := by omega
      rw [e1]; exact he'
    · have hb' : b < s.heap.objs.size := by
        rcases (by simpa using hb : b = e ∨ b = it) with rfl | rfl
        · exact hel
        · exact hil
      rw [upd_ne (Nat.ne_of_lt hb')]
      exact (hf b hb).1
  done := by
    intro X hP hw hK hc i pins s σ H E I hf st hg
    subst hP hw hK
    obtain ⟨⟨old, he⟩, hit, hne⟩ := st
    obtain ⟨xs, hq, hx⟩ := hg
    obtain ⟨its, rv, p, hz⟩ := I.tuple hq
    obtain ⟨f0, f1, f2, f3, f4, f5⟩ := hf it (by simp)
    have hl := rv.length
    have hai : a ≠ it := by
      intro z
      obtain ⟨o1, h1, c1, _⟩ := p
      obtain ⟨o2, h2, c2, _⟩ := hit
      rw [z, h2] at h1
      cases h1
      rw [c1] at c2
      exact absurd c2 (by decide)
    have hsz : i = its.toArray.size := by rw [List.size_toArray]; omega
    subst hsz
    refine PySem.wpAny_pyNext_enum_endD (Draws.tuple (A := X.A.in1) (I.ok.hd hc) it a hai its.toArray) he ⟨hit, show s.heap.IsTuple a its.toArray from p⟩ fun h' eb => ?_
    exact ⟨rfl, I.turned (t' := s.toks) (fun b o hb q => eb b o hb q) f0 f1 f3 f4 f5⟩
  self := fun A i s Q E st h => wpAny_pyIter_enum st.1.choose_spec h
theorem walk_enumT {K : PySem.W.Frag} {a : Addr} {k : Int} {xs : List V} : Walk (IteT K a k) xs.length (fun H => SqT K H a xs) (YPair (fun i => some (.int (k + (i : Nat)))) (fun i => xs[i]?)) := by
  refine ⟨fun i _ hi q => ⟨xs, xs[i], q, by simp [hi]⟩, fun _ q => ⟨xs, q, rfl⟩, fun i H v H' _ q y => ?_⟩
  obtain ⟨T, x, h1, h2, h3, h4⟩ := y
  exact ⟨T, .int (k + (i : Nat)), x, h1, h2, h3, rfl, h4 xs q⟩
theorem callWith_tyK {M : Model} {A : Around} {E : Value → Shared → Prop} {s : Shared} {env : Env} {pos : Pos} {T : String} {e : Expr} {kws : List Keyword} {Q : Value → Shared → Prop}
    (h : wpAny M A (spliced (backTo pos (starEach [e] env))) (fun vs s₁ => wpAny M A (evalAll ((backToKw pos (keywordEach kws env)).map (·.2)))
      (fun kvs s₂ => wpAny M A (call (.type T) vs (((backToKw pos (keywordEach kws env)).filterMap (·.1)).zip kvs)) Q E s₂) E s₁) E s)
    (he : backTo pos (starEach [e] env) = [(false, eval e env)])
    (hall : (backToKw pos (keywordEach kws env)).all (·.1.isSome) = true)
    (hkw : (backToKw pos (keywordEach kws env)).any (·.1.isNone) = false) :
    wpAny M A (callWith pos (.type T) [] (backTo pos (starEach [e] env)) (backToKw pos (keywordEach kws env))) Q E s := by
  rw [he] at h ⊢
  have h2 := PyProof.Rows.evalArgs_kwB (f := .type T) (Q := fun a s₁ => wpAny M A (call (.type T) ([] ++ a.pos) a.kw) Q E s₁) hall h
  unfold callWith
  refine wpAny_bind (wpAny_holding (wpAny_mono h2 (fun a s₁ h₁ => wpAny_bind (wpAny_standAt ?_)) fun _ _ z => z))
  simp only [List.any_cons, List.any_nil, hkw, Bool.or_false]
  refine wpAny_bind (wpAny_pure ?_)
  refine wpAny_bind (wpAny_mono h₁ (fun r s₂ hr => ?_) fun _ _ z => z)
  exact wpAny_bind (wpAny_holding (wpAny_point (wpAny_pure hr)))
def iEnumT (K : PySem.W.Frag) (ta tk : TA) : TI := fun σ H R => ta σ H fun vs H1 => tk σ H1 fun zs H2 => ∃ a xs k, vs = [.ref a] ∧ zs = [.int k] ∧ -(2 ^ 63) ≤ k ∧ k < 2 ^ 63 ∧ SqT K H2 a xs ∧ R (IteT K a k) H2
theorem pi_enumT {e e2 : Expr} {ta tk : TA} {p pos tpos kpos : Pos} {elts : List Expr} {kk : Nat} (hg : Gl X "enumerate") (hm : X.mg "enumerate" = none) (ha : PA X [e] ta) (hk : PK X [⟨some (Str.ofString "start"), e2, kpos⟩] tk)
    (hs : backTo pos (starEach [e] X.env) = [(false, eval e X.env)] := by rfl)
    (hall : (backToKw pos (keywordEach [⟨some (Str.ofString "start"), e2, kpos⟩] X.env)).all (·.1.isSome) = true := by rfl) (hnone : (backToKw pos (keywordEach [⟨some (Str.ofString "start"), e2, kpos⟩] X.env)).any (·.1.isNone) = false := by rfl)
    (hks : (backToKw pos (keywordEach [⟨some (Str.ofString "start"), e2, kpos⟩] X.env)).filterMap (·.1) = [Str.ofString "start"] := by rfl) :
    PI X (.Tuple elts kk tpos) (.Call (.Name "enumerate" p) [e] [⟨some (Str.ofString "start"), e2, kpos⟩] pos) (iEnumT X.K ta tk) := by
  refine ⟨fun pins s σ H R I h => ?_⟩
  refine wpAny_Call_Name_kw (ld_blt I hg hm boot_enumerate ?_)
  refine callWith_tyK (thn (ha.run pos pins s σ H _ I h) fun us s1 ⟨vs, H1, I1, r1, q1⟩ => thn (hk.run pos pins s1 σ H1 _ I1 q1) fun ws s2 ⟨zs, H2, I2, r2, q2⟩ => ?_) hs hall hnone
  obtain ⟨a, xs, k, rfl, rfl, k0, k1, hq, q⟩ := q2
  obtain rfl := Vals.ref1 r1
  obtain ⟨w1, rfl, tk1, rfl⟩ := vals1 r2
  rw [hks]
  obtain ⟨its, rv, pt, hz⟩ := I2.tuple hq
  refine PySem.enum_begins_start (PySem.begins_tuple a its.toArray) (show s2.heap.IsTuple a its.toArray from pt) k0 k1 fun h' he hit hsz hkeep => wpAny_pyIter_enum he ?_
  have I3 : Inv X pins σ H2 { s2 with heap := h' } := I2.kept (t' := s2.toks) hkeep
  have he0 : IsEnum h' (s2.heap.objs.size + 1) s2.heap.objs.size (k + ((0 : Nat) : Int)) .none := by
    rw [show k + ((0 : Nat) : Int) = k by omega]
    exact he
  have hit0 : h'.IsTupleIter s2.heap.objs.size a 0 := ⟨_, hit, rfl, rfl⟩
  refine ⟨s2.heap.objs.size + 1, [s2.heap.objs.size + 1, s2.heap.objs.size], _, _, H2, rfl, I3, turn_enumT a (s2.heap.objs.size + 1) s2.heap.objs.size k, ?_, fun b hb => ?_, q⟩
  · exact ⟨⟨.none, he0⟩, hit0, Nat.succ_ne_self _⟩
  · have hle : s2.heap.objs.size ≤ b := by
      rcases (by simpa using hb : b = s2.heap.objs.size + 1 ∨ b = s2.heap.objs.size) with z | z
      · rw [z]; exact Nat.le_succ _
      · rw [z]; exact Nat.le_refl _
    exact I2.fpOk hle (I2.hok.fresh hle)
end
end CD
/-! own rules 3: len(set(t)), repr of data, sorted(t, reverse=True) -/
namespace CD
open PySem PySem.Spec PyProof.Rows L2
section
variable {X : Cx}
/-! ### len(set(t)), t a tuple of unlike ints -/
def tLenSetT (K : PySem.W.Frag) (ta : TE) : TE := fun σ H Q => ta σ H fun x H1 => ∃ (l : Addr) (ns : List Int), x = .ref l ∧ SqT K H1 l (ns.map V.int) ∧ ns.Nodup ∧ ns.length ≤ 1000 ∧ Q (.int (ns.length : Nat)) H1
theorem pe_lenSetT {a : Expr} {ta : TE} {p p2 q pos : Pos} (hg : Gl X "len") (hm : X.mg "len" = none) (hg2 : Gl X "set") (hm2 : X.mg "set" = none) (ha : PE X a ta) (hc : X.calm = true := by rfl)
    (na : starEach [a] X.env = (false, eval a X.env) :: starEach [] X.env := by rfl) : PE X (.Call (.Name "len" p) [.Call (.Name "set" p2) [a] [] q] [] pos) (tLenSetT X.K ta) := by
  refine ⟨fun pins s σ H Q I h => ?_⟩
  refine Call_ (ld_blt I hg hm boot_len (PyProof.Rows.callWith_builtin1 (PyProof.Rows.args_cons ?_ rfl) rfl rfl))
  refine Call_ (ld_blt I hg2 hm2 boot_set (PyProof.Rows.callWith_type1 (PyProof.Rows.args_cons (thn (ha.run pins s σ H _ I h) fun v s1 ⟨x, H1, I1, r1, l, ns, ex, hq, hnd, hl, q1⟩ => PyProof.Rows.args_nil ?_) na) na rfl))
  subst ex
  cases r1
  obtain ⟨its, r, pl, hz⟩ := I1.tuple hq
  refine call_set_tupI ns (I1.ok.hd hc) (show s1.heap.IsTuple l its.toArray from pl) (by simpa using ints_of_vals r) (by unfold scanBound; omega) fun h' tk c hS hcl hk => PyProof.Rows.args_nil ?_
  obtain ⟨o, es, ep, t, ho, hex, hdt, g, nd, hm3, hb, hf, hn, _, _⟩ := hS
  have hlen : es.size = ns.length := by
    have e1 : (es.toList.map keyOf).Perm ns := (List.perm_ext_iff_of_nodup nd hnd).mpr fun j => by
      have z : decide (j ∈ ns) = true ↔ j ∈ es.toList.map keyOf := hm3 j
      rw [decide_eq_true_eq] at z
      exact z.symm
    have := e1.length_eq
    simpa using this
  have I2 : Inv X pins σ H1 { s1 with heap := h', toks := tk } := I1.kept hk
  exact call_len_set ho hex hdt hf (by omega) ⟨.int ns.length, H1, I2.tok _, ⟨_, by rw [hlen]⟩, q1⟩

/-! ### repr of data -/
def rRepr (K : PySem.W.Frag) : List V → Hp → VK → Prop := fun vs H Q => ∃ (x : V) (d : PyData), vs = [x] ∧ Dp K H x d ∧ d.showable = true ∧ d.hasDict = false ∧ d.depth ≤ 60 ∧ d.shown.length ≤ sizeLine ∧ Q (.str d.shown) H
theorem call_reprD (hg : X.A.guards = some []) (hu : X.A.units + 64 < cLine) : CallR X (.builtin "repr") (rRepr X.K) := by
  intro pins s σ H xs us Q I r h
  obtain ⟨x, d, rfl, hd, hs, hn, hp, hz, q⟩ := h
  obtain ⟨u, rfl, ru⟩ := vals1 r
  obtain ⟨as, rd⟩ := Dp.reads I d x u hd ru
  have nd : d.hasDict = true → sysModules ∉ as := fun e => by rw [hn] at e; cases e
  cases rd with
  | list h1 h2 h3 h4 => exact repr_of_reads' (.list h1 h2 h3 h4) hs nd hg (by omega) (fun _ _ e => e) (fun h' u tk hk => ⟨.str _, H, I.kept hk, ⟨_, rfl⟩, q⟩) hz
  | tuple h1 h2 h3 h4 => exact repr_of_reads' (.tuple h1 h2 h3 h4) hs nd hg (by omega) (fun _ _ e => e) (fun h' u tk hk => ⟨.str _, H, I.kept hk, ⟨_, rfl⟩, q⟩) hz
  | dict h1 h2 h3 h4 h5 => exact repr_of_reads' (.dict h1 h2 h3 h4 h5) hs nd hg (by omega) (fun _ _ e => e) (fun h' u tk hk => ⟨.str _, H, I.kept hk, ⟨_, rfl⟩, q⟩) hz
  | int i t => exact PySem.P.repr_of_int (by simpa [PyData.showable] using hs) ⟨.str _, H, I.tok _, ⟨_, rfl⟩, q⟩
  | none => exact PySem.P.repr_of_none ⟨.str _, H, I.tok _, ⟨_, rfl⟩, q⟩
  | bool b => exact PySem.P.repr_of_bool ⟨.str _, H, I.tok _, ⟨_, rfl⟩, q⟩
  | str y t => exact PySem.P.repr_of_str ⟨.str _, H, I.tok _, ⟨_, rfl⟩, q⟩ hz

/-! ### sorted(t, reverse=True), t a tuple of ints -/
theorem collect_tup {prog : Program} {w : World} {A : Around} {E : Value → Shared → Prop} {s : Shared} {l : Addr} {vs : List Value} {Q : List Value → Shared → Prop} (hl : IsTup s.heap l vs.toArray) (hsz : vs.length ≤ sizeLine)
    (h : Q vs { s with heap := (s.heap.push (seqObj "list" #[] 0)).update s.heap.objs.size (Obj.mapSeq (· ++ vs.toArray)) }) : wpAny (model prog w) A (collect (.ref l)) Q E s := by
  obtain ⟨o, ho, hc, n, hd⟩ := id hl
  have e0 : (s.heap.push (seqObj "list" #[] 0)).get? s.heap.objs.size = some (seqObj "list" #[] 0) := Heap.get?_push_size _ rfl
  have e1 : (s.heap.push (seqObj "list" #[] 0)).get? l = some o := Heap.get?_push_of_some _ ho
  unfold collect
  refine wpAny_bind (wpAny_runValue (codeAny_builtin entry_proto_collect' (wpAny_bind (wpAny_newList (wpAny_pure ⟨Code.quiet_builtin _ (by decide +kernel), codeAny_builtin entry_list_iadd' ?_⟩)))))
  show wpAny _ _ (Builtin.List.listExtendWith (.ref s.heap.objs.size) (.ref l) (.ref s.heap.objs.size)) _ _ { s with heap := s.heap.push (seqObj "list" #[] 0) }
  unfold Builtin.List.listExtendWith
  refine wpAny_bind (wpAny_typeOf (T := "tuple") ⟨o, e1, hc⟩ ?_)
  rw [if_pos (by rw [show (Value.type "tuple" == Value.type "tuple") = true by rfl]; simp)]
  refine wpAny_bind (listItems_at e1 hd (wpAny_bind (listItems_at (xs := #[]) (n := 0) e0 rfl ?_)))
  rw [if_neg (by simp)]
  refine wpAny_bind (listUpdate_at (xs := #[]) (n := 0) e0 rfl (wpAny_pure ?_) (Nat.zero_le _) (by show (#[] ++ vs.toArray).size ≤ sizeLine + 1; simp only [Array.size_append, List.size_toArray, List.length_nil]; omega))
  refine wpAny_bind (wpAny_load (get?_update_seq e0 _) ?_)
  show wpAny _ _ (pure ((#[] : Array Value) ++ vs.toArray).toList) Q E _
  have e3 : ((#[] : Array Value) ++ vs.toArray).toList = vs := by simp
  rw [e3]
  exact wpAny_pure h
theorem sorted_tup {prog : Program} {w : World} {A : Around} {E : Value → Shared → Prop} {s : Shared} {l : Addr} {vs : List Value} {ns : List Int} {b : Bool} {Q : Value → Shared → Prop} (hl : IsTup s.heap l vs.toArray) (hz : vs.length ≤ sizeLine) (hi : IntsAre vs ns)
    (h : ∀ (out : Array Value) (ns' : List Int), IntsAre out.toList ns' → ns'.Perm ns → OrdB b ns' → Q (.ref (s.heap.objs.size + 1)) { s with heap := sortedAll s.heap vs out }) :
    wpAny (model prog w) A (call (.builtin "sorted") [.ref l] [(Str.ofString "reverse", .bool b)]) Q E s := by
  refine call_function_entry_kw kind_sorted plain_sorted entry_sorted (PyProof.Rows.args_sorted_rev _ _) ?_
  unfold Builtin.«sorted»
  refine wpAny_bind (m := checkCount "sorted" 1 1 _) (wpAny_pure (wpAny_bind (collect_tup hl hz (wpAny_bind (wpAny_newList ?_ hz)))))
  have z0 : (s.heap.push (seqObj "list" #[] 0)).objs.size = s.heap.objs.size + 1 := Heap.size_push ..
  generalize hg1 : (s.heap.push (seqObj "list" #[] 0)).update s.heap.objs.size (Obj.mapSeq (· ++ vs.toArray)) = h1
  have z1 : h1.objs.size = s.heap.objs.size + 1 := by rw [← hg1, Heap.size_update, z0]
  have k1 : ∀ c u, s.heap.get? c = some u → h1.get? c = some u := fun c u q => by
    have lt := Heap.lt_size q
    rw [← hg1, Heap.get?_update_ne _ _ _ _ (Nat.ne_of_lt lt)]
    exact Heap.get?_push_of_some _ q
  have o1 : (h1.push (seqObj "list" vs.toArray 0)).get? (s.heap.objs.size + 1) = some (seqObj "list" vs.toArray 0) := by
    rw [← z1]; exact Heap.get?_push_size _ rfl
  show wpAny _ _ _ _ _ { s with heap := h1.push (seqObj "list" vs.toArray 0) }
  rw [z1]
  refine wpAny_bind (wpAny_holding (wpAny_call_entry_kw slot_list_sort ⟨_, o1, rfl⟩ entry_list_sort ?_ (PyProof.Rows.args_list_sort_rev _ _)))
  refine SrtR.list_sort_ordR (b := b) SrtO.swo_int o1 hz (fun h2 => SrtO.ints_sortable hi h2) fun out hs hb => ⟨_, rfl, wpAny_pure ⟨_, rfl, ?_⟩⟩
  obtain ⟨ns', k1, k2, k3⟩ := SrtR.ints_outR hi hs hb
  have := h _ ns' k1 k2 k3
  rw [← hg1]
  exact this
/-- sorted(t, reverse=b) -/
def rSortedT (K : PySem.W.Frag) (b : Bool) : List V → List V → Hp → VK → Prop := fun vs zs H Q => ∃ (a : Addr) (ns : List Int), vs = [V.ref a] ∧ zs = [.bl b] ∧ SqT K H a (ns.map V.int) ∧
  ∀ (ns' : List Int) (p : Addr), ns'.Perm ns → OrdB b ns' → H p = none → Q (.ref p) (upd H p (.lst (ns'.map V.int)))
theorem cr_sortedTRev {b : Bool} : CallRK X (.builtin "sorted") [Str.ofString "reverse"] (rSortedT X.K b) := by
  intro pins s σ H vs zs us ws Q I r rz h
  obtain ⟨a, ns, rfl, rfl, hs, q⟩ := h
  obtain rfl := Vals.ref1 r
  obtain ⟨w1, rfl, e1⟩ := vals1 rz
  obtain rfl : w1 = Value.bool b := e1
  obtain ⟨its, rv, hl, hz⟩ := I.tuple hs
  refine sorted_tup hl (by rw [← rv.length]; exact hz) rv.ints fun out ns' k1 k2 k3 => ?_
  obtain ⟨ep, he'⟩ := PyProof.Rows.sortedAll_at s.heap its out
  have hlen : (ns'.map V.int).length ≤ sizeLine := by
    rw [List.length_map, k2.length_eq]
    rw [List.length_map] at hz
    exact hz
  have e0 : out.toList.toArray = out := Array.toArray_toList
  exact ⟨.ref _, upd H (s.heap.objs.size + 1) (.lst (ns'.map V.int)), I.laid (t' := s.toks) (fun _ _ => PyProof.Rows.sortedAll_old) (Nat.le_succ _) ⟨hlen, _, ep, vals_of_ints k1, by rw [e0]; exact he'⟩, rfl, q _ _ k2 k3 (I.hok.fresh (Nat.le_succ _))⟩
end

/-! ### a def that asks that nothing is under repr -/
structure GOk (P : Program) (w : World) (K : PySem.W.Frag) (mg : Str → Option Value) (base : Heap) (k : Nat) (f : Addr) (fd : FuncData) (ps : List Str) (sp : Sp) : Prop where
  len : ∀ vs H Q E, sp vs H Q E → vs.length = ps.length
  run : ∀ (A : Around) (outer : List Env) (s : Shared) (H : Hp) (args : Args) (us : List Value) (vs : List V) (Q : VK) (E : XK), A.guards = some [] → Room k A → Env0 P w K mg base A outer s H → BindsTo s fd args (ps.zip us) → Vals vs us → sp vs H Q E →
    codeAny (model P w) A (.call (.ref f) args) (CR CX0 outer P w H s Q E) s
end CD
/-! own rules 4: defs that call repr, the law's end over such -/
namespace CD
open PySem PySem.Spec PyProof.Rows L2
section
variable {P : Program} {w : World} {K : PySem.W.Frag} {mg : Str → Option Value} {base : Heap}
theorem g_ok {x qual : Str} {st : Stmt} {f : Addr} {fd : FuncData} {N ps : List Str} {k : Nat} {sp : Sp} (F : Fun K x qual st f fd) (S : FnScope N ps (defScope st)) (len : ∀ vs H Q E, sp vs H Q E → vs.length = ps.length)
    (body : ∀ (cdv : Value) (A : Around) (outer : List Env) (s : Shared) (H : Hp) (vs : List V) (Q : VK) (E : XK), A.guards = some [] → Room k (A.deeper (envOfC qual (defScope st) s.heap.objs.size f cdv)) → sp vs H Q E →
      ∃ t, PSs (cxOf CX0 P w K mg base N qual (defScope st) f cdv A outer s H E).nox (defBody st) t ∧ t { nx := fun _ H' => Q .non H', rt := Q } (start N vs) H) : GOk P w K mg base (k + 1) f fd ps sp := by
  obtain ⟨oc, od, kV, doc, pm, an, cdv, ct, osl, rfl, lk, hcd⟩ := F.ex
  refine ⟨len, fun A outer s H args us vs Q E hg hr e0 hb r hsp => ?_⟩
  -- the promise at this one A, as if there were no other
  have one : FnOk P w K mg base CX0 (k + 1) f (PySem.W.fnOf x qual (defArgs st) (defBody st) (defScope st) .none kV doc pm an cdv ct) ps
      (fun vs' H' Q' E' => sp vs' H' Q' E') → codeAny (model P w) A (.call (.ref f) args) (CR CX0 outer P w H s Q E) s := fun G => G.run A outer s H args us vs Q E hr e0 hb r hsp
  have keepB : ∀ b o, base.get? b = some o → s.heap.get? b = some o := fun b o e => (e0.bs b o e).1
  refine codeAny_call_function hr.depth ((e0.mod.kin.keeps keepB) _ _ lk) rfl S.co S.gen rfl (PySem.W.codeRec_of (e0.mod.kin.keeps keepB) hcd) (hb _ _ _ _ ?_)
  refine wpAny_newFunctionEnv_cells S.kind (fun y hy => ?_) fun env he s1 x1 => ?_
  · rcases S.par y.1 (List.of_mem_zip hy).1 with q | q
    · exact .inl q
    · exact .inr ⟨q, PySem.W.cellsFrom_some _ _ _ (.inl q)⟩
  subst he
  refine ⟨(e0.mod.nolimit.keeps keepB).keeps x1.toInCall.keep, codeAny_func ?_⟩
  obtain ⟨t, ht, hq⟩ := body cdv A outer s H vs Q E hg (hr.deeper _) hsp
  refine wpAny_mono (ht.nox.run [] s1 (start N vs) H _ (inv_start S hr.hd e0 (len _ _ _ _ hsp) r x1) hq) (fun fl s' hs => ?_) fun e s' hs => hs
  match fl, hs with
  | .ret u, ⟨v, σ', H', J, rv, q⟩ => exact ⟨v, H', J.os, J.bare, J.base, J.hok, rv, q⟩
  | .next, ⟨σ', H', J, q⟩ => exact ⟨V.non, H', J.os, J.bare, J.base, J.hok, rfl, q⟩
  | .brk, ⟨_, _, _, q⟩ => exact False.elim q
  | .cont, ⟨_, _, _, q⟩ => exact False.elim q
end
section
variable {X : Cx} {k : Nat} {f : Addr} {fd : FuncData} {ps : List Str} {sp : Sp} {x : Str} {p pos : Pos} {e : Expr} {es : List Expr} {t : TA}
theorem pe_callG (G : GOk X.prog X.w X.K X.mg X.base k f fd ps sp) (hgd : X.A.guards = some []) (hr : Room k X.A) (hg : Gl X x) (hm : X.mg x = some (.ref f)) (hk : PySem.W.keepIn X.K (.ref f) = true) (hb : Binds X.K fd ps [])
    (ha : PA X (e :: es) t) (hdb : (x == ("__debug__" : Str)) = false := by decide) (he : starEach (e :: es) X.env = (false, eval e X.env) :: starEach es X.env := by rfl) (hpl : (backTo pos (starEach es X.env)).any (·.1) = false := by rfl) :
    PE X (.Call (.Name x p) (e :: es) [] pos) (tCall sp [] E0 t) := by
  refine ⟨fun pins s σ H Q I h => wpAny_Call_Name_kw (ld_glob I hg hm ?_ hdb)⟩
  refine PySem.W.callWith_K (h₀ := X.base) I.ok.mod.kin hk (thn (ha.run pos pins s σ H _ I h) fun us s1 ⟨vs, H1, I1, r, q⟩ => ⟨I1.kIn, ?_⟩) he hpl
  have q' : sp vs H1 Q E0 := by
    have z : sp (vs ++ []) H1 Q E0 := q
    rwa [List.append_nil] at z
  have hl : (us ++ []).length = ps.length := by rw [List.append_nil, ← r.length]; exact G.len _ _ _ _ q'
  have hbb := hb s1 us I1.kIn hl
  rw [List.append_nil] at hbb
  refine wpAny_call (codeAny_mono (G.run X.A X.stack s1 H1 ⟨us, []⟩ us vs Q E0 hgd hr I1.env0 hbb r q') fun r s' hq => ?_)
  match r, hq with
  | .error _, hq => exact False.elim hq
  | .ok (.ret u), hq => exact I1.after hq
  | .ok .next, hq => exact False.elim hq
  | .ok .brk, hq => exact False.elim hq
  | .ok .cont, hq => exact False.elim hq
end
/-! ### the law's end -/
/-- the abstract heap at the law's entry: the script alone, if it is none of the module's own objects -/
def H00 (K : PySem.W.Frag) (a : Addr) (o : Obj) (ns : List Int) : Hp := fun b => if b = a ∧ K.lookup a = none then some (.frz o (.lst (ns.map V.int))) else none
theorem law_g {P : Program} {w : World} {K : PySem.W.Frag} {mg mb : Str → Option Value} {k : Nat} {fa a : Addr} {fd : FuncData} {x : Str} {sp : Sp} {s₁ : Shared} {vs : List Value} {ns : List Int}
    (KX : K.In s₁.heap) (hns : s₁.heap.Ns mainGlobals mg) (hb : s₁.heap.Ns builtinsNs mb) (hbb : ∀ x : Str, x ≠ "__name__" → mb x = bootBuiltins x) (hlim : s₁.heap.NoLimit) (hg : s₁.gens = #[])
    (ha : s₁.heap.get? a = some { cls := .type "list", data := .seq vs.toArray }) (hi : IntsAre vs ns) (hl : ns.length ≤ sizeLine) (hr : Room k callerA)
    (F : ∀ base : Heap, K.In base → base.Ns mainGlobals mg → GOk P w K mg base k fa fd [x] sp) (hbind : ∀ (s : Shared) (u : Value), BindsTo s fd ⟨[u], []⟩ [(x, u)])
    (hsp : ∀ H : Hp, SqL K H a (ns.map V.int) → sp [.ref a] H (fun v _ => v = .bl true) fun _ _ _ => False) :
    codeAny (model P w) callerA (.call (.ref fa) ⟨[.ref a], []⟩) (fun r s' => r = .ok (.ret (.bool true)) ∧ OldK s₁.heap s'.heap ∧ s'.os = s₁.os ∧ AllBare s'.gens) s₁ := by
  have rv := vals_ints hi
  generalize hO : ({ cls := .type "list", data := .seq vs.toArray } : Obj) = o at ha
  generalize hH : H00 K a o ns = H
  have tr : ∀ b u, H b = some u → b = a ∧ K.lookup a = none ∧ u = .frz o (.lst (ns.map V.int)) := fun b u e => by
    rw [← hH] at e
    unfold H00 at e
    by_cases c : b = a ∧ K.lookup a = none
    · rw [if_pos c] at e; exact ⟨c.1, c.2, (Option.some.inj e).symm⟩
    · rw [if_neg c] at e; cases e
  have own : s₁.heap.get? a = some { cls := .type "list", data := .seq vs.toArray } := by rw [hO]; exact ha
  have okF : HOk P w H s₁.heap := fun b u e => by
    obtain ⟨rfl, _, rfl⟩ := tr b u e
    exact ⟨ha, by rw [List.length_map]; exact hl, vs, _, rv, own⟩
  have free : ∀ {b : Addr} {u : Obj}, s₁.heap.get? b = some u → (∀ es ep, o.data = .dict es ep → False) → (b = a → False) → H b = none := fun {b u} _ _ n => by
    cases q : H b with
    | none => rfl
    | some z => exact absurd (tr b z q).1 n
  have ndata : ∀ es ep, o.data = Data.dict es ep → False := fun es ep e => by rw [← hO] at e; cases e
  have hidn : ∀ {b : Addr} {m : Str → Option Value}, s₁.heap.Ns b m → (hidT s₁.heap H).Ns b m := fun {b m} ⟨u, es, ep, e, d, r⟩ => ⟨u, es, ep, hidT_get e (free e ndata fun z => by
    subst z
    rw [ha] at e
    cases e
    exact ndata _ _ d), d, r⟩
  have kin : K.In (hidT s₁.heap H) := fun b u e => hidT_get (KX b u e) (by
    cases q : H b with
    | none => rfl
    | some z =>
      obtain ⟨rfl, n, _⟩ := tr b z q
      rw [n] at e; cases e)
  have sq : SqL K H a (ns.map V.int) := by
    cases hk : K.lookup a with
    | none => exact .inl (.inr ⟨o, by rw [← hH]; unfold H00; rw [if_pos ⟨rfl, hk⟩]⟩)
    | some u =>
      have e := KX a u hk
      rw [own] at e
      cases e
      exact .inr ⟨_, vs.toArray, _, hk, rfl, rfl, rfl, by rw [List.size_toArray, hi.length]; exact hl, by simpa using rv⟩
  have hM : Mod K mg (hidT s₁.heap H) := ⟨kin, hidn hns, ⟨mb, hidn hb, hbb⟩, let ⟨mc, h1, h2⟩ := hlim; ⟨mc, hidn h1, h2⟩⟩
  have e0 : Env0 P w K mg (hidT s₁.heap H) callerA [] s₁ H := ⟨rfl, hM, fun b u e => of_hidT e, Nat.le_of_eq (hidT_size _ _), trivial, fun b hm => (by cases hm), okF, .of_eq hg⟩
  refine codeAny_mono ((F _ kin (hidn hns)).run callerA [] s₁ H ⟨[.ref a], []⟩ [.ref a] [.ref a] _ _ rfl hr e0 (hbind s₁ (.ref a)) (.cons rfl .nil) (hsp H sq)) fun r s' h => ?_
  match r, h with
  | .error _, h => exact False.elim h
  | .ok .next, h => exact False.elim h
  | .ok .brk, h => exact False.elim h
  | .ok .cont, h => exact False.elim h
  | .ok (.ret u), ⟨v, H', os, bare, un, ok', r', q⟩ =>
    obtain rfl : v = .bl true := q
    obtain rfl : u = Value.bool true := r'
    refine ⟨rfl, OldK.of_keep fun b u e => ?_, os, bare⟩
    cases q : H b with
    | none => exact un.keep b u e q (fun z => by cases z) (fun z => by cases z)
    | some z =>
      obtain ⟨rfl, _, rfl⟩ := tr b z q
      obtain ⟨e1, _⟩ := okF b _ q
      obtain ⟨e2, _⟩ := ok' b _ (un.frzs b o _ q)
      rw [e] at e1; cases e1
      exact e2
theorem walk_g {l : PySem.W.OpenLaw} {n k : Nat} {q : Program} {loose : List Str} {XP : (Str → Option Value) → Heap → Prop} {YP : World → Heap → Prop} {d : DefRec} {K : Params → PySem.W.Frag} {sp : World → Sp} {x : Str}
    (hn : l.most = some n) (hn2 : n ≤ sizeLine) (hdf : d.params.defaults = []) (hr : Room k callerA)
    (hY : ∀ (w : World) (h : Heap), YP w h → (K w.params).In h)
    (F : ∀ (w : World) (mg : Str → Option Value) (fa : Addr) (h : Heap), (K w.params).In h → h.Ns mainGlobals mg → mg d.name = some (.ref fa) →
      ∃ fd : FuncData, (∀ (s : Shared) (u : Value), BindsTo s fd ⟨[u], []⟩ [(x, u)]) ∧
        ∀ base : Heap, (K w.params).In base → base.Ns mainGlobals mg → GOk l.prog w (K w.params) mg base k fa fd [x] (sp w))
    (hsp : ∀ (w : World) (H : Hp) (a : Addr) (ns : List Int), ns.length ≤ n → SqL (K w.params) H a (ns.map V.int) → sp w [.ref a] H (fun v _ => v = .bl true) fun _ _ _ => False) :
    PySem.W.WalkO q loose XP YP l.row.toRowW d [] (fun f vs => PySem.call f vs) := by
  refine Att.attach_call hn hdf fun w s₀ s₁ mg mb fa o pm cd doc a vs ns G Y ho hd hcd hmg hobj hints hlen hg => ?_
  obtain ⟨fd, hb, hF⟩ := F w mg fa _ (hY w _ Y) G.T.g hmg
  exact law_g (hY w _ Y) G.T.g G.T.b G.T.builtins G.T.nolimit hg hobj hints (Nat.le_trans hlen hn2) hr hF hb fun H hS => hsp w H a ns hlen hS
end CD
/-! own words 5: a def of the text and its promise, by name -/
namespace CD
open PySem PySem.Spec PyProof.Rows L2
/-- no built-in's name is the text's own -/
structure Z (mg : Str → Option Value) : Prop where
  «all» : mg "all" = none
  «any» : mg "any" = none
  «bool» : mg "bool" = none
  «divmod» : mg "divmod" = none
  «enumerate» : mg "enumerate" = none
  «int» : mg "int" = none
  «isinstance» : mg "isinstance" = none
  «len» : mg "len" = none
  «list» : mg "list" = none
  «max» : mg "max" = none
  «min» : mg "min" = none
  «range» : mg "range" = none
  «repr» : mg "repr" = none
  «reversed» : mg "reversed" = none
  «set» : mg "set" = none
  «sorted» : mg "sorted" = none
  «str» : mg "str" = none
  «sum» : mg "sum" = none
  «tuple» : mg "tuple" = none
  «zip» : mg "zip" = none
/-- a def of the text, where it stands -/
def Def (K : PySem.W.Frag) (mg : Str → Option Value) (x : Str) (st : Stmt) (ps : List Str) : Prop :=
  ∃ f fd, Fun K x x st f fd ∧ mg x = some (.ref f) ∧ Binds K fd ps []
/-- what is known of a def by its name -/
def Cal (P : Program) (w : World) (K : PySem.W.Frag) (mg : Str → Option Value) (base : Heap) (k : Nat) (x : Str) (ps : List Str) (sp : Sp) : Prop :=
  ∃ f fd, FnOk P w K mg base CX0 k f fd ps sp ∧ mg x = some (.ref f) ∧ PySem.W.keepIn K (.ref f) = true ∧ Binds K fd ps []
def CalG (P : Program) (w : World) (K : PySem.W.Frag) (mg : Str → Option Value) (base : Heap) (k : Nat) (x : Str) (ps : List Str) (sp : Sp) : Prop :=
  ∃ f fd, GOk P w K mg base k f fd ps sp ∧ mg x = some (.ref f) ∧ PySem.W.keepIn K (.ref f) = true ∧ Binds K fd ps []
section
variable {P : Program} {w : World} {K : PySem.W.Frag} {mg : Str → Option Value} {base : Heap} {x : Str} {st : Stmt} {N ps : List Str} {k : Nat} {sp : Sp}
theorem Def.cal (D : Def K mg x st ps) (S : FnScope N ps (defScope st)) (len : ∀ vs H Q E, sp vs H Q E → vs.length = ps.length)
    (body : ∀ (f : Addr) (cdv : Value) (A : Around) (outer : List Env) (s : Shared) (H : Hp) (vs : List V) (Q : VK) (E : XK), Room k (A.deeper (envOfC x (defScope st) s.heap.objs.size f cdv)) → sp vs H Q E →
      ∃ t, PSs (cxOf CX0 P w K mg base N x (defScope st) f cdv A outer s H E).nox (defBody st) t ∧ t { nx := fun _ H' => Q .non H', rt := Q } (start N vs) H) : Cal P w K mg base (k + 1) x ps sp := by
  obtain ⟨f, fd, F, m, b⟩ := D
  exact ⟨f, fd, F.ok S len fun cdv A outer s H vs Q E => body f cdv A outer s H vs Q E, m, F.kp, b⟩
theorem Def.calG (D : Def K mg x st ps) (S : FnScope N ps (defScope st)) (len : ∀ vs H Q E, sp vs H Q E → vs.length = ps.length)
    (body : ∀ (f : Addr) (cdv : Value) (A : Around) (outer : List Env) (s : Shared) (H : Hp) (vs : List V) (Q : VK) (E : XK), A.guards = some [] → Room k (A.deeper (envOfC x (defScope st) s.heap.objs.size f cdv)) → sp vs H Q E →
      ∃ t, PSs (cxOf CX0 P w K mg base N x (defScope st) f cdv A outer s H E).nox (defBody st) t ∧ t { nx := fun _ H' => Q .non H', rt := Q } (start N vs) H) : CalG P w K mg base (k + 1) x ps sp := by
  obtain ⟨f, fd, F, m, b⟩ := D
  exact ⟨f, fd, g_ok F S len fun cdv A outer s H vs Q E => body f cdv A outer s H vs Q E, m, F.kp, b⟩
theorem Cal.mono {j : Nat} (C : Cal P w K mg base j x ps sp) (h : j ≤ k) : Cal P w K mg base k x ps sp := by
  obtain ⟨f, fd, F, r⟩ := C
  exact ⟨f, fd, F.mono h, r⟩
theorem Cal.imp {sp' : Sp} (C : Cal P w K mg base k x ps sp) (h : ∀ vs H Q E, sp' vs H Q E → sp vs H Q E) : Cal P w K mg base k x ps sp' := by
  obtain ⟨f, fd, F, r⟩ := C
  exact ⟨f, fd, F.imp h, r⟩
end
section
variable {X : Cx} {k : Nat} {ps : List Str} {sp : Sp} {x : Str} {p pos : Pos} {e : Expr} {es : List Expr} {t : TA}
theorem pe_cal (C : Cal X.prog X.w X.K X.mg X.base k x ps sp) (hr : Room k X.A) (hg : Gl X x) (ha : PA X (e :: es) t) (hdb : (x == ("__debug__" : Str)) = false := by decide)
    (he : starEach (e :: es) X.env = (false, eval e X.env) :: starEach es X.env := by rfl) (hpl : (backTo pos (starEach es X.env)).any (·.1) = false := by rfl) : PE X (.Call (.Name x p) (e :: es) [] pos) (tCall sp [] E0 t) := by
  obtain ⟨f, fd, F, m, kp, b⟩ := C
  exact pe_call F hr hg m kp b .nil pass0 ha hdb he hpl
theorem pe_cal0 (C : Cal X.prog X.w X.K X.mg X.base k x ps sp) (hr : Room k X.A) (hg : Gl X x) (hdb : (x == ("__debug__" : Str)) = false := by decide) : PE X (.Call (.Name x p) [] [] pos) (tCall sp [] E0 tNil) := by
  obtain ⟨f, fd, F, m, kp, b⟩ := C
  exact pe_call0 F hr hg m kp b .nil pass0 hdb
theorem pe_calG (C : CalG X.prog X.w X.K X.mg X.base k x ps sp) (hgd : X.A.guards = some []) (hr : Room k X.A) (hg : Gl X x) (ha : PA X (e :: es) t) (hdb : (x == ("__debug__" : Str)) = false := by decide)
    (he : starEach (e :: es) X.env = (false, eval e X.env) :: starEach es X.env := by rfl) (hpl : (backTo pos (starEach es X.env)).any (·.1) = false := by rfl) : PE X (.Call (.Name x p) (e :: es) [] pos) (tCall sp [] E0 t) := by
  obtain ⟨f, fd, F, m, kp, b⟩ := C
  exact pe_callG F hgd hr hg m kp b ha hdb he hpl
end
/-- what was tracked stays; a new object besides -/
theorem same_upd {H : Hp} {p : Addr} {o : HO} (h : H p = none) : Same H (upd H p o) := fun b x e => by
  rw [upd_ne (ne_of_none e h)]
  exact e
theorem _root_.L2.Same.tup {K : PySem.W.Frag} {H H' : Hp} {a : Addr} {xs : List V} (e : Same H H') (h : SqT K H a xs) : SqT K H' a xs := by
  rcases h with (h | ⟨o, h⟩) | h
  · exact .inl (.inl (e _ _ h))
  · exact .inl (.inr ⟨o, e _ _ h⟩)
  · exact .inr h
/-- a comprehension in which each turn gives what h says of the item, and changes nothing that was tracked -/
theorem lc_std {J : It} {n : Nat} {G : Hp → Prop} {Y : Nat → Hp → V → Hp → Prop} {α : Type} (w : Walk J n G Y) {g : TG} {tt : TT} {te : TE} {vs : List Nat} {σ : L2.St} {H1 : Hp} {D : Addr} {Qd : Hp → Prop}
    (ys : List α) (h : α → Option V) (hn : ys.length = n) (hz : n < sizeLine) (hD : H1 D = none) (hG : ∀ H, Same H1 H → G H)
    (hs : ∀ i x H H' a (R : Option V → Hp → Prop), ys[i]? = some a → Same H1 H → Y i H x H' → (∀ H4, Same H H4 → R (h a) H4) →
      g x (wipe σ vs) H' fun σ2 H2 => wipe σ2 vs = wipe σ vs ∧ tt σ2 H2 fun b H3 => if b = true then te σ2 H3 fun y H4 => R (some y) H4 else R none H3)
    (hd : ∀ H, Same H1 H → H D = some (.lst (ys.filterMap h)) → Qd H) :
    ∃ W : Nat → Nat → Hp → Prop, (∃ m, W 0 m (upd H1 D (.lst []))) ∧ ∀ i m H, W i m H →
      (J.stop i H ∧ Qd H) ∨ (J.go i H ∧ ∃ Nx : Hp → Prop, (∀ H', Nx H' → ∃ m', m' < m ∧ W (i + 1) m' H') ∧ ∀ x H', J.yld i H x H' → g x (wipe σ vs) H' fun σ2 H2 => wipe σ2 vs = wipe σ vs ∧ tt σ2 H2 fun b H3 =>
        if b = true then te σ2 H3 fun y H4 => ∃ acc, H4 D = some (.lst acc) ∧ acc.length < sizeLine ∧ Nx (upd H4 D (.lst (acc ++ [y]))) else Nx H3) := by
  refine lc_it w (fun i H => Same H1 H ∧ H D = some (.lst ((ys.take i).filterMap h))) ⟨same_upd hD, by rw [upd_same]; rfl⟩ (fun i H _ q => hG H q.1) (fun i x H H' hi q y => ?_) fun H q => hd H q.1 (by rw [q.2, ← hn, List.take_length])
  obtain ⟨sm, eD⟩ := q
  have hi' : i < ys.length := by omega
  have ha : ys[i]? = some ys[i] := List.getElem?_eq_getElem hi'
  have tk : (ys.take (i + 1)).filterMap h = (ys.take i).filterMap h ++ (h ys[i]).toList := by
    rw [List.take_add_one, ha, List.filterMap_append]
    cases e : h ys[i] <;> simp [e]
  have ln : ((ys.take i).filterMap h).length < sizeLine := by
    have z := List.length_filterMap_le h (ys.take i)
    rw [List.length_take] at z
    omega
  have go := hs i x H H' ys[i] (fun o H4 => match o with
    | some y => ∃ acc, H4 D = some (.lst acc) ∧ acc.length < sizeLine ∧ (Same H1 (upd H4 D (.lst (acc ++ [y]))) ∧ (upd H4 D (.lst (acc ++ [y]))) D = some (.lst ((ys.take (i + 1)).filterMap h)))
    | none => Same H1 H4 ∧ H4 D = some (.lst ((ys.take (i + 1)).filterMap h))) ha sm y (fun H4 s4 => by
      have e4 : H4 D = some (.lst ((ys.take i).filterMap h)) := s4 _ _ eD
      cases e : h ys[i] with
      | none =>
        rw [e] at tk
        exact ⟨sm.trans s4, by rw [e4, tk]; simp⟩
      | some y =>
        rw [e] at tk
        refine ⟨_, e4, ln, fun b o eb => ?_, ?_⟩
        · have nb : b ≠ D := ne_of_none eb hD
          rw [upd_ne nb]
          exact s4 _ _ (sm _ _ eb)
        · rw [upd_same, tk]
          simp)
  exact go
/-! ### tuples -/
theorem tyx_tup {K : PySem.W.Frag} {H : Hp} {a : Addr} {xs : List V} (h : SqT K H a xs) : TyX K H (.ref a) (.type "tuple") := by
  rcases h with (h | ⟨o, h⟩) | ⟨o, its, n, h, c, _⟩
  · exact .base (.tup h)
  · exact .fTuple h
  · exact .kTuple h c
theorem cut_tail (xs : List V) : cutV xs (some 1) none = xs.tail := by
  unfold cutV
  rw [show HT.sIx xs.length 0 (some 1) = min 1 xs.length from HT.sIx_nat xs.length 0 1, HT.sIx_none]
  cases xs with
  | nil => rfl
  | cons x r =>
    have e : min 1 (x :: r).length = 1 := by rw [List.length_cons]; omega
    rw [e]
    show List.take ((x :: r).length - 1) r = r
    rw [List.length_cons, Nat.add_sub_cancel, List.take_length]
/-- t[1:] -/
theorem sl_tail {K : PySem.W.Frag} {H : Hp} {a : Addr} {xs : List V} {R : VK} (hS : SqT K H a xs) (h : ∀ c Hc, Same H Hc → SqT K Hc c xs.tail → R (.ref c) Hc) : rSlA K (.ref a) (some 1) none H R := by
  refine ⟨a, xs, rfl, hS, fun e => ?_, fun _ p hp => ?_⟩
  · have e1 : HT.sIx xs.length 0 (some 1) = min 1 xs.length := HT.sIx_nat xs.length 0 1
    have e2 : xs = [] := by
      cases xs with
      | nil => rfl
      | cons x r =>
        have z := e.1
        rw [e1, List.length_cons] at z
        omega
    subst e2
    exact h a H (Same.refl H) hS
  · exact h p _ (same_upd hp) (.inl (.inl (by rw [upd_same, cut_tail])))
/-- t + u, u new -/
theorem cat_new {K : PySem.W.Frag} {H : Hp} {a b : Addr} {xs ys : List V} {R : VK} (hS : SqT K H a xs) (hb : H b = some (.tup ys)) (hy : ys ≠ []) (hz : xs.length + ys.length ≤ 1000)
    (h : ∀ c Hc, Same H Hc → Hc c = some (.tup (xs ++ ys)) → R (.ref c) Hc) : rCatA K (.ref a) (.ref b) H R := by
  refine ⟨a, b, xs, ys, rfl, rfl, hS, .inl (.inl hb), Nat.le_of_lt (small1000 hz), fun e => ?_, fun _ e => absurd e hy, fun _ _ p hp => h p _ (same_upd hp) upd_same⟩
  subst e
  exact h b H (Same.refl H) hb
/-- t[-i], i from 1 to the length -/
theorem at_neg {α : Type} {xs : List α} {i : Nat} {v : α} (h1 : 1 ≤ i) (h2 : i ≤ xs.length) (h : xs[xs.length - i]? = some v) : atI xs (-(i : Int)) = some v := by
  have e : ixN xs.length (-(i : Int)) = some (xs.length - i) := by
    unfold ixN
    rw [if_neg (by omega)]
    rw [if_pos (by omega)]
    congr 1
    omega
  unfold atI
  rw [e]
  exact h
theorem walk_zipT {K : PySem.W.Frag} {a b : Addr} {xs ys : List V} {n : Nat} (hn : n = min xs.length ys.length) : Walk (RZ.ItzT K a b) n (fun H => SqT K H a xs ∧ SqT K H b ys) (YPair (fun i => xs[i]?) (fun i => ys[i]?)) := by
  subst hn
  refine ⟨fun i _ hi q => ?_, fun _ q => ⟨xs, ys, q.1, q.2, by omega⟩, fun i H v H' _ q y => ?_⟩
  · have h1 : i < xs.length := by omega
    have h2 : i < ys.length := by omega
    exact ⟨xs, ys, xs[i], ys[i], q.1, q.2, by simp [h1], by simp [h2]⟩
  · obtain ⟨T, x, y', h1, h2, h3, h4, h5⟩ := y
    exact ⟨T, x, y', h1, h2, h3, h4 _ q.1, h5 _ q.2⟩
theorem map_at {α β : Type} {f : α → β} {xs : List α} {i : Nat} {a : α} {b : β} (h : xs[i]? = some a) (g : (xs.map f)[i]? = some b) : b = f a := by
  rw [List.getElem?_map, h] at g
  exact (Option.some.inj g).symm
theorem filterMap_some {α β : Type} (f : α → β) : ∀ xs : List α, xs.filterMap (fun x => some (f x)) = xs.map f
  | [] => rfl
  | x :: r => by rw [List.filterMap_cons, List.map_cons, filterMap_some f r]
theorem pe_globI {X : Cx} {x : Str} {pos : Pos} {n : Int} {t : Tok} (hg : Gl X x) (hm : X.mg x = some (.int n t)) (hd : (x == ("__debug__" : Str)) = false := by decide) : PE X (.Name x pos) (tC (.int n)) := by
  first
    | exact pe_glob hg hm ⟨t, rfl⟩ hd
    | exact pe_glob hg hm ⟨t, rfl⟩
theorem ix_tupK {X : Cx} {K : PySem.W.Frag} (h : X.K = K) : IxR X (rIxT K) := h ▸ ix_tup
theorem ix_listK {X : Cx} {K : PySem.W.Frag} (h : X.K = K) : IxR X (rIxL K) := h ▸ ix_list
/-- t * k -/
theorem rep_any {K : PySem.W.Frag} {H : Hp} {l : Addr} {xs : List V} {k : Nat} {v : V} {R : VK} (e : v = .int k) (hS : SqT K H l xs) (hx : xs ≠ []) (hk : k ≤ 1000) (hl : xs.length ≤ 1000)
    (h : ∀ c Hc, Same H Hc → SqT K Hc c (List.replicate k xs).flatten → R (.ref c) Hc) : rRepA K (.ref l) v H R := by
  refine ⟨l, xs, k, rfl, e, hS, hx, hk, hl, fun e1 => ?_, fun _ p np => h p _ (same_upd np) (.inl (.inl upd_same))⟩
  subst e1
  refine h l H (Same.refl H) ?_
  have z : (List.replicate 1 xs).flatten = xs := by simp
  rw [z]
  exact hS
theorem flat_one {α : Type} (x : α) : ∀ n : Nat, (List.replicate n [x]).flatten = List.replicate n x
  | 0 => rfl
  | n + 1 => by rw [List.replicate_succ, List.flatten_cons, flat_one x n]; rfl
theorem in_ints (n : Int) : ∀ ns : List Int, inV (.int n) (ns.map V.int) = decide (n ∈ ns)
  | [] => rfl
  | k :: r => by
    have ih := in_ints n r
    unfold inV at ih ⊢
    rw [List.map_cons, List.any_cons, ih]
    show (k == n || decide (n ∈ r)) = _
    by_cases c : n = k
    · subst c; simp
    · have c2 : (k == n) = false := by simpa using fun e => c e.symm
      rw [c2, Bool.false_or]
      exact decide_eq_decide.mpr ⟨fun h => List.mem_cons_of_mem _ h, fun h => (List.mem_cons.mp h).resolve_left c⟩
theorem flat_ints : ∀ ns : List Int, (ns.map V.int).all flatV = true
  | [] => rfl
  | _ :: r => flat_ints r
/-! ### data of ints -/
theorem dp_ints {K : PySem.W.Frag} {H : Hp} : ∀ ns : List Int, DpAll K H (ns.map V.int) (ns.map PyData.int)
  | [] => .nil
  | n :: r => .cons (.int n) (dp_ints r)
theorem can_ints : ∀ ns : List Int, PyData.canLayAll0 (ns.map PyData.int) = true
  | [] => by rw [List.map_nil, PyData.canLayAll0]
  | n :: r => by rw [List.map_cons, PyData.canLayAll0, can_ints r, PyData.canLay0]; rfl
theorem shaped_ints (ns : List Int) : SeqAt.shaped (.list (ns.map PyData.int)) = true := by
  unfold SeqAt.shaped
  rw [PyData.canLay0, can_ints, PyData.depth, depth_ints]
  decide
theorem eqv_nil (ns : List Int) : PyData.eqv (.list (ns.map PyData.int)) (.list []) = ns.isEmpty := by
  cases ns with
  | nil => rw [List.map_nil, PyData.eqv, PyData.eqvAll]; rfl
  | cons n r => rw [List.map_cons, PyData.eqv, PyData.eqvAll]; rfl
/-- xs != [] of a list of ints, the other one new -/
theorem ne_nil {K : PySem.W.Frag} {H : Hp} {g p : Addr} {ns : List Int} {R : VK} (hg : SqL K H g (ns.map V.int)) (hp : H p = some (.lst [])) (h : R (.bl (!ns.isEmpty)) H) : rNeD K (.ref g) (.ref p) H R := by
  refine ⟨.list (ns.map .int), .list [], .lst hg (dp_ints ns), .lst (.inl (.inl hp)) .nil, shaped_ints ns, shaped_ints [], ?_⟩
  rw [eqv_nil]
  exact h
/-! ### a step into a reading -/
theorem seq_go {t u : TS} {D : Ends} {σ : L2.St} {H : Hp} (h : t { D with nx := fun σ1 H1 => u D σ1 H1 } σ H) : tSeq t u D σ H := h
theorem asg_go {te : TE} {g : TG} {D : Ends} {σ : L2.St} {H : Hp} (h : te σ H fun v H1 => g v σ H1 D.nx) : tAsg te g D σ H := h
theorem drop_go {te : TE} {D : Ends} {σ : L2.St} {H : Hp} (h : te σ H fun _ H1 => D.nx σ H1) : tDrop te D σ H := h
theorem ret_go {te : TE} {D : Ends} {σ : L2.St} {H : Hp} (h : te σ H D.rt) : tRet te D σ H := h
theorem lst_go {t : TA} {σ : L2.St} {H : Hp} {Q : VK} (h : t σ H fun xs H1 => xs.length ≤ sizeLine ∧ ∀ p, H1 p = none → Q (.ref p) (upd H1 p (.lst xs))) : tLst t σ H Q := h
theorem tup_go {t : TA} {σ : L2.St} {H : Hp} {Q : VK} (h : t σ H fun xs H1 => xs.length ≤ sizeLine ∧ ∀ p, H1 p = none → Q (.ref p) (upd H1 p (.tup xs))) : tTup t σ H Q := h
theorem cons_go {ta : TE} {tr : TA} {σ : L2.St} {H : Hp} {Q : List V → Hp → Prop} (h : ta σ H fun x H1 => tr σ H1 fun xs H2 => Q (x :: xs) H2) : tCons ta tr σ H Q := h
theorem op_go {r : R2} {ta tb : TE} {σ : L2.St} {H : Hp} {Q : VK} (h : ta σ H fun x H1 => tb σ H1 fun y H2 => r x y H2 Q) : tOp r ta tb σ H Q := h
theorem cb_go {r : List V → Hp → VK → Prop} {t : TA} {σ : L2.St} {H : Hp} {Q : VK} (h : t σ H fun vs H1 => r vs H1 Q) : tCB r t σ H Q := h
theorem call_go {sp : Sp} {dvs : List V} {E : XK} {t : TA} {σ : L2.St} {H : Hp} {Q : VK} (h : t σ H fun vs H1 => sp (vs ++ dvs) H1 Q E) : tCall sp dvs E t σ H Q := h
end CD
set_option maxHeartbeats 1000000
namespace LK
open PySem PySem.Spec PyProof.Rows L2 CD
def topS (i : Nat) : Stmt := PySem.Challenge.pw_callsdown_k43_line_rules_by_hand.main.body.getD i (.Pass ⟨0, 0, 0, 0⟩)
abbrev s_is_integer : Stmt := topS 6
abbrev n_is_integer : List Str := ["thing"]
abbrev p_is_integer : List Str := ["thing"]
theorem sc_is_integer : FnScope n_is_integer p_is_integer (defScope s_is_integer) := ⟨rfl, rfl, rfl, by decide +kernel, rfl, by decide +kernel, by decide +kernel⟩
abbrev s_is_number : Stmt := topS 7
abbrev n_is_number : List Str := ["thing", "low", "high"]
abbrev p_is_number : List Str := ["thing", "low", "high"]
theorem sc_is_number : FnScope n_is_number p_is_number (defScope s_is_number) := ⟨rfl, rfl, rfl, by decide +kernel, rfl, by decide +kernel, by decide +kernel⟩
abbrev s_is_ascending : Stmt := topS 8
abbrev n_is_ascending : List Str := ["things", "one", "behind"]
abbrev p_is_ascending : List Str := ["things"]
theorem sc_is_ascending : FnScope n_is_ascending p_is_ascending (defScope s_is_ascending) := ⟨rfl, rfl, rfl, by decide +kernel, rfl, by decide +kernel, by decide +kernel⟩
abbrev s_is_row : Stmt := topS 9
abbrev n_is_row : List Str := ["thing", "most", "low", "high", "one"]
abbrev p_is_row : List Str := ["thing", "most", "low", "high"]
theorem sc_is_row : FnScope n_is_row p_is_row (defScope s_is_row) := ⟨rfl, rfl, rfl, by decide +kernel, rfl, by decide +kernel, by decide +kernel⟩
abbrev s_is_absence : Stmt := topS 10
abbrev n_is_absence : List Str := ["thing", "most"]
abbrev p_is_absence : List Str := ["thing", "most"]
theorem sc_is_absence : FnScope n_is_absence p_is_absence (defScope s_is_absence) := ⟨rfl, rfl, rfl, by decide +kernel, rfl, by decide +kernel, by decide +kernel⟩
abbrev s_need_absence : Stmt := topS 11
abbrev n_need_absence : List Str := ["absent"]
abbrev p_need_absence : List Str := ["absent"]
theorem sc_need_absence : FnScope n_need_absence p_need_absence (defScope s_need_absence) := ⟨rfl, rfl, rfl, by decide +kernel, rfl, by decide +kernel, by decide +kernel⟩
abbrev s_need_person : Stmt := topS 12
abbrev n_need_person : List Str := ["person"]
abbrev p_need_person : List Str := ["person"]
theorem sc_need_person : FnScope n_need_person p_need_person (defScope s_need_person) := ⟨rfl, rfl, rfl, by decide +kernel, rfl, by decide +kernel, by decide +kernel⟩
abbrev s_need_people : Stmt := topS 13
abbrev n_need_people : List Str := ["people"]
abbrev p_need_people : List Str := ["people"]
theorem sc_need_people : FnScope n_need_people p_need_people (defScope s_need_people) := ⟨rfl, rfl, rfl, by decide +kernel, rfl, by decide +kernel, by decide +kernel⟩
abbrev s_first_window : Stmt := topS 15
abbrev n_first_window : List Str := ["reach"]
abbrev p_first_window : List Str := ["reach"]
theorem sc_first_window : FnScope n_first_window p_first_window (defScope s_first_window) := ⟨rfl, rfl, rfl, by decide +kernel, rfl, by decide +kernel, by decide +kernel⟩
abbrev s_called_at : Stmt := topS 16
abbrev n_called_at : List Str := ["rule", "window", "calls", "place", "step"]
abbrev p_called_at : List Str := ["rule", "window"]
theorem sc_called_at : FnScope n_called_at p_called_at (defScope s_called_at) := ⟨rfl, rfl, rfl, by decide +kernel, rfl, by decide +kernel, by decide +kernel⟩
abbrev s_state_behind : Stmt := topS 17
abbrev n_state_behind : List Str := ["rule", "absent", "people", "state", "person", "gone"]
abbrev p_state_behind : List Str := ["rule", "absent", "people"]
theorem sc_state_behind : FnScope n_state_behind p_state_behind (defScope s_state_behind) := ⟨rfl, rfl, rfl, by decide +kernel, rfl, by decide +kernel, by decide +kernel⟩
abbrev s_low_and_shape : Stmt := topS 18
abbrev n_low_and_shape : List Str := ["window", "low", "tick"]
abbrev p_low_and_shape : List Str := ["window"]
theorem sc_low_and_shape : FnScope n_low_and_shape p_low_and_shape (defScope s_low_and_shape) := ⟨rfl, rfl, rfl, by decide +kernel, rfl, by decide +kernel, by decide +kernel⟩
abbrev s__behind_person : Stmt := topS 19
abbrev n__behind_person : List Str := ["state", "tick", "window", "last"]
abbrev p__behind_person : List Str := ["state", "tick"]
theorem sc__behind_person : FnScope n__behind_person p__behind_person (defScope s__behind_person) := ⟨rfl, rfl, rfl, by decide +kernel, rfl, by decide +kernel, by decide +kernel⟩
abbrev s__behind_few : Stmt := topS 20
abbrev n__behind_few : List Str := ["rule", "state", "count", "_"]
abbrev p__behind_few : List Str := ["rule", "state", "count"]
theorem sc__behind_few : FnScope n__behind_few p__behind_few (defScope s__behind_few) := ⟨rfl, rfl, rfl, by decide +kernel, rfl, by decide +kernel, by decide +kernel⟩
abbrev s__behind_many : Stmt := topS 21
abbrev n__behind_many : List Str := ["rule", "state", "count", "seen", "left", "base", "shape", "start", "low"]
abbrev p__behind_many : List Str := ["rule", "state", "count"]
theorem sc__behind_many : FnScope n__behind_many p__behind_many (defScope s__behind_many) := ⟨rfl, rfl, rfl, by decide +kernel, rfl, by decide +kernel, by decide +kernel⟩
abbrev s__behind_rounds : Stmt := topS 22
abbrev n__behind_rounds : List Str := ["rule", "state", "count", "size", "more", "rounds", "window", "last", "ahead"]
abbrev p__behind_rounds : List Str := ["rule", "state", "count", "size", "more"]
theorem sc__behind_rounds : FnScope n__behind_rounds p__behind_rounds (defScope s__behind_rounds) := ⟨rfl, rfl, rfl, by decide +kernel, rfl, by decide +kernel, by decide +kernel⟩
abbrev s__later : Stmt := topS 23
abbrev n__later : List Str := ["window", "more", "tick"]
abbrev p__later : List Str := ["window", "more"]
theorem sc__later : FnScope n__later p__later (defScope s__later) := ⟨rfl, rfl, rfl, by decide +kernel, rfl, by decide +kernel, by decide +kernel⟩
abbrev s_need_rule : Stmt := topS 27
abbrev n_need_rule : List Str := ["thing", "step"]
abbrev p_need_rule : List Str := ["thing"]
theorem sc_need_rule : FnScope n_need_rule p_need_rule (defScope s_need_rule) := ⟨rfl, rfl, rfl, by decide +kernel, rfl, by decide +kernel, by decide +kernel⟩
abbrev s_tick_of : Stmt := topS 28
abbrev n_tick_of : List Str := ["rule", "absent", "person", "window", "_"]
abbrev p_tick_of : List Str := ["rule", "absent", "person"]
theorem sc_tick_of : FnScope n_tick_of p_tick_of (defScope s_tick_of) := ⟨rfl, rfl, rfl, by decide +kernel, rfl, by decide +kernel, by decide +kernel⟩
abbrev s_callers : Stmt := topS 29
abbrev n_callers : List Str := ["rule", "absent", "person", "window", "_", "step"]
abbrev p_callers : List Str := ["rule", "absent", "person"]
theorem sc_callers : FnScope n_callers p_callers (defScope s_callers) := ⟨rfl, rfl, rfl, by decide +kernel, rfl, by decide +kernel, by decide +kernel⟩
abbrev s_last_tick : Stmt := topS 30
abbrev n_last_tick : List Str := ["rule", "absent", "people", "_", "last"]
abbrev p_last_tick : List Str := ["rule", "absent", "people"]
theorem sc_last_tick : FnScope n_last_tick p_last_tick (defScope s_last_tick) := ⟨rfl, rfl, rfl, by decide +kernel, rfl, by decide +kernel, by decide +kernel⟩
abbrev s__law_begun : Stmt := topS 32
abbrev n__law_begun : List Str := ["script", "great", "cell"]
abbrev p__law_begun : List Str := ["script"]
theorem sc__law_begun : FnScope n__law_begun p__law_begun (defScope s__law_begun) := ⟨rfl, rfl, rfl, by decide +kernel, rfl, by decide +kernel, by decide +kernel⟩
abbrev s__law_next : Stmt := topS 33
abbrev n__law_next : List Str := ["m", "total", "rest", "k", "cell", "mixed"]
abbrev p__law_next : List Str := ["m", "total"]
theorem sc__law_next : FnScope n__law_next p__law_next (defScope s__law_next) := ⟨rfl, rfl, rfl, by decide +kernel, rfl, by decide +kernel, by decide +kernel⟩
abbrev s__law_of : Stmt := topS 34
abbrev n__law_of : List Str := ["m", "some"]
abbrev p__law_of : List Str := ["m", "some"]
theorem sc__law_of : FnScope n__law_of p__law_of (defScope s__law_of) := ⟨rfl, rfl, rfl, by decide +kernel, rfl, by decide +kernel, by decide +kernel⟩
abbrev s__law_rows : Stmt := topS 35
abbrev n__law_rows : List Str := ["found"]
abbrev p__law_rows : List Str := []
theorem sc__law_rows : FnScope n__law_rows p__law_rows (defScope s__law_rows) := ⟨rfl, rfl, rfl, by decide +kernel, rfl, by decide +kernel, by decide +kernel⟩
abbrev s_law : Stmt := topS 36
abbrev n_law : List Str := ["script", "m", "some", "turn", "line", "gone", "ticks", "best", "told", "one", "k"]
abbrev p_law : List Str := ["script"]
theorem sc_law : FnScope n_law p_law (defScope s_law) := ⟨rfl, rfl, rfl, by decide +kernel, rfl, by decide +kernel, by decide +kernel⟩
section
variable {P : Program} {w : World} {K : PySem.W.Frag} {mg : Str → Option Value} {base : Heap}
/-! ### checks -/
def spNum : Sp := fun vs H Q _ => ∃ n lo hi : Int, vs = [.int n, .int lo, .int hi] ∧ Q (.bl (decide (lo ≤ n ∧ n ≤ hi))) H
def spInt1 : Sp := fun vs H Q _ => ∃ n : Int, vs = [.int n] ∧ Q (.bl true) H
theorem cal_is_integer (z : Z mg) (D : Def K mg "is_integer" s_is_integer p_is_integer) : Cal P w K mg base 1 "is_integer" p_is_integer spInt1 := by
  refine D.cal sc_is_integer (fun vs H Q E h => by obtain ⟨_, rfl, _⟩ := h; rfl) fun f cdv A outer s H vs Q E hr h => ?_
  obtain ⟨n, rfl, q⟩ := h
  refine ⟨_, (pss_one (ps_ret (pe_and (pe_callB (call_isi) (by rfl) z.«isinstance» (by decide +kernel) (pa_cons (pv 0) (pa_cons (pe_bltn (v := .ty "int") (by rfl) z.«int» (by decide +kernel) rfl) pa_nil))) (pe_one (pe_not (pe_callB (call_isi) (by rfl) z.«isinstance» (by decide +kernel) (pa_cons (pv 0) (pa_cons (pe_bltn (v := .ty "bool") (by rfl) z.«bool» (by decide +kernel) rfl) pa_nil)))))))), ?_⟩
  refine ⟨.int n, rfl, .int n, .ty "int", .type "int", .type "int", true, rfl, .ty _, .base (.int n), kit_ty (by decide +kernel), true, rfl, iteT ?_⟩
  exact ⟨.int n, rfl, .int n, .ty "bool", .type "int", .type "bool", false, rfl, .ty _, .base (.int n), kit_ty (by decide +kernel), false, rfl, q⟩
theorem cal_is_number (z : Z mg) (c_is_integer : Cal P w K mg base 1 "is_integer" p_is_integer spInt1) (D : Def K mg "is_number" s_is_number p_is_number) : Cal P w K mg base 2 "is_number" p_is_number spNum := by
  refine D.cal sc_is_number (fun vs H Q E h => by obtain ⟨_, _, _, rfl, _⟩ := h; rfl) fun f cdv A outer s H vs Q E hr h => ?_
  obtain ⟨n, lo, hi, rfl, q⟩ := h
  refine ⟨_, (pss_one (ps_ret (pe_and (pe_cal c_is_integer (hr.mono (by decide)) (by rfl) (pa_cons (pv 0) pa_nil)) (pe_one (pe_chain op_le op_le (pv 1) (pv 0) (pv 2)))))), ?_⟩
  refine ⟨.int n, rfl, n, rfl, true, rfl, iteT ?_⟩
  refine ⟨.int lo, rfl, .int n, rfl, lo, n, rfl, rfl, _, rfl, ite2 (fun e => ?_) (fun e => ?_)⟩
  · have e' : lo ≤ n := of_decide_eq_true e
    refine ⟨.int hi, rfl, n, hi, rfl, rfl, ?_⟩
    show Q (.bl (decide (n ≤ hi))) H
    rw [show decide (n ≤ hi) = decide (lo ≤ n ∧ n ≤ hi) from decide_eq_decide.mpr ⟨fun x => ⟨e', x⟩, fun x => x.2⟩]
    exact q
  · have e' : ¬ lo ≤ n := fun x => e (decide_eq_true x)
    show Q (.bl false) H
    rw [show false = decide (lo ≤ n ∧ n ≤ hi) from (decide_eq_false fun x => e' x.1).symm]
    exact q
def spAsc (K : PySem.W.Frag) : Sp := fun vs H Q _ => ∃ (a : Addr) (ns : List Int), vs = [.ref a] ∧ SqT K H a (ns.map V.int) ∧ ns.length ≤ 1000 ∧ ∀ H', Same H H' → Q (.bl (ascB ns)) H'
theorem cal_is_ascending (z : Z mg) (D : Def K mg "is_ascending" s_is_ascending p_is_ascending) : Cal P w K mg base 2 "is_ascending" p_is_ascending (spAsc K) := by
  refine D.cal sc_is_ascending (fun vs H Q E h => by obtain ⟨_, _, rfl, _⟩ := h; rfl) fun f cdv A outer s H vs Q E hr h => ?_
  obtain ⟨a, ns, rfl, hS, hl, q⟩ := h
  refine ⟨_, (pss_one (ps_ret (pe_callB (cr_all rfl) (by rfl) z.«all» (by decide +kernel) (pa_cons (pe_lc (own := [("one", 1), ("behind", 2)]) (g := (gTup K 2 (gCons (gName 1) (gCons (gName 2) gNil)))) (tt := tYes) rfl sc_is_ascending.nd (RZ.pi_zipA (by rfl) z.«zip» (pa_cons (pv 0) (pa_cons (pe_slice sl_tupA (pv 0) (po_some pe_int) po_none) pa_nil))) (blkOk_by (N := n_is_ascending) (sc := defScope s_is_ascending) (by decide +kernel)) (fun _ _ _ _ _ => (pg_tup rfl (pgs_cons (pg_name (i := 1) sc_is_ascending.nd rfl (Or.inl rfl)) (pgs_cons (pg_name (i := 2) sc_is_ascending.nd rfl (Or.inl rfl)) pgs_nil)))) (fun _ _ _ _ _ => pts_nil) (fun _ _ _ _ _ => (pe_cmpR op_lt (pv 1) (pv 2) (nomark _)))) pa_nil)))), ?_⟩
  refine ⟨.ref a, rfl, .ref a, rfl, 1, rfl, ?_⟩
  dsimp only [tNoPart]
  refine sl_tail hS fun c Hc sm hc => ?_
  refine ⟨a, c, _, _, rfl, .inr ⟨sm.tup hS, hc, fun L nL => ?_⟩⟩
  refine lc_std (walk_zipT (K := K) (a := a) (b := c) (xs := ns.map V.int) (ys := (ns.map V.int).tail) rfl) (ns.zip ns.tail) (fun p => some (.bl (decide (p.1 < p.2)))) ?_ (small1000 ?_) nL (fun H2 s2 => ⟨s2.tup (sm.tup hS), s2.tup hc⟩) (fun i x H2 H3 p R hp s2 y hR => ?_) (fun H2 s2 e => ?_)
  · simp only [List.length_zip, List.length_tail, List.length_map]
  · simp only [List.length_tail, List.length_map]; omega
  · obtain ⟨T, v1, v2, rfl, nT, rfl, g1, g2⟩ := y
    have sT : Same H2 (upd H2 T (.tup [v1, v2])) := same_upd nT
    obtain ⟨k1, k2⟩ := zip_at hp
    obtain rfl := map_at k1 g1
    rw [← List.map_tail] at g2
    obtain rfl := map_at k2 g2
    refine ⟨T, _, rfl, .inl (.inl upd_same), rfl, _, _, rfl, _, _, rfl, rfl, rfl, ?_⟩
    exact ⟨_, rfl, _, rfl, p.1, p.2, rfl, rfl, hR _ sT⟩
  · refine ⟨L, (ns.zip ns.tail).map fun p => decide (p.1 < p.2), rfl, .inl (.inl ?_), ?_⟩
    · rw [e, filterMap_some, List.map_map]
      rfl
    · have e2 : ((ns.zip ns.tail).map fun p => decide (p.1 < p.2)).all id = ascB ns := by
        unfold ascB
        rw [List.all_map]
        rfl
      rw [e2]
      exact q _ (sm.trans s2)
/-- thing, most, low, high: a tuple of ints -/
def rowB (ns : List Int) (most lo hi : Int) : Bool := decide ((ns.length : Int) ≤ most) && (ns.all fun n => decide (lo ≤ n ∧ n ≤ hi)) && ascB ns
def spRow (K : PySem.W.Frag) : Sp := fun vs H Q _ => ∃ (a : Addr) (ns : List Int) (most lo hi : Int), vs = [.ref a, .int most, .int lo, .int hi] ∧ SqT K H a (ns.map V.int) ∧ ns.length ≤ 1000 ∧ ∀ H', Same H H' → Q (.bl (rowB ns most lo hi)) H'
theorem cal_is_row (z : Z mg) (c_is_number : Cal P w K mg base 2 "is_number" p_is_number spNum) (c_is_ascending : Cal P w K mg base 2 "is_ascending" p_is_ascending (spAsc K)) (D : Def K mg "is_row" s_is_row p_is_row) :
    Cal P w K mg base 3 "is_row" p_is_row (spRow K) := by
  refine D.cal sc_is_row (fun vs H Q E h => by obtain ⟨_, _, _, _, _, rfl, _⟩ := h; rfl) fun f cdv A outer s H vs Q E hr h => ?_
  obtain ⟨a, ns, most, lo, hi, rfl, hS, hl, q⟩ := h
  refine ⟨_, (pss_cons (ps_if (PW.pt (pw_or (pt_not (pt_val (pe_callB (call_isi) (by rfl) z.«isinstance» (by decide +kernel) (pa_cons (pv 0) (pa_cons (pe_bltn (v := .ty "tuple") (by rfl) z.«tuple» (by decide +kernel) rfl) pa_nil))))) (pw_or1 (pt_cmpR op_gt (pe_callB (call_len_seq) (by rfl) z.«len» (by decide +kernel) (pa_cons (pv 0) pa_nil)) (pv 1) (nomark _))))) (pss_one (ps_ret pe_bl)) pss_nil)
        (pss_one (ps_ret (pe_and (pe_callB (cr_all rfl) (by rfl) z.«all» (by decide +kernel) (pa_cons (pe_lc (own := [("one", 4)]) (g := (gName 4)) (tt := tYes) rfl sc_is_row.nd (pi_tup (pv 0)) (blkOk_by (N := n_is_row) (sc := defScope s_is_row) (by decide +kernel)) (fun _ _ _ _ _ => (pg_name (i := 4) sc_is_row.nd rfl (Or.inl rfl))) (fun _ _ _ _ _ => pts_nil) (fun _ _ _ _ _ => (pe_cal c_is_number (hr.mono (by decide)) (by rfl) (pa_cons (pv 4) (pa_cons (pv 2) (pa_cons (pv 3) pa_nil)))))) pa_nil)) (pe_one (pe_cal c_is_ascending (hr.mono (by decide)) (by rfl) (pa_cons (pv 0) pa_nil))))))), ?_⟩
  refine ⟨.ref a, rfl, .ref a, .ty "tuple", .type "tuple", .type "tuple", true, rfl, .ty _, tyx_tup hS, kit_ty (by decide +kernel), true, rfl, iteF ?_⟩
  refine ⟨.ref a, rfl, a, _, rfl, .inr hS, .int most, rfl, _, most, rfl, rfl, _, rfl, ite2 (fun e => ?_) (fun e => ?_)⟩
  · have e1 : most < ((ns.map V.int).length : Int) := of_decide_eq_true e
    rw [List.length_map] at e1
    have e2 : rowB ns most lo hi = false := by
      unfold rowB
      rw [decide_eq_false (by omega)]
      rfl
    have z2 := q H (Same.refl H)
    rw [e2] at z2
    exact z2
  · have e1 : ¬ most < ((ns.map V.int).length : Int) := fun x => e (decide_eq_true x)
    rw [List.length_map] at e1
    refine ⟨.ref a, rfl, a, rfl, ⟨_, hS⟩, fun L nL => ?_⟩
    refine lc_std (walk_tup (K := K) (a := a) (xs := ns.map V.int)) ns (fun n => some (.bl (decide (lo ≤ n ∧ n ≤ hi)))) (by rw [List.length_map]) (small1000 (by rw [List.length_map]; exact hl)) nL (fun H2 s2 => s2.tup hS) (fun i x H2 H3 n R hn s2 y hR => ?_) (fun H2 s2 e3 => ?_)
    · obtain ⟨rfl, g⟩ := y
      obtain rfl := map_at hn g
      refine ⟨rfl, ?_⟩
      exact ⟨_, rfl, .int lo, rfl, .int hi, rfl, n, lo, hi, rfl, hR _ (Same.refl _)⟩
    · refine ⟨L, ns.map fun n => decide (lo ≤ n ∧ n ≤ hi), rfl, .inl (.inl ?_), ?_⟩
      · rw [e3, filterMap_some, List.map_map]
        rfl
      · have e4 : (ns.map fun n => decide (lo ≤ n ∧ n ≤ hi)).all id = ns.all fun n => decide (lo ≤ n ∧ n ≤ hi) := by
          rw [List.all_map]
          rfl
        rw [e4]
        refine ⟨_, rfl, ite2 (fun e5 => ?_) (fun e5 => ?_)⟩
        · refine ⟨.ref a, rfl, a, ns, rfl, s2.tup hS, hl, fun H4 s4 => ?_⟩
          have z2 := q H4 (s2.trans s4)
          unfold rowB at z2
          rw [decide_eq_true (by omega), e5] at z2
          exact z2
        · have z2 := q H2 s2
          unfold rowB at z2
          rw [Bool.not_eq_true] at e5
          rw [decide_eq_true (by omega), e5] at z2
          exact z2
def spAbs (K : PySem.W.Frag) : Sp := fun vs H Q _ => ∃ (a : Addr) (ns : List Int) (most : Int), vs = [.ref a, .int most] ∧ SqT K H a (ns.map V.int) ∧ ns.length ≤ 1000 ∧ ∀ H', Same H H' → Q (.bl (rowB ns most 1 (10 ^ 30))) H'
theorem cal_is_absence (z : Z mg) (m_MOST_NUMBER : ∃ t, mg "MOST_NUMBER" = some (.int (10 ^ 30) t)) (c_is_row : Cal P w K mg base 3 "is_row" p_is_row (spRow K)) (D : Def K mg "is_absence" s_is_absence p_is_absence) :
    Cal P w K mg base 4 "is_absence" p_is_absence (spAbs K) := by
  obtain ⟨tt, m_MOST_NUMBER⟩ := m_MOST_NUMBER
  refine D.cal sc_is_absence (fun vs H Q E h => by obtain ⟨_, _, _, rfl, _⟩ := h; rfl) fun f cdv A outer s H vs Q E hr h => ?_
  obtain ⟨a, ns, most, rfl, hS, hl, q⟩ := h
  refine ⟨_, (pss_one (ps_ret (pe_cal c_is_row (hr.mono (by decide)) (by rfl) (pa_cons (pv 0) (pa_cons (pv 1) (pa_cons pe_int (pa_cons (pe_globI (by rfl) m_MOST_NUMBER) pa_nil))))))), ?_⟩
  exact ⟨.ref a, rfl, .int most, rfl, a, ns, most, 1, 10 ^ 30, rfl, hS, hl, q⟩
structure IsAbs (ns : List Int) : Prop where
  most : ns.length ≤ 4
  rng : ∀ n ∈ ns, 1 ≤ n ∧ n ≤ 10 ^ 30
  asc : ascB ns = true
theorem IsAbs.row {ns : List Int} (h : IsAbs ns) : rowB ns 4 1 (10 ^ 30) = true := by
  have h1 := h.most
  unfold rowB
  rw [decide_eq_true (by omega), h.asc, Bool.and_true, Bool.true_and, List.all_eq_true]
  intro n hn
  exact decide_eq_true (h.rng n hn)
def spNeedAbs (K : PySem.W.Frag) : Sp := fun vs H Q _ => ∃ (a : Addr) (ns : List Int), vs = [.ref a] ∧ SqT K H a (ns.map V.int) ∧ IsAbs ns ∧ ∀ H', Same H H' → Q .non H'
theorem cal_need_absence (z : Z mg) (m_MOST_MISSING : ∃ t, mg "MOST_MISSING" = some (.int 4 t)) (c_is_absence : Cal P w K mg base 4 "is_absence" p_is_absence (spAbs K)) (D : Def K mg "need_absence" s_need_absence p_need_absence) :
    Cal P w K mg base 5 "need_absence" p_need_absence (spNeedAbs K) := by
  obtain ⟨tt, m_MOST_MISSING⟩ := m_MOST_MISSING
  refine D.cal sc_need_absence (fun vs H Q E h => by obtain ⟨_, _, rfl, _⟩ := h; rfl) fun f cdv A outer s H vs Q E hr h => ?_
  obtain ⟨a, ns, rfl, hS, hA, q⟩ := h
  refine ⟨_, (pss_one (ps_if (pt_not (pt_val (pe_cal c_is_absence (hr.mono (by decide)) (by rfl) (pa_cons (pv 0) (pa_cons (pe_globI (by rfl) m_MOST_MISSING) pa_nil))))) (pss_one ps_never) pss_nil)), ?_⟩
  refine ⟨.ref a, rfl, a, ns, 4, rfl, hS, by have := hA.most; omega, fun H' sm => ?_⟩
  rw [hA.row]
  exact ⟨true, rfl, iteF (q H' sm)⟩
def spNeedNum (lo : Int) : Sp := fun vs H Q _ => ∃ n : Int, vs = [.int n] ∧ lo ≤ n ∧ n ≤ 10 ^ 30 ∧ Q .non H
theorem cal_need_person (z : Z mg) (m_MOST_NUMBER : ∃ t, mg "MOST_NUMBER" = some (.int (10 ^ 30) t)) (c_is_number : Cal P w K mg base 2 "is_number" p_is_number spNum) (D : Def K mg "need_person" s_need_person p_need_person) :
    Cal P w K mg base 3 "need_person" p_need_person (spNeedNum 0) := by
  obtain ⟨tt, m_MOST_NUMBER⟩ := m_MOST_NUMBER
  refine D.cal sc_need_person (fun vs H Q E h => by obtain ⟨_, rfl, _⟩ := h; rfl) fun f cdv A outer s H vs Q E hr h => ?_
  obtain ⟨n, rfl, h0, h1, q⟩ := h
  refine ⟨_, (pss_one (ps_if (pt_not (pt_val (pe_cal c_is_number (hr.mono (by decide)) (by rfl) (pa_cons (pv 0) (pa_cons pe_int (pa_cons (pe_globI (by rfl) m_MOST_NUMBER) pa_nil)))))) (pss_one ps_never) pss_nil)), ?_⟩
  refine ⟨.int n, rfl, n, 0, 10 ^ 30, rfl, ?_⟩
  rw [decide_eq_true ⟨h0, h1⟩]
  exact ⟨true, rfl, iteF q⟩
theorem cal_need_people (z : Z mg) (m_MOST_NUMBER : ∃ t, mg "MOST_NUMBER" = some (.int (10 ^ 30) t)) (c_is_number : Cal P w K mg base 2 "is_number" p_is_number spNum) (D : Def K mg "need_people" s_need_people p_need_people) :
    Cal P w K mg base 3 "need_people" p_need_people (spNeedNum 1) := by
  obtain ⟨tt, m_MOST_NUMBER⟩ := m_MOST_NUMBER
  refine D.cal sc_need_people (fun vs H Q E h => by obtain ⟨_, rfl, _⟩ := h; rfl) fun f cdv A outer s H vs Q E hr h => ?_
  obtain ⟨n, rfl, h0, h1, q⟩ := h
  refine ⟨_, (pss_one (ps_if (pt_not (pt_val (pe_cal c_is_number (hr.mono (by decide)) (by rfl) (pa_cons (pv 0) (pa_cons pe_int (pa_cons (pe_globI (by rfl) m_MOST_NUMBER) pa_nil)))))) (pss_one ps_never) pss_nil)), ?_⟩
  refine ⟨.int n, rfl, n, 1, 10 ^ 30, rfl, ?_⟩
  rw [decide_eq_true ⟨h0, h1⟩]
  exact ⟨true, rfl, iteF q⟩
def spNeedRule (K : PySem.W.Frag) : Sp := fun vs H Q _ => ∃ (a : Addr) (ns : List Int), vs = [.ref a] ∧ SqT K H a (ns.map V.int) ∧ IsRule ns ∧ ∀ H', Same H H' → Q (.ref a) H'
theorem cal_need_rule (z : Z mg) (m_MOST_STEPS : ∃ t, mg "MOST_STEPS" = some (.int 4 t)) (m_GREATEST_STEP : ∃ t, mg "GREATEST_STEP" = some (.int 6 t)) (c_is_number : Cal P w K mg base 2 "is_number" p_is_number spNum)
    (D : Def K mg "need_rule" s_need_rule p_need_rule) : Cal P w K mg base 3 "need_rule" p_need_rule (spNeedRule K) := by
  obtain ⟨t1, m_MOST_STEPS⟩ := m_MOST_STEPS
  obtain ⟨t2, m_GREATEST_STEP⟩ := m_GREATEST_STEP
  refine D.cal sc_need_rule (fun vs H Q E h => by obtain ⟨_, _, rfl, _⟩ := h; rfl) fun f cdv A outer s H vs Q E hr h => ?_
  obtain ⟨a, ns, rfl, hS, hR, q⟩ := h
  have h1 := hR.pos
  have h4 := hR.most
  refine ⟨_, (pss_cons (ps_if (PW.pt (pw_or (pt_not (pt_val (pe_callB (call_isi) (by rfl) z.«isinstance» (by decide +kernel) (pa_cons (pv 0) (pa_cons (pe_bltn (v := .ty "tuple") (by rfl) z.«tuple» (by decide +kernel) rfl) pa_nil))))) (pw_or1 (pt_not (pt_chain op_le op_le pe_int (pe_callB (call_len_seq) (by rfl) z.«len» (by decide +kernel) (pa_cons (pv 0) pa_nil)) (pe_globI (by rfl) m_MOST_STEPS)))))) (pss_one ps_never) pss_nil)
        (pss_cons (ps_if (pt_not (pt_val (pe_callB (cr_all rfl) (by rfl) z.«all» (by decide +kernel) (pa_cons (pe_lc (own := [("step", 1)]) (g := (gName 1)) (tt := tYes) rfl sc_need_rule.nd (pi_tup (pv 0)) (blkOk_by (N := n_need_rule) (sc := defScope s_need_rule) (by decide +kernel)) (fun _ _ _ _ _ => (pg_name (i := 1) sc_need_rule.nd rfl (Or.inl rfl))) (fun _ _ _ _ _ => pts_nil) (fun _ _ _ _ _ => (pe_cal c_is_number (hr.mono (by decide)) (by rfl) (pa_cons (pv 1) (pa_cons pe_int (pa_cons (pe_globI (by rfl) m_GREATEST_STEP) pa_nil)))))) pa_nil)))) (pss_one ps_never) pss_nil)
        (pss_cons (ps_if (pt_cmpR op_lt (pe_lenSetT (by rfl) z.«len» (by rfl) z.«set» (pv 0)) (pe_callB (call_len_seq) (by rfl) z.«len» (by decide +kernel) (pa_cons (pv 0) pa_nil)) (nomark _)) (pss_one ps_never) pss_nil)
        (pss_one (ps_ret (pv 0)))))), ?_⟩
  refine ⟨.ref a, rfl, .ref a, .ty "tuple", .type "tuple", .type "tuple", true, rfl, .ty _, tyx_tup hS, kit_ty (by decide +kernel), true, rfl, iteF ?_⟩
  refine ⟨.ref a, rfl, a, _, rfl, .inr hS, 1, _, rfl, rfl, _, rfl, ?_⟩
  rw [List.length_map]
  have e1 : decide ((1 : Int) ≤ (ns.length : Int)) = true := decide_eq_true (by omega)
  have e2 : decide ((ns.length : Int) ≤ 4) = true := decide_eq_true (by omega)
  rw [e1]
  refine iteT ⟨_, 4, rfl, rfl, _, rfl, ?_⟩
  rw [e2]
  refine iteF ?_
  refine ⟨.ref a, rfl, a, rfl, ⟨_, hS⟩, fun L nL => ?_⟩
  refine lc_std (walk_tup (K := K) (a := a) (xs := ns.map V.int)) ns (fun n => some (.bl (decide (1 ≤ n ∧ n ≤ 6)))) (by rw [List.length_map]) (small1000 (by rw [List.length_map]; omega)) nL (fun H2 s2 => s2.tup hS) (fun i x H2 H3 n R hn s2 y hR => ?_) (fun H2 s2 e3 => ?_)
  · obtain ⟨rfl, g⟩ := y
    obtain rfl := map_at hn g
    refine ⟨rfl, ?_⟩
    exact ⟨_, rfl, n, 1, 6, rfl, hR _ (Same.refl _)⟩
  · refine ⟨L, ns.map fun n => decide (1 ≤ n ∧ n ≤ 6), rfl, .inl (.inl ?_), ?_⟩
    · rw [e3, filterMap_some, List.map_map]
      rfl
    · have e4 : (ns.map fun n => decide (1 ≤ n ∧ n ≤ 6)).all id = true := by
        rw [List.all_map, List.all_eq_true]
        intro n hn
        exact decide_eq_true (hR.step n hn)
      rw [e4]
      refine ⟨true, rfl, iteF ?_⟩
      refine ⟨.ref a, rfl, a, ns, rfl, s2.tup hS, hR.nodup, by omega, .ref a, rfl, a, _, rfl, .inr (s2.tup hS), _, _, rfl, rfl, _, rfl, ?_⟩
      rw [List.length_map, decide_eq_false (by omega)]
      exact iteF ⟨.ref a, rfl, q H2 s2⟩
end
end LK
namespace LK
open PySem PySem.Spec PyProof.Rows L2 CD
section
variable {P : Program} {w : World} {K : PySem.W.Frag} {mg : Str → Option Value} {base : Heap}
/-! ### walks -/
/-- a state (WINDOW, LAST) at p -/
def StAt (H : Hp) (p : Addr) (st : LState) : Prop := ∃ wa, H p = some (.tup [.ref wa, .int st.2]) ∧ H wa = some (.tup (st.1.map oV))
theorem StAt.same {H H' : Hp} {p : Addr} {st : LState} (h : StAt H p st) (s : Same H H') : StAt H' p st := let ⟨wa, h1, h2⟩ := h; ⟨wa, s _ _ h1, s _ _ h2⟩
theorem oV_at {ws : Win} {i : Nat} {o : Option Int} (h : ws[i]? = some o) : (ws.map oV)[i]? = some (oV o) := by rw [List.getElem?_map, h]; rfl
theorem back_at {ws : Win} {s : Int} (h1 : 1 ≤ s) (h2 : s ≤ ws.length) : atI (ws.map oV) (-s) = some (oV (back ws s)) := by
  obtain ⟨n, rfl⟩ : ∃ n : Nat, s = n := ⟨s.toNat, by omega⟩
  refine at_neg (by omega) (by rw [List.length_map]; omega) ?_
  rw [List.length_map]
  have hi : ws.length - n < ws.length := by omega
  have e : ws[ws.length - n]? = some ws[ws.length - n] := List.getElem?_eq_getElem hi
  rw [oV_at e]
  unfold back
  rw [List.getD_eq_getElem?_getD, Int.toNat_natCast, e]
  rfl
def spCalled (K : PySem.W.Frag) : Sp := fun vs H Q _ => ∃ (r wa : Addr) (ns : List Int) (ws : Win), vs = [.ref r, .ref wa] ∧ SqT K H r (ns.map V.int) ∧ SqT K H wa (ws.map oV) ∧ ns.length ≤ 100 ∧ (∀ s ∈ ns, 1 ≤ s ∧ s ≤ ws.length) ∧
  ∀ H', Same H H' → Q (oV (calledAt ns ws)) H'
theorem cal_called_at (z : Z mg) (D : Def K mg "called_at" s_called_at p_called_at) : Cal P w K mg base 2 "called_at" p_called_at (spCalled K) := by
  refine D.cal sc_called_at (fun vs H Q E h => by obtain ⟨_, _, _, _, rfl, _⟩ := h; rfl) fun f cdv A outer s H vs Q E hr h => ?_
  obtain ⟨r, wa, ns, ws, rfl, hr1, hw, hl, hst, q⟩ := h
  refine ⟨_, (pss_cons (ps_setLc (i := 2) (own := [("place", 3), ("step", 4)]) (g := (gTup K 2 (gCons (gName 3) (gCons (gName 4) gNil)))) rfl sc_called_at.nd rfl rfl (sw_true rfl rfl rfl (by decide +kernel)) (pi_enumT (by rfl) z.«enumerate» (pa_cons (pv 0) pa_nil) (pk_cons pe_int pk_nil)) (blkOk_by (N := n_called_at) (sc := defScope s_called_at) (by decide +kernel)) (fun _ _ _ _ _ => (pg_tup rfl (pgs_cons (pg_name (i := 3) sc_called_at.nd rfl (Or.inl rfl)) (pgs_cons (pg_name (i := 4) sc_called_at.nd rfl (Or.inl rfl)) pgs_nil)))) (fun _ _ _ _ _ => (pts_one (pt_cmpR op_notN (pe_ix (ix_tupK (K := K) rfl) (pv 1) (pe_un un_neg (pv 4)) (fun _ _ => rfl)) pe_non (nomark _)))) (fun _ _ _ _ _ => (pe_op op_add (pe_ix (ix_tupK (K := K) rfl) (pv 1) (pe_un un_neg (pv 4)) (fun _ _ => rfl)) (pv 3))))
        (pss_one (ps_ret (pe_callBK (cr_minDef rfl (hu_of hr)) (by rfl) z.«min» (by decide +kernel) (pa_cons (pv 2) pa_nil) (pk_cons pe_non pk_nil))))), ?_⟩
  refine ⟨.ref r, rfl, r, _, 1, rfl, rfl, by omega, by omega, hr1, fun L nL => ?_⟩
  refine lc_std (walk_enumT (K := K) (a := r) (k := 1) (xs := ns.map V.int)) (ns.zipIdx 1) (fun p => (callAt ws p).map V.int) (by rw [List.length_zipIdx, List.length_map]) (small1000 (by rw [List.length_map]; omega)) nL (fun H2 s2 => s2.tup hr1) (fun i x H2 H3 p R hp s2 y hR => ?_) (fun H2 s2 e => ?_)
  · obtain ⟨T, v1, v2, rfl, nT, rfl, g1, g2⟩ := y
    have sT : Same H2 (upd H2 T (.tup [v1, v2])) := same_upd nT
    rw [List.getElem?_zipIdx] at hp
    cases er : ns[i]? with
    | none => rw [er] at hp; cases hp
    | some sp =>
      rw [er] at hp
      have ep : p = (sp, 1 + i) := (Option.some.inj hp).symm
      subst ep
      obtain rfl := map_at er g2
      have e1 : v1 = .int (1 + (i : Nat)) := (Option.some.inj g1).symm
      subst e1
      obtain ⟨b1, b2⟩ := hst sp (List.mem_of_getElem? er)
      refine ⟨T, _, rfl, .inl (.inl upd_same), rfl, _, _, rfl, _, _, rfl, rfl, rfl, ?_⟩
      refine ⟨.ref wa, rfl, _, rfl, sp, rfl, wa, _, _, _, rfl, rfl, sT.tup (s2.tup hw), back_at b1 b2, rfl, ?_⟩
      cases eb : back ws sp with
      | none =>
        refine ⟨false, rfl, iteF ?_⟩
        have hc : callAt ws (sp, 1 + i) = none := by unfold callAt; rw [eb]; rfl
        rw [hc] at hR
        exact hR _ sT
      | some t =>
        refine ⟨true, rfl, iteT ?_⟩
        have hc : callAt ws (sp, 1 + i) = some (t + ((1 + i : Nat) : Int)) := by unfold callAt; rw [eb]; rfl
        rw [hc] at hR
        have e3 : (1 : Int) + (i : Nat) = ((1 + i : Nat) : Int) := by omega
        have hb := back_at b1 b2
        rw [eb] at hb
        refine ⟨.ref wa, rfl, _, rfl, sp, rfl, wa, _, _, _, rfl, rfl, sT.tup (s2.tup hw), hb, .int (1 + (i : Nat)), rfl, t, _, rfl, rfl, ?_⟩
        rw [e3]
        exact hR _ sT
  · have e2 : (ns.zipIdx 1).filterMap (fun p => (callAt ws p).map V.int) = (calls ns ws).map V.int := by
      unfold calls
      rw [List.map_filterMap]
    rw [e2] at e
    refine ⟨.ref L, rfl, L, calls ns ws, .non, rfl, rfl, .inl (.inl e), ?_⟩
    have z2 := q H2 s2
    unfold calledAt at z2
    cases el : leastO (calls ns ws) with
    | none => rw [el] at z2; exact z2
    | some m => rw [el] at z2; exact z2
def spPerson (K : PySem.W.Frag) : Sp := fun vs H Q _ => ∃ (p : Addr) (st : LState) (o : Option Int), vs = [.ref p, oV o] ∧ StAt H p st ∧ st.1.length ≤ 100 ∧ ∀ H' p', Same H H' → StAt H' p' (behindP st o) → Q (.ref p') H'
theorem cal_behind_person (z : Z mg) (D : Def K mg "_behind_person" s__behind_person p__behind_person) : Cal P w K mg base 2 "_behind_person" p__behind_person (spPerson K) := by
  refine D.cal sc__behind_person (fun vs H Q E h => by obtain ⟨_, _, _, rfl, _⟩ := h; rfl) fun f cdv A outer s H vs Q E hr h => ?_
  obtain ⟨p, st, o, rfl, ⟨wa, hp, hw⟩, hl, q⟩ := h
  refine ⟨_, (pss_cons (ps_asg (pv 0) (pg_tup rfl (pgs_cons (pg_name (i := 2) sc__behind_person.nd rfl (Or.inl rfl)) (pgs_cons (pg_name (i := 3) sc__behind_person.nd rfl (Or.inl rfl)) pgs_nil))))
        (pss_cons (ps_if (PW.pt (pw_and (pt_cmpR op_notN (pv 1) pe_non (nomark _)) (pw_and1 (pt_cmpR op_gt (pv 1) (pv 3) (nomark _))))) (pss_one (ps_set (i := 3) sc__behind_person.nd rfl (Or.inl rfl) (pv 1))) pss_nil)
        (pss_one (ps_ret (pe_tup (pa_cons (pe_op op_catA (pe_slice sl_tupA (pv 2) (po_some pe_int) po_none) (pe_tup (pa_cons (pv 1) pa_nil))) (pa_cons (pv 3) pa_nil))))))), ?_⟩
  refine ⟨.ref p, rfl, p, _, rfl, .inl (.inl hp), rfl, _, _, rfl, _, _, rfl, rfl, ?_⟩
  have fin : ∀ σ : L2.St, σ[1]? = some (some (oV o)) → σ[2]? = some (some (V.ref wa)) → σ[3]? = some (some (V.int (lastOf o st.2))) →
      tTup (tCons (tOp (rCatA K) (tSl (rSlA K) (tVar 2) (tPart (tC (.int 1))) tNoPart) (tTup (tCons (tVar 1) tNil))) (tCons (tVar 3) tNil)) σ H Q := fun σ h1 h2 h3 => by
    refine ⟨_, h2, 1, rfl, ?_⟩
    dsimp only [tNoPart]
    refine sl_tail (.inl (.inl hw)) fun c Hc sm hc => ?_
    refine ⟨_, h1, (by decide : 1 ≤ sizeLine), fun b nb => ?_⟩
    have sb : Same Hc (upd Hc b (.tup [oV o])) := same_upd nb
    refine cat_new (sb.tup hc) upd_same (by simp) (by rw [List.length_tail, List.length_map]; simp; omega) fun d Hd sd hd => ?_
    refine ⟨_, h3, (by decide : 2 ≤ sizeLine), fun e ne => ?_⟩
    have se : Same Hd (upd Hd e (.tup [.ref d, .int (lastOf o st.2)])) := same_upd ne
    refine q _ e (sm.trans (sb.trans (sd.trans se))) ⟨d, upd_same, se _ _ ?_⟩
    rw [hd]
    show some (HO.tup ((st.1.map oV).tail ++ [oV o])) = some (HO.tup ((st.1.tail ++ [o]).map oV))
    rw [List.map_append, List.map_tail]
    rfl
  cases o with
  | none => exact ⟨.non, rfl, rfl, false, rfl, iteF (iteF (fin [some (.ref p), some .non, some (.ref wa), some (.int st.2)] rfl rfl rfl))⟩
  | some t =>
    refine ⟨.int t, rfl, rfl, true, rfl, iteT ⟨.int t, rfl, .int st.2, rfl, t, st.2, rfl, rfl, _, rfl, ?_⟩⟩
    by_cases c : st.2 < t
    · rw [decide_eq_true c]
      refine iteT ⟨.int t, rfl, fin [some (.ref p), some (.int t), some (.ref wa), some (.int t)] rfl rfl ?_⟩
      show some (some (V.int t)) = some (some (V.int (if st.2 < t then t else st.2)))
      rw [if_pos c]
    · rw [decide_eq_false c]
      refine iteF (fin [some (.ref p), some (.int t), some (.ref wa), some (.int st.2)] rfl rfl ?_)
      show some (some (V.int st.2)) = some (some (V.int (if st.2 < t then t else st.2)))
      rw [if_neg c]
def spLater (K : PySem.W.Frag) : Sp := fun vs H Q _ => ∃ (wa : Addr) (ws : Win) (m : Int), vs = [.ref wa, .int m] ∧ SqT K H wa (ws.map oV) ∧ ws.length ≤ 100 ∧ ∀ H' c, Same H H' → H' c = some (.tup ((laterW ws m).map oV)) → Q (.ref c) H'
theorem cal_later (z : Z mg) (D : Def K mg "_later" s__later p__later) : Cal P w K mg base 2 "_later" p__later (spLater K) := by
  refine D.cal sc__later (fun vs H Q E h => by obtain ⟨_, _, _, rfl, _⟩ := h; rfl) fun f cdv A outer s H vs Q E hr h => ?_
  obtain ⟨wa, ws, m, rfl, hw, hl, q⟩ := h
  refine ⟨_, (pss_one (ps_ret (pe_callTy (call_tuple_of) (by rfl) z.«tuple» (by decide +kernel) (pa_cons (pe_lc (own := [("tick", 2)]) (g := (gName 2)) (tt := tYes) rfl sc__later.nd (pi_tup (pv 0)) (blkOk_by (N := n__later) (sc := defScope s__later) (by decide +kernel)) (fun _ _ _ _ _ => (pg_name (i := 2) sc__later.nd rfl (Or.inl rfl))) (fun _ _ _ _ _ => pts_nil) (fun _ _ _ _ _ => (pe_ifExp (pt_cmpR op_isN (pv 2) pe_non (nomark _)) pe_non (pe_op op_add (pv 2) (pv 1))))) pa_nil)))), ?_⟩
  refine ⟨.ref wa, rfl, wa, rfl, ⟨_, hw⟩, fun L nL => ?_⟩
  refine lc_std (walk_tup (K := K) (a := wa) (xs := ws.map oV)) ws (fun o => some (oV (o.map (· + m)))) (by rw [List.length_map]) (small1000 (by rw [List.length_map]; omega)) nL (fun H2 s2 => s2.tup hw) (fun i x H2 H3 o R ho s2 y hR => ?_) (fun H2 s2 e => ?_)
  · obtain ⟨rfl, g⟩ := y
    obtain rfl := map_at ho g
    refine ⟨rfl, ?_⟩
    cases o with
    | none => exact ⟨.non, rfl, rfl, true, rfl, iteT (hR _ (Same.refl _))⟩
    | some t => exact ⟨.int t, rfl, rfl, false, rfl, iteF ⟨.int t, rfl, .int m, rfl, t, m, rfl, rfl, hR _ (Same.refl _)⟩⟩
  · rw [filterMap_some] at e
    have e2 : ws.map (fun o => oV (o.map (· + m))) = (laterW ws m).map oV := by
      unfold laterW
      rw [List.map_map]
      rfl
    rw [e2] at e
    exact ⟨L, _, rfl, .inl ⟨.inl (.inl e), fun l nl => q _ l (s2.trans (same_upd nl)) upd_same⟩⟩
/-! ### many people more -/
structure Good (ns : List Int) (st : LState) : Prop where
  rl : ns.length ≤ 4
  fit : ∀ s ∈ ns, 1 ≤ s ∧ s ≤ st.1.length
  l1 : 1 ≤ st.1.length
  l2 : st.1.length ≤ 100
theorem Good.few {ns : List Int} {st : LState} (g : Good ns st) (n : Nat) : Good ns (few ns n st) := by
  have e := few_len ns n st g.l1
  exact ⟨g.rl, fun s hs => by rw [e]; exact g.fit s hs, by rw [e]; exact g.l1, by rw [e]; exact g.l2⟩
theorem Good.step {ns : List Int} {st : LState} (g : Good ns st) (o : Option Int) : Good ns (behindP st o) := by
  have e := behindP_len st o g.l1
  exact ⟨g.rl, fun s hs => by rw [e]; exact g.fit s hs, by rw [e]; exact g.l1, by rw [e]; exact g.l2⟩
theorem Good.win {ns : List Int} {st : LState} (g : Good ns st) (ws : Win) (l : Int) (e : ws.length = st.1.length) : Good ns (ws, l) :=
  ⟨g.rl, fun s hs => by show 1 ≤ s ∧ s ≤ (ws.length : Int); rw [e]; exact g.fit s hs, by show 1 ≤ ws.length; rw [e]; exact g.l1, by show ws.length ≤ 100; rw [e]; exact g.l2⟩
def spFew (K : PySem.W.Frag) : Sp := fun vs H Q _ => ∃ (r p : Addr) (ns : List Int) (st : LState) (c : Nat), vs = [.ref r, .ref p, .int c] ∧ SqT K H r (ns.map V.int) ∧ StAt H p st ∧ Good ns st ∧ c < 2 ^ 40 ∧
  ∀ H' p', Same H H' → StAt H' p' (few ns c st) → Q (.ref p') H'
theorem cal_few (z : Z mg) (c_called_at : Cal P w K mg base 2 "called_at" p_called_at (spCalled K)) (c__behind_person : Cal P w K mg base 2 "_behind_person" p__behind_person (spPerson K)) (D : Def K mg "_behind_few" s__behind_few p__behind_few) :
    Cal P w K mg base 3 "_behind_few" p__behind_few (spFew K) := by
  refine D.cal sc__behind_few (fun vs H Q E h => by obtain ⟨_, _, _, _, _, rfl, _⟩ := h; rfl) fun f cdv A outer s H vs Q E hr h => ?_
  obtain ⟨r, p, ns, st, c, rfl, hr1, hp, hg, hc, q⟩ := h
  refine ⟨_, (pss_cons (ps_for PassesOwn.never rfl (pi_range1 (by rfl) z.«range» (pa_cons (pv 2) pa_nil)) (pg_name (i := 3) sc__behind_few.nd rfl (Or.inl rfl)) (pss_one (ps_set (i := 1) sc__behind_few.nd rfl (Or.inl rfl) (pe_cal c__behind_person (hr.mono (by decide)) (by rfl) (pa_cons (pv 1) (pa_cons (pe_cal c_called_at (hr.mono (by decide)) (by rfl) (pa_cons (pv 0) (pa_cons (pe_ix ix_tup (pv 1) pe_int (fun _ _ => rfl)) pa_nil))) pa_nil))))))
        (pss_one (ps_ret (pv 1)))), ?_⟩
  refine ⟨.int c, rfl, c, rfl, by omega, by omega, ?_⟩
  refine for_it (walk_range (lo := 0) (n := (c : Int).toNat)) (fun i σ H2 => ∃ p2 y, σ = [some (.ref r), some (.ref p2), some (.int c), y] ∧ Same H H2 ∧ StAt H2 p2 (few ns i st)) ⟨p, none, rfl, Same.refl H, hp⟩ (fun _ _ _ _ _ => trivial) (fun i x σ H2 H3 hi hW y => ?_) (fun σ H2 hW => ?_)
  · obtain ⟨p2, y2, rfl, s2, hp2⟩ := hW
    obtain ⟨rfl, rfl⟩ := y
    obtain ⟨wa, h1, h2⟩ := id hp2
    have g2 := hg.few i
    refine ⟨.ref p2, rfl, .ref r, rfl, .ref p2, rfl, p2, _, 0, _, rfl, rfl, .inl (.inl h1), rfl, ?_⟩
    refine ⟨r, wa, ns, _, rfl, s2.tup hr1, .inl (.inl h2), by have := hg.rl; omega, g2.fit, fun H4 s4 => ?_⟩
    refine ⟨p2, _, _, rfl, hp2.same s4, g2.l2, fun H5 p5 s5 h5 => ?_⟩
    refine ⟨p5, _, rfl, s2.trans (s4.trans s5), ?_⟩
    rw [few_succ]
    exact h5
  · obtain ⟨p2, y2, rfl, s2, hp2⟩ := hW
    rw [Int.toNat_natCast] at hp2
    exact ⟨.ref p2, rfl, q _ _ s2 hp2⟩
end
end LK
namespace LK
open PySem PySem.Spec PyProof.Rows L2 CD
section
variable {P : Program} {w : World} {K : PySem.W.Frag} {mg : Str → Option Value} {base : Heap}
theorem fdiv_nat (a b : Nat) : Int.fdiv (a : Int) (b : Int) = ((a / b : Nat) : Int) := by
  rw [Int.fdiv_eq_ediv_of_nonneg _ (by omega)]
  rfl
def spRounds (K : PySem.W.Frag) : Sp := fun vs H Q _ => ∃ (r p : Addr) (ns : List Int) (st : LState) (c z : Nat) (m : Int), vs = [.ref r, .ref p, .int c, .int z, .int m] ∧ SqT K H r (ns.map V.int) ∧ StAt H p st ∧ Good ns st ∧ 1 ≤ z ∧ z ≤ 2 ^ 26 ∧ 0 ≤ m ∧ m ≤ 2 ^ 40 ∧
  ∀ H' p', Same H H' → StAt H' p' (few ns (c - (c / z - 1) * z) (laterW st.1 (((c / z - 1 : Nat) : Int) * m), st.2)) → Q (.ref p') H'
theorem cal_rounds (z : Z mg) (c__later : Cal P w K mg base 2 "_later" p__later (spLater K)) (c__behind_few : Cal P w K mg base 3 "_behind_few" p__behind_few (spFew K)) (D : Def K mg "_behind_rounds" s__behind_rounds p__behind_rounds) :
    Cal P w K mg base 4 "_behind_rounds" p__behind_rounds (spRounds K) := by
  refine D.cal sc__behind_rounds (fun vs H Q E h => by obtain ⟨_, _, _, _, _, _, _, rfl, _⟩ := h; rfl) fun f cdv A outer s H vs Q E hr h => ?_
  obtain ⟨r, p, ns, st, c, zz, m, rfl, hr1, hp, hg, z1, z2, m1, m2, q⟩ := h
  obtain ⟨wa, h1, h2⟩ := id hp
  refine ⟨_, (pss_cons (ps_set (i := 5) sc__behind_rounds.nd rfl (Or.inl rfl) (pe_callB (call_max2 rfl) (by rfl) z.«max» (by decide +kernel) (pa_cons pe_int (pa_cons (pe_op op_sub (pe_op op_fdivN (pv 2) (pv 3)) pe_int) pa_nil))))
        (pss_cons (ps_asg (pv 1) (pg_tup rfl (pgs_cons (pg_name (i := 6) sc__behind_rounds.nd rfl (Or.inl rfl)) (pgs_cons (pg_name (i := 7) sc__behind_rounds.nd rfl (Or.inl rfl)) pgs_nil))))
        (pss_cons (ps_set (i := 8) sc__behind_rounds.nd rfl (Or.inl rfl) (pe_tup (pa_cons (pe_cal c__later (hr.mono (by decide)) (by rfl) (pa_cons (pv 6) (pa_cons (pe_op op_mul (pv 5) (pv 4)) pa_nil))) (pa_cons (pv 7) pa_nil))))
        (pss_one (ps_ret (pe_cal c__behind_few (hr.mono (by decide)) (by rfl) (pa_cons (pv 0) (pa_cons (pv 8) (pa_cons (pe_op op_sub (pv 2) (pe_op op_mul (pv 5) (pv 3))) pa_nil))))))))), ?_⟩
  generalize hR : c / zz - 1 = R at q
  have eR : (if (Int.fdiv (c : Int) (zz : Int) - 1) > 0 then (Int.fdiv (c : Int) (zz : Int) - 1) else 0) = (R : Int) := by
    rw [fdiv_nat]
    split <;> omega
  have hz : zz * (c / zz) ≤ c := Nat.mul_div_le c zz
  have hle : R * zz ≤ c := by
    rw [← hR, Nat.mul_comm]
    exact Nat.le_trans (Nat.mul_le_mul_left _ (Nat.sub_le _ _)) hz
  have hlt : c - R * zz < 2 ^ 40 := by
    have e := Nat.div_add_mod c zz
    have l := Nat.mod_lt c (show zz > 0 by omega)
    have k : zz * (c / zz) ≤ R * zz + zz := by
      have : c / zz ≤ R + 1 := by omega
      calc zz * (c / zz) ≤ zz * (R + 1) := Nat.mul_le_mul_left _ this
        _ = R * zz + zz := by rw [Nat.mul_add, Nat.mul_one, Nat.mul_comm]
    omega
  refine ⟨.int c, rfl, .int zz, rfl, c, zz, rfl, rfl, ⟨by omega, by omega⟩, _, 1, rfl, rfl, 0, _, rfl, ?_⟩
  rw [eR]
  refine ⟨.ref p, rfl, p, _, rfl, .inl (.inl h1), rfl, _, _, rfl, _, _, rfl, rfl, ?_⟩
  refine ⟨.ref wa, rfl, .int R, rfl, .int m, rfl, R, m, rfl, rfl, .inr ⟨by omega, by omega⟩, ?_⟩
  refine ⟨wa, st.1, (R : Int) * m, rfl, .inl (.inl h2), hg.l2, fun H1 c1 s1 hc1 => ?_⟩
  refine ⟨.int st.2, rfl, (by decide : 2 ≤ sizeLine), fun p1 np1 => ?_⟩
  have s2 : Same H1 (upd H1 p1 (.tup [.ref c1, .int st.2])) := same_upd np1
  have e3 : (c : Int) - (R : Int) * (zz : Int) = ((c - R * zz : Nat) : Int) := by
    rw [Int.ofNat_sub hle, Int.natCast_mul]
  refine ⟨.ref r, rfl, .ref p1, rfl, .int c, rfl, .int R, rfl, .int zz, rfl, R, zz, rfl, rfl, .inr ⟨by omega, by omega⟩, c, _, rfl, rfl, ?_⟩
  refine ⟨r, p1, ns, (laterW st.1 ((R : Int) * m), st.2), c - R * zz, by rw [← e3]; rfl, s2.tup (s1.tup hr1), ⟨c1, upd_same, s2 _ _ hc1⟩, hg.win _ _ (laterW_len _ _), hlt, fun H3 p3 s3 h3 => ?_⟩
  exact q H3 p3 (s1.trans (s2.trans s3)) h3
/-- the shapes come again soon, or there are few people -/
def Rep (ns : List Int) (ws : Win) (c : Nat) : Prop := ∃ N, N ≤ 2 ^ 22 ∧ (c ≤ N ∨ ∃ i j, i < j ∧ j ≤ N ∧ shapeOf (winN ns i ws) = shapeOf (winN ns j ws))
theorem valO_some {ds : List (OKey × Addr × V)} {k : OKey} {v : V} (h : valO ds k = some v) : ∃ (i : Nat) (b : Addr), ds[i]? = some (k, b, v) := by
  unfold valO at h
  obtain ⟨p, hp, e⟩ := Option.map_eq_some_iff.mp h
  have hm := List.mem_of_find?_eq_some hp
  have hk : p.1 = k := of_decide_eq_true (by simpa using List.find?_some hp)
  obtain ⟨i, hi⟩ := List.mem_iff_getElem?.mp hm
  refine ⟨i, p.2.1, ?_⟩
  rw [hi, ← hk, ← e]
theorem valO_none {ds : List (OKey × Addr × V)} {k : OKey} (h : valO ds k = none) : ∀ p ∈ ds, p.1 ≠ k := by
  unfold valO at h
  have e := Option.map_eq_none_iff.mp h
  intro p hp hk
  have := List.find?_eq_none.mp e p hp
  simp [hk] at this
structure Many (P : Program) (w : World) (ns : List Int) (st : LState) (c j : Nat) (H : Hp) (d : Addr) (ds : List (OKey × Addr × V)) : Prop where
  jc : j ≤ c
  dict : H d = some (DO P w d ds)
  keys : KeysO H ds
  len : ds.length = j
  ent : ∀ i k b v, ds[i]? = some (k, b, v) → k = shapeOf (winN ns i st.1) ∧ ∃ t, v = .ref t ∧ H t = some (.tup [.int ((c : Int) - i), .int (baseOf (winN ns i st.1))])
  dis : ∀ i i2, i < i2 → i2 < j → shapeOf (winN ns i st.1) ≠ shapeOf (winN ns i2 st.1)
theorem Many.same {ns : List Int} {st : LState} {c j : Nat} {H H' : Hp} {d : Addr} {ds : List (OKey × Addr × V)} (m : Many P w ns st c j H d ds) (s : Same H H') : Many P w ns st c j H' d ds :=
  ⟨m.jc, s _ _ m.dict, fun p hp => s _ _ (m.keys p hp), m.len, fun i k b v h => by
    obtain ⟨e, t, et, ht⟩ := m.ent i k b v h
    exact ⟨e, t, et, s _ _ ht⟩, m.dis⟩
theorem told_list (ws : Win) : ws.filterMap (fun o => o.map V.int) = (told ws).map V.int := by
  unfold told
  rw [List.map_filterMap]
  rfl
theorem base_val (ws : Win) : orD (V.int 0) (leastO (told ws)) = V.int (baseOf ws) := by
  unfold baseOf
  cases leastO (told ws) <;> rfl
def spFirst : Sp := fun vs H Q _ => ∃ R : Nat, vs = [.int R] ∧ 1 ≤ R ∧ R ≤ 100 ∧ ∀ H' p, Same H H' → H' p = some (.tup ((stInit R).1.map oV)) → Q (.ref p) H'
theorem cal_first (z : Z mg) (D : Def K mg "first_window" s_first_window p_first_window) : Cal P w K mg base 2 "first_window" p_first_window spFirst := by
  refine D.cal sc_first_window (fun vs H Q E h => by obtain ⟨_, rfl, _⟩ := h; rfl) fun f cdv A outer s H vs Q E hr h => ?_
  obtain ⟨R, rfl, r1, r2, q⟩ := h
  refine ⟨_, (pss_one (ps_ret (pe_op op_catA (pe_op op_repA (pe_tup (pa_cons pe_non pa_nil)) (pe_op op_sub (pv 0) pe_int)) (pe_tup (pa_cons pe_int pa_nil))))), ?_⟩
  refine ⟨(by decide : 1 ≤ sizeLine), fun t1 nt1 => ?_⟩
  have s1 : Same H (upd H t1 (.tup [.non])) := same_upd nt1
  refine ⟨.int R, rfl, R, 1, rfl, rfl, ?_⟩
  have eM : (R : Int) - 1 = ((R - 1 : Nat) : Int) := by omega
  refine rep_any (congrArg V.int eM) (.inl (.inl upd_same)) (by simp) (by omega) (by simp) fun c Hc sm hc => ?_
  rw [flat_one] at hc
  refine ⟨(by decide : 1 ≤ sizeLine), fun t2 nt2 => ?_⟩
  have s2 : Same Hc (upd Hc t2 (.tup [.int 0])) := same_upd nt2
  refine cat_new (s2.tup hc) upd_same (by simp) (by rw [List.length_replicate]; simp; omega) fun d Hd sd hd => ?_
  refine q Hd d (s1.trans (sm.trans (s2.trans sd))) ?_
  rw [hd]
  unfold stInit
  rw [List.map_append, List.map_replicate]
  rfl
def spLow (K : PySem.W.Frag) : Sp := fun vs H Q _ => ∃ (wa : Addr) (ws : Win), vs = [.ref wa] ∧ SqT K H wa (ws.map oV) ∧ ws.length ≤ 100 ∧
  ∀ H' p c, Same H H' → H' p = some (.tup [.int (baseOf ws), .ref c]) → H' c = some (.tup ((shapeOf ws).map oV)) → Q (.ref p) H'
theorem cal_low (z : Z mg) (c__later : Cal P w K mg base 2 "_later" p__later (spLater K)) (D : Def K mg "low_and_shape" s_low_and_shape p_low_and_shape) : Cal P w K mg base 3 "low_and_shape" p_low_and_shape (spLow K) := by
  refine D.cal sc_low_and_shape (fun vs H Q E h => by obtain ⟨_, _, rfl, _⟩ := h; rfl) fun f cdv A outer s H vs Q E hr h => ?_
  obtain ⟨wa, ws, rfl, hw, hl, q⟩ := h
  refine ⟨_, (pss_cons (ps_set (i := 1) sc_low_and_shape.nd rfl (Or.inl rfl) (pe_callBK (cr_minDef rfl (hu_of hr)) (by rfl) z.«min» (by decide +kernel) (pa_cons (pe_lc (own := [("tick", 2)]) (g := (gName 2)) rfl sc_low_and_shape.nd (pi_tup (pv 0)) (blkOk_by (N := n_low_and_shape) (sc := defScope s_low_and_shape) (by decide +kernel)) (fun _ _ _ _ _ => (pg_name (i := 2) sc_low_and_shape.nd rfl (Or.inl rfl))) (fun _ _ _ _ _ => (pts_one (pt_cmpR op_notN (pv 2) pe_non (nomark _)))) (fun _ _ _ _ _ => (pv 2))) pa_nil) (pk_cons pe_int pk_nil)))
        (pss_one (ps_ret (pe_tup (pa_cons (pv 1) (pa_cons (pe_cal c__later (hr.mono (by decide)) (by rfl) (pa_cons (pv 0) (pa_cons (pe_un un_neg (pv 1)) pa_nil))) pa_nil)))))), ?_⟩
  refine ⟨.ref wa, rfl, wa, rfl, ⟨_, hw⟩, fun L nL => ?_⟩
  refine lc_std (walk_tup (K := K) (a := wa) (xs := ws.map oV)) ws (fun o => o.map V.int) (by rw [List.length_map]) (small1000 (by rw [List.length_map]; omega)) nL (fun H4 s4 => s4.tup hw) (fun i x H4 H5 o R ho s4 y hR => ?_) (fun H4 s4 e => ?_)
  · obtain ⟨rfl, g⟩ := y
    obtain rfl := map_at ho g
    refine ⟨rfl, ?_⟩
    cases o with
    | none => exact ⟨.non, rfl, rfl, false, rfl, iteF (hR _ (Same.refl _))⟩
    | some t => exact ⟨.int t, rfl, rfl, true, rfl, iteT ⟨.int t, rfl, hR _ (Same.refl _)⟩⟩
  rw [told_list] at e
  refine ⟨L, _, .int 0, rfl, rfl, .inl (.inl e), ?_⟩
  rw [base_val]
  refine ⟨_, rfl, .ref wa, rfl, _, rfl, baseOf ws, rfl, wa, ws, -baseOf ws, rfl, s4.tup hw, hl, fun H5 c5 s5 h5 => ⟨(by decide : 2 ≤ sizeLine), fun p np => ?_⟩⟩
  have sp := same_upd (o := .tup [.int (baseOf ws), .ref c5]) np
  exact q _ p c5 (s4.trans (s5.trans sp)) upd_same (sp _ _ h5)
def spMany (K : PySem.W.Frag) : Sp := fun vs H Q _ => ∃ (r p : Addr) (ns : List Int) (st : LState) (c : Nat), vs = [.ref r, .ref p, .int c] ∧ SqT K H r (ns.map V.int) ∧ StAt H p st ∧ Good ns st ∧ Rep ns st.1 c ∧
  ∀ H' p', Same H H' → StAt H' p' (few ns c st) → Q (.ref p') H'
theorem cal_many (z : Z mg) (c_low_and_shape : Cal P w K mg base 3 "low_and_shape" p_low_and_shape (spLow K)) (c__behind_few : Cal P w K mg base 3 "_behind_few" p__behind_few (spFew K)) (c__behind_rounds : Cal P w K mg base 4 "_behind_rounds" p__behind_rounds (spRounds K))
    (D : Def K mg "_behind_many" s__behind_many p__behind_many) : Cal P w K mg base 5 "_behind_many" p__behind_many (spMany K) := by
  refine D.cal sc__behind_many (fun vs H Q E h => by obtain ⟨_, _, _, _, _, rfl, _⟩ := h; rfl) fun f cdv A outer s H vs Q E hr h => ?_
  obtain ⟨r, p, ns, st, c, rfl, hr1, hp, hg, ⟨N, hN, hrep⟩, q⟩ := h
  have hu := hu_of hr
  refine ⟨_, (pss_cons (ps_set (i := 3) sc__behind_many.nd rfl (Or.inl rfl) pe_dnewO)
        (pss_cons (ps_set (i := 4) sc__behind_many.nd rfl (Or.inl rfl) (pv 2))
        (pss_cons (ps_while PassesOwn.never (pt_cmpR op_gt (pv 4) pe_int (nomark _)) (pss_cons (ps_asg (pe_cal c_low_and_shape (hr.mono (by decide)) (by rfl) (pa_cons (pe_ix ix_tup (pv 1) pe_int (fun _ _ => rfl)) pa_nil)) (pg_tup rfl (pgs_cons (pg_name (i := 5) sc__behind_many.nd rfl (Or.inl rfl)) (pgs_cons (pg_name (i := 6) sc__behind_many.nd rfl (Or.inl rfl)) pgs_nil))))
        (pss_cons (ps_if (pt_cmp (pc_oin hu (pv 6) (pv 3))) (pss_cons (ps_asg (pe_oget hu (pv 3) (pv 6) (fun _ _ => rfl)) (pg_tup rfl (pgs_cons (pg_name (i := 7) sc__behind_many.nd rfl (Or.inl rfl)) (pgs_cons (pg_name (i := 8) sc__behind_many.nd rfl (Or.inl rfl)) pgs_nil))))
        (pss_one (ps_ret (pe_cal c__behind_rounds (hr.mono (by decide)) (by rfl) (pa_cons (pv 0) (pa_cons (pv 1) (pa_cons (pv 4) (pa_cons (pe_op op_sub (pv 7) (pv 4)) (pa_cons (pe_op op_sub (pv 5) (pv 8)) pa_nil))))))))) pss_nil)
        (pss_cons (ps_oput hu (pv 3) (pv 6) (pe_tup (pa_cons (pv 4) (pa_cons (pv 5) pa_nil))) rfl)
        (pss_cons (ps_set (i := 1) sc__behind_many.nd rfl (Or.inl rfl) (pe_cal c__behind_few (hr.mono (by decide)) (by rfl) (pa_cons (pv 0) (pa_cons (pv 1) (pa_cons pe_int pa_nil)))))
        (pss_one (ps_aug (i := 4) sc__behind_many.nd rfl (Or.inl rfl) pe_int ip_sub)))))))
        (pss_one (ps_ret (pv 1)))))), ?_⟩
  intro d nd
  have s0 : Same H (upd H d (DO P w d [])) := same_upd nd
  refine ⟨_, rfl, ?_⟩
  refine ⟨fun m σ H2 => ∃ j pj ds y5 y6 y7 y8, m = c - j ∧ σ = [some (.ref r), some (.ref pj), some (.int c), some (.ref d), some (.int ((c : Int) - (j : Nat))), y5, y6, y7, y8] ∧ Same H H2 ∧ StAt H2 pj (few ns j st) ∧ Many P w ns st c j H2 d ds,
    ⟨c, 0, p, [], none, none, none, none, rfl, ?_, s0, hp.same s0, ⟨Nat.zero_le _, upd_same, fun _ h => (by cases h), rfl, fun _ _ _ _ h => (by simp at h), fun _ _ _ h => (by omega)⟩⟩, ?_⟩
  · show _ = [some (V.ref r), some (V.ref p), some (V.int c), some (V.ref d), some (V.int ((c : Int) - ((0 : Nat) : Int))), none, none, none, none]
    rw [show (c : Int) - ((0 : Nat) : Int) = c by omega]
    rfl
  intro m σ H2 hW
  obtain ⟨j, pj, ds, y5, y6, y7, y8, rfl, rfl, sm, hpj, M⟩ := hW
  obtain ⟨wa, h1, h2⟩ := id hpj
  have gj := hg.few j
  have ew : (few ns j st).1 = winN ns j st.1 := by rw [few_eq]
  have jc := M.jc
  refine ⟨.int ((c : Int) - (j : Nat)), rfl, _, 0, rfl, rfl, _, rfl, ?_⟩
  by_cases hj : (c : Int) - (j : Nat) > 0
  case neg =>
    rw [decide_eq_false (by omega)]
    refine iteF ⟨.ref pj, rfl, q H2 pj sm ?_⟩
    have : j = c := by omega
    rw [← this]
    exact hpj
  rw [decide_eq_true (by omega)]
  refine iteT ⟨fun σ H3 => ∃ pj ds y5 y6 y7 y8, σ = [some (.ref r), some (.ref pj), some (.int c), some (.ref d), some (.int ((c : Int) - (j + 1 : Nat))), y5, y6, y7, y8] ∧ Same H H3 ∧ StAt H3 pj (few ns (j + 1) st) ∧ Many P w ns st c (j + 1) H3 d ds,
    fun σ H3 hN => ?_, ?_⟩
  · obtain ⟨pj', ds', y5', y6', y7', y8', e, s3, h3, M3⟩ := hN
    exact ⟨c - (j + 1), by omega, j + 1, pj', ds', y5', y6', y7', y8', rfl, e, s3, h3, M3⟩
  -- base, shape
  refine ⟨.ref pj, rfl, pj, _, 0, _, rfl, rfl, .inl (.inl h1), rfl, wa, (few ns j st).1, rfl, .inl (.inl h2), gj.l2, fun H5 pq c5 sL hpq h5 => ?_⟩
  rw [ew] at hpq h5
  refine ⟨pq, _, rfl, .inl (.inl hpq), rfl, _, _, rfl, _, _, rfl, rfl, ?_⟩
  generalize hb : baseOf (winN ns j st.1) = bj
  have M5 := M.same sL
  have sm5 : Same H H5 := sm.trans sL
  have hp5 : StAt H5 pj (few ns j st) := hpj.same sL
  have h5' : H5 c5 = some (.tup ((shapeOf (winN ns j st.1)).map oV)) := h5
  -- shape in seen
  refine ⟨.ref c5, rfl, .ref d, rfl, d, c5, ds, _, rfl, rfl, M5.dict, M5.keys, h5', _, rfl, ?_⟩
  cases hv : valO ds (shapeOf (winN ns j st.1)) with
  | some v =>
    obtain ⟨i, b, hi⟩ := valO_some hv
    obtain ⟨hk, t, rfl, ht⟩ := M5.ent i _ b v hi
    have hij : i < j := by
      rw [← M5.len]
      exact (List.getElem?_eq_some_iff.mp hi).1
    refine iteT ⟨.ref d, rfl, .ref c5, rfl, d, c5, ds, _, _, rfl, rfl, M5.dict, M5.keys, h5', hv, t, _, rfl, .inl (.inl ht), rfl, _, _, rfl, _, _, rfl, rfl, ?_⟩
    obtain ⟨k, hk2⟩ : ∃ k, j = i + k := ⟨j - i, by omega⟩
    have ej : winN ns j st.1 = winN ns k (winN ns i st.1) := by rw [hk2, winN_add]
    rw [ej] at hk
    obtain ⟨e1, m1, m2⟩ := more_bounds hg.rl hk.symm
    rw [← ej] at e1 m1 m2
    -- j is small
    have hjN : j ≤ 2 ^ 22 := by
      rcases hrep with h | ⟨a, b2, hab, hbN, he⟩
      · omega
      · have : ¬ b2 < j := fun hlt => M5.dis a b2 hab hlt he
        omega
    refine ⟨.ref r, rfl, .ref pj, rfl, _, rfl, _, rfl, _, rfl, (c : Int) - i, (c : Int) - j, rfl, rfl, .int bj, rfl, .int (baseOf (winN ns i st.1)), rfl, bj, _, rfl, rfl, ?_⟩
    have a1 : (c : Int) - (i : Nat) - ((c : Int) - (j : Nat)) = (k : Nat) := by omega
    have a2 : (c : Int) - (j : Nat) = ((c - j : Nat) : Int) := by omega
    have m3 : bj - baseOf (winN ns i st.1) = baseOf (winN ns j st.1) - baseOf (winN ns i st.1) := by rw [hb]
    refine ⟨r, pj, ns, few ns j st, c - j, k, bj - baseOf (winN ns i st.1), by rw [← a1, ← a2]; rfl, sm5.tup hr1, hp5, gj, by omega, by omega, by rw [m3]; exact m1, by rw [m3]; omega, fun H6 p6 s6 h6 => ?_⟩
    refine q H6 p6 (sm5.trans s6) ?_
    have per : winN ns k (few ns j st).1 = laterW (few ns j st).1 (bj - baseOf (winN ns i st.1)) := by
      rw [ew, m3]
      conv => lhs; rw [e1, winN_later, ← ej]
    have fin := few_rounds ns (z := k) (by omega) (by rw [m3]; exact m1) per (c - j) (few ns j st).2
    have all : few ns c st = few ns (c - j) (few ns j st) := by
      rw [← few_add]
      congr 1
      omega
    rw [all]
    exact fin ▸ h6
  | none =>
    have nn := valO_none hv
    refine iteF ?_
    -- seen[shape] = (left, base)
    refine ⟨_, rfl, .int bj, rfl, (by decide : 2 ≤ sizeLine), fun t nt => ?_⟩
    have st1 : Same H5 (upd H5 t (.tup [.int ((c : Int) - (j : Nat)), .int bj])) := same_upd nt
    have M6 := M5.same st1
    have hlen : ds.length < sizeLine := by
      rw [M6.len]
      have : j ≤ 2 ^ 22 := by
        rcases hrep with h | ⟨a, b2, hab, hbN, he⟩
        · omega
        · have : ¬ b2 < j := fun hlt => M5.dis a b2 hab hlt he
          omega
      exact Nat.lt_of_le_of_lt this (by decide)
    refine ⟨.ref d, rfl, .ref c5, rfl, d, c5, ds, _, rfl, rfl, M6.dict, M6.keys, st1 _ _ h5', hv, hlen, ?_⟩
    have nod : ∀ b o, (upd H5 t (.tup [.int ((c : Int) - (j : Nat)), .int bj])) b = some o → (∀ ds', o ≠ DO P w d ds') → (upd (upd H5 t (.tup [.int ((c : Int) - (j : Nat)), .int bj])) d (DO P w d (ds ++ [(shapeOf (winN ns j st.1), c5, .ref t)]))) b = some o := fun b o e no => by
      rw [upd_ne]
      · exact e
      · rintro rfl
        rw [M6.dict] at e
        exact no _ (Option.some.inj e).symm
    generalize hH7 : upd (upd H5 t (.tup [.int ((c : Int) - (j : Nat)), .int bj])) d (DO P w d (ds ++ [(shapeOf (winN ns j st.1), c5, .ref t)])) = H7 at nod
    have tup7 : ∀ b xs, (upd H5 t (.tup [.int ((c : Int) - (j : Nat)), .int bj])) b = some (.tup xs) → H7 b = some (.tup xs) := fun b xs e => nod b _ e (fun _ z => nomatch z)
    have sm7 : Same H H7 := fun b o e => by
      have nb : b ≠ d := ne_of_none e nd
      rw [← hH7, upd_ne nb]
      exact st1 _ _ (sm5 _ _ e)
    have hp7 : StAt H7 pj (few ns j st) := by
      obtain ⟨w5, a1, a2⟩ := hp5
      exact ⟨w5, tup7 _ _ (st1 _ _ a1), tup7 _ _ (st1 _ _ a2)⟩
    have M7 : Many P w ns st c (j + 1) H7 d (ds ++ [(shapeOf (winN ns j st.1), c5, .ref t)]) := by
      refine ⟨by omega, by rw [← hH7, upd_same], fun p0 hp0 => ?_, by rw [List.length_append, M6.len]; rfl, fun i k b v hi => ?_, fun i i2 h12 h2j => ?_⟩
      · rcases List.mem_append.mp hp0 with h | h
        · exact tup7 _ _ (M6.keys p0 h)
        · rw [List.mem_singleton.mp h]
          exact tup7 _ _ (st1 _ _ h5')
      · by_cases hlt : i < ds.length
        · rw [List.getElem?_append_left hlt] at hi
          obtain ⟨e1, t1, e2, e3⟩ := M6.ent i k b v hi
          exact ⟨e1, t1, e2, tup7 _ _ e3⟩
        · rw [List.getElem?_append_right (by omega)] at hi
          have hi0 : i - ds.length = 0 := by
            cases hq : i - ds.length with
            | zero => rfl
            | succ n => rw [hq] at hi; simp at hi
          rw [hi0] at hi
          have e1 : (shapeOf (winN ns j st.1), c5, V.ref t) = (k, b, v) := Option.some.inj hi
          have ei : i = j := by have := M6.len; omega
          subst ei
          injection e1 with e1 e2
          injection e2 with e2 e3
          refine ⟨e1.symm, t, e3.symm, ?_⟩
          rw [hb]
          exact tup7 _ _ upd_same
      · by_cases hlt : i2 < j
        · exact M6.dis i i2 h12 hlt
        · have ei : i2 = j := by omega
          subst ei
          intro he
          have hi : i < ds.length := by rw [M6.len]; omega
          have hq : ds[i]? = some ds[i] := List.getElem?_eq_getElem hi
          obtain ⟨e1, _⟩ := M6.ent i ds[i].1 ds[i].2.1 ds[i].2.2 hq
          exact nn _ (List.mem_of_getElem? hq) (e1.trans he)
    -- state = _behind_few(rule, state, 1)
    subst hH7
    refine ⟨.ref r, rfl, .ref pj, rfl, r, pj, ns, few ns j st, 1, rfl, sm7.tup hr1, hp7, gj, by omega, fun H8 p8 s8 h8 => ?_⟩
    refine ⟨_, rfl, _, 1, rfl, rfl, ?_⟩
    refine ⟨p8, _, some (.int bj), some (.ref c5), y7, y8, ?_, sm7.trans s8, ?_, M7.same s8⟩
    · exact congrArg (fun v => [some (V.ref r), some (V.ref p8), some (V.int c), some (V.ref d), some (V.int v), some (V.int bj), some (V.ref c5), y7, y8]) (show (c : Int) - (j : Nat) - 1 = (c : Int) - (j + 1 : Nat) by omega)
    · have : few ns (j + 1) st = few ns 1 (few ns j st) := by rw [← few_add]
      rw [this]
      exact h8
end
end LK
namespace LK
open PySem PySem.Spec PyProof.Rows L2 CD
section
variable {P : Program} {w : World} {K : PySem.W.Frag} {mg : Str → Option Value} {base : Heap}
def RepAll (ns : List Int) : List Int → Int → Int → LState → Prop
  | [], person, people, st => Rep ns st.1 (people - person).toNat
  | g :: gs, person, people, st => if g < people then Rep ns st.1 (g - person).toNat ∧ RepAll ns gs (g + 1) people (behindP (few ns (g - person).toNat st) none) else RepAll ns gs person people st
theorem repAll_small {ns : List Int} : ∀ (gs : List Int) (person people : Int) (st : LState), ascB gs = true → (∀ k ∈ gs, person ≤ k) → 0 ≤ person → people ≤ 2 ^ 20 → RepAll ns gs person people st
  | [], person, people, st, _, _, h0, h => ⟨2 ^ 20, by decide, .inl (by omega)⟩
  | g :: gs, person, people, st, ha, hp, h0, h => by
    obtain ⟨a1, a2⟩ := asc_cons ha
    have hg := hp g List.mem_cons_self
    show if g < people then _ else _
    by_cases c : g < people
    · rw [if_pos c]
      exact ⟨⟨2 ^ 20, by decide, .inl (by omega)⟩, repAll_small gs _ _ _ a1 (fun k hk => by have := a2 k hk; omega) (by omega) h⟩
    · rw [if_neg c]
      exact repAll_small gs _ _ _ a1 (fun k hk => by have := a2 k hk; omega) h0 h
def spState (K : PySem.W.Frag) : Sp := fun vs H Q _ => ∃ (r a : Addr) (ns gs : List Int) (n : Int), vs = [.ref r, .ref a, .int n] ∧ SqT K H r (ns.map V.int) ∧ SqT K H a (gs.map V.int) ∧ IsRule ns ∧ IsAbs gs ∧ 1 ≤ n ∧ RepAll ns gs 1 n (stInit (R6 ns)) ∧
  ∀ H' p', Same H H' → StAt H' p' (behindAll ns gs 1 n (stInit (R6 ns))) → Q (.ref p') H'
theorem cal_state_behind (z : Z mg) (c_first_window : Cal P w K mg base 2 "first_window" p_first_window spFirst) (c__behind_person : Cal P w K mg base 2 "_behind_person" p__behind_person (spPerson K)) (c__behind_many : Cal P w K mg base 5 "_behind_many" p__behind_many (spMany K)) (D : Def K mg "state_behind" s_state_behind p_state_behind) :
    Cal P w K mg base 6 "state_behind" p_state_behind (spState K) := by
  refine D.cal sc_state_behind (fun vs H Q E h => by obtain ⟨_, _, _, _, _, rfl, _⟩ := h; rfl) fun f cdv A outer s H vs Q E hr h => ?_
  obtain ⟨r, a, ns, gs, n, rfl, hr1, ha, hR, hA, hn, hrep, q⟩ := h
  have hu := hu_of hr
  obtain ⟨m1, m6⟩ := hR.r
  refine ⟨_, (pss_cons (ps_set (i := 3) sc_state_behind.nd rfl (Or.inl rfl) (pe_tup (pa_cons (pe_cal c_first_window (hr.mono (by decide)) (by rfl) (pa_cons (pe_callB (cr_maxT rfl (hu_of hr)) (by rfl) z.«max» (by decide +kernel) (pa_cons (pv 0) pa_nil)) pa_nil)) (pa_cons pe_int pa_nil))))
        (pss_cons (ps_set (i := 4) sc_state_behind.nd rfl (Or.inl rfl) pe_int)
        (pss_cons (ps_for PassesOwn.never rfl (pi_tup (pv 1)) (pg_name (i := 5) sc_state_behind.nd rfl (Or.inl rfl)) (pss_one (ps_if (pt_cmpR op_lt (pv 5) (pv 2) (nomark _)) (pss_cons (ps_set (i := 3) sc_state_behind.nd rfl (Or.inl rfl) (pe_cal c__behind_person (hr.mono (by decide)) (by rfl) (pa_cons (pe_cal c__behind_many (hr.mono (by decide)) (by rfl) (pa_cons (pv 0) (pa_cons (pv 3) (pa_cons (pe_op op_sub (pv 5) (pv 4)) pa_nil)))) (pa_cons pe_non pa_nil))))
        (pss_one (ps_set (i := 4) sc_state_behind.nd rfl (Or.inl rfl) (pe_op op_add (pv 5) pe_int)))) pss_nil)))
        (pss_one (ps_ret (pe_cal c__behind_many (hr.mono (by decide)) (by rfl) (pa_cons (pv 0) (pa_cons (pv 3) (pa_cons (pe_op op_sub (pv 2) (pv 4)) pa_nil))))))))), ?_⟩
  -- (first_window(max(rule)), 0)
  obtain ⟨n0, nr, rfl⟩ : ∃ n0 nr, ns = n0 :: nr := by
    cases ns with
    | nil => exact absurd hR.pos (by decide)
    | cons n0 nr => exact ⟨n0, nr, rfl⟩
  have eM : nr.foldl max n0 = ((R6 (n0 :: nr) : Nat) : Int) := by
    show maxOf (n0 :: nr) = _
    unfold R6
    omega
  have hR6 : R6 (n0 :: nr) ≤ 6 := by unfold R6; omega
  have hR1 : 1 ≤ R6 (n0 :: nr) := by unfold R6; omega
  refine ⟨.ref r, rfl, r, n0, nr, rfl, hr1, R6 (n0 :: nr), congrArg (fun v => [V.int v]) eM, hR1, by omega, fun H1 d s1 hd => ?_⟩
  refine ⟨(by decide : 2 ≤ sizeLine), fun p np => ?_⟩
  have s3 : Same H1 (upd H1 p (.tup [.ref d, .int 0])) := same_upd np
  have smA : Same H (upd H1 p (.tup [.ref d, .int 0])) := s1.trans s3
  have hst : StAt (upd H1 p (.tup [.ref d, .int 0])) p (stInit (R6 (n0 :: nr))) := ⟨d, upd_same, s3 _ _ hd⟩
  generalize upd H1 p (.tup [.ref d, .int 0]) = H0 at smA hst
  have hg0 : Good (n0 :: nr) (stInit (R6 (n0 :: nr))) := by
    have len : (stInit (R6 (n0 :: nr))).1.length = R6 (n0 :: nr) := by
      show (List.replicate (R6 (n0 :: nr) - 1) none ++ [some 0] : Win).length = _
      rw [List.length_append, List.length_replicate, List.length_singleton]
      omega
    have := hR.fits
    exact ⟨hR.most, fun s hs => by rw [len]; exact this.st s hs, by omega, by omega⟩
  clear hd np s3 s1
  -- person = 1; the loop
  refine ⟨.ref a, rfl, a, rfl, ⟨_, smA.tup ha⟩, ?_⟩
  refine for_it (walk_tup (K := K) (a := a) (xs := gs.map V.int)) (fun i σ H2 => ∃ pi person st y, σ = [some (.ref r), some (.ref a), some (.int n), some (.ref pi), some (.int person), y] ∧ Same H H2 ∧ StAt H2 pi st ∧ Good (n0 :: nr) st ∧
      behindAll (n0 :: nr) gs 1 n (stInit (R6 (n0 :: nr))) = behindAll (n0 :: nr) (gs.drop i) person n st ∧ RepAll (n0 :: nr) (gs.drop i) person n st ∧ ascB (gs.drop i) = true ∧ (∀ k ∈ gs.drop i, person ≤ k) ∧ person ≤ n)
    ⟨p, 1, _, none, rfl, smA, hst, hg0, rfl, hrep, hA.asc, fun k hk => (hA.rng k hk).1, hn⟩ (fun i σ H2 _ hW => ?_) (fun i x σ H2 H3 hi hW y => ?_) (fun σ H2 hW => ?_)
  · obtain ⟨_, _, _, _, _, s2, _⟩ := hW
    exact s2.tup ha
  · obtain ⟨pi, person, st, y5, rfl, s2, hpi, hg, eB, hRep, hAsc, hGe, hle⟩ := hW
    obtain ⟨rfl, g⟩ := y
    rw [List.length_map] at hi
    have eg : gs[i]? = some gs[i] := List.getElem?_eq_getElem hi
    obtain rfl := map_at eg g
    have ed : gs.drop i = gs[i] :: gs.drop (i + 1) := List.drop_eq_getElem_cons hi
    rw [ed] at eB hRep hAsc hGe
    obtain ⟨a1, a2⟩ := asc_cons hAsc
    have hgp := hGe _ List.mem_cons_self
    generalize gs[i] = g0 at *
    refine ⟨.int g0, rfl, .int n, rfl, g0, n, rfl, rfl, _, rfl, ?_⟩
    have eR : RepAll (n0 :: nr) (g0 :: gs.drop (i + 1)) person n st = (if g0 < n then Rep (n0 :: nr) st.1 (g0 - person).toNat ∧ RepAll (n0 :: nr) (gs.drop (i + 1)) (g0 + 1) n (behindP (few (n0 :: nr) (g0 - person).toNat st) none) else RepAll (n0 :: nr) (gs.drop (i + 1)) person n st) := rfl
    have eB2 : behindAll (n0 :: nr) (g0 :: gs.drop (i + 1)) person n st = (if g0 < n then behindAll (n0 :: nr) (gs.drop (i + 1)) (g0 + 1) n (behindP (few (n0 :: nr) (g0 - person).toNat st) none) else behindAll (n0 :: nr) (gs.drop (i + 1)) person n st) := rfl
    rw [eR] at hRep
    rw [eB2] at eB
    by_cases c : g0 < n
    · rw [if_pos c] at hRep eB
      rw [decide_eq_true c]
      refine iteT ?_
      have e3 : g0 - person = ((g0 - person).toNat : Int) := by omega
      refine ⟨.ref r, rfl, .ref pi, rfl, .int g0, rfl, .int person, rfl, g0, person, rfl, rfl, ?_⟩
      refine ⟨r, pi, n0 :: nr, st, (g0 - person).toNat, by rw [← e3]; rfl, s2.tup hr1, hpi, hg, hRep.1, fun H4 p4 s4 h4 => ?_⟩
      have g4 := hg.few (g0 - person).toNat
      refine ⟨p4, _, none, rfl, h4, g4.l2, fun H5 p5 s5 h5 => ?_⟩
      refine ⟨.int g0, rfl, g0, 1, rfl, rfl, ?_⟩
      exact ⟨p5, g0 + 1, _, some (.int g0), rfl, s2.trans (s4.trans s5), h5, g4.step none, eB, hRep.2, a1, fun k hk => by have := a2 k hk; omega, by omega⟩
    · rw [if_neg c] at hRep eB
      rw [decide_eq_false c]
      exact iteF ⟨pi, person, st, some (.int g0), rfl, s2, hpi, hg, eB, hRep, a1, fun k hk => by have := a2 k hk; omega, hle⟩
  · obtain ⟨pi, person, st, y5, rfl, s2, hpi, hg, eB, hRep, hAsc, hGe, hle⟩ := hW
    rw [List.length_map, List.drop_length] at eB hRep
    have e3 : n - person = ((n - person).toNat : Int) := by omega
    refine ⟨.ref r, rfl, .ref pi, rfl, .int n, rfl, .int person, rfl, n, person, rfl, rfl, ?_⟩
    refine ⟨r, pi, n0 :: nr, st, (n - person).toNat, by rw [← e3]; rfl, s2.tup hr1, hpi, hg, hRep, fun H4 p4 s4 h4 => ?_⟩
    refine q H4 p4 (s2.trans s4) ?_
    rw [eB]
    exact h4
end
end LK
namespace LK
open PySem PySem.Spec PyProof.Rows L2 CD
section
variable {P : Program} {w : World} {K : PySem.W.Frag} {mg : Str → Option Value} {base : Heap}
/-- what comes in: a rule, an absence, a number of people behind whom the walk stands -/
structure Line (K : PySem.W.Frag) (H : Hp) (r a : Addr) (ns gs : List Int) : Prop where
  tr : SqT K H r (ns.map V.int)
  ta : SqT K H a (gs.map V.int)
  rule : IsRule ns
  abs : IsAbs gs
theorem Line.same {H H' : Hp} {r a : Addr} {ns gs : List Int} (h : Line K H r a ns gs) (s : Same H H') : Line K H' r a ns gs := ⟨s.tup h.tr, s.tup h.ta, h.rule, h.abs⟩
def spTick (K : PySem.W.Frag) : Sp := fun vs H Q _ => ∃ (r a : Addr) (ns gs : List Int) (n : Nat), vs = [.ref r, .ref a, .int n] ∧ Line K H r a ns gs ∧ (n : Int) ≤ 10 ^ 30 ∧ RepAll ns gs 1 n (stInit (R6 ns)) ∧
  ∀ H', Same H H' → Q (oV (tickV ns gs n)) H'
theorem tick_in {ns gs : List Int} (hA : IsAbs gs) {n : Nat} (h : (n : Int) ∈ gs) : tickV ns gs n = none := by
  have h1 := (hA.rng _ h).1
  obtain ⟨k, rfl⟩ : ∃ k, n = k + 1 := ⟨n - 1, by omega⟩
  unfold tickV
  rw [film_last]
  unfold nextF
  rw [film_len, if_pos h]
theorem tick_out {ns gs : List Int} (hR : IsRule ns) {n : Nat} (h : ((n + 1 : Nat) : Int) ∉ gs) : tickV ns gs (n + 1) = calledAt ns (winOf (R6 ns) (film ns gs n)) := by
  unfold tickV
  rw [film_last, called_winOf hR.fits]
  unfold nextF
  rw [film_len, if_neg h]
theorem cal_tick_of (z : Z mg) (c_need_rule : Cal P w K mg base 3 "need_rule" p_need_rule (spNeedRule K)) (c_need_absence : Cal P w K mg base 5 "need_absence" p_need_absence (spNeedAbs K)) (c_need_person : Cal P w K mg base 3 "need_person" p_need_person (spNeedNum 0))
    (c_state_behind : Cal P w K mg base 6 "state_behind" p_state_behind (spState K)) (c_called_at : Cal P w K mg base 2 "called_at" p_called_at (spCalled K)) (D : Def K mg "tick_of" s_tick_of p_tick_of) : Cal P w K mg base 7 "tick_of" p_tick_of (spTick K) := by
  refine D.cal sc_tick_of (fun vs H Q E h => by obtain ⟨_, _, _, _, _, rfl, _⟩ := h; rfl) fun f cdv A outer s H vs Q E hr h => ?_
  obtain ⟨r, a, ns, gs, n, rfl, L, hn, hrep, q⟩ := h
  refine ⟨_, (pss_cons (ps_expr (pe_cal c_need_rule (hr.mono (by decide)) (by rfl) (pa_cons (pv 0) pa_nil)))
        (pss_cons (ps_expr (pe_cal c_need_absence (hr.mono (by decide)) (by rfl) (pa_cons (pv 1) pa_nil)))
        (pss_cons (ps_expr (pe_cal c_need_person (hr.mono (by decide)) (by rfl) (pa_cons (pv 2) pa_nil)))
        (pss_cons (ps_if (pt_cmpR op_in_seq (pv 2) (pv 1) (by rfl)) (pss_one (ps_ret pe_non)) pss_nil)
        (pss_cons (ps_if (pt_cmpR op_eq (pv 2) pe_int (nomark _)) (pss_one (ps_ret pe_int)) pss_nil)
        (pss_cons (ps_asg (pe_cal c_state_behind (hr.mono (by decide)) (by rfl) (pa_cons (pv 0) (pa_cons (pv 1) (pa_cons (pv 2) pa_nil)))) (pg_tup rfl (pgs_cons (pg_name (i := 3) sc_tick_of.nd rfl (Or.inl rfl)) (pgs_cons (pg_name (i := 4) sc_tick_of.nd rfl (Or.inl rfl)) pgs_nil))))
        (pss_one (ps_ret (pe_cal c_called_at (hr.mono (by decide)) (by rfl) (pa_cons (pv 0) (pa_cons (pv 3) pa_nil))))))))))), ?_⟩
  refine ⟨.ref r, rfl, r, ns, rfl, L.tr, L.rule, fun H1 s1 => ?_⟩
  refine ⟨.ref a, rfl, a, gs, rfl, s1.tup L.ta, L.abs, fun H2 s2 => ?_⟩
  refine ⟨.int n, rfl, n, rfl, by omega, hn, ?_⟩
  have sm := s1.trans s2
  refine ⟨.int n, rfl, .ref a, rfl, a, _, rfl, .inr (sm.tup L.ta), rfl, flat_ints gs, _, rfl, ?_⟩
  show if inV (V.int n) (gs.map V.int) = true then _ else _
  rw [in_ints]
  refine ite2 (fun e => ?_) (fun e => ?_)
  · have z2 := q H2 sm
    rw [tick_in L.abs (of_decide_eq_true e)] at z2
    exact z2
  · have e' : (n : Int) ∉ gs := fun x => e (decide_eq_true x)
    refine ⟨.int n, rfl, rfl, _, rfl, ite2 (fun e2 => ?_) (fun e2 => ?_)⟩
    · have e3 : n = 0 := by
        have z3 : V.int (n : Int) = V.int 0 := of_decide_eq_true e2
        injection z3 with z3
        omega
      have z2 := q H2 sm
      rw [e3] at z2
      exact z2
    · obtain ⟨k, rfl⟩ : ∃ k, n = k + 1 := ⟨n - 1, by
        have : n ≠ 0 := fun x => e2 (by rw [x]; exact decide_eq_true rfl)
        omega⟩
      refine ⟨.ref r, rfl, .ref a, rfl, .int ((k + 1 : Nat) : Int), rfl, r, a, ns, gs, _, rfl, sm.tup L.tr, sm.tup L.ta, L.rule, L.abs, by omega, hrep, fun H3 p3 s3 h3 => ?_⟩
      have eS : behindAll ns gs 1 ((k + 1 : Nat) : Int) (stInit (R6 ns)) = stF ns gs (R6 ns) k := behindAll_eq L.rule.fits L.abs.asc (fun k hk => (L.abs.rng k hk).1) k
      rw [eS] at h3
      obtain ⟨wa, h4, h5⟩ := h3
      refine ⟨p3, _, rfl, .inl (.inl h4), rfl, _, _, rfl, _, _, rfl, rfl, ?_⟩
      have hl : (stF ns gs (R6 ns) k).1.length = R6 ns := winOf_len _ _
      refine ⟨.ref r, rfl, .ref wa, rfl, r, wa, ns, (stF ns gs (R6 ns) k).1, rfl, s3.tup (sm.tup L.tr), .inl (.inl h5), by have := L.rule.most; omega, fun x hx => by rw [hl]; exact L.rule.fits.st x hx, fun H4 s4 => ?_⟩
      have z2 := q H4 (sm.trans (s3.trans s4))
      rw [tick_out L.rule e'] at z2
      exact z2
def spLast (K : PySem.W.Frag) : Sp := fun vs H Q _ => ∃ (r a : Addr) (ns gs : List Int) (n : Nat), vs = [.ref r, .ref a, .int ((n : Int) + 1)] ∧ Line K H r a ns gs ∧ (n : Int) + 1 ≤ 10 ^ 30 ∧ RepAll ns gs 1 ((n : Int) + 1) (stInit (R6 ns)) ∧
  ∀ H', Same H H' → Q (.int (lastL 0 (film ns gs n))) H'
theorem cal_last_tick (z : Z mg) (c_need_rule : Cal P w K mg base 3 "need_rule" p_need_rule (spNeedRule K)) (c_need_absence : Cal P w K mg base 5 "need_absence" p_need_absence (spNeedAbs K)) (c_need_people : Cal P w K mg base 3 "need_people" p_need_people (spNeedNum 1))
    (c_state_behind : Cal P w K mg base 6 "state_behind" p_state_behind (spState K)) (D : Def K mg "last_tick" s_last_tick p_last_tick) : Cal P w K mg base 7 "last_tick" p_last_tick (spLast K) := by
  refine D.cal sc_last_tick (fun vs H Q E h => by obtain ⟨_, _, _, _, _, rfl, _⟩ := h; rfl) fun f cdv A outer s H vs Q E hr h => ?_
  obtain ⟨r, a, ns, gs, n, rfl, L, hn, hrep, q⟩ := h
  refine ⟨_, (pss_cons (ps_expr (pe_cal c_need_rule (hr.mono (by decide)) (by rfl) (pa_cons (pv 0) pa_nil)))
        (pss_cons (ps_expr (pe_cal c_need_absence (hr.mono (by decide)) (by rfl) (pa_cons (pv 1) pa_nil)))
        (pss_cons (ps_expr (pe_cal c_need_people (hr.mono (by decide)) (by rfl) (pa_cons (pv 2) pa_nil)))
        (pss_cons (ps_asg (pe_cal c_state_behind (hr.mono (by decide)) (by rfl) (pa_cons (pv 0) (pa_cons (pv 1) (pa_cons (pv 2) pa_nil)))) (pg_tup rfl (pgs_cons (pg_name (i := 3) sc_last_tick.nd rfl (Or.inl rfl)) (pgs_cons (pg_name (i := 4) sc_last_tick.nd rfl (Or.inl rfl)) pgs_nil))))
        (pss_one (ps_ret (pv 4))))))), ?_⟩
  refine ⟨.ref r, rfl, r, ns, rfl, L.tr, L.rule, fun H1 s1 => ?_⟩
  refine ⟨.ref a, rfl, a, gs, rfl, s1.tup L.ta, L.abs, fun H2 s2 => ?_⟩
  refine ⟨.int ((n : Int) + 1), rfl, (n : Int) + 1, rfl, by omega, hn, ?_⟩
  have sm := s1.trans s2
  refine ⟨.ref r, rfl, .ref a, rfl, .int ((n : Int) + 1), rfl, r, a, ns, gs, _, rfl, sm.tup L.tr, sm.tup L.ta, L.rule, L.abs, by omega, hrep, fun H3 p3 s3 h3 => ?_⟩
  rw [behindAll_eq L.rule.fits L.abs.asc (fun k hk => (L.abs.rng k hk).1) n] at h3
  obtain ⟨wa, h4, h5⟩ := h3
  refine ⟨p3, _, rfl, .inl (.inl h4), rfl, _, _, rfl, _, _, rfl, rfl, ?_⟩
  exact ⟨.int (stF ns gs (R6 ns) n).2, rfl, q H3 (sm.trans s3)⟩
/-- who calls person n, by the rule's steps from the greatest on -/
def callersV (ds gs ns : List Int) (n : Nat) : List Int := match n with
  | 0 => []
  | k + 1 => ds.filterMap fun s => (backF (film ns gs k) s).map fun _ => ((k + 1 : Nat) : Int) - s
def spCallers (K : PySem.W.Frag) : Sp := fun vs H Q _ => ∃ (r a : Addr) (ns gs : List Int) (n : Nat), vs = [.ref r, .ref a, .int n] ∧ Line K H r a ns gs ∧ (n : Int) ≤ 10 ^ 30 ∧ RepAll ns gs 1 n (stInit (R6 ns)) ∧
  ∀ H' p ds, ds.Perm ns → ds.Pairwise (· ≥ ·) → Same H H' → H' p = some (.tup ((callersV ds gs ns n).map V.int)) → Q (.ref p) H'
theorem cal_callers (z : Z mg) (c_need_rule : Cal P w K mg base 3 "need_rule" p_need_rule (spNeedRule K)) (c_need_absence : Cal P w K mg base 5 "need_absence" p_need_absence (spNeedAbs K)) (c_need_person : Cal P w K mg base 3 "need_person" p_need_person (spNeedNum 0))
    (c_state_behind : Cal P w K mg base 6 "state_behind" p_state_behind (spState K)) (D : Def K mg "callers" s_callers p_callers) : Cal P w K mg base 7 "callers" p_callers (spCallers K) := by
  refine D.cal sc_callers (fun vs H Q E h => by obtain ⟨_, _, _, _, _, rfl, _⟩ := h; rfl) fun f cdv A outer s H vs Q E hr h => ?_
  obtain ⟨r, a, ns, gs, n, rfl, L, hn, hrep, q⟩ := h
  refine ⟨_, (pss_cons (ps_expr (pe_cal c_need_rule (hr.mono (by decide)) (by rfl) (pa_cons (pv 0) pa_nil)))
        (pss_cons (ps_expr (pe_cal c_need_absence (hr.mono (by decide)) (by rfl) (pa_cons (pv 1) pa_nil)))
        (pss_cons (ps_expr (pe_cal c_need_person (hr.mono (by decide)) (by rfl) (pa_cons (pv 2) pa_nil)))
        (pss_cons (ps_if (pt_cmpR op_eq (pv 2) pe_int (nomark _)) (pss_one (ps_ret (pe_tup pa_nil))) pss_nil)
        (pss_cons (ps_asg (pe_cal c_state_behind (hr.mono (by decide)) (by rfl) (pa_cons (pv 0) (pa_cons (pv 1) (pa_cons (pv 2) pa_nil)))) (pg_tup rfl (pgs_cons (pg_name (i := 3) sc_callers.nd rfl (Or.inr rfl)) (pgs_cons (pg_name (i := 4) sc_callers.nd rfl (Or.inl rfl)) pgs_nil))))
        (pss_one (ps_ret (pe_callTy (call_tuple_of) (by rfl) z.«tuple» (by decide +kernel) (pa_cons (pe_lc (own := [("step", 5)]) (g := (gName 5)) rfl sc_callers.nd (pi_list (pe_callBK (cr_sortedTRev (b := true)) (by rfl) z.«sorted» (by decide +kernel) (pa_cons (pv 0) pa_nil) (pk_cons pe_bl pk_nil))) (blkOk_by (N := n_callers) (sc := defScope s_callers) (by decide +kernel)) (fun _ _ _ _ _ => (pg_name (i := 5) sc_callers.nd rfl (Or.inl rfl))) (fun _ _ _ _ _ => (pts_one (pt_cmpR op_notN (pe_ix (ix_tupK (K := K) rfl) (pv 3) (pe_un un_neg (pv 5)) (fun _ _ => rfl)) pe_non (nomark _)))) (fun _ _ _ _ _ => (pe_op op_sub (pv 2) (pv 5)))) pa_nil))))))))), ?_⟩
  refine ⟨.ref r, rfl, r, ns, rfl, L.tr, L.rule, fun H1 s1 => ?_⟩
  refine ⟨.ref a, rfl, a, gs, rfl, s1.tup L.ta, L.abs, fun H2 s2 => ?_⟩
  refine ⟨.int n, rfl, n, rfl, by omega, hn, ?_⟩
  have sm := s1.trans s2
  refine ⟨.int n, rfl, rfl, _, rfl, ite2 (fun e2 => ?_) (fun e2 => ?_)⟩
  · have e3 : n = 0 := by
      have z3 : V.int (n : Int) = V.int 0 := of_decide_eq_true e2
      injection z3 with z3
      omega
    subst e3
    obtain ⟨ds, hp, ho⟩ : ∃ ds : List Int, ds.Perm ns ∧ ds.Pairwise (· ≥ ·) := by
      refine ⟨ns.mergeSort (fun a b => decide (b ≤ a)), List.mergeSort_perm _ _, ?_⟩
      have := List.pairwise_mergeSort (le := fun a b : Int => decide (b ≤ a)) (fun a b c h1 h2 => by simp at h1 h2 ⊢; omega) (fun a b => by simp; omega) ns
      exact this.imp fun h => by simpa using h
    exact ⟨Nat.zero_le _, fun p np => q _ p ds hp ho (sm.trans (same_upd np)) (by rw [upd_same]; rfl)⟩
  · obtain ⟨k, rfl⟩ : ∃ k, n = k + 1 := ⟨n - 1, by
      have : n ≠ 0 := fun x => e2 (by rw [x]; exact decide_eq_true rfl)
      omega⟩
    refine ⟨.ref r, rfl, .ref a, rfl, .int ((k + 1 : Nat) : Int), rfl, r, a, ns, gs, _, rfl, sm.tup L.tr, sm.tup L.ta, L.rule, L.abs, by omega, hrep, fun H3 p3 s3 h3 => ?_⟩
    have eS : behindAll ns gs 1 ((k + 1 : Nat) : Int) (stInit (R6 ns)) = stF ns gs (R6 ns) k := behindAll_eq L.rule.fits L.abs.asc (fun k hk => (L.abs.rng k hk).1) k
    rw [eS] at h3
    obtain ⟨wa, h4, h5⟩ := h3
    refine ⟨p3, _, rfl, .inl (.inl h4), rfl, _, _, rfl, _, _, rfl, rfl, ?_⟩
    have hl : (stF ns gs (R6 ns) k).1.length = R6 ns := winOf_len _ _
    refine ⟨.ref r, rfl, r, ns, rfl, rfl, s3.tup (sm.tup L.tr), fun ds S hp ho nS => ?_⟩
    have sS : Same H3 (upd H3 S (.lst (ds.map V.int))) := same_upd nS
    refine ⟨S, rfl, ⟨_, .inl (.inl upd_same)⟩, fun T nT => ?_⟩
    refine lc_std (walk_list (K := K) (a := S) (xs := ds.map V.int)) ds (fun s => ((backF (film ns gs k) s).map fun _ => ((k + 1 : Nat) : Int) - s).map V.int) (by rw [List.length_map]) (small1000 (by rw [List.length_map, hp.length_eq]; have := L.rule.most; omega)) nT (fun H4 s4 => .inl (.inl (s4 _ _ upd_same))) (fun i x H4 H5 sp R hsp s4 y hR => ?_) (fun H4 s4 e => ?_)
    · obtain ⟨rfl, g⟩ := y
      obtain rfl := map_at hsp g
      have hm : sp ∈ ns := hp.mem_iff.mp (List.mem_of_getElem? hsp)
      obtain ⟨b1, b2⟩ := L.rule.fits.st sp hm
      have hb := back_at (ws := (stF ns gs (R6 ns) k).1) b1 (by rw [hl]; exact b2)
      have e6 : back (stF ns gs (R6 ns) k).1 sp = backF (film ns gs k) sp := back_winOf b1 b2
      rw [e6] at hb
      refine ⟨rfl, .ref wa, rfl, _, rfl, sp, rfl, wa, _, _, _, rfl, rfl, .inl (.inl (s4 _ _ (sS _ _ h5))), hb, rfl, ?_⟩
      cases eb : backF (film ns gs k) sp with
      | none =>
        rw [eb] at hR
        exact ⟨false, rfl, iteF (hR _ (Same.refl _))⟩
      | some t =>
        rw [eb] at hR
        exact ⟨true, rfl, iteT ⟨.int ((k + 1 : Nat) : Int), rfl, .int sp, rfl, _, _, rfl, rfl, hR _ (Same.refl _)⟩⟩
    · have e7 : ds.filterMap (fun s => ((backF (film ns gs k) s).map fun _ => ((k + 1 : Nat) : Int) - s).map V.int) = (callersV ds gs ns (k + 1)).map V.int := by
        unfold callersV
        rw [List.map_filterMap]
      rw [e7] at e
      exact ⟨T, _, rfl, .inl ⟨.inl (.inl e), fun l nl => q _ l ds hp ho (sm.trans (s3.trans (sS.trans (s4.trans (same_upd nl))))) upd_same⟩⟩
end
end LK
namespace LK
open PySem PySem.Spec PyProof.Rows L2 CD
section
variable {P : Program} {w : World} {K : PySem.W.Frag} {mg : Str → Option Value} {base : Heap}
/-! ### draws -/
abbrev kC : Key := .inr "cells"
abbrev kG : Key := .inr "great"
abbrev kS : Key := .inr "spot"
theorem nCG : ¬ kC = kG := by decide
theorem nCS : ¬ kC = kS := by decide
theorem nGS : ¬ kG = kS := by decide
def kvM (c g k : V) : List (Key × V) := [(kC, c), (kG, g), (kS, k)]
theorem getM1 (c g k : V) : valV (kvM c g k) kC = some c := by simp [valV, kvM]
theorem getM2 (c g k : V) : valV (kvM c g k) kG = some g := by
  have h := nCG
  simp [valV, kvM, h]
theorem getM3 (c g k : V) : valV (kvM c g k) kS = some k := by
  have h := nCS
  have h2 := nGS
  simp [valV, kvM, h, h2]
theorem putM2 (c g k v : V) : putK (kvM c g k) kG v = kvM c v k := by
  have h := nCG
  have h2 : ¬ kS = kG := fun e => nGS e.symm
  simp [putK, kvM, h, h2]
theorem putM3 (c g k v : V) : putK (kvM c g k) kS v = kvM c g v := by
  have h := nCS
  have h2 := nGS
  simp [putK, kvM, h, h2]
/-- the state of the draws at d, what is left of great cells at g; at most n drawn -/
structure Draw (H : Hp) (d g : Addr) (n : Nat) : Prop where
  ex : ∃ (c : Addr) (cells greats : List Int) (spot : Nat), H d = some (.dK (kvM (.ref c) (.ref g) (.int spot))) ∧ H c = some (.lst (cells.map V.int)) ∧ H g = some (.lst (greats.map V.int)) ∧ c ≠ g ∧ cells.length ≤ 1000 ∧ greats.length ≤ 1000 ∧ spot ≤ n
/-- all that was tracked stays, but the draws -/
def But (H H' : Hp) (d g : Addr) : Prop := ∀ b o, H b = some o → b ≠ d → b ≠ g → H' b = some o
def spBegun (K : PySem.W.Frag) : Sp := fun vs H Q _ => ∃ (a : Addr) (ns : List Int), vs = [.ref a] ∧ SqL K H a (ns.map V.int) ∧ ns.length ≤ 63 ∧ ∀ H' d g, Same H H' → H d = none → H g = none → Draw H' d g 0 → Q (.ref d) H'
theorem cal_law_begun (z : Z mg) (D : Def K mg "_law_begun" s__law_begun p__law_begun) : Cal P w K mg base 2 "_law_begun" p__law_begun (spBegun K) := by
  refine D.cal sc__law_begun (fun vs H Q E h => by obtain ⟨_, _, rfl, _⟩ := h; rfl) fun f cdv A outer s H vs Q E hr h => ?_
  obtain ⟨a, ns, rfl, hS, hl, q⟩ := h
  refine ⟨_, (pss_cons (ps_setLc (i := 1) (own := [("cell", 2)]) (g := (gName 2)) rfl sc__law_begun.nd rfl rfl (sw_true rfl rfl rfl (by decide +kernel)) (pi_list (pv 0)) (blkOk_by (N := n__law_begun) (sc := defScope s__law_begun) (by decide +kernel)) (fun _ _ _ _ _ => (pg_name (i := 2) sc__law_begun.nd rfl (Or.inl rfl))) (fun _ _ _ _ _ => (pts_one (pt_cmpR op_ge (pv 2) (pe_op op_pow pe_int pe_int) (nomark _)))) (fun _ _ _ _ _ => (pv 2)))
        (pss_one (ps_ret (pe_disp (pps_cons pe_str (pe_callTy (call_list_of) (by rfl) z.«list» (by decide +kernel) (pa_cons (pv 0) pa_nil)) (pps_cons pe_str (pv 1) (pps_cons pe_str pe_int pps_nil))) (by rfl) (by rfl) (fun z => by cases z) (by decide))))), ?_⟩
  refine ⟨.ref a, rfl, a, rfl, ⟨_, hS⟩, fun g ng => ?_⟩
  refine lc_std (walk_list (K := K) (a := a) (xs := ns.map V.int)) ns (fun n => if 10 ^ 18 ≤ n then some (.int n) else none) (by rw [List.length_map]) (small1000 (by rw [List.length_map]; omega)) ng (fun H2 s2 => s2.seq hS) (fun i x H2 H3 n R hn s2 y hR => ?_) (fun H2 s2 e => ?_)
  · obtain ⟨rfl, gg⟩ := y
    obtain rfl := map_at hn gg
    refine ⟨rfl, .int n, rfl, 10, 18, rfl, rfl, ⟨by decide, by decide, by decide⟩, n, 10 ^ 18, rfl, rfl, _, rfl, ite2 (fun c => ?_) (fun c => ?_)⟩
    · have c' : (10 : Int) ^ 18 ≤ n := of_decide_eq_true c
      have z2 := hR _ (Same.refl _)
      rw [if_pos c'] at z2
      exact ⟨.int n, rfl, z2⟩
    · have c' : ¬ (10 : Int) ^ 18 ≤ n := fun x => c (decide_eq_true x)
      have z2 := hR _ (Same.refl _)
      rw [if_neg c'] at z2
      exact z2
  · have e2 : ns.filterMap (fun n => if 10 ^ 18 ≤ n then some (V.int n) else none) = (ns.filter fun n => decide (10 ^ 18 ≤ n)).map V.int := by
      clear e hl hS q ng
      induction ns with
      | nil => rfl
      | cons n r ih =>
        rw [List.filterMap_cons, List.filter_cons]
        by_cases c : (10 : Int) ^ 18 ≤ n
        · rw [if_pos c, if_pos (decide_eq_true c), List.map_cons, ← ih]
        · rw [if_neg c, if_neg (by simpa using c), ← ih]
    rw [e2] at e
    -- the display
    intro d nd
    have sd : Same H2 (upd H2 d (.dK [])) := same_upd nd
    refine ⟨.ref a, rfl, a, _, rfl, .inl (sd.seq (s2.seq hS)), fun c nc => ?_⟩
    have sc : Same (upd H2 d (.dK [])) (upd (upd H2 d (.dK [])) c (.lst (ns.map V.int))) := same_upd nc
    refine ⟨.ref g, rfl, ?_⟩
    have hd : (upd (upd H2 d (.dK [])) c (.lst (ns.map V.int))) d = some (.dK []) := sc _ _ upd_same
    refine ⟨hd, kvM (.ref c) (.ref g) (.int 0), rfl, (by decide : 3 ≤ 15), ?_⟩
    have em : mergeK [] (kvM (.ref c) (.ref g) (.int 0)) = kvM (.ref c) (.ref g) (.int 0) := by
      have h1 := nCG
      have h2 := nCS
      have h3 := nGS
      simp [mergeK, kvM, putK, h1, h2, h3]
    rw [em]
    have cg : c ≠ g := fun x => by
      rw [x, sd _ _ e] at nc
      cases nc
    have cd : c ≠ d := fun x => by
      rw [x, upd_same] at nc
      cases nc
    have gd : g ≠ d := fun x => by
      rw [← x, e] at nd
      cases nd
    refine q _ d g (fun b o hb => ?_) (Same.free s2 nd) ng ⟨c, ns, ns.filter fun n => decide (10 ^ 18 ≤ n), 0, upd_same, ?_, ?_, cg, by omega, Nat.le_trans (List.length_filter_le _ _) (by omega), Nat.le_refl _⟩
    · have nb : b ≠ d := ne_of_none hb (Same.free s2 nd)
      rw [upd_ne nb]
      exact sc _ _ (sd _ _ (s2 _ _ hb))
    · rw [upd_ne cd, upd_same]
    · rw [upd_ne gd]
      exact sc _ _ (sd _ _ e)
theorem gM1 {H : Hp} {d : Addr} {c g k : V} (h : H d = some (.dK (kvM c g k))) : DGet H d (.str "cells") (some c) := getM1 c g k ▸ DGet.k (k := kC) h
theorem gM2 {H : Hp} {d : Addr} {c g k : V} (h : H d = some (.dK (kvM c g k))) : DGet H d (.str "great") (some g) := getM2 c g k ▸ DGet.k (k := kG) h
theorem gM3 {H : Hp} {d : Addr} {c g k : V} (h : H d = some (.dK (kvM c g k))) : DGet H d (.str "spot") (some k) := getM3 c g k ▸ DGet.k (k := kS) h
theorem pM2 {H : Hp} {d : Addr} {c g k v : V} (h : H d = some (.dK (kvM c g k))) : DPut H d (.str "great") v (upd H d (.dK (kvM c v k))) := putM2 c g k v ▸ DPut.k (k := kG) (v := v) h (by decide : 3 < sizeLine)
theorem pM3 {H : Hp} {d : Addr} {c g k v : V} (h : H d = some (.dK (kvM c g k))) : DPut H d (.str "spot") v (upd H d (.dK (kvM c g v))) := putM3 c g k v ▸ DPut.k (k := kS) (v := v) h (by decide : 3 < sizeLine)
def spNext : Sp := fun vs H Q _ => ∃ (d g : Addr) (n : Nat) (t : Int), vs = [.ref d, .int t] ∧ Draw H d g n ∧ n < 2 ^ 40 ∧ 1 ≤ t ∧ t < 2 ^ 29 ∧
  ∀ H' g' (v : Int), But H H' d g → (g' = g ∨ H g' = none) → Draw H' d g' (n + 1) → 0 ≤ v → v < t → Q (.int v) H'
theorem But.refl (H : Hp) (d g : Addr) : But H H d g := fun _ _ h _ _ => h
theorem But.same {H H1 H2 : Hp} {d g : Addr} (h : But H H1 d g) (s : Same H1 H2) : But H H2 d g := fun b o e n1 n2 => s _ _ (h b o e n1 n2)
theorem ix0 {xs : List V} (h : xs ≠ []) : ixN xs.length 0 = some 0 := by
  have := List.length_pos_iff.mpr h
  unfold ixN
  rw [if_pos (Int.le_refl 0), if_pos (by omega)]
  rfl
theorem fmod_range {a t : Int} (h : 1 ≤ t) : 0 ≤ a.fmod t ∧ a.fmod t < t := by
  rw [Int.fmod_eq_emod_of_nonneg _ (by omega)]
  exact ⟨Int.emod_nonneg _ (by omega), Int.emod_lt_of_pos _ (by omega)⟩
theorem cut_ints (g0 : Int) (gs : List Int) : cutV ((g0 :: gs).map V.int) (some 1) none = gs.map V.int := by
  rw [cut_tail]
  rfl
theorem cal_law_next (z : Z mg) (D : Def K mg "_law_next" s__law_next p__law_next) : Cal P w K mg base 2 "_law_next" p__law_next spNext := by
  refine D.cal sc__law_next (fun vs H Q E h => by obtain ⟨_, _, _, _, rfl, _⟩ := h; rfl) fun f cdv A outer s H vs Q E hr h => ?_
  obtain ⟨d, g, n, t, rfl, ⟨c, cells, greats, spot, hd, hc, hg, ncg, lc, lg, hs⟩, hn, t1, t2, q⟩ := h
  have hu := hu_of hr
  have ncd : c ≠ d := ne_of hc hd (fun e => nomatch e)
  have ngd : g ≠ d := ne_of hg hd (fun e => nomatch e)
  refine ⟨_, (pss_cons (ps_while PassesOwn.never (PW.pt (pw_and (pt_cmpR (op_neD hr.units) (pe_dget hu (pv 0) pe_str (fun _ _ => rfl)) (pe_lst pa_nil) (nomark _)) (pw_and1 (pt_cmpR op_eq (pe_ix ix_list (pe_dget hu (pv 0) pe_str (fun _ _ => rfl)) pe_int (fun _ _ => rfl)) pe_int (nomark _))))) (pss_one (ps_dput hu (pv 0) pe_str (pe_slice sl_list (pe_dget hu (pv 0) pe_str (fun _ _ => rfl)) (po_some pe_int) po_none) rfl)))
        (pss_cons (ps_if (pt_cmpR (op_neD hr.units) (pe_dget hu (pv 0) pe_str (fun _ _ => rfl)) (pe_lst pa_nil) (nomark _)) (pss_cons (ps_set (i := 2) sc__law_next.nd rfl (Or.inl rfl) (pe_callTy (call_int1) (by rfl) z.«int» (by decide +kernel) (pa_cons (pe_ix ix_list (pe_dget hu (pv 0) pe_str (fun _ _ => rfl)) pe_int (fun _ _ => rfl)) pa_nil)))
        (pss_cons (ps_asg (pe_op op_fdivN (pv 2) (pv 1)) (pg_sub (pe_dget hu (pv 0) pe_str (fun _ _ => rfl)) pe_int set_list))
        (pss_one (ps_ret (pe_op op_modN (pv 2) (pv 1)))))) pss_nil)
        (pss_cons (ps_set (i := 3) sc__law_next.nd rfl (Or.inl rfl) (pe_op op_add (pe_dget hu (pv 0) pe_str (fun _ _ => rfl)) pe_int))
        (pss_cons (ps_dput hu (pv 0) pe_str (pv 3) rfl)
        (pss_cons (ps_set (i := 4) sc__law_next.nd rfl (Or.inl rfl) (pe_ifExp (pt_cmpR (op_neD hr.units) (pe_dget hu (pv 0) pe_str (fun _ _ => rfl)) (pe_lst pa_nil) (nomark _)) (pe_ix ix_list (pe_dget hu (pv 0) pe_str (fun _ _ => rfl)) (pe_op op_modN (pe_callTy (call_int1) (by rfl) z.«int» (by decide +kernel) (pa_cons (pv 3) pa_nil)) (pe_callB (call_len_seq) (by rfl) z.«len» (by decide +kernel) (pa_cons (pe_dget hu (pv 0) pe_str (fun _ _ => rfl)) pa_nil))) (fun _ _ => rfl)) pe_int))
        (pss_cons (ps_set (i := 5) sc__law_next.nd rfl (Or.inl rfl) (pe_op op_mul (pe_callTy (call_int1) (by rfl) z.«int» (by decide +kernel) (pa_cons (pe_op op_add (pe_op op_add (pe_op op_modN (pe_callTy (call_int1) (by rfl) z.«int» (by decide +kernel) (pa_cons (pv 4) pa_nil)) pe_int) (pe_op op_mul pe_int (pv 3))) (pe_op op_mul (pe_op op_mul pe_int (pv 3)) (pv 3))) pa_nil)) pe_int))
        (pss_cons (ps_set (i := 5) sc__law_next.nd rfl (Or.inl rfl) (pe_op op_mul (pe_callTy (call_int1) (by rfl) z.«int» (by decide +kernel) (pa_cons (pe_op op_add (pe_op op_modN (pe_callTy (call_int1) (by rfl) z.«int» (by decide +kernel) (pa_cons (pv 5) pa_nil)) pe_int) (pe_op op_mul pe_int (pv 3))) pa_nil)) pe_int))
        (pss_one (ps_ret (pe_op op_modN (pe_callTy (call_int1) (by rfl) z.«int» (by decide +kernel) (pa_cons (pe_op op_fdivN (pe_op op_modN (pe_callTy (call_int1) (by rfl) z.«int» (by decide +kernel) (pa_cons (pv 5) pa_nil)) pe_int) pe_int) pa_nil)) (pv 1))))))))))), ?_⟩
  refine ⟨fun m σ H2 => ∃ g2 gs2, m = gs2.length ∧ σ = [some (.ref d), some (.int t), none, none, none, none] ∧ H2 d = some (.dK (kvM (.ref c) (.ref g2) (.int spot))) ∧ H2 c = some (.lst (cells.map V.int)) ∧ H2 g2 = some (.lst (gs2.map V.int)) ∧ c ≠ g2 ∧ gs2.length ≤ 1000 ∧
      But H H2 d g ∧ (g2 = g ∨ H g2 = none),
    ⟨greats.length, g, greats, rfl, rfl, hd, hc, hg, ncg, lg, But.refl H d g, .inl rfl⟩, ?_⟩
  intro m σ H2 hW
  obtain ⟨g2, gs2, rfl, rfl, hd2, hc2, hg2, ncg2, lg2, but, hfr⟩ := hW
  have ngd2 : g2 ≠ d := ne_of hg2 hd2 (fun e => nomatch e)
  -- m['great'] != []
  refine ⟨.ref d, rfl, d, _, rfl, gM2 hd2, by decide, fun p np => ?_⟩
  have s1 : Same H2 (upd H2 p (.lst [])) := same_upd np
  refine ne_nil (.inl (.inl (s1 _ _ hg2))) upd_same ⟨_, rfl, ?_⟩
  generalize upd H2 p (.lst []) = H3 at s1
  replace hd2 := s1 _ _ hd2
  replace hc2 := s1 _ _ hc2
  replace hg2 := s1 _ _ hg2
  replace but := but.same s1
  clear s1 np
  cases gs2 with
  | nil =>
    refine iteF (iteF ?_)
    refine ⟨.ref d, rfl, d, _, rfl, gM2 hd2, by decide, fun p np => ?_⟩
    have s1 : Same H3 (upd H3 p (.lst [])) := same_upd np
    refine ne_nil (ns := []) (.inl (.inl (s1 _ _ hg2))) upd_same ⟨_, rfl, iteF ?_⟩
    generalize upd H3 p (.lst []) = H4 at s1
    replace hd2 := s1 _ _ hd2
    replace hc2 := s1 _ _ hc2
    replace hg2 := s1 _ _ hg2
    replace but := but.same s1
    refine ⟨.ref d, rfl, d, _, rfl, gM3 hd2, spot, 1, rfl, rfl, ?_⟩
    refine ⟨_, rfl, .ref d, rfl, d, _, rfl, pM3 hd2, ?_⟩
    have hd5 : (upd H4 d (.dK (kvM (.ref c) (.ref g2) (.int ((spot : Int) + 1))))) d = some (.dK (kvM (.ref c) (.ref g2) (.int ((spot : Int) + 1)))) := upd_same
    have hc5 : (upd H4 d (.dK (kvM (.ref c) (.ref g2) (.int ((spot : Int) + 1))))) c = some (.lst (cells.map V.int)) := by rw [upd_ne ncd]; exact hc2
    have hg5 : (upd H4 d (.dK (kvM (.ref c) (.ref g2) (.int ((spot : Int) + 1))))) g2 = some (.lst ([].map V.int)) := by rw [upd_ne ngd2]; exact hg2
    have but5 : But H (upd H4 d (.dK (kvM (.ref c) (.ref g2) (.int ((spot : Int) + 1))))) d g := fun b o e n1 n2 => by rw [upd_ne n1]; exact but b o e n1 n2
    show tSeq _ _ _ _ (upd H4 d (.dK (kvM (.ref c) (.ref g2) (.int ((spot : Int) + 1)))))
    generalize upd H4 d (.dK (kvM (.ref c) (.ref g2) (.int ((spot : Int) + 1)))) = H5 at hd5 hc5 hg5 but5
    refine ⟨.ref d, rfl, d, _, rfl, gM1 hd5, by decide, fun p5 np5 => ?_⟩
    have s5 : Same H5 (upd H5 p5 (.lst [])) := same_upd np5
    refine ne_nil (.inl (.inl (s5 _ _ hc5))) upd_same ⟨_, rfl, ?_⟩
    generalize upd H5 p5 (.lst []) = H6 at s5
    replace hd5 := s5 _ _ hd5
    replace hc5 := s5 _ _ hc5
    replace hg5 := s5 _ _ hg5
    replace but5 := but5.same s5
    have dr : Draw H6 d g2 (n + 1) := ⟨c, cells, [], spot + 1, hd5, hc5, hg5, ncg2, lc, by decide, by omega⟩
    refine ite2 (fun e => ?_) (fun e => ?_)
    · have ne : cells ≠ [] := fun x => by rw [x] at e; exact absurd e (by decide)
      have hlen : 0 < cells.length := List.length_pos_iff.mpr ne
      obtain ⟨r1, r2⟩ := fmod_range (a := (spot : Int) + 1) (t := (cells.length : Int)) (by omega)
      obtain ⟨j, hj⟩ : ∃ j : Nat, ((spot : Int) + 1).fmod (cells.length : Int) = j := ⟨_, (Int.toNat_of_nonneg r1).symm⟩
      have hjl : j < cells.length := by omega
      have ha : atI (cells.map V.int) (((spot : Int) + 1).fmod ((cells.map V.int).length : Int)) = some (.int cells[j]) := by
        rw [List.length_map, hj]
        refine atI_nat ?_
        rw [List.getElem?_map, List.getElem?_eq_getElem hjl]
        rfl
      refine ⟨.ref d, rfl, d, _, rfl, gM1 hd5, _, rfl, .inl ⟨_, rfl, .ref d, rfl, d, _, rfl, gM1 hd5, c, _, rfl, .inl (.inl (.inl hc5)), _, _, rfl, rfl, by rw [List.length_map]; omega, c, _, _, _, rfl, rfl, .inl (.inl hc5), ha, ?_⟩⟩
      refine ⟨.int cells[j], rfl, .inl ⟨cells[j], rfl, cells[j], 2147483563, rfl, rfl, (by decide : (2147483563 : Int) ≠ 0), .int ((spot : Int) + 1), rfl, 6067, (spot : Int) + 1, rfl, rfl, .inl ⟨by decide, by decide⟩, _, _, rfl, rfl, .int ((spot : Int) + 1), rfl, 59, (spot : Int) + 1, rfl, rfl, .inl ⟨by decide, by decide⟩, .int ((spot : Int) + 1), rfl, _, (spot : Int) + 1, rfl, rfl, .inr ⟨by omega, by omega⟩, _, _, rfl, rfl, .inl ⟨_, rfl, _, 40014, rfl, rfl, .inr ⟨by decide, by decide⟩, ?_⟩⟩⟩
      refine ⟨_, rfl, .inl ⟨_, rfl, _, 2147483563, rfl, rfl, (by decide : (2147483563 : Int) ≠ 0), .int ((spot : Int) + 1), rfl, 88993, (spot : Int) + 1, rfl, rfl, .inl ⟨by decide, by decide⟩, _, _, rfl, rfl, .inl ⟨_, rfl, _, 742938285, rfl, rfl, .inr ⟨by decide, by decide⟩, ?_⟩⟩⟩
      refine ⟨_, rfl, .inl ⟨_, rfl, _, 2147483549, rfl, rfl, (by decide : (2147483549 : Int) ≠ 0), _, 17, rfl, rfl, ⟨by decide, by decide⟩, .inl ⟨_, rfl, .int t, rfl, _, t, rfl, rfl, by omega, ?_⟩⟩⟩
      exact q H6 g2 _ but5 hfr dr (fmod_range t1).1 (fmod_range t1).2
    · refine ⟨.int 47, rfl, .inl ⟨47, rfl, 47, 2147483563, rfl, rfl, (by decide : (2147483563 : Int) ≠ 0), .int ((spot : Int) + 1), rfl, 6067, (spot : Int) + 1, rfl, rfl, .inl ⟨by decide, by decide⟩, _, _, rfl, rfl, .int ((spot : Int) + 1), rfl, 59, (spot : Int) + 1, rfl, rfl, .inl ⟨by decide, by decide⟩, .int ((spot : Int) + 1), rfl, _, (spot : Int) + 1, rfl, rfl, .inr ⟨by omega, by omega⟩, _, _, rfl, rfl, .inl ⟨_, rfl, _, 40014, rfl, rfl, .inr ⟨by decide, by decide⟩, ?_⟩⟩⟩
      refine ⟨_, rfl, .inl ⟨_, rfl, _, 2147483563, rfl, rfl, (by decide : (2147483563 : Int) ≠ 0), .int ((spot : Int) + 1), rfl, 88993, (spot : Int) + 1, rfl, rfl, .inl ⟨by decide, by decide⟩, _, _, rfl, rfl, .inl ⟨_, rfl, _, 742938285, rfl, rfl, .inr ⟨by decide, by decide⟩, ?_⟩⟩⟩
      refine ⟨_, rfl, .inl ⟨_, rfl, _, 2147483549, rfl, rfl, (by decide : (2147483549 : Int) ≠ 0), _, 17, rfl, rfl, ⟨by decide, by decide⟩, .inl ⟨_, rfl, .int t, rfl, _, t, rfl, rfl, by omega, ?_⟩⟩⟩
      exact q H6 g2 _ but5 hfr dr (fmod_range t1).1 (fmod_range t1).2
  | cons g0 gr =>
    have hat : atI ((g0 :: gr).map V.int) 0 = some (.int g0) := atI_nat (j := 0) rfl
    refine iteT ⟨.ref d, rfl, d, _, rfl, gM2 hd2, g2, _, 0, _, rfl, rfl, .inl (.inl hg2), hat, rfl, _, rfl, ?_⟩
    by_cases e0 : g0 = 0
    · subst e0
      refine iteT ?_
      refine ⟨fun σ H4 => ∃ g4, σ = [some (.ref d), some (.int t), none, none, none, none] ∧ H4 d = some (.dK (kvM (.ref c) (.ref g4) (.int spot))) ∧ H4 c = some (.lst (cells.map V.int)) ∧ H4 g4 = some (.lst (gr.map V.int)) ∧ c ≠ g4 ∧ gr.length ≤ 1000 ∧
          But H H4 d g ∧ (g4 = g ∨ H g4 = none), fun σ H4 hN => ?_, ?_⟩
      · obtain ⟨g4, r⟩ := hN
        exact ⟨gr.length, by rw [List.length_cons]; omega, g4, gr, rfl, r⟩
      · refine ⟨.ref d, rfl, d, _, rfl, gM2 hd2, 1, rfl, ?_⟩
        dsimp only [tNoPart]
        refine ⟨g2, _, rfl, .inl (.inl hg2), fun p np => ?_⟩
        rw [cut_ints]
        have s1 : Same H3 (upd H3 p (.lst (gr.map V.int))) := same_upd np
        have ngp : p ≠ d := fun x => by rw [x, hd2] at np; cases np
        have ncp : c ≠ p := ne_of_none hc2 np
        refine ⟨.ref d, rfl, d, _, rfl, pM2 (s1 _ _ hd2), ?_⟩
        refine ⟨p, rfl, upd_same, ?_, ?_, ncp, by rw [List.length_cons] at lg2; omega, fun b o e n1 n2 => ?_, ?_⟩
        · rw [upd_ne ncd]; exact s1 _ _ hc2
        · rw [upd_ne ngp]; exact upd_same
        · rw [upd_ne n1]; exact s1 _ _ (but b o e n1 n2)
        · by_cases hp : p = g
          · exact .inl hp
          · refine .inr ?_
            cases hq : H p with
            | none => rfl
            | some o =>
              have := but p o hq ngp hp
              rw [np] at this
              cases this
    · have e1 : decide (V.int g0 = V.int 0) = false := decide_eq_false (fun x => e0 (by injection x))
      rw [e1]
      refine iteF ?_
      refine ⟨.ref d, rfl, d, _, rfl, gM2 hd2, by decide, fun p np => ?_⟩
      have s1 : Same H3 (upd H3 p (.lst [])) := same_upd np
      refine ne_nil (.inl (.inl (s1 _ _ hg2))) upd_same ⟨_, rfl, iteT ?_⟩
      generalize upd H3 p (.lst []) = H4 at s1
      replace hd2 := s1 _ _ hd2
      replace hc2 := s1 _ _ hc2
      replace hg2 := s1 _ _ hg2
      replace but := but.same s1
      -- rest = int(m['great'][0])
      refine ⟨.ref d, rfl, d, _, rfl, gM2 hd2, g2, _, 0, _, rfl, rfl, .inl (.inl hg2), hat, .inl ⟨g0, rfl, ?_⟩⟩
      -- m['great'][0] = rest // total
      refine ⟨.int g0, rfl, .int t, rfl, g0, t, rfl, rfl, ⟨by omega, by omega⟩, .ref d, rfl, d, _, rfl, gM2 hd2, g2, _, 0, 0, rfl, rfl, hg2, ix0 (by simp), ?_⟩
      have sw : ((g0 :: gr).map V.int).set 0 (.int (g0.fdiv t)) = (g0.fdiv t :: gr).map V.int := rfl
      refine ⟨.int g0, rfl, .int t, rfl, g0, t, rfl, rfl, by omega, ?_⟩
      refine q _ g2 _ (fun b o e n1 n2 => ?_) hfr ⟨c, cells, g0.fdiv t :: gr, spot, ?_, ?_, upd_same, ncg2, lc, by rw [List.length_cons] at lg2 ⊢; exact lg2, by omega⟩ (fmod_range t1).1 (fmod_range t1).2
      · have nb : b ≠ g2 := by
          rcases hfr with x | x
          · rw [x]; exact n2
          · exact fun y => by rw [y, x] at e; cases e
        rw [upd_ne nb]; exact but b o e n1 n2
      · rw [upd_ne (Ne.symm ngd2)]; exact hd2
      · rw [upd_ne ncg2]; exact hc2
end
end LK
namespace LK
open PySem PySem.Spec PyProof.Rows L2 CD
section
variable {P : Program} {w : World} {K : PySem.W.Frag} {mg : Str → Option Value} {base : Heap}
def spOf : Sp := fun vs H Q _ => ∃ (d g l : Addr) (n : Nat) (xs : List V), vs = [.ref d, .ref l] ∧ Draw H d g n ∧ n < 2 ^ 40 ∧ H l = some (.lst xs) ∧ l ≠ g ∧ xs ≠ [] ∧ xs.length ≤ 1000 ∧
  ∀ H' g' (i : Nat) (x : V), But H H' d g → (g' = g ∨ H g' = none) → Draw H' d g' (n + 1) → xs[i]? = some x → Q x H'
theorem Draw.nd {H : Hp} {d g l : Addr} {n : Nat} {xs : List V} (h : Draw H d g n) (e : H l = some (.lst xs)) : l ≠ d := by
  obtain ⟨c, cells, greats, spot, hd, _⟩ := h.ex
  exact ne_of e hd (fun z => nomatch z)
theorem cal_law_of (z : Z mg) (c__law_next : Cal P w K mg base 2 "_law_next" p__law_next spNext) (D : Def K mg "_law_of" s__law_of p__law_of) : Cal P w K mg base 3 "_law_of" p__law_of spOf := by
  refine D.cal sc__law_of (fun vs H Q E h => by obtain ⟨_, _, _, _, _, rfl, _⟩ := h; rfl) fun f cdv A outer s H vs Q E hr h => ?_
  obtain ⟨d, g, l, n, xs, rfl, hD, hn, hl, hlg, hx, hz, q⟩ := h
  have hlen := List.length_pos_iff.mpr hx
  refine ⟨_, (pss_one (ps_ret (pe_ix ix_list (pv 1) (pe_cal c__law_next (hr.mono (by decide)) (by rfl) (pa_cons (pv 0) (pa_cons (pe_callB (call_len_seq) (by rfl) z.«len» (by decide +kernel) (pa_cons (pv 1) pa_nil)) pa_nil))) (fun _ _ => rfl)))), ?_⟩
  refine ⟨.ref l, rfl, .ref d, rfl, .ref l, rfl, l, xs, rfl, .inl (.inl (.inl hl)), d, g, n, xs.length, rfl, hD, hn, by omega, by omega, fun H' g' v but hg' hD' v0 v1 => ?_⟩
  obtain ⟨j, rfl⟩ : ∃ j : Nat, v = j := ⟨_, (Int.toNat_of_nonneg v0).symm⟩
  have hj : xs[j]? = some xs[j] := List.getElem?_eq_getElem (by omega)
  exact ⟨l, xs, j, _, rfl, rfl, .inl (.inl (but _ _ hl (hD.nd hl) hlg)), atI_nat hj, q H' g' j _ but hg' hD' hj⟩
/-! ### the law's rows -/
abbrev Row := List Int × List Int × List (Option Int)
def rowsD : List Row := [([1, 2], [], [some 0, some 1, some 2, some 3, some 4, some 5, some 6, some 7, some 8]), ([2, 1], [], [some 0, some 2, some 1, some 3, some 2, some 4, some 3, some 5, some 4]),
  ([2, 1], [2], [some 0, some 2, none, some 3, some 5, some 4, some 6, some 5, some 7]), ([3, 1], [1, 3], [some 0, none, none, none, none, none, none, none, none]),
  ([3, 2], [], [some 0, none, some 2, some 1, some 4, some 3, some 2, some 5, some 4]), ([1, 3, 2], [4], [some 0, some 1, some 2, some 2, none, some 4, some 4, some 5, some 6])]
def RowAt (H : Hp) (p : Addr) (r : Row) : Prop := ∃ a b c, H p = some (.tup [.ref a, .ref b, .ref c]) ∧ H a = some (.tup (r.1.map V.int)) ∧ H b = some (.tup (r.2.1.map V.int)) ∧ H c = some (.tup (r.2.2.map oV))
def RowsAt (H : Hp) : List Addr → List Row → Prop
  | [], [] => True
  | p :: ps, r :: rs => RowAt H p r ∧ RowsAt H ps rs
  | _, _ => False
theorem RowAt.same {H H' : Hp} {p : Addr} {r : Row} (h : RowAt H p r) (s : ∀ b xs, H b = some (.tup xs) → H' b = some (.tup xs)) : RowAt H' p r := by
  obtain ⟨a, b, c, h0, h1, h2, h3⟩ := h
  exact ⟨a, b, c, s _ _ h0, s _ _ h1, s _ _ h2, s _ _ h3⟩
theorem RowsAt.same {H H' : Hp} (s : ∀ b xs, H b = some (.tup xs) → H' b = some (.tup xs)) : ∀ {ps : List Addr} {rs : List Row}, RowsAt H ps rs → RowsAt H' ps rs
  | [], [], _ => trivial
  | p :: ps, r :: rs, h => ⟨h.1.same s, RowsAt.same s h.2⟩
  | [], _ :: _, h => h.elim
  | _ :: _, [], h => h.elim
theorem RowsAt.get {H : Hp} : ∀ {ps : List Addr} {rs : List Row} {i : Nat} {p : Addr}, RowsAt H ps rs → ps[i]? = some p → ∃ r, rs[i]? = some r ∧ RowAt H p r
  | [], [], i, p, _, h => by simp at h
  | q :: ps, r :: rs, 0, p, h, e => by
    have e1 : q = p := Option.some.inj e
    subst e1
    exact ⟨r, rfl, h.1⟩
  | q :: ps, r :: rs, i + 1, p, h, e => by
    obtain ⟨r', e1, e2⟩ := RowsAt.get (i := i) (p := p) h.2 (by simpa using e)
    exact ⟨r', by simpa using e1, e2⟩
  | [], _ :: _, _, _, h, _ => h.elim
  | _ :: _, [], _, _, h, _ => h.elim
theorem RowsAt.snoc {H : Hp} : ∀ {ps : List Addr} {rs : List Row} {p : Addr} {r : Row}, RowsAt H ps rs → RowAt H p r → RowsAt H (ps ++ [p]) (rs ++ [r])
  | [], [], _, _, _, h2 => ⟨h2, trivial⟩
  | _ :: _, _ :: _, _, _, h, h2 => ⟨h.1, RowsAt.snoc h.2 h2⟩
  | [], _ :: _, _, _, h, _ => h.elim
  | _ :: _, [], _, _, h, _ => h.elim
def oD : Option Int → PyData
  | none => .none
  | some i => .int i
/-- what is known of a row -/
structure RowOk (r : Row) : Prop where
  rule : IsRule r.1
  abs : IsAbs r.2.1
  ticks : r.2.2 = (List.range 9).map (tickV r.1 r.2.1)
  best : lastL 0 (film r.1 r.2.1 8) = (told r.2.2).foldl max 0
  told : ∃ n ns, CD.told r.2.2 = n :: ns ∧ (told r.2.2).foldl max 0 = ns.foldl max n
  show1 : (PyData.tuple (r.2.2.map oD)).showable = true
  show2 : (PyData.tuple (r.2.2.map oD)).hasDict = false
  show3 : (PyData.tuple (r.2.2.map oD)).depth ≤ 60
  show4 : (PyData.tuple (r.2.2.map oD)).shown.length ≤ 1000
theorem row_mk (r : Row) (h1 : 1 ≤ r.1.length ∧ r.1.length ≤ 4) (h2 : (r.1.all fun s => decide (1 ≤ s ∧ s ≤ 6)) = true) (h3 : r.1.Nodup) (h4 : r.2.1.length ≤ 4) (h5 : (r.2.1.all fun s => decide (1 ≤ s ∧ s ≤ 10 ^ 30)) = true) (h6 : ascB r.2.1 = true)
    (h7 : r.2.2 = (List.range 9).map (tickV r.1 r.2.1)) (h8 : lastL 0 (film r.1 r.2.1 8) = (CD.told r.2.2).foldl max 0) (h9 : ∃ n ns, CD.told r.2.2 = n :: ns ∧ (CD.told r.2.2).foldl max 0 = ns.foldl max n)
    (g1 : (PyData.tuple (r.2.2.map oD)).showable = true) (g2 : (PyData.tuple (r.2.2.map oD)).hasDict = false) (g3 : (PyData.tuple (r.2.2.map oD)).depth ≤ 60) (g4 : (PyData.tuple (r.2.2.map oD)).shown.length ≤ 1000) : RowOk r :=
  ⟨⟨h1.1, h1.2, fun s hs => of_decide_eq_true (List.all_eq_true.mp h2 s hs), h3⟩, ⟨h4, fun s hs => of_decide_eq_true (List.all_eq_true.mp h5 s hs), h6⟩, h7, h8, h9, g1, g2, g3, g4⟩
theorem rows_ok : ∀ r ∈ rowsD, RowOk r := by
  intro r hr
  unfold rowsD at hr
  simp only [List.mem_cons, List.not_mem_nil, or_false] at hr
  rcases hr with rfl | rfl | rfl | rfl | rfl | rfl <;>
    exact row_mk _ (by decide) (by decide) (by decide) (by decide) (by decide +kernel) (by decide) (by decide +kernel) (by decide +kernel) ⟨_, _, rfl, by decide⟩ (by decide +kernel) (by decide +kernel) (by decide +kernel) (by decide +kernel)
def tConst : List V → TA
  | [] => tNil
  | v :: vs => tCons (tC v) (tConst vs)
theorem tConst_go {σ : L2.St} {H : Hp} : ∀ {vs : List V} {Q : List V → Hp → Prop}, Q vs H → tConst vs σ H Q
  | [], _, q => q
  | v :: vs, Q, q => tConst_go (vs := vs) (Q := fun xs H2 => Q (v :: xs) H2) q
theorem mk_row {σ : L2.St} {H : Hp} {R : VK} (r : Row) (hz : r.1.length ≤ 20 ∧ r.2.1.length ≤ 20 ∧ r.2.2.length ≤ 20) (h : ∀ p H', Same H H' → RowAt H' p r → R (.ref p) H') :
    tTup (tCons (tTup (tConst (r.1.map V.int))) (tCons (tTup (tConst (r.2.1.map V.int))) (tCons (tTup (tConst (r.2.2.map oV))) tNil))) σ H R := by
  refine tConst_go ⟨by rw [List.length_map]; exact Nat.le_of_lt (small1000 (by omega)), fun a na => tConst_go ⟨by rw [List.length_map]; exact Nat.le_of_lt (small1000 (by omega)), fun b nb => tConst_go ⟨by rw [List.length_map]; exact Nat.le_of_lt (small1000 (by omega)), fun c nc => ?_⟩⟩⟩
  refine ⟨(by decide : 3 ≤ sizeLine), fun p np => ?_⟩
  have s1 : Same H (upd H a (.tup (r.1.map V.int))) := same_upd na
  have s2 := same_upd (o := .tup (r.2.1.map V.int)) nb
  have s3 := same_upd (o := .tup (r.2.2.map oV)) nc
  have s4 := same_upd (o := .tup [.ref a, .ref b, .ref c]) np
  exact h p _ (s1.trans (s2.trans (s3.trans s4))) ⟨a, b, c, upd_same, s4 _ _ (s3 _ _ (s2 _ _ upd_same)), s4 _ _ (s3 _ _ upd_same), s4 _ _ upd_same⟩
def spRows : Sp := fun vs H Q _ => vs = [] ∧ ∀ H' l ps, Same H H' → H l = none → H' l = some (.lst (ps.map V.ref)) → RowsAt H' ps rowsD → Q (.ref l) H'
theorem tupU {H : Hp} {l : Addr} {xs : List V} {o : HO} (hl : H l = some (.lst xs)) : ∀ b ys, H b = some (.tup ys) → (upd H l o) b = some (.tup ys) := fun b ys e => by
  rw [upd_ne (ne_of e hl (fun z => nomatch z))]
  exact e
/-- found.append(row) -/
theorem app_row {H H' : Hp} {l p : Addr} {ps : List Addr} {rs : List Row} {r : Row} (hl : H l = some (.lst (ps.map V.ref))) (hr : RowsAt H ps rs) (s : Same H H') (hp : RowAt H' p r) :
    upd H' l (.lst (ps.map V.ref ++ [.ref p])) l = some (.lst ((ps ++ [p]).map V.ref)) ∧ RowsAt (upd H' l (.lst (ps.map V.ref ++ [.ref p]))) (ps ++ [p]) (rs ++ [r]) := by
  have hl' := s _ _ hl
  refine ⟨by rw [upd_same, List.map_append]; rfl, RowsAt.snoc ?_ ?_⟩
  · exact (hr.same fun b xs e => s _ _ e).same (tupU hl')
  · exact hp.same (tupU hl')
theorem cal_law_rows (z : Z mg) (D : Def K mg "_law_rows" s__law_rows p__law_rows) : Cal P w K mg base 2 "_law_rows" p__law_rows spRows := by
  refine D.cal sc__law_rows (fun vs H Q E h => by obtain ⟨rfl, _⟩ := h; rfl) fun f cdv A outer s H vs Q E hr h => ?_
  obtain ⟨rfl, q⟩ := h
  refine ⟨_, (pss_cons (ps_set (i := 0) sc__law_rows.nd rfl (Or.inl rfl) (pe_lst (pa_cons (pe_tup (pa_cons (pe_tup (pa_cons pe_int (pa_cons pe_int pa_nil))) (pa_cons (pe_tup pa_nil) (pa_cons (pe_tup (pa_cons pe_int (pa_cons pe_int (pa_cons pe_int (pa_cons pe_int (pa_cons pe_int (pa_cons pe_int (pa_cons pe_int (pa_cons pe_int (pa_cons pe_int pa_nil)))))))))) pa_nil)))) (pa_cons (pe_tup (pa_cons (pe_tup (pa_cons pe_int (pa_cons pe_int pa_nil))) (pa_cons (pe_tup pa_nil) (pa_cons (pe_tup (pa_cons pe_int (pa_cons pe_int (pa_cons pe_int (pa_cons pe_int (pa_cons pe_int (pa_cons pe_int (pa_cons pe_int (pa_cons pe_int (pa_cons pe_int pa_nil)))))))))) pa_nil)))) pa_nil))))
        (pss_cons (ps_expr (pe_bm PySem.F.plainAttrs_list PySem.F.slot_list_append PySem.F.type_list_append mt_append (pv 0) (pa_cons (pe_tup (pa_cons (pe_tup (pa_cons pe_int (pa_cons pe_int pa_nil))) (pa_cons (pe_tup (pa_cons pe_int pa_nil)) (pa_cons (pe_tup (pa_cons pe_int (pa_cons pe_int (pa_cons pe_non (pa_cons pe_int (pa_cons pe_int (pa_cons pe_int (pa_cons pe_int (pa_cons pe_int (pa_cons pe_int pa_nil)))))))))) pa_nil)))) pa_nil)))
        (pss_cons (ps_expr (pe_bm PySem.F.plainAttrs_list PySem.F.slot_list_append PySem.F.type_list_append mt_append (pv 0) (pa_cons (pe_tup (pa_cons (pe_tup (pa_cons pe_int (pa_cons pe_int pa_nil))) (pa_cons (pe_tup (pa_cons pe_int (pa_cons pe_int pa_nil))) (pa_cons (pe_tup (pa_cons pe_int (pa_cons pe_non (pa_cons pe_non (pa_cons pe_non (pa_cons pe_non (pa_cons pe_non (pa_cons pe_non (pa_cons pe_non (pa_cons pe_non pa_nil)))))))))) pa_nil)))) pa_nil)))
        (pss_cons (ps_expr (pe_bm PySem.F.plainAttrs_list PySem.F.slot_list_append PySem.F.type_list_append mt_append (pv 0) (pa_cons (pe_tup (pa_cons (pe_tup (pa_cons pe_int (pa_cons pe_int pa_nil))) (pa_cons (pe_tup pa_nil) (pa_cons (pe_tup (pa_cons pe_int (pa_cons pe_non (pa_cons pe_int (pa_cons pe_int (pa_cons pe_int (pa_cons pe_int (pa_cons pe_int (pa_cons pe_int (pa_cons pe_int pa_nil)))))))))) pa_nil)))) pa_nil)))
        (pss_one (ps_ret (pe_op op_cat (pv 0) (pe_lst (pa_cons (pe_tup (pa_cons (pe_tup (pa_cons pe_int (pa_cons pe_int (pa_cons pe_int pa_nil)))) (pa_cons (pe_tup (pa_cons pe_int pa_nil)) (pa_cons (pe_tup (pa_cons pe_int (pa_cons pe_int (pa_cons pe_int (pa_cons pe_int (pa_cons pe_non (pa_cons pe_int (pa_cons pe_int (pa_cons pe_int (pa_cons pe_int pa_nil)))))))))) pa_nil)))) pa_nil))))))))), ?_⟩
  refine seq_go (asg_go (lst_go (cons_go ?_)))
  refine mk_row ([1, 2], [], [some 0, some 1, some 2, some 3, some 4, some 5, some 6, some 7, some 8]) (by decide) fun p1 H1 s1 r1 => ?_
  refine cons_go ?_
  refine mk_row ([2, 1], [], [some 0, some 2, some 1, some 3, some 2, some 4, some 3, some 5, some 4]) (by decide) fun p2 H2 s2 r2 => ?_
  refine ⟨(by decide : 2 ≤ sizeLine), fun l nl => ?_⟩
  have s3 : Same H2 (upd H2 l (.lst [.ref p1, .ref p2])) := same_upd nl
  have nl0 : H l = none := Same.free s1 (Same.free s2 nl)
  have sm : Same H (upd H2 l (.lst [.ref p1, .ref p2])) := s1.trans (s2.trans s3)
  have hl : (upd H2 l (.lst [.ref p1, .ref p2])) l = some (.lst ([p1, p2].map V.ref)) := upd_same
  have hR : RowsAt (upd H2 l (.lst [.ref p1, .ref p2])) [p1, p2] (rowsD.take 2) := ⟨r1.same fun b xs e => s3 _ _ (s2 _ _ e), r2.same fun b xs e => s3 _ _ e, trivial⟩
  generalize upd H2 l (.lst [.ref p1, .ref p2]) = H3 at sm hl hR
  clear s3 nl r1 r2 s2 s1
  have keep : ∀ {Ha Hb : Hp} {xs : List V}, Same H Ha → Same Ha Hb → Same H (upd Hb l (.lst xs)) := fun {Ha Hb xs} sa sb b o e => by
    rw [upd_ne (ne_of_none e nl0)]
    exact sb _ _ (sa _ _ e)
  refine ⟨.ref l, rfl, .inl ⟨rfl, _, .inl (.inl hl)⟩, ?_⟩
  refine cons_go ?_
  refine mk_row ([2, 1], [2], [some 0, some 2, none, some 3, some 5, some 4, some 6, some 5, some 7]) (by decide) fun p3 H4 s4 r4 => ?_
  refine ⟨l, _, _, rfl, rfl, s4 _ _ hl, (by decide : 2 < sizeLine), ?_⟩
  have hR4 := (app_row hl hR s4 r4).2
  have sm4 := keep (xs := [p1, p2].map V.ref ++ [.ref p3]) sm s4
  replace hl := (app_row hl hR s4 r4).1
  show tSeq _ _ _ _ (upd H4 l (.lst ([p1, p2].map V.ref ++ [.ref p3])))
  generalize upd H4 l (.lst ([p1, p2].map V.ref ++ [.ref p3])) = H5 at sm4 hl hR4
  refine ⟨.ref l, rfl, .inl ⟨rfl, _, .inl (.inl hl)⟩, ?_⟩
  refine cons_go ?_
  refine mk_row ([3, 1], [1, 3], [some 0, none, none, none, none, none, none, none, none]) (by decide) fun p4 H6 s6 r6 => ?_
  refine ⟨l, _, _, rfl, rfl, s6 _ _ hl, (by decide : 3 < sizeLine), ?_⟩
  have hR6 := (app_row hl hR4 s6 r6).2
  have sm6 := keep (xs := ([p1, p2] ++ [p3]).map V.ref ++ [.ref p4]) sm4 s6
  replace hl := (app_row hl hR4 s6 r6).1
  show tSeq _ _ _ _ (upd H6 l (.lst (([p1, p2] ++ [p3]).map V.ref ++ [.ref p4])))
  generalize upd H6 l (.lst (([p1, p2] ++ [p3]).map V.ref ++ [.ref p4])) = H7 at sm6 hl hR6
  refine ⟨.ref l, rfl, .inl ⟨rfl, _, .inl (.inl hl)⟩, ?_⟩
  refine cons_go ?_
  refine mk_row ([3, 2], [], [some 0, none, some 2, some 1, some 4, some 3, some 2, some 5, some 4]) (by decide) fun p5 H8 s8 r8 => ?_
  refine ⟨l, _, _, rfl, rfl, s8 _ _ hl, (by decide : 4 < sizeLine), ?_⟩
  have hR8 := (app_row hl hR6 s8 r8).2
  have sm8 := keep (xs := ([p1, p2] ++ [p3] ++ [p4]).map V.ref ++ [.ref p5]) sm6 s8
  replace hl := (app_row hl hR6 s8 r8).1
  dsimp only
  generalize upd H8 l (.lst (([p1, p2] ++ [p3] ++ [p4]).map V.ref ++ [.ref p5])) = H9 at sm8 hl hR8
  refine ⟨.ref l, rfl, ?_⟩
  refine lst_go (cons_go ?_)
  refine mk_row ([1, 3, 2], [4], [some 0, some 1, some 2, some 2, none, some 4, some 4, some 5, some 6]) (by decide) fun p6 H10 s10 r10 => ?_
  refine ⟨(by decide : 1 ≤ sizeLine), fun l2 nl2 => ?_⟩
  have s11 := same_upd (o := .lst [.ref p6]) nl2
  refine ⟨l, l2, _, _, rfl, rfl, s11 _ _ (s10 _ _ hl), upd_same, (by decide : 6 ≤ sizeLine), fun l3 nl3 => ?_⟩
  have s12 := same_upd (o := .lst (([p1, p2] ++ [p3] ++ [p4] ++ [p5]).map V.ref ++ [.ref p6])) nl3
  have smZ := sm8.trans (s10.trans (s11.trans s12))
  refine q _ l3 [p1, p2, p3, p4, p5, p6] smZ (Same.free (sm8.trans (s10.trans s11)) nl3) upd_same ?_
  have hZ := RowsAt.snoc (hR8.same fun b xs e => s10 _ _ e) r10
  exact hZ.same fun b xs e => s12 _ _ (s11 _ _ e)
end
end LK
namespace LK
open PySem PySem.Spec PyProof.Rows L2 CD
section
variable {P : Program} {w : World} {K : PySem.W.Frag} {mg : Str → Option Value} {base : Heap}
/-! ### the law -/
theorem dp_opts {H : Hp} : ∀ os : List (Option Int), DpAll K H (os.map oV) (os.map oD)
  | [] => .nil
  | none :: r => .cons .non (dp_opts r)
  | some i :: r => .cons (.int i) (dp_opts r)
theorem desc_unique {ds es ns : List Int} (h1 : ds.Perm ns) (h2 : ds.Pairwise (· ≥ ·)) (h3 : es.Perm ns) (h4 : es.Pairwise (· ≥ ·)) : ds = es :=
  List.Perm.eq_of_pairwise (fun x y _ _ a b => Int.le_antisymm b a) h2 h4 (h1.trans h3.symm)
theorem told_opts (os : List (Option Int)) : os.filterMap (fun o => o.map V.int) = (told os).map V.int := told_list os
def spLaw (K : PySem.W.Frag) : Sp := fun vs H Q _ => ∃ (a : Addr) (ns : List Int), vs = [.ref a] ∧ SqL K H a (ns.map V.int) ∧ ns.length ≤ 63 ∧ ∀ H', Q (.bl true) H'
theorem Draw.same {H H' : Hp} {d g : Addr} {n : Nat} (h : Draw H d g n) (s : Same H H') : Draw H' d g n := by
  obtain ⟨c, cells, greats, spot, h1, h2, h3, r⟩ := h
  exact ⟨c, cells, greats, spot, s _ _ h1, s _ _ h2, s _ _ h3, r⟩
/-- callers(rule, absence, n) of literals -/
theorem call_two {σ : L2.St} {H : Hp} {R : VK} (ns gs : List Int) (n : Nat) (es out : List Int) (hR : IsRule ns) (hA : IsAbs gs) (hn : (n : Int) ≤ 2 ^ 20) (h1 : es.Perm ns) (h2 : es.Pairwise (· ≥ ·)) (h3 : callersV es gs ns n = out)
    (h : ∀ H' p, Same H H' → H' p = some (.tup (out.map V.int)) → R (.ref p) H') : tCall (spCallers K) [] E0 (tCons (tTup (tConst (ns.map V.int))) (tCons (tTup (tConst (gs.map V.int))) (tCons (tC (.int n)) tNil))) σ H R := by
  refine tConst_go ⟨by rw [List.length_map]; exact Nat.le_of_lt (small1000 (by have := hR.most; omega)), fun q nq => tConst_go ⟨by rw [List.length_map]; exact Nat.le_of_lt (small1000 (by have := hA.most; omega)), fun u nu => ?_⟩⟩
  have sq := same_upd (o := .tup (ns.map V.int)) nq
  have su := same_upd (o := .tup (gs.map V.int)) nu
  refine ⟨q, u, ns, gs, n, rfl, ⟨.inl (.inl (su _ _ upd_same)), .inl (.inl upd_same), hR, hA⟩, Int.le_trans hn (by decide), repAll_small gs 1 n _ hA.asc (fun k hk => (hA.rng k hk).1) (by decide) hn, fun H' p ds hp ho s e => ?_⟩
  rw [desc_unique hp ho h1 h2, h3] at e
  exact h H' p (sq.trans (su.trans s)) e
theorem dp_tup {H : Hp} {p : Addr} {ns : List Int} (h : H p = some (.tup (ns.map V.int))) : Dp K H (.ref p) (.tuple (ns.map PyData.int)) := .tup (.inl (.inl h)) (dp_ints ns)
theorem cal_law (z : Z mg) (c__law_begun : Cal P w K mg base 2 "_law_begun" p__law_begun (spBegun K)) (c__law_rows : Cal P w K mg base 2 "_law_rows" p__law_rows spRows) (c__law_of : Cal P w K mg base 3 "_law_of" p__law_of spOf)
    (c_tick_of : Cal P w K mg base 7 "tick_of" p_tick_of (spTick K)) (c_callers : Cal P w K mg base 7 "callers" p_callers (spCallers K)) (c_last_tick : Cal P w K mg base 7 "last_tick" p_last_tick (spLast K)) {f : Addr} {fd : FuncData} (F : Fun K "law" "law" s_law f fd) :
    GOk P w K mg base 8 f fd p_law (spLaw K) := by
  refine g_ok F sc_law (fun vs H Q E h => by obtain ⟨_, _, rfl, _⟩ := h; rfl) fun cdv A outer s H vs Q E hgd hr h => ?_
  obtain ⟨a, ns, rfl, hS, hl, q⟩ := h
  refine ⟨_, (pss_cons (ps_set (i := 1) sc_law.nd rfl (Or.inl rfl) (pe_cal c__law_begun (hr.mono (by decide)) (by rfl) (pa_cons (pv 0) pa_nil)))
        (pss_cons (ps_set (i := 2) sc_law.nd rfl (Or.inl rfl) (pe_cal0 c__law_rows (hr.mono (by decide)) (by rfl)))
        (pss_cons (ps_for PassesOwn.never rfl (pi_range1 (by rfl) z.«range» (pa_cons (pe_op op_add pe_int (pe_callB (call_min2 rfl) (by rfl) z.«min» (by decide +kernel) (pa_cons (pe_callB (call_len_seq) (by rfl) z.«len» (by decide +kernel) (pa_cons (pv 0) pa_nil)) (pa_cons pe_int pa_nil)))) pa_nil)) (pg_name (i := 3) sc_law.nd rfl (Or.inl rfl)) (pss_cons (ps_asg (pe_ifExp (pt_cmpR op_lt (pv 3) pe_int (nomark _)) (pe_ix ix_list (pv 2) (pv 3) (fun _ _ => rfl)) (pe_cal c__law_of (hr.mono (by decide)) (by rfl) (pa_cons (pv 1) (pa_cons (pv 2) pa_nil)))) (pg_tup rfl (pgs_cons (pg_name (i := 4) sc_law.nd rfl (Or.inr rfl)) (pgs_cons (pg_name (i := 5) sc_law.nd rfl (Or.inr rfl)) (pgs_cons (pg_name (i := 6) sc_law.nd rfl (Or.inl rfl)) pgs_nil)))))
        (pss_cons (ps_if (pt_cmpR op_ne (pe_callB (call_reprD hgd hr.units) (by rfl) z.«repr» (by decide +kernel) (pa_cons (pe_callTy (call_tuple_of) (by rfl) z.«tuple» (by decide +kernel) (pa_cons (pe_lc (own := [("k", 10)]) (g := (gName 10)) (tt := tYes) rfl sc_law.nd (pi_range1 (by rfl) z.«range» (pa_cons pe_int pa_nil)) (blkOk_by (N := n_law) (sc := defScope s_law) (by decide +kernel)) (fun _ _ _ _ _ => (pg_name (i := 10) sc_law.nd rfl (Or.inl rfl))) (fun _ _ _ _ _ => pts_nil) (fun _ _ _ _ _ => (pe_cal c_tick_of (hr.mono (by decide)) (by rfl) (pa_cons (pv 4) (pa_cons (pv 5) (pa_cons (pv 10) pa_nil)))))) pa_nil)) pa_nil)) (pe_callB (call_reprD hgd hr.units) (by rfl) z.«repr» (by decide +kernel) (pa_cons (pv 6) pa_nil)) (nomark _)) (pss_one (ps_ret pe_bl)) pss_nil)
        (pss_cons (ps_set (i := 7) sc_law.nd rfl (Or.inl rfl) (pe_callB (cr_max rfl) (by rfl) z.«max» (by decide +kernel) (pa_cons (pe_lc (own := [("one", 9)]) (g := (gName 9)) rfl sc_law.nd (pi_tup (pv 6)) (blkOk_by (N := n_law) (sc := defScope s_law) (by decide +kernel)) (fun _ _ _ _ _ => (pg_name (i := 9) sc_law.nd rfl (Or.inl rfl))) (fun _ _ _ _ _ => (pts_one (pt_cmpR op_notN (pv 9) pe_non (nomark _)))) (fun _ _ _ _ _ => (pv 9))) pa_nil)))
        (pss_one (ps_if (pt_cmpR op_ne (pe_cal c_last_tick (hr.mono (by decide)) (by rfl) (pa_cons (pv 4) (pa_cons (pv 5) (pa_cons pe_int pa_nil)))) (pv 7) (nomark _)) (pss_one (ps_ret pe_bl)) pss_nil))))))
        (pss_cons (ps_set (i := 8) sc_law.nd rfl (Or.inl rfl) (pe_lst (pa_cons (pe_cal c_callers (hr.mono (by decide)) (by rfl) (pa_cons (pe_tup (pa_cons pe_int (pa_cons pe_int pa_nil))) (pa_cons (pe_tup (pa_cons pe_int pa_nil)) (pa_cons pe_int pa_nil)))) (pa_cons (pe_cal c_callers (hr.mono (by decide)) (by rfl) (pa_cons (pe_tup (pa_cons pe_int (pa_cons pe_int pa_nil))) (pa_cons (pe_tup (pa_cons pe_int pa_nil)) (pa_cons pe_int pa_nil)))) (pa_cons (pe_cal c_callers (hr.mono (by decide)) (by rfl) (pa_cons (pe_tup (pa_cons pe_int (pa_cons pe_int pa_nil))) (pa_cons (pe_tup pa_nil) (pa_cons pe_int pa_nil)))) (pa_cons (pe_cal c_callers (hr.mono (by decide)) (by rfl) (pa_cons (pe_tup (pa_cons pe_int (pa_cons pe_int (pa_cons pe_int pa_nil)))) (pa_cons (pe_tup (pa_cons pe_int pa_nil)) (pa_cons pe_int pa_nil)))) pa_nil))))))
        (pss_one (ps_ret (pe_and (pe_cmpR (op_eqD hr.units) (pv 8) (pe_lst (pa_cons (pe_tup (pa_cons pe_int pa_nil)) (pa_cons (pe_tup (pa_cons pe_int (pa_cons pe_int pa_nil))) (pa_cons (pe_tup pa_nil) (pa_cons (pe_tup (pa_cons pe_int (pa_cons pe_int pa_nil))) pa_nil))))) (nomark _)) (pe_one (pe_cmpR (op_eqD hr.units) (pe_cal c_callers (hr.mono (by decide)) (by rfl) (pa_cons (pe_tup (pa_cons pe_int (pa_cons pe_int pa_nil))) (pa_cons (pe_tup pa_nil) (pa_cons pe_int pa_nil)))) (pe_tup pa_nil) (nomark _)))))))))), ?_⟩
  refine ⟨.ref a, rfl, a, ns, rfl, hS, hl, fun H1 d g s1 nd ng hD => ?_⟩
  refine ⟨rfl, fun H2 l ps s2 nl hL hR => ?_⟩
  have hD2 : Draw H2 d g 0 := by
    obtain ⟨c, cells, greats, spot, h1, h2, h3, r⟩ := hD.ex
    exact ⟨c, cells, greats, spot, s2 _ _ h1, s2 _ _ h2, s2 _ _ h3, r⟩
  have hlg : l ≠ g := fun x => by
    obtain ⟨c, cells, greats, spot, h1, h2, h3, r⟩ := hD.ex
    rw [x, h3] at nl
    cases nl
  have hps : ps.length = 6 := by
    have := hR
    unfold rowsD at this
    match ps, this with
    | [_, _, _, _, _, _], _ => rfl
  refine ⟨.ref a, rfl, a, _, rfl, .inl (s2.seq (s1.seq hS)), _, _, rfl, 6, _, rfl, rfl, _, rfl, ?_⟩
  have emin : (6 : Int) + (if (4 : Int) < ((ns.map V.int).length : Int) then 4 else ((ns.map V.int).length : Int)) = ((6 + min ns.length 4 : Nat) : Int) := by
    rw [List.length_map]
    split <;> omega
  generalize (6 : Int) + (if (4 : Int) < ((ns.map V.int).length : Int) then 4 else ((ns.map V.int).length : Int)) = turns at emin
  refine ⟨by omega, by omega, ?_⟩
  refine for_it (walk_range (lo := 0) (n := turns.toNat)) (fun i σ H3 => ∃ g3 y3 y4 y5 y6 y7 y8 y9 y10, σ = [some (.ref a), some (.ref d), some (.ref l), y3, y4, y5, y6, y7, y8, y9, y10] ∧ Draw H3 d g3 i ∧ H3 l = some (.lst (ps.map V.ref)) ∧ l ≠ g3 ∧ RowsAt H3 ps rowsD)
    ⟨g, none, none, none, none, none, none, none, none, rfl, hD2, hL, hlg, hR⟩ (fun _ _ _ _ _ => trivial) (fun i x σ H3 H4 hi hW y => ?_) (fun σ H3 hW => ?_)
  · obtain ⟨g3, y3, y4, y5, y6, y7, y8, y9, y10, rfl, hD3, hL3, hlg3, hR3⟩ := hW
    obtain ⟨rfl, rfl⟩ := y
    have hi10 : i < 10 := by omega
    -- line, gone, ticks = ..
    refine ⟨_, rfl, (0 : Int) + (i : Nat), 6, rfl, rfl, _, rfl, ite2 (fun e => ?_) (fun e => ?_)⟩
    · have e' : (0 : Int) + (i : Nat) < 6 := of_decide_eq_true e
      have hip : ps[i]? = some ps[i] := List.getElem?_eq_getElem (by omega)
      obtain ⟨r, er, hrow⟩ := hR3.get hip
      have hrk := rows_ok r (List.mem_of_getElem? er)
      refine ⟨.ref l, rfl, _, rfl, l, _, _, .ref ps[i], rfl, rfl, .inl (.inl hL3), ?_, ?_⟩
      · rw [Int.zero_add]
        refine atI_nat ?_
        rw [List.getElem?_map, hip]
        rfl
      have hDx : ∃ g4, Draw H4 d g4 (i + 1) ∧ l ≠ g4 := by
        obtain ⟨c, cells, greats, spot, h1, h2, h3, h4, h5, h6, h7⟩ := hD3.ex
        exact ⟨g3, ⟨c, cells, greats, spot, h1, h2, h3, h4, h5, h6, by omega⟩, hlg3⟩
      generalize ps[i] = p at *
      obtain ⟨pa, pb, pc, t0, t1, t2, t3⟩ := hrow
      refine ⟨p, _, rfl, .inl (.inl t0), rfl, _, _, rfl, _, _, rfl, _, _, rfl, rfl, ?_⟩
      refine ⟨9, rfl, by decide, by decide, fun L nL => ?_⟩
      refine lc_std (walk_range (lo := 0) (n := 9)) (List.range 9) (fun k => some (oV (tickV r.1 r.2.1 k))) (by rw [List.length_range]) (small1000 (by decide)) nL (fun _ _ => trivial) (fun j x H5 H6 k R hk s5 y hRR => ?_) (fun H5 s5 e5 => ?_)
      · obtain ⟨rfl, rfl⟩ := y
        have hkj : j < 9 ∧ k = j := by
          rw [List.getElem?_eq_some_iff] at hk
          obtain ⟨hj, e⟩ := hk
          rw [List.length_range] at hj
          rw [List.getElem_range] at e
          exact ⟨hj, e.symm⟩
        obtain ⟨hj, rfl⟩ := hkj
        refine ⟨rfl, ⟨.ref pa, rfl, .ref pb, rfl, .int (0 + (k : Nat)), rfl, pa, pb, r.1, r.2.1, k, ?_, ⟨.inl (.inl (s5 _ _ t1)), .inl (.inl (s5 _ _ t2)), hrk.rule, hrk.abs⟩, by omega, repAll_small r.2.1 1 k _ hrk.abs.asc (fun k hk => (hrk.abs.rng k hk).1) (by decide) (by omega), fun H7 s7 => hRR H7 s7⟩⟩
        rw [Int.zero_add]
        rfl
      rw [filterMap_some] at e5
      have e6 : (List.range 9).map (fun k => oV (tickV r.1 r.2.1 k)) = r.2.2.map oV := by
        rw [hrk.ticks, List.map_map]
        rfl
      rw [e6] at e5
      refine ⟨L, _, rfl, .inl ⟨.inl (.inl e5), fun t nt => ?_⟩⟩
      have st := same_upd (o := .tup (r.2.2.map oV)) nt
      have hshow : (PyData.tuple (r.2.2.map oD)).shown.length ≤ sizeLine := Nat.le_of_lt (small1000 (by have := hrk.show4; omega))
      refine ⟨.ref t, .tuple (r.2.2.map oD), rfl, .tup (.inl (.inl upd_same)) (dp_opts _), hrk.show1, hrk.show2, hrk.show3, hshow, ?_⟩
      refine ⟨.ref pc, rfl, .ref pc, .tuple (r.2.2.map oD), rfl, .tup (.inl (.inl (st _ _ (s5 _ _ t3)))) (dp_opts _), hrk.show1, hrk.show2, hrk.show3, hshow, ?_⟩
      refine ⟨rfl, _, rfl, ?_⟩
      have sF : Same H4 (upd H5 t (.tup (r.2.2.map oV))) := s5.trans st
      generalize upd H5 t (.tup (r.2.2.map oV)) = HF at sF
      clear st nt e5 s5
      rw [show (!decide (V.str (PyData.tuple (r.2.2.map oD)).shown = V.str (PyData.tuple (r.2.2.map oD)).shown)) = false by rw [decide_eq_true rfl]; rfl]
      refine iteF ?_
      dsimp only [tNext]
      refine seq_go (asg_go (cb_go (cons_go ?_)))
      refine ⟨.ref pc, rfl, pc, rfl, ⟨_, .inl (.inl (sF _ _ t3))⟩, fun M nM => ?_⟩
      refine lc_std (walk_tup (K := K) (a := pc) (xs := r.2.2.map oV)) r.2.2 (fun o => o.map V.int) (by rw [List.length_map]) (small1000 (by rw [List.length_map, hrk.ticks, List.length_map, List.length_range]; decide)) nM (fun H6 s6 => .inl (.inl (s6 _ _ (sF _ _ t3)))) (fun j x H6 H7 o R ho s6 y hRR => ?_) (fun H6 s6 e6 => ?_)
      · obtain ⟨rfl, gg⟩ := y
        obtain rfl := map_at ho gg
        refine ⟨rfl, ?_⟩
        cases o with
        | none => exact ⟨.non, rfl, rfl, false, rfl, iteF (hRR _ (Same.refl _))⟩
        | some t => exact ⟨.int t, rfl, rfl, true, rfl, iteT ⟨.int t, rfl, hRR _ (Same.refl _)⟩⟩
      rw [told_opts] at e6
      obtain ⟨b0, bs, eb, em⟩ := hrk.told
      refine ⟨M, CD.told r.2.2, rfl, .inl (.inl e6), by rw [eb]; exact Nat.succ_pos _, fun m hm hM => ?_⟩
      have hbest : lastL 0 (film r.1 r.2.1 8) = m := by
        rw [hrk.best, em]
        rw [eb] at hm hM
        obtain ⟨g1, g2, g3⟩ := foldmax_ge bs b0
        have a1 : bs.foldl max b0 ≤ m := by
          rcases g3 with g | g
          · rw [g]; exact hM _ List.mem_cons_self
          · exact hM _ (List.mem_cons_of_mem _ g)
        have a2 : m ≤ bs.foldl max b0 := by
          rcases List.mem_cons.mp hm with g | g
          · rw [g]; exact g1
          · exact g2 _ g
        omega
      refine ⟨.ref pa, rfl, .ref pb, rfl, pa, pb, r.1, r.2.1, 8, rfl, ⟨.inl (.inl (s6 _ _ (sF _ _ t1))), .inl (.inl (s6 _ _ (sF _ _ t2))), hrk.rule, hrk.abs⟩, by decide, repAll_small r.2.1 1 _ _ hrk.abs.asc (fun k hk => (hrk.abs.rng k hk).1) (by decide) (by decide), fun H7 s7 => ?_⟩
      rw [hbest]
      refine ⟨.int m, rfl, rfl, _, rfl, ?_⟩
      rw [show (!decide (V.int m = V.int m)) = false by rw [decide_eq_true rfl]; rfl]
      refine iteF ?_
      have sZ : Same H4 H7 := sF.trans (s6.trans s7)
      obtain ⟨g4, hD4, hlg4⟩ := hDx
      exact ⟨g4, _, _, _, _, _, _, _, _, rfl, hD4.same sZ, sZ _ _ hL3, hlg4, hR3.same fun b xs e => sZ _ _ e⟩
    · have e' : ¬ ((0 : Int) + (i : Nat) < 6) := fun x => e (decide_eq_true x)
      have hdK : ∃ kvs, H4 d = some (.dK kvs) := by
        obtain ⟨c, cells, greats, spot, h1, h2, h3, _⟩ := hD3.ex
        exact ⟨_, h1⟩
      have hgL : ∃ xs, H4 g3 = some (.lst xs) := by
        obtain ⟨c, cells, greats, spot, h1, h2, h3, _⟩ := hD3.ex
        exact ⟨_, h3⟩
      refine ⟨.ref d, rfl, .ref l, rfl, d, g3, l, i, ps.map V.ref, rfl, hD3, by omega, hL3, hlg3, fun x => ?_, by rw [List.length_map]; omega, fun HG g5 j x but hg5 hD5 hx => ?_⟩
      · have := congrArg List.length x
        rw [List.length_map, hps] at this
        cases this
      obtain ⟨p, hip, rfl⟩ : ∃ p, ps[j]? = some p ∧ x = .ref p := by
        rw [List.getElem?_map] at hx
        cases ep : ps[j]? with
        | none => rw [ep] at hx; cases hx
        | some p => rw [ep] at hx; exact ⟨p, rfl, (Option.some.inj hx).symm⟩
      have keepT : ∀ b xs, H4 b = some (.tup xs) → HG b = some (.tup xs) := fun b xs e => by
        obtain ⟨kvs, hd⟩ := hdK
        obtain ⟨gl, hg⟩ := hgL
        exact but _ _ e (ne_of e hd (fun z => nomatch z)) (ne_of e hg (fun z => nomatch z))
      obtain ⟨r, er, hrow⟩ := hR3.get hip
      have hrk := rows_ok r (List.mem_of_getElem? er)
      replace hrow := hrow.same keepT
      have hDx : ∃ g4, Draw HG d g4 (i + 1) ∧ l ≠ g4 := ⟨g5, hD5, fun x => by
        rcases hg5 with rfl | h
        · exact hlg3 x
        · rw [← x, hL3] at h; cases h⟩
      replace hR3 := hR3.same keepT
      replace hL3 := but _ _ hL3 (hD3.nd hL3) hlg3
      clear but hg5 hD5 hD3 hdK hgL keepT
      obtain ⟨pa, pb, pc, t0, t1, t2, t3⟩ := hrow
      refine ⟨p, _, rfl, .inl (.inl t0), rfl, _, _, rfl, _, _, rfl, _, _, rfl, rfl, ?_⟩
      refine ⟨9, rfl, by decide, by decide, fun L nL => ?_⟩
      refine lc_std (walk_range (lo := 0) (n := 9)) (List.range 9) (fun k => some (oV (tickV r.1 r.2.1 k))) (by rw [List.length_range]) (small1000 (by decide)) nL (fun _ _ => trivial) (fun j x H5 H6 k R hk s5 y hRR => ?_) (fun H5 s5 e5 => ?_)
      · obtain ⟨rfl, rfl⟩ := y
        have hkj : j < 9 ∧ k = j := by
          rw [List.getElem?_eq_some_iff] at hk
          obtain ⟨hj, e⟩ := hk
          rw [List.length_range] at hj
          rw [List.getElem_range] at e
          exact ⟨hj, e.symm⟩
        obtain ⟨hj, rfl⟩ := hkj
        refine ⟨rfl, ⟨.ref pa, rfl, .ref pb, rfl, .int (0 + (k : Nat)), rfl, pa, pb, r.1, r.2.1, k, ?_, ⟨.inl (.inl (s5 _ _ t1)), .inl (.inl (s5 _ _ t2)), hrk.rule, hrk.abs⟩, by omega, repAll_small r.2.1 1 k _ hrk.abs.asc (fun k hk => (hrk.abs.rng k hk).1) (by decide) (by omega), fun H7 s7 => hRR H7 s7⟩⟩
        rw [Int.zero_add]
        rfl
      rw [filterMap_some] at e5
      have e6 : (List.range 9).map (fun k => oV (tickV r.1 r.2.1 k)) = r.2.2.map oV := by
        rw [hrk.ticks, List.map_map]
        rfl
      rw [e6] at e5
      refine ⟨L, _, rfl, .inl ⟨.inl (.inl e5), fun t nt => ?_⟩⟩
      have st := same_upd (o := .tup (r.2.2.map oV)) nt
      have hshow : (PyData.tuple (r.2.2.map oD)).shown.length ≤ sizeLine := Nat.le_of_lt (small1000 (by have := hrk.show4; omega))
      refine ⟨.ref t, .tuple (r.2.2.map oD), rfl, .tup (.inl (.inl upd_same)) (dp_opts _), hrk.show1, hrk.show2, hrk.show3, hshow, ?_⟩
      refine ⟨.ref pc, rfl, .ref pc, .tuple (r.2.2.map oD), rfl, .tup (.inl (.inl (st _ _ (s5 _ _ t3)))) (dp_opts _), hrk.show1, hrk.show2, hrk.show3, hshow, ?_⟩
      refine ⟨rfl, _, rfl, ?_⟩
      have sF : Same HG (upd H5 t (.tup (r.2.2.map oV))) := s5.trans st
      generalize upd H5 t (.tup (r.2.2.map oV)) = HF at sF
      clear st nt e5 s5
      rw [show (!decide (V.str (PyData.tuple (r.2.2.map oD)).shown = V.str (PyData.tuple (r.2.2.map oD)).shown)) = false by rw [decide_eq_true rfl]; rfl]
      refine iteF ?_
      dsimp only [tNext]
      refine seq_go (asg_go (cb_go (cons_go ?_)))
      refine ⟨.ref pc, rfl, pc, rfl, ⟨_, .inl (.inl (sF _ _ t3))⟩, fun M nM => ?_⟩
      refine lc_std (walk_tup (K := K) (a := pc) (xs := r.2.2.map oV)) r.2.2 (fun o => o.map V.int) (by rw [List.length_map]) (small1000 (by rw [List.length_map, hrk.ticks, List.length_map, List.length_range]; decide)) nM (fun H6 s6 => .inl (.inl (s6 _ _ (sF _ _ t3)))) (fun j x H6 H7 o R ho s6 y hRR => ?_) (fun H6 s6 e6 => ?_)
      · obtain ⟨rfl, gg⟩ := y
        obtain rfl := map_at ho gg
        refine ⟨rfl, ?_⟩
        cases o with
        | none => exact ⟨.non, rfl, rfl, false, rfl, iteF (hRR _ (Same.refl _))⟩
        | some t => exact ⟨.int t, rfl, rfl, true, rfl, iteT ⟨.int t, rfl, hRR _ (Same.refl _)⟩⟩
      rw [told_opts] at e6
      obtain ⟨b0, bs, eb, em⟩ := hrk.told
      refine ⟨M, CD.told r.2.2, rfl, .inl (.inl e6), by rw [eb]; exact Nat.succ_pos _, fun m hm hM => ?_⟩
      have hbest : lastL 0 (film r.1 r.2.1 8) = m := by
        rw [hrk.best, em]
        rw [eb] at hm hM
        obtain ⟨g1, g2, g3⟩ := foldmax_ge bs b0
        have a1 : bs.foldl max b0 ≤ m := by
          rcases g3 with g | g
          · rw [g]; exact hM _ List.mem_cons_self
          · exact hM _ (List.mem_cons_of_mem _ g)
        have a2 : m ≤ bs.foldl max b0 := by
          rcases List.mem_cons.mp hm with g | g
          · rw [g]; exact g1
          · exact g2 _ g
        omega
      refine ⟨.ref pa, rfl, .ref pb, rfl, pa, pb, r.1, r.2.1, 8, rfl, ⟨.inl (.inl (s6 _ _ (sF _ _ t1))), .inl (.inl (s6 _ _ (sF _ _ t2))), hrk.rule, hrk.abs⟩, by decide, repAll_small r.2.1 1 _ _ hrk.abs.asc (fun k hk => (hrk.abs.rng k hk).1) (by decide) (by decide), fun H7 s7 => ?_⟩
      rw [hbest]
      refine ⟨.int m, rfl, rfl, _, rfl, ?_⟩
      rw [show (!decide (V.int m = V.int m)) = false by rw [decide_eq_true rfl]; rfl]
      refine iteF ?_
      have sZ : Same HG H7 := sF.trans (s6.trans s7)
      obtain ⟨g4, hD4, hlg4⟩ := hDx
      exact ⟨g4, _, _, _, _, _, _, _, _, rfl, hD4.same sZ, sZ _ _ hL3, hlg4, hR3.same fun b xs e => sZ _ _ e⟩
  · obtain ⟨g3, y3, y4, y5, y6, y7, y8, y9, y10, rfl, hD3, hL3, hlg3, hR3⟩ := hW
    clear hD3 hL3 hlg3 hR3 hD2 hL hR
    dsimp only
    refine seq_go (asg_go (lst_go (cons_go ?_)))
    refine call_two [2, 1] [2] 4 [2, 1] [3] ⟨by decide, by decide, by decide, by decide⟩ ⟨by decide, by decide, by decide⟩ (by decide) (by decide) (by decide) (by decide) fun Ha p1 sa h1 => cons_go ?_
    refine call_two [2, 1] [2] 2 [2, 1] [0, 1] ⟨by decide, by decide, by decide, by decide⟩ ⟨by decide, by decide, by decide⟩ (by decide) (by decide) (by decide) (by decide) fun Hb p2 sb h2 => cons_go ?_
    refine call_two [3, 2] [] 1 [3, 2] [] ⟨by decide, by decide, by decide, by decide⟩ ⟨by decide, by decide, by decide⟩ (by decide) (by decide) (by decide) (by decide) fun Hc p3 sc h3 => cons_go ?_
    refine call_two [1, 3, 2] [4] 7 [3, 2, 1] [5, 6] ⟨by decide, by decide, by decide, by decide⟩ ⟨by decide, by decide, by decide⟩ (by decide) (by decide) (by decide) (by decide) fun Hd p4 sd h4 => ?_
    refine ⟨(by decide : 4 ≤ sizeLine), fun t nt => ?_⟩
    have st := same_upd (o := .lst [.ref p1, .ref p2, .ref p3, .ref p4]) nt
    have ht : (upd Hd t (.lst [.ref p1, .ref p2, .ref p3, .ref p4])) t = some (.lst [.ref p1, .ref p2, .ref p3, .ref p4]) := upd_same
    replace h4 := st _ _ h4
    replace h3 := st _ _ (sd _ _ h3)
    replace h2 := st _ _ (sd _ _ (sc _ _ h2))
    replace h1 := st _ _ (sd _ _ (sc _ _ (sb _ _ h1)))
    generalize upd Hd t (.lst [.ref p1, .ref p2, .ref p3, .ref p4]) = HT at st ht h1 h2 h3 h4
    clear st nt sa sb sc sd
    dsimp only
    refine ret_go ?_
    refine ⟨.ref t, rfl, ?_⟩
    refine lst_go (cons_go ?_)
    refine tConst_go (vs := [.int 3]) ⟨(by decide : 1 ≤ sizeLine), fun q1 n1 => cons_go ?_⟩
    refine tConst_go (vs := [.int 0, .int 1]) ⟨(by decide : 2 ≤ sizeLine), fun q2 n2 => cons_go ?_⟩
    refine tConst_go (vs := []) ⟨(by decide : 0 ≤ sizeLine), fun q3 n3 => cons_go ?_⟩
    refine tConst_go (vs := [.int 5, .int 6]) ⟨(by decide : 2 ≤ sizeLine), fun q4 n4 => ?_⟩
    refine ⟨(by decide : 4 ≤ sizeLine), fun u nu => ?_⟩
    have e1 := same_upd (o := .tup [.int 3]) n1
    have e2 := same_upd (o := .tup [.int 0, .int 1]) n2
    have e3 := same_upd (o := .tup []) n3
    have e4 := same_upd (o := .tup [.int 5, .int 6]) n4
    have e5 := same_upd (o := .lst [.ref q1, .ref q2, .ref q3, .ref q4]) nu
    have sU := e1.trans (e2.trans (e3.trans (e4.trans e5)))
    have c1 := e5 _ _ (e4 _ _ (e3 _ _ (e2 _ _ (upd_same (H := HT) (a := q1) (o := .tup [.int 3])))))
    have c2 := e5 _ _ (e4 _ _ (e3 _ _ (upd_same (H := upd HT q1 (.tup [.int 3])) (a := q2) (o := .tup [.int 0, .int 1]))))
    have c3 := e5 _ _ (e4 _ _ (upd_same (H := upd (upd HT q1 (.tup [.int 3])) q2 (.tup [.int 0, .int 1])) (a := q3) (o := .tup [])))
    have c4 := e5 _ _ (upd_same (H := upd (upd (upd HT q1 (.tup [.int 3])) q2 (.tup [.int 0, .int 1])) q3 (.tup [])) (a := q4) (o := .tup [.int 5, .int 6]))
    refine ⟨.list [.tuple ([3].map .int), .tuple ([0, 1].map .int), .tuple ([].map .int), .tuple ([5, 6].map .int)], .list [.tuple ([3].map .int), .tuple ([0, 1].map .int), .tuple ([].map .int), .tuple ([5, 6].map .int)],
      .lst (.inl (.inl (sU _ _ ht))) (.cons (dp_tup (sU _ _ h1)) (.cons (dp_tup (sU _ _ h2)) (.cons (dp_tup (sU _ _ h3)) (.cons (dp_tup (sU _ _ h4)) .nil)))),
      .lst (.inl (.inl upd_same)) (.cons (dp_tup c1) (.cons (dp_tup c2) (.cons (dp_tup c3) (.cons (dp_tup c4) .nil)))), by decide +kernel, by decide +kernel, true, congrArg V.bl (by decide +kernel), iteT ?_⟩
    refine op_go ?_
    refine call_two [1, 2] [] 0 [2, 1] [] ⟨by decide, by decide, by decide, by decide⟩ ⟨by decide, by decide, by decide⟩ (by decide) (by decide) (by decide) (by decide) fun Hz pz sz hz => ?_
    refine tConst_go (vs := []) ⟨(by decide : 0 ≤ sizeLine), fun pw nw => ?_⟩
    refine ⟨.tuple ([].map .int), .tuple ([].map .int), dp_tup ((same_upd nw) _ _ hz), dp_tup upd_same, by decide +kernel, by decide +kernel, ?_⟩
    rw [show PyData.eqv (.tuple ([].map .int)) (.tuple ([].map .int)) = true by decide +kernel]
    exact q _
end
end LK
namespace LK
open PySem PySem.Spec PyProof.Rows L2 CD
section
variable {P : Program} {w : World} {K : PySem.W.Frag} {mg : Str → Option Value} {base : Heap}
/-! ### what the top has written; the law's own head -/
theorem mg_int {K : PySem.W.Frag} {h : Heap} {mg : Str → Option Value} (X : K.In h) (G : h.Ns mainGlobals mg) {x : Str} {i j : Int} {t : Tok} (a : PySem.W.nsIn K mainGlobals x = some (some (.int i t))) (e : i = j) : ∃ t, mg x = some (.int j t) := ⟨t, e ▸ PySem.W.mg_of X G a⟩
theorem def_mk {K : PySem.W.Frag} {h : Heap} {mg : Str → Option Value} (X : K.In h) (G : h.Ns mainGlobals mg) {x : Str} {st : Stmt} {ps : List Str} {f : Addr} {od an : Option Addr} {sl : Array (Option Value)} {oc kV dc pm cd ct : Value}
    (a : PySem.W.nsIn K mainGlobals x = some (some (.ref f))) (l : K.lookup f = some ⟨oc, od, .func (PySem.W.fnOf x x (defArgs st) (defBody st) (defScope st) .none kV dc pm an cd ct), sl⟩) (c : PySem.W.codeIn K cd x = true) (k : PySem.W.keepIn K (.ref f) = true)
    (hb : ∀ (kV doc pm : Value) (an : Option Addr) (cdv ct : Value) (us : List Value), us.length = ps.length → bindArgs (PySem.W.fnOf x x (defArgs st) (defBody st) (defScope st) .none kV doc pm an cdv ct) ⟨us, []⟩ = pure (ps.zip us)) : Def K mg x st ps :=
  ⟨f, _, fun_mk (st := st) l c k, PySem.W.mg_of X G a, (fun_mk (st := st) l c k).binds (ps := ps) hb⟩
theorem all_mk {P : Program} {w : World} {K : PySem.W.Frag} {h : Heap} {mg : Str → Option Value} {fa : Addr} (X : K.In h) (G : h.Ns mainGlobals mg) (hfa : mg "law" = some (.ref fa))
    {f0 : Addr} {od0 an0 : Option Addr} {sl0 : Array (Option Value)} {oc0 kV0 dc0 pm0 cd0 ct0 : Value}
    (a0 : PySem.W.nsIn K mainGlobals "is_integer" = some (some (.ref f0))) (l0 : K.lookup f0 = some ⟨oc0, od0, .func (PySem.W.fnOf "is_integer" "is_integer" (defArgs s_is_integer) (defBody s_is_integer) (defScope s_is_integer) .none kV0 dc0 pm0 an0 cd0 ct0), sl0⟩) (c0 : PySem.W.codeIn K cd0 "is_integer" = true) (k0 : PySem.W.keepIn K (.ref f0) = true)
    {f1 : Addr} {od1 an1 : Option Addr} {sl1 : Array (Option Value)} {oc1 kV1 dc1 pm1 cd1 ct1 : Value}
    (a1 : PySem.W.nsIn K mainGlobals "is_number" = some (some (.ref f1))) (l1 : K.lookup f1 = some ⟨oc1, od1, .func (PySem.W.fnOf "is_number" "is_number" (defArgs s_is_number) (defBody s_is_number) (defScope s_is_number) .none kV1 dc1 pm1 an1 cd1 ct1), sl1⟩) (c1 : PySem.W.codeIn K cd1 "is_number" = true) (k1 : PySem.W.keepIn K (.ref f1) = true)
    {f2 : Addr} {od2 an2 : Option Addr} {sl2 : Array (Option Value)} {oc2 kV2 dc2 pm2 cd2 ct2 : Value}
    (a2 : PySem.W.nsIn K mainGlobals "is_ascending" = some (some (.ref f2))) (l2 : K.lookup f2 = some ⟨oc2, od2, .func (PySem.W.fnOf "is_ascending" "is_ascending" (defArgs s_is_ascending) (defBody s_is_ascending) (defScope s_is_ascending) .none kV2 dc2 pm2 an2 cd2 ct2), sl2⟩) (c2 : PySem.W.codeIn K cd2 "is_ascending" = true) (k2 : PySem.W.keepIn K (.ref f2) = true)
    {f3 : Addr} {od3 an3 : Option Addr} {sl3 : Array (Option Value)} {oc3 kV3 dc3 pm3 cd3 ct3 : Value}
    (a3 : PySem.W.nsIn K mainGlobals "is_row" = some (some (.ref f3))) (l3 : K.lookup f3 = some ⟨oc3, od3, .func (PySem.W.fnOf "is_row" "is_row" (defArgs s_is_row) (defBody s_is_row) (defScope s_is_row) .none kV3 dc3 pm3 an3 cd3 ct3), sl3⟩) (c3 : PySem.W.codeIn K cd3 "is_row" = true) (k3 : PySem.W.keepIn K (.ref f3) = true)
    {f4 : Addr} {od4 an4 : Option Addr} {sl4 : Array (Option Value)} {oc4 kV4 dc4 pm4 cd4 ct4 : Value}
    (a4 : PySem.W.nsIn K mainGlobals "is_absence" = some (some (.ref f4))) (l4 : K.lookup f4 = some ⟨oc4, od4, .func (PySem.W.fnOf "is_absence" "is_absence" (defArgs s_is_absence) (defBody s_is_absence) (defScope s_is_absence) .none kV4 dc4 pm4 an4 cd4 ct4), sl4⟩) (c4 : PySem.W.codeIn K cd4 "is_absence" = true) (k4 : PySem.W.keepIn K (.ref f4) = true)
    {f5 : Addr} {od5 an5 : Option Addr} {sl5 : Array (Option Value)} {oc5 kV5 dc5 pm5 cd5 ct5 : Value}
    (a5 : PySem.W.nsIn K mainGlobals "need_absence" = some (some (.ref f5))) (l5 : K.lookup f5 = some ⟨oc5, od5, .func (PySem.W.fnOf "need_absence" "need_absence" (defArgs s_need_absence) (defBody s_need_absence) (defScope s_need_absence) .none kV5 dc5 pm5 an5 cd5 ct5), sl5⟩) (c5 : PySem.W.codeIn K cd5 "need_absence" = true) (k5 : PySem.W.keepIn K (.ref f5) = true)
    {f6 : Addr} {od6 an6 : Option Addr} {sl6 : Array (Option Value)} {oc6 kV6 dc6 pm6 cd6 ct6 : Value}
    (a6 : PySem.W.nsIn K mainGlobals "need_person" = some (some (.ref f6))) (l6 : K.lookup f6 = some ⟨oc6, od6, .func (PySem.W.fnOf "need_person" "need_person" (defArgs s_need_person) (defBody s_need_person) (defScope s_need_person) .none kV6 dc6 pm6 an6 cd6 ct6), sl6⟩) (c6 : PySem.W.codeIn K cd6 "need_person" = true) (k6 : PySem.W.keepIn K (.ref f6) = true)
    {f7 : Addr} {od7 an7 : Option Addr} {sl7 : Array (Option Value)} {oc7 kV7 dc7 pm7 cd7 ct7 : Value}
    (a7 : PySem.W.nsIn K mainGlobals "need_people" = some (some (.ref f7))) (l7 : K.lookup f7 = some ⟨oc7, od7, .func (PySem.W.fnOf "need_people" "need_people" (defArgs s_need_people) (defBody s_need_people) (defScope s_need_people) .none kV7 dc7 pm7 an7 cd7 ct7), sl7⟩) (c7 : PySem.W.codeIn K cd7 "need_people" = true) (k7 : PySem.W.keepIn K (.ref f7) = true)
    {f8 : Addr} {od8 an8 : Option Addr} {sl8 : Array (Option Value)} {oc8 kV8 dc8 pm8 cd8 ct8 : Value}
    (a8 : PySem.W.nsIn K mainGlobals "first_window" = some (some (.ref f8))) (l8 : K.lookup f8 = some ⟨oc8, od8, .func (PySem.W.fnOf "first_window" "first_window" (defArgs s_first_window) (defBody s_first_window) (defScope s_first_window) .none kV8 dc8 pm8 an8 cd8 ct8), sl8⟩) (c8 : PySem.W.codeIn K cd8 "first_window" = true) (k8 : PySem.W.keepIn K (.ref f8) = true)
    {f9 : Addr} {od9 an9 : Option Addr} {sl9 : Array (Option Value)} {oc9 kV9 dc9 pm9 cd9 ct9 : Value}
    (a9 : PySem.W.nsIn K mainGlobals "called_at" = some (some (.ref f9))) (l9 : K.lookup f9 = some ⟨oc9, od9, .func (PySem.W.fnOf "called_at" "called_at" (defArgs s_called_at) (defBody s_called_at) (defScope s_called_at) .none kV9 dc9 pm9 an9 cd9 ct9), sl9⟩) (c9 : PySem.W.codeIn K cd9 "called_at" = true) (k9 : PySem.W.keepIn K (.ref f9) = true)
    {f10 : Addr} {od10 an10 : Option Addr} {sl10 : Array (Option Value)} {oc10 kV10 dc10 pm10 cd10 ct10 : Value}
    (a10 : PySem.W.nsIn K mainGlobals "state_behind" = some (some (.ref f10))) (l10 : K.lookup f10 = some ⟨oc10, od10, .func (PySem.W.fnOf "state_behind" "state_behind" (defArgs s_state_behind) (defBody s_state_behind) (defScope s_state_behind) .none kV10 dc10 pm10 an10 cd10 ct10), sl10⟩) (c10 : PySem.W.codeIn K cd10 "state_behind" = true) (k10 : PySem.W.keepIn K (.ref f10) = true)
    {f11 : Addr} {od11 an11 : Option Addr} {sl11 : Array (Option Value)} {oc11 kV11 dc11 pm11 cd11 ct11 : Value}
    (a11 : PySem.W.nsIn K mainGlobals "low_and_shape" = some (some (.ref f11))) (l11 : K.lookup f11 = some ⟨oc11, od11, .func (PySem.W.fnOf "low_and_shape" "low_and_shape" (defArgs s_low_and_shape) (defBody s_low_and_shape) (defScope s_low_and_shape) .none kV11 dc11 pm11 an11 cd11 ct11), sl11⟩) (c11 : PySem.W.codeIn K cd11 "low_and_shape" = true) (k11 : PySem.W.keepIn K (.ref f11) = true)
    {f12 : Addr} {od12 an12 : Option Addr} {sl12 : Array (Option Value)} {oc12 kV12 dc12 pm12 cd12 ct12 : Value}
    (a12 : PySem.W.nsIn K mainGlobals "_behind_person" = some (some (.ref f12))) (l12 : K.lookup f12 = some ⟨oc12, od12, .func (PySem.W.fnOf "_behind_person" "_behind_person" (defArgs s__behind_person) (defBody s__behind_person) (defScope s__behind_person) .none kV12 dc12 pm12 an12 cd12 ct12), sl12⟩) (c12 : PySem.W.codeIn K cd12 "_behind_person" = true) (k12 : PySem.W.keepIn K (.ref f12) = true)
    {f13 : Addr} {od13 an13 : Option Addr} {sl13 : Array (Option Value)} {oc13 kV13 dc13 pm13 cd13 ct13 : Value}
    (a13 : PySem.W.nsIn K mainGlobals "_behind_few" = some (some (.ref f13))) (l13 : K.lookup f13 = some ⟨oc13, od13, .func (PySem.W.fnOf "_behind_few" "_behind_few" (defArgs s__behind_few) (defBody s__behind_few) (defScope s__behind_few) .none kV13 dc13 pm13 an13 cd13 ct13), sl13⟩) (c13 : PySem.W.codeIn K cd13 "_behind_few" = true) (k13 : PySem.W.keepIn K (.ref f13) = true)
    {f14 : Addr} {od14 an14 : Option Addr} {sl14 : Array (Option Value)} {oc14 kV14 dc14 pm14 cd14 ct14 : Value}
    (a14 : PySem.W.nsIn K mainGlobals "_behind_many" = some (some (.ref f14))) (l14 : K.lookup f14 = some ⟨oc14, od14, .func (PySem.W.fnOf "_behind_many" "_behind_many" (defArgs s__behind_many) (defBody s__behind_many) (defScope s__behind_many) .none kV14 dc14 pm14 an14 cd14 ct14), sl14⟩) (c14 : PySem.W.codeIn K cd14 "_behind_many" = true) (k14 : PySem.W.keepIn K (.ref f14) = true)
    {f15 : Addr} {od15 an15 : Option Addr} {sl15 : Array (Option Value)} {oc15 kV15 dc15 pm15 cd15 ct15 : Value}
    (a15 : PySem.W.nsIn K mainGlobals "_behind_rounds" = some (some (.ref f15))) (l15 : K.lookup f15 = some ⟨oc15, od15, .func (PySem.W.fnOf "_behind_rounds" "_behind_rounds" (defArgs s__behind_rounds) (defBody s__behind_rounds) (defScope s__behind_rounds) .none kV15 dc15 pm15 an15 cd15 ct15), sl15⟩) (c15 : PySem.W.codeIn K cd15 "_behind_rounds" = true) (k15 : PySem.W.keepIn K (.ref f15) = true)
    {f16 : Addr} {od16 an16 : Option Addr} {sl16 : Array (Option Value)} {oc16 kV16 dc16 pm16 cd16 ct16 : Value}
    (a16 : PySem.W.nsIn K mainGlobals "_later" = some (some (.ref f16))) (l16 : K.lookup f16 = some ⟨oc16, od16, .func (PySem.W.fnOf "_later" "_later" (defArgs s__later) (defBody s__later) (defScope s__later) .none kV16 dc16 pm16 an16 cd16 ct16), sl16⟩) (c16 : PySem.W.codeIn K cd16 "_later" = true) (k16 : PySem.W.keepIn K (.ref f16) = true)
    {f17 : Addr} {od17 an17 : Option Addr} {sl17 : Array (Option Value)} {oc17 kV17 dc17 pm17 cd17 ct17 : Value}
    (a17 : PySem.W.nsIn K mainGlobals "need_rule" = some (some (.ref f17))) (l17 : K.lookup f17 = some ⟨oc17, od17, .func (PySem.W.fnOf "need_rule" "need_rule" (defArgs s_need_rule) (defBody s_need_rule) (defScope s_need_rule) .none kV17 dc17 pm17 an17 cd17 ct17), sl17⟩) (c17 : PySem.W.codeIn K cd17 "need_rule" = true) (k17 : PySem.W.keepIn K (.ref f17) = true)
    {f18 : Addr} {od18 an18 : Option Addr} {sl18 : Array (Option Value)} {oc18 kV18 dc18 pm18 cd18 ct18 : Value}
    (a18 : PySem.W.nsIn K mainGlobals "tick_of" = some (some (.ref f18))) (l18 : K.lookup f18 = some ⟨oc18, od18, .func (PySem.W.fnOf "tick_of" "tick_of" (defArgs s_tick_of) (defBody s_tick_of) (defScope s_tick_of) .none kV18 dc18 pm18 an18 cd18 ct18), sl18⟩) (c18 : PySem.W.codeIn K cd18 "tick_of" = true) (k18 : PySem.W.keepIn K (.ref f18) = true)
    {f19 : Addr} {od19 an19 : Option Addr} {sl19 : Array (Option Value)} {oc19 kV19 dc19 pm19 cd19 ct19 : Value}
    (a19 : PySem.W.nsIn K mainGlobals "callers" = some (some (.ref f19))) (l19 : K.lookup f19 = some ⟨oc19, od19, .func (PySem.W.fnOf "callers" "callers" (defArgs s_callers) (defBody s_callers) (defScope s_callers) .none kV19 dc19 pm19 an19 cd19 ct19), sl19⟩) (c19 : PySem.W.codeIn K cd19 "callers" = true) (k19 : PySem.W.keepIn K (.ref f19) = true)
    {f20 : Addr} {od20 an20 : Option Addr} {sl20 : Array (Option Value)} {oc20 kV20 dc20 pm20 cd20 ct20 : Value}
    (a20 : PySem.W.nsIn K mainGlobals "last_tick" = some (some (.ref f20))) (l20 : K.lookup f20 = some ⟨oc20, od20, .func (PySem.W.fnOf "last_tick" "last_tick" (defArgs s_last_tick) (defBody s_last_tick) (defScope s_last_tick) .none kV20 dc20 pm20 an20 cd20 ct20), sl20⟩) (c20 : PySem.W.codeIn K cd20 "last_tick" = true) (k20 : PySem.W.keepIn K (.ref f20) = true)
    {f21 : Addr} {od21 an21 : Option Addr} {sl21 : Array (Option Value)} {oc21 kV21 dc21 pm21 cd21 ct21 : Value}
    (a21 : PySem.W.nsIn K mainGlobals "_law_begun" = some (some (.ref f21))) (l21 : K.lookup f21 = some ⟨oc21, od21, .func (PySem.W.fnOf "_law_begun" "_law_begun" (defArgs s__law_begun) (defBody s__law_begun) (defScope s__law_begun) .none kV21 dc21 pm21 an21 cd21 ct21), sl21⟩) (c21 : PySem.W.codeIn K cd21 "_law_begun" = true) (k21 : PySem.W.keepIn K (.ref f21) = true)
    {f22 : Addr} {od22 an22 : Option Addr} {sl22 : Array (Option Value)} {oc22 kV22 dc22 pm22 cd22 ct22 : Value}
    (a22 : PySem.W.nsIn K mainGlobals "_law_next" = some (some (.ref f22))) (l22 : K.lookup f22 = some ⟨oc22, od22, .func (PySem.W.fnOf "_law_next" "_law_next" (defArgs s__law_next) (defBody s__law_next) (defScope s__law_next) .none kV22 dc22 pm22 an22 cd22 ct22), sl22⟩) (c22 : PySem.W.codeIn K cd22 "_law_next" = true) (k22 : PySem.W.keepIn K (.ref f22) = true)
    {f23 : Addr} {od23 an23 : Option Addr} {sl23 : Array (Option Value)} {oc23 kV23 dc23 pm23 cd23 ct23 : Value}
    (a23 : PySem.W.nsIn K mainGlobals "_law_of" = some (some (.ref f23))) (l23 : K.lookup f23 = some ⟨oc23, od23, .func (PySem.W.fnOf "_law_of" "_law_of" (defArgs s__law_of) (defBody s__law_of) (defScope s__law_of) .none kV23 dc23 pm23 an23 cd23 ct23), sl23⟩) (c23 : PySem.W.codeIn K cd23 "_law_of" = true) (k23 : PySem.W.keepIn K (.ref f23) = true)
    {f24 : Addr} {od24 an24 : Option Addr} {sl24 : Array (Option Value)} {oc24 kV24 dc24 pm24 cd24 ct24 : Value}
    (a24 : PySem.W.nsIn K mainGlobals "_law_rows" = some (some (.ref f24))) (l24 : K.lookup f24 = some ⟨oc24, od24, .func (PySem.W.fnOf "_law_rows" "_law_rows" (defArgs s__law_rows) (defBody s__law_rows) (defScope s__law_rows) .none kV24 dc24 pm24 an24 cd24 ct24), sl24⟩) (c24 : PySem.W.codeIn K cd24 "_law_rows" = true) (k24 : PySem.W.keepIn K (.ref f24) = true)
    {f25 : Addr} {od25 an25 : Option Addr} {sl25 : Array (Option Value)} {oc25 kV25 dc25 pm25 cd25 ct25 : Value}
    (a25 : PySem.W.nsIn K mainGlobals "law" = some (some (.ref f25))) (l25 : K.lookup f25 = some ⟨oc25, od25, .func (PySem.W.fnOf "law" "law" (defArgs s_law) (defBody s_law) (defScope s_law) .none kV25 dc25 pm25 an25 cd25 ct25), sl25⟩) (c25 : PySem.W.codeIn K cd25 "law" = true) (k25 : PySem.W.keepIn K (.ref f25) = true)
    (z0 : PySem.W.nsIn K mainGlobals "all" = some none)
    (z1 : PySem.W.nsIn K mainGlobals "any" = some none)
    (z2 : PySem.W.nsIn K mainGlobals "bool" = some none)
    (z3 : PySem.W.nsIn K mainGlobals "divmod" = some none)
    (z4 : PySem.W.nsIn K mainGlobals "enumerate" = some none)
    (z5 : PySem.W.nsIn K mainGlobals "int" = some none)
    (z6 : PySem.W.nsIn K mainGlobals "isinstance" = some none)
    (z7 : PySem.W.nsIn K mainGlobals "len" = some none)
    (z8 : PySem.W.nsIn K mainGlobals "list" = some none)
    (z9 : PySem.W.nsIn K mainGlobals "max" = some none)
    (z10 : PySem.W.nsIn K mainGlobals "min" = some none)
    (z11 : PySem.W.nsIn K mainGlobals "range" = some none)
    (z12 : PySem.W.nsIn K mainGlobals "repr" = some none)
    (z13 : PySem.W.nsIn K mainGlobals "reversed" = some none)
    (z14 : PySem.W.nsIn K mainGlobals "set" = some none)
    (z15 : PySem.W.nsIn K mainGlobals "sorted" = some none)
    (z16 : PySem.W.nsIn K mainGlobals "str" = some none)
    (z17 : PySem.W.nsIn K mainGlobals "sum" = some none)
    (z18 : PySem.W.nsIn K mainGlobals "tuple" = some none)
    (z19 : PySem.W.nsIn K mainGlobals "zip" = some none)
    {i0 : Int} {t0 : Tok} (m0 : PySem.W.nsIn K mainGlobals "MOST_NUMBER" = some (some (.int i0 t0))) (e0 : i0 = 10 ^ 30)
    {i1 : Int} {t1 : Tok} (m1 : PySem.W.nsIn K mainGlobals "MOST_MISSING" = some (some (.int i1 t1))) (e1 : i1 = 4)
    {i2 : Int} {t2 : Tok} (m2 : PySem.W.nsIn K mainGlobals "MOST_STEPS" = some (some (.int i2 t2))) (e2 : i2 = 4)
    {i3 : Int} {t3 : Tok} (m3 : PySem.W.nsIn K mainGlobals "GREATEST_STEP" = some (some (.int i3 t3))) (e3 : i3 = 6) :
    ∃ fd : FuncData, (∀ (s : Shared) (v : Value), BindsTo s fd ⟨[v], []⟩ [("script", v)]) ∧ ∀ base : Heap, K.In base → base.Ns mainGlobals mg → GOk P w K mg base 8 fa fd ["script"] (spLaw K) := by
  have e := hfa.symm.trans (PySem.W.mg_of X G a25)
  cases e
  have z : Z mg := ⟨PySem.W.mg_none_of X G z0, PySem.W.mg_none_of X G z1, PySem.W.mg_none_of X G z2, PySem.W.mg_none_of X G z3, PySem.W.mg_none_of X G z4, PySem.W.mg_none_of X G z5, PySem.W.mg_none_of X G z6, PySem.W.mg_none_of X G z7, PySem.W.mg_none_of X G z8, PySem.W.mg_none_of X G z9, PySem.W.mg_none_of X G z10, PySem.W.mg_none_of X G z11, PySem.W.mg_none_of X G z12, PySem.W.mg_none_of X G z13, PySem.W.mg_none_of X G z14, PySem.W.mg_none_of X G z15, PySem.W.mg_none_of X G z16, PySem.W.mg_none_of X G z17, PySem.W.mg_none_of X G z18, PySem.W.mg_none_of X G z19⟩
  have v_MOST_NUMBER := mg_int X G m0 e0
  have v_MOST_MISSING := mg_int X G m1 e1
  have v_MOST_STEPS := mg_int X G m2 e2
  have v_GREATEST_STEP := mg_int X G m3 e3
  have D_is_integer := def_mk (st := s_is_integer) (ps := p_is_integer) X G a0 l0 c0 k0 fun _ _ _ _ _ _ us hl => match us, hl with | [_], _ => rfl
  have D_is_number := def_mk (st := s_is_number) (ps := p_is_number) X G a1 l1 c1 k1 fun _ _ _ _ _ _ us hl => match us, hl with | [_, _, _], _ => rfl
  have D_is_ascending := def_mk (st := s_is_ascending) (ps := p_is_ascending) X G a2 l2 c2 k2 fun _ _ _ _ _ _ us hl => match us, hl with | [_], _ => rfl
  have D_is_row := def_mk (st := s_is_row) (ps := p_is_row) X G a3 l3 c3 k3 fun _ _ _ _ _ _ us hl => match us, hl with | [_, _, _, _], _ => rfl
  have D_is_absence := def_mk (st := s_is_absence) (ps := p_is_absence) X G a4 l4 c4 k4 fun _ _ _ _ _ _ us hl => match us, hl with | [_, _], _ => rfl
  have D_need_absence := def_mk (st := s_need_absence) (ps := p_need_absence) X G a5 l5 c5 k5 fun _ _ _ _ _ _ us hl => match us, hl with | [_], _ => rfl
  have D_need_person := def_mk (st := s_need_person) (ps := p_need_person) X G a6 l6 c6 k6 fun _ _ _ _ _ _ us hl => match us, hl with | [_], _ => rfl
  have D_need_people := def_mk (st := s_need_people) (ps := p_need_people) X G a7 l7 c7 k7 fun _ _ _ _ _ _ us hl => match us, hl with | [_], _ => rfl
  have D_first_window := def_mk (st := s_first_window) (ps := p_first_window) X G a8 l8 c8 k8 fun _ _ _ _ _ _ us hl => match us, hl with | [_], _ => rfl
  have D_called_at := def_mk (st := s_called_at) (ps := p_called_at) X G a9 l9 c9 k9 fun _ _ _ _ _ _ us hl => match us, hl with | [_, _], _ => rfl
  have D_state_behind := def_mk (st := s_state_behind) (ps := p_state_behind) X G a10 l10 c10 k10 fun _ _ _ _ _ _ us hl => match us, hl with | [_, _, _], _ => rfl
  have D_low_and_shape := def_mk (st := s_low_and_shape) (ps := p_low_and_shape) X G a11 l11 c11 k11 fun _ _ _ _ _ _ us hl => match us, hl with | [_], _ => rfl
  have D__behind_person := def_mk (st := s__behind_person) (ps := p__behind_person) X G a12 l12 c12 k12 fun _ _ _ _ _ _ us hl => match us, hl with | [_, _], _ => rfl
  have D__behind_few := def_mk (st := s__behind_few) (ps := p__behind_few) X G a13 l13 c13 k13 fun _ _ _ _ _ _ us hl => match us, hl with | [_, _, _], _ => rfl
  have D__behind_many := def_mk (st := s__behind_many) (ps := p__behind_many) X G a14 l14 c14 k14 fun _ _ _ _ _ _ us hl => match us, hl with | [_, _, _], _ => rfl
  have D__behind_rounds := def_mk (st := s__behind_rounds) (ps := p__behind_rounds) X G a15 l15 c15 k15 fun _ _ _ _ _ _ us hl => match us, hl with | [_, _, _, _, _], _ => rfl
  have D__later := def_mk (st := s__later) (ps := p__later) X G a16 l16 c16 k16 fun _ _ _ _ _ _ us hl => match us, hl with | [_, _], _ => rfl
  have D_need_rule := def_mk (st := s_need_rule) (ps := p_need_rule) X G a17 l17 c17 k17 fun _ _ _ _ _ _ us hl => match us, hl with | [_], _ => rfl
  have D_tick_of := def_mk (st := s_tick_of) (ps := p_tick_of) X G a18 l18 c18 k18 fun _ _ _ _ _ _ us hl => match us, hl with | [_, _, _], _ => rfl
  have D_callers := def_mk (st := s_callers) (ps := p_callers) X G a19 l19 c19 k19 fun _ _ _ _ _ _ us hl => match us, hl with | [_, _, _], _ => rfl
  have D_last_tick := def_mk (st := s_last_tick) (ps := p_last_tick) X G a20 l20 c20 k20 fun _ _ _ _ _ _ us hl => match us, hl with | [_, _, _], _ => rfl
  have D__law_begun := def_mk (st := s__law_begun) (ps := p__law_begun) X G a21 l21 c21 k21 fun _ _ _ _ _ _ us hl => match us, hl with | [_], _ => rfl
  have D__law_next := def_mk (st := s__law_next) (ps := p__law_next) X G a22 l22 c22 k22 fun _ _ _ _ _ _ us hl => match us, hl with | [_, _], _ => rfl
  have D__law_of := def_mk (st := s__law_of) (ps := p__law_of) X G a23 l23 c23 k23 fun _ _ _ _ _ _ us hl => match us, hl with | [_, _], _ => rfl
  have D__law_rows := def_mk (st := s__law_rows) (ps := p__law_rows) X G a24 l24 c24 k24 fun _ _ _ _ _ _ us hl => match us, hl with | [], _ => rfl
  refine ⟨PySem.W.fnOf "law" "law" (defArgs s_law) (defBody s_law) (defScope s_law) .none kV25 dc25 pm25 an25 cd25 ct25, fun s v => .of_eq rfl, fun base _ _ => ?_⟩
  have c_is_integer := cal_is_integer (P := P) (w := w) (base := base) z  D_is_integer
  have c_is_number := cal_is_number (P := P) (w := w) (base := base) z c_is_integer D_is_number
  have c_is_ascending := cal_is_ascending (P := P) (w := w) (base := base) z  D_is_ascending
  have c_is_row := cal_is_row (P := P) (w := w) (base := base) z c_is_number c_is_ascending D_is_row
  have c_is_absence := cal_is_absence (P := P) (w := w) (base := base) z v_MOST_NUMBER c_is_row D_is_absence
  have c_need_absence := cal_need_absence (P := P) (w := w) (base := base) z v_MOST_MISSING c_is_absence D_need_absence
  have c_need_person := cal_need_person (P := P) (w := w) (base := base) z v_MOST_NUMBER c_is_number D_need_person
  have c_need_people := cal_need_people (P := P) (w := w) (base := base) z v_MOST_NUMBER c_is_number D_need_people
  have c_need_rule := cal_need_rule (P := P) (w := w) (base := base) z v_MOST_STEPS v_GREATEST_STEP c_is_number D_need_rule
  have c_called_at := cal_called_at (P := P) (w := w) (base := base) z  D_called_at
  have c__behind_person := cal_behind_person (P := P) (w := w) (base := base) z  D__behind_person
  have c__later := cal_later (P := P) (w := w) (base := base) z  D__later
  have c__behind_few := cal_few (P := P) (w := w) (base := base) z c_called_at c__behind_person D__behind_few
  have c__behind_rounds := cal_rounds (P := P) (w := w) (base := base) z c__later c__behind_few D__behind_rounds
  have c_first_window := cal_first (P := P) (w := w) (base := base) z  D_first_window
  have c_low_and_shape := cal_low (P := P) (w := w) (base := base) z c__later D_low_and_shape
  have c__behind_many := cal_many (P := P) (w := w) (base := base) z c_low_and_shape c__behind_few c__behind_rounds D__behind_many
  have c_state_behind := cal_state_behind (P := P) (w := w) (base := base) z c_first_window c__behind_person c__behind_many D_state_behind
  have c_tick_of := cal_tick_of (P := P) (w := w) (base := base) z c_need_rule c_need_absence c_need_person c_state_behind c_called_at D_tick_of
  have c_last_tick := cal_last_tick (P := P) (w := w) (base := base) z c_need_rule c_need_absence c_need_people c_state_behind D_last_tick
  have c_callers := cal_callers (P := P) (w := w) (base := base) z c_need_rule c_need_absence c_need_person c_state_behind D_callers
  have c__law_begun := cal_law_begun (P := P) (w := w) (base := base) z  D__law_begun
  have c__law_next := cal_law_next (P := P) (w := w) (base := base) z  D__law_next
  have c__law_of := cal_law_of (P := P) (w := w) (base := base) z c__law_next D__law_of
  have c__law_rows := cal_law_rows (P := P) (w := w) (base := base) z  D__law_rows
  exact cal_law z c__law_begun c__law_rows c__law_of c_tick_of c_callers c_last_tick (fun_mk (st := s_law) l25 c25 k25)
end
end LK
open PySem PySem.W PyProof.Rows
set_option maxHeartbeats 0 in
theorem PySem.Challenge.cw_callsdown_k43_line_rules_by_hand_holds : PySem.Challenge.rw_callsdown_k43_line_rules_by_hand.Holds := by
  w_on
  o_law
  k_head
  (case hw => w_witness2)
  k_fill
  refine CD.walk_g (l := PySem.Challenge.rw_callsdown_k43_line_rules_by_hand) (n := 63) (k := 8) (x := "script") (sp := fun w => LK.spLaw _) rfl (by decide) rfl ⟨rfl, by decide, by decide⟩ (fun w h Y => PySem.W.kIn_of Y) ?F (fun w H a ns hl hS => ⟨a, ns, rfl, hS, hl, fun _ => rfl⟩)
  case F =>
    intro w mg fa h KX G hmg
    refine' LK.all_mk KX G hmg ?a0 ?l0 ?c0 ?k0 ?a1 ?l1 ?c1 ?k1 ?a2 ?l2 ?c2 ?k2 ?a3 ?l3 ?c3 ?k3 ?a4 ?l4 ?c4 ?k4 ?a5 ?l5 ?c5 ?k5 ?a6 ?l6 ?c6 ?k6 ?a7 ?l7 ?c7 ?k7 ?a8 ?l8 ?c8 ?k8 ?a9 ?l9 ?c9 ?k9 ?a10 ?l10 ?c10 ?k10 ?a11 ?l11 ?c11 ?k11 ?a12 ?l12 ?c12 ?k12 ?a13 ?l13 ?c13 ?k13 ?a14 ?l14 ?c14 ?k14 ?a15 ?l15 ?c15 ?k15 ?a16 ?l16 ?c16 ?k16 ?a17 ?l17 ?c17 ?k17 ?a18 ?l18 ?c18 ?k18 ?a19 ?l19 ?c19 ?k19 ?a20 ?l20 ?c20 ?k20 ?a21 ?l21 ?c21 ?k21 ?a22 ?l22 ?c22 ?k22 ?a23 ?l23 ?c23 ?k23 ?a24 ?l24 ?c24 ?k24 ?a25 ?l25 ?c25 ?k25 ?z0 ?z1 ?z2 ?z3 ?z4 ?z5 ?z6 ?z7 ?z8 ?z9 ?z10 ?z11 ?z12 ?z13 ?z14 ?z15 ?z16 ?z17 ?z18 ?z19 ?m0 ?e0 ?m1 ?e1 ?m2 ?e2 ?m3 ?e3
    (case a0 => k_is)
    (case l0 => k_is)
    (case c0 => k_is)
    (case k0 => k_is)
    (case a1 => k_is)
    (case l1 => k_is)
    (case c1 => k_is)
    (case k1 => k_is)
    (case a2 => k_is)
    (case l2 => k_is)
    (case c2 => k_is)
    (case k2 => k_is)
    (case a3 => k_is)
    (case l3 => k_is)
    (case c3 => k_is)
    (case k3 => k_is)
    (case a4 => k_is)
    (case l4 => k_is)
    (case c4 => k_is)
    (case k4 => k_is)
    (case a5 => k_is)
    (case l5 => k_is)
    (case c5 => k_is)
    (case k5 => k_is)
    (case a6 => k_is)
    (case l6 => k_is)
    (case c6 => k_is)
    (case k6 => k_is)
    (case a7 => k_is)
    (case l7 => k_is)
    (case c7 => k_is)
    (case k7 => k_is)
    (case a8 => k_is)
    (case l8 => k_is)
    (case c8 => k_is)
    (case k8 => k_is)
    (case a9 => k_is)
    (case l9 => k_is)
    (case c9 => k_is)
    (case k9 => k_is)
    (case a10 => k_is)
    (case l10 => k_is)
    (case c10 => k_is)
    (case k10 => k_is)
    (case a11 => k_is)
    (case l11 => k_is)
    (case c11 => k_is)
    (case k11 => k_is)
    (case a12 => k_is)
    (case l12 => k_is)
    (case c12 => k_is)
    (case k12 => k_is)
    (case a13 => k_is)
    (case l13 => k_is)
    (case c13 => k_is)
    (case k13 => k_is)
    (case a14 => k_is)
    (case l14 => k_is)
    (case c14 => k_is)
    (case k14 => k_is)
    (case a15 => k_is)
    (case l15 => k_is)
    (case c15 => k_is)
    (case k15 => k_is)
    (case a16 => k_is)
    (case l16 => k_is)
    (case c16 => k_is)
    (case k16 => k_is)
    (case a17 => k_is)
    (case l17 => k_is)
    (case c17 => k_is)
    (case k17 => k_is)
    (case a18 => k_is)
    (case l18 => k_is)
    (case c18 => k_is)
    (case k18 => k_is)
    (case a19 => k_is)
    (case l19 => k_is)
    (case c19 => k_is)
    (case k19 => k_is)
    (case a20 => k_is)
    (case l20 => k_is)
    (case c20 => k_is)
    (case k20 => k_is)
    (case a21 => k_is)
    (case l21 => k_is)
    (case c21 => k_is)
    (case k21 => k_is)
    (case a22 => k_is)
    (case l22 => k_is)
    (case c22 => k_is)
    (case k22 => k_is)
    (case a23 => k_is)
    (case l23 => k_is)
    (case c23 => k_is)
    (case k23 => k_is)
    (case a24 => k_is)
    (case l24 => k_is)
    (case c24 => k_is)
    (case k24 => k_is)
    (case a25 => k_is)
    (case l25 => k_is)
    (case c25 => k_is)
    (case k25 => k_is)
    (case z0 => k_is)
    (case z1 => k_is)
    (case z2 => k_is)
    (case z3 => k_is)
    (case z4 => k_is)
    (case z5 => k_is)
    (case z6 => k_is)
    (case z7 => k_is)
    (case z8 => k_is)
    (case z9 => k_is)
    (case z10 => k_is)
    (case z11 => k_is)
    (case z12 => k_is)
    (case z13 => k_is)
    (case z14 => k_is)
    (case z15 => k_is)
    (case z16 => k_is)
    (case z17 => k_is)
    (case z18 => k_is)
    (case z19 => k_is)
    (case m0 => k_is)
    (case m1 => k_is)
    (case m2 => k_is)
    (case m3 => k_is)
    (case e0 => decide)
    (case e1 => decide)
    (case e2 => decide)
    (case e3 => decide)
