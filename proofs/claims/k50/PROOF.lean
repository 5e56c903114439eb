import PyProof.Rows.All
import Wide.All
import OpenK.AllK
import Wide.FinOn
import KE.DatumOrd
import KE.GoesEnumKw
import HandS.ForMost
import HandS.Walk
import HandS.Zip
import HandS.SortKw
import HandS.TupAny
import HandS.TupMul
import HandS.IsInst
import HandS.SetFor
import HandS.RaiseMore
import PyProof.ReprRoads
import HandS.Strs
import PyProof.EnumMake
import HandS.Conv
import HandS.SortInts
import HandS.Wide
import HandS.Style
import PySem.Challenge.RW_callsdown_k50_whole_scaled_rules
set_option Elab.async false
set_option linter.all false
set_option maxRecDepth 100000
/-! the mathematics of line rules: the walk from person to person, rounds that come again -/
namespace CD
abbrev Win := List (Option Int)
def leastO : List Int → Option Int
  | [] => none
  | n :: ns => some (ns.foldl min n)
/-- window[-step] -/
def back (ws : Win) (s : Int) : Option Int := ws.getD (ws.length - s.toNat) none
def callAt (ws : Win) (p : Int × Nat) : Option Int := (back ws p.1).map (· + (p.2 : Int))
def calls (rule : List Int) (ws : Win) : List Int := (rule.zipIdx 1).filterMap (callAt ws)
def calledAt (rule : List Int) (ws : Win) : Option Int := leastO (calls rule ws)
abbrev LState := Win × Int
def lastOf (tick : Option Int) (last : Int) : Int := match tick with | some t => if last < t then t else last | none => last
def behindP (st : LState) (tick : Option Int) : LState := (st.1.tail ++ [tick], lastOf tick st.2)
def few (rule : List Int) : Nat → LState → LState
  | 0, st => st
  | n + 1, st => few rule n (behindP st (calledAt rule st.1))
def laterW (ws : Win) (m : Int) : Win := ws.map (·.map (· + m))
def told (ws : Win) : List Int := ws.filterMap id
def baseOf (ws : Win) : Int := (leastO (told ws)).getD 0
def shapeOf (ws : Win) : Win := laterW ws (-(baseOf ws))
/-- a LINE RULE -/
structure IsRule (rule : List Int) : Prop where
  pos : 1 ≤ rule.length
  most : rule.length ≤ 4
  step : ∀ s ∈ rule, 1 ≤ s ∧ s ≤ 6
  nodup : rule.Nodup
def reach (rule : List Int) : Nat := (rule.foldl max 0).toNat
def ascB (ns : List Int) : Bool := (ns.zip ns.tail).all fun p => decide (p.1 < p.2)
theorem zip_at {α β : Type} {xs : List α} {ys : List β} {i : Nat} {p : α × β} (h : (xs.zip ys)[i]? = some p) : xs[i]? = some p.1 ∧ ys[i]? = some p.2 := by
  have z := List.getElem?_zip_eq_some.mp h
  exact z
end CD
namespace CD
/-! few -/
theorem few_succ (rule : List Int) : ∀ (n : Nat) (st : LState), few rule (n + 1) st = behindP (few rule n st) (calledAt rule (few rule n st).1)
  | 0, _ => rfl
  | n + 1, st => by
    show few rule (n + 1) (behindP st (calledAt rule st.1)) = _
    rw [few_succ rule n]
    rfl
theorem few_add (rule : List Int) : ∀ (a b : Nat) (st : LState), few rule (a + b) st = few rule b (few rule a st)
  | 0, b, st => by rw [Nat.zero_add]; rfl
  | a + 1, b, st => by
    rw [Nat.add_right_comm]
    show few rule (a + b) (behindP st _) = few rule b (few rule a (behindP st _))
    exact few_add rule a b _
theorem behindP_len (st : LState) (t : Option Int) (h : 1 ≤ st.1.length) : (behindP st t).1.length = st.1.length := by
  show (st.1.tail ++ [t]).length = _
  rw [List.length_append, List.length_tail, List.length_singleton]
  omega
theorem few_len (rule : List Int) : ∀ (n : Nat) (st : LState), 1 ≤ st.1.length → (few rule n st).1.length = st.1.length
  | 0, _, _ => rfl
  | n + 1, st, h => by
    show (few rule n (behindP st _)).1.length = _
    rw [few_len rule n _ (by rw [behindP_len st _ h]; exact h), behindP_len st _ h]
/-! later -/
theorem laterW_len (ws : Win) (m : Int) : (laterW ws m).length = ws.length := List.length_map ..
theorem laterW_add (ws : Win) (a b : Int) : laterW (laterW ws a) b = laterW ws (a + b) := by
  unfold laterW
  rw [List.map_map]
  refine List.map_congr_left fun o _ => ?_
  cases o with
  | none => rfl
  | some t => show some (t + a + b) = some (t + (a + b)); rw [Int.add_assoc]
theorem laterW_zero (ws : Win) : laterW ws 0 = ws := by
  unfold laterW
  conv => rhs; rw [← List.map_id ws]
  refine List.map_congr_left fun o _ => ?_
  cases o with
  | none => rfl
  | some t => show some (t + 0) = some t; rw [Int.add_zero]
theorem back_later (ws : Win) (s m : Int) : back (laterW ws m) s = (back ws s).map (· + m) := by
  unfold back
  rw [laterW_len]
  unfold laterW
  rw [List.getD_eq_getElem?_getD, List.getD_eq_getElem?_getD, List.getElem?_map]
  cases ws[ws.length - s.toNat]? <;> rfl
theorem foldmin_add (m : Int) : ∀ (ns : List Int) (n : Int), (ns.map (· + m)).foldl min (n + m) = ns.foldl min n + m
  | [], _ => rfl
  | k :: r, n => by
    rw [List.map_cons, List.foldl_cons, List.foldl_cons, ← foldmin_add m r]
    congr 1
    omega
theorem leastO_add (m : Int) (ns : List Int) : leastO (ns.map (· + m)) = (leastO ns).map (· + m) := by
  cases ns with
  | nil => rfl
  | cons n r => show some ((r.map (· + m)).foldl min (n + m)) = some (r.foldl min n + m); rw [foldmin_add]
theorem calls_later (rule : List Int) (ws : Win) (m : Int) : calls rule (laterW ws m) = (calls rule ws).map (· + m) := by
  unfold calls
  rw [List.map_filterMap]
  congr 1
  funext p
  unfold callAt
  rw [back_later]
  cases back ws p.1 with
  | none => rfl
  | some t => show some (t + m + _) = some (t + _ + m); rw [Int.add_right_comm]
theorem called_later (rule : List Int) (ws : Win) (m : Int) : calledAt rule (laterW ws m) = (calledAt rule ws).map (· + m) := by
  unfold calledAt
  rw [calls_later, leastO_add]
/-! ticks -/
def nextW (rule : List Int) (ws : Win) : Win := ws.tail ++ [calledAt rule ws]
def winN (rule : List Int) : Nat → Win → Win
  | 0, ws => ws
  | n + 1, ws => winN rule n (nextW rule ws)
def ticks (rule : List Int) : Nat → Win → List (Option Int)
  | 0, _ => []
  | n + 1, ws => calledAt rule ws :: ticks rule n (nextW rule ws)
def lastL (l : Int) (ts : List (Option Int)) : Int := ts.foldl (fun l t => lastOf t l) l
theorem few_eq (rule : List Int) : ∀ (n : Nat) (st : LState), few rule n st = (winN rule n st.1, lastL st.2 (ticks rule n st.1))
  | 0, _ => rfl
  | n + 1, st => by
    show few rule n (behindP st (calledAt rule st.1)) = _
    rw [few_eq rule n]
    rfl
theorem nextW_later (rule : List Int) (ws : Win) (m : Int) : nextW rule (laterW ws m) = laterW (nextW rule ws) m := by
  unfold nextW
  rw [called_later]
  unfold laterW
  rw [List.map_append, List.map_tail]
  rfl
theorem winN_later (rule : List Int) (m : Int) : ∀ (n : Nat) (ws : Win), winN rule n (laterW ws m) = laterW (winN rule n ws) m
  | 0, _ => rfl
  | n + 1, ws => by
    show winN rule n (nextW rule (laterW ws m)) = laterW (winN rule n (nextW rule ws)) m
    rw [nextW_later, winN_later rule m n]
theorem ticks_later (rule : List Int) (m : Int) : ∀ (n : Nat) (ws : Win), ticks rule n (laterW ws m) = (ticks rule n ws).map (·.map (· + m))
  | 0, _ => rfl
  | n + 1, ws => by
    show calledAt rule (laterW ws m) :: ticks rule n (nextW rule (laterW ws m)) = _
    rw [called_later, nextW_later, ticks_later rule m n]
    rfl
theorem winN_add (rule : List Int) : ∀ (a b : Nat) (ws : Win), winN rule (a + b) ws = winN rule b (winN rule a ws)
  | 0, b, ws => by rw [Nat.zero_add]; rfl
  | a + 1, b, ws => by
    rw [Nat.add_right_comm]
    exact winN_add rule a b _
theorem ticks_add (rule : List Int) : ∀ (a b : Nat) (ws : Win), ticks rule (a + b) ws = ticks rule a ws ++ ticks rule b (winN rule a ws)
  | 0, b, ws => by rw [Nat.zero_add]; rfl
  | a + 1, b, ws => by
    rw [Nat.add_right_comm]
    show calledAt rule ws :: ticks rule (a + b) (nextW rule ws) = calledAt rule ws :: (ticks rule a (nextW rule ws) ++ _)
    rw [ticks_add rule a b]
    rfl
/-! the greatest -/
theorem lastOf_ge (t : Option Int) (l : Int) : l ≤ lastOf t l := by
  cases t with
  | none => exact Int.le_refl _
  | some t => show l ≤ if l < t then t else l; split <;> omega
theorem lastL_ge : ∀ (ts : List (Option Int)) (l : Int), l ≤ lastL l ts
  | [], _ => Int.le_refl _
  | t :: r, l => Int.le_trans (lastOf_ge t l) (lastL_ge r (lastOf t l))
theorem lastL_mem : ∀ (ts : List (Option Int)) (l x : Int), some x ∈ ts → x ≤ lastL l ts
  | t :: r, l, x, h => by
    rcases List.mem_cons.mp h with e | h
    · subst e
      refine Int.le_trans ?_ (lastL_ge r (lastOf (some x) l))
      show x ≤ if l < x then x else l
      split <;> omega
    · exact lastL_mem r _ x h
theorem lastL_is : ∀ (ts : List (Option Int)) (l : Int), lastL l ts = l ∨ some (lastL l ts) ∈ ts
  | [], _ => .inl rfl
  | t :: r, l => by
    show lastL (lastOf t l) r = l ∨ _
    rcases lastL_is r (lastOf t l) with e | e
    · cases t with
      | none => exact .inl e
      | some x =>
        by_cases h : l < x
        · have e2 : lastOf (some x) l = x := if_pos h
          rw [e2] at e
          refine .inr ?_
          show some (lastL (lastOf (some x) l) r) ∈ _
          rw [e2, e]
          exact List.mem_cons_self
        · have e2 : lastOf (some x) l = l := if_neg h
          rw [e2] at e
          exact .inl (by rw [e2]; exact e)
    · exact .inr (List.mem_cons_of_mem _ e)
theorem lastL_append (a b : List (Option Int)) (l : Int) : lastL l (a ++ b) = lastL (lastL l a) b := List.foldl_append ..
/-- what comes ahead does not matter where something as great comes behind -/
theorem lastL_absorb {a b : List (Option Int)} (l : Int) (h : ∀ x, some x ∈ a → ∃ y, some y ∈ b ∧ x ≤ y) : lastL l (a ++ b) = lastL l b := by
  rw [lastL_append]
  refine Int.le_antisymm ?_ ?_
  · rcases lastL_is b (lastL l a) with e | e
    · rw [e]
      rcases lastL_is a l with e2 | e2
      · rw [e2]; exact lastL_ge b l
      · obtain ⟨y, hy, le⟩ := h _ e2
        exact Int.le_trans le (lastL_mem b l y hy)
    · exact lastL_mem b l _ e
  · rcases lastL_is b l with e | e
    · rw [e]
      exact Int.le_trans (lastL_ge a l) (lastL_ge b _)
    · exact lastL_mem b _ _ e
/-! rounds -/
theorem winN_rounds (rule : List Int) {ws : Win} {z : Nat} {m : Int} (h : winN rule z ws = laterW ws m) : ∀ r : Nat, winN rule (r * z) ws = laterW ws (r * m)
  | 0 => by rw [Nat.zero_mul]; show ws = laterW ws _; rw [show ((0 : Nat) : Int) * m = 0 by simp, laterW_zero]
  | r + 1 => by
    rw [Nat.add_mul, Nat.one_mul, winN_add, winN_rounds rule h r, winN_later, h, laterW_add]
    congr 1
    rw [show ((r + 1 : Nat) : Int) = (r : Int) + 1 by omega, Int.add_mul, Int.one_mul, Int.add_comm]
/-- the ticks of whole rounds are those of the first one, later -/
theorem ticks_rounds (rule : List Int) {ws : Win} {z : Nat} {m : Int} (h : winN rule z ws = laterW ws m) : ∀ (r : Nat) (x : Int), some x ∈ ticks rule (r * z) ws → ∃ (a : Nat) (y : Int), a < r ∧ some y ∈ ticks rule z ws ∧ x = y + a * m
  | 0, x, hx => by rw [Nat.zero_mul] at hx; cases hx
  | r + 1, x, hx => by
    rw [Nat.add_mul, Nat.one_mul, ticks_add, List.mem_append] at hx
    rcases hx with hx | hx
    · obtain ⟨a, y, ha, hy, e⟩ := ticks_rounds rule h r x hx
      exact ⟨a, y, by omega, hy, e⟩
    · rw [winN_rounds rule h r, ticks_later, List.mem_map] at hx
      obtain ⟨o, ho, e⟩ := hx
      cases o with
      | none => cases e
      | some y =>
        have e2 : some (y + r * m) = some x := e
        exact ⟨r, y, by omega, ho, (Option.some.inj e2).symm⟩
/-- THE ROUNDS: whole rounds may be left out -/
theorem few_rounds (rule : List Int) {ws : Win} {z : Nat} {m : Int} (hz : 1 ≤ z) (hm : 0 ≤ m) (h : winN rule z ws = laterW ws m) (L : Nat) (last : Int) :
    few rule L (ws, last) = few rule (L - (L / z - 1) * z) (laterW ws (((L / z - 1 : Nat) : Int) * m), last) := by
  generalize hr : L / z - 1 = r
  by_cases r0 : r = 0
  · subst r0
    rw [Nat.zero_mul, Nat.sub_zero, show ((0 : Nat) : Int) * m = 0 by simp, laterW_zero]
  have hdiv : z * (L / z) ≤ L := Nat.mul_div_le L z
  have hq : L / z = r + 1 := by omega
  have hL : r * z + z ≤ L := by
    have e : z * (r + 1) = r * z + z := by rw [Nat.mul_comm, Nat.add_mul, Nat.one_mul]
    rw [hq, e] at hdiv
    exact hdiv
  generalize hn : L - r * z = n
  have eL : L = r * z + n := by omega
  have hzn : z ≤ n := by omega
  rw [eL, few_eq, few_eq]
  have hw := winN_rounds rule h r
  refine Prod.ext ?_ ?_
  · show winN rule (r * z + n) ws = winN rule n (laterW ws (r * m))
    rw [winN_add, hw]
  · show lastL last (ticks rule (r * z + n) ws) = lastL last (ticks rule n (laterW ws (r * m)))
    rw [ticks_add, hw]
    refine lastL_absorb last fun x hx => ?_
    obtain ⟨a, y, ha, hy, rfl⟩ := ticks_rounds rule h r x hx
    refine ⟨y + r * m, ?_, ?_⟩
    · obtain ⟨k, rfl⟩ : ∃ k, n = z + k := ⟨n - z, by omega⟩
      rw [ticks_later, ticks_add]
      refine List.mem_map.mpr ⟨some y, List.mem_append_left _ hy, rfl⟩
    · have : (a : Int) * m ≤ r * m := Int.mul_le_mul_of_nonneg_right (by omega) hm
      omega
end CD
namespace CD
/-! base and shape -/
theorem told_mem {ws : Win} {t : Int} : t ∈ told ws ↔ some t ∈ ws := by
  unfold told
  rw [List.mem_filterMap]
  exact ⟨fun ⟨o, h, e⟩ => by rw [show o = some t from e] at h; exact h, fun h => ⟨_, h, rfl⟩⟩
theorem foldmin_le : ∀ (ns : List Int) (n : Int), ns.foldl min n ≤ n ∧ (∀ k ∈ ns, ns.foldl min n ≤ k) ∧ (ns.foldl min n = n ∨ ns.foldl min n ∈ ns)
  | [], n => ⟨Int.le_refl _, fun k h => (by cases h), .inl rfl⟩
  | k :: r, n => by
    obtain ⟨h1, h2, h3⟩ := foldmin_le r (min n k)
    rw [List.foldl_cons]
    refine ⟨by omega, fun j hj => ?_, ?_⟩
    · rcases List.mem_cons.mp hj with rfl | hj
      · omega
      · exact h2 j hj
    · rcases h3 with e | e
      · by_cases c : n ≤ k
        · exact .inl (by rw [e]; omega)
        · refine .inr ?_
          rw [e, show min n k = k by omega]
          exact List.mem_cons_self
      · exact .inr (List.mem_cons_of_mem _ e)
theorem leastO_spec {ns : List Int} {m : Int} (h : leastO ns = some m) : m ∈ ns ∧ ∀ k ∈ ns, m ≤ k := by
  cases ns with
  | nil => cases h
  | cons n r =>
    obtain ⟨h1, h2, h3⟩ := foldmin_le r n
    have e : r.foldl min n = m := Option.some.inj h
    rw [e] at h1 h2 h3
    refine ⟨?_, fun k hk => ?_⟩
    · rcases h3 with q | q
      · rw [q]; exact List.mem_cons_self
      · exact List.mem_cons_of_mem _ q
    · rcases List.mem_cons.mp hk with rfl | hk
      · exact h1
      · exact h2 k hk
theorem leastO_none {ns : List Int} (h : leastO ns = none) : ns = [] := by
  cases ns with
  | nil => rfl
  | cons n r => cases h
theorem told_later (ws : Win) (m : Int) : told (laterW ws m) = (told ws).map (· + m) := by
  unfold told laterW
  rw [List.filterMap_map, List.map_filterMap]
  congr 1
theorem base_later {ws : Win} (h : told ws ≠ []) (m : Int) : baseOf (laterW ws m) = baseOf ws + m := by
  unfold baseOf
  rw [told_later, leastO_add]
  cases e : told ws with
  | nil => exact absurd e h
  | cons n r => rfl
theorem later_shape (ws : Win) : laterW (shapeOf ws) (baseOf ws) = ws := by
  unfold shapeOf
  rw [laterW_add, Int.add_left_neg, laterW_zero]
theorem shape_eq {a b : Win} (h : shapeOf a = shapeOf b) : b = laterW a (baseOf b - baseOf a) := by
  have e := later_shape b
  rw [← h] at e
  unfold shapeOf at e
  rw [laterW_add] at e
  rw [← e]
  congr 1
  have q : baseOf (laterW a (-baseOf a + baseOf b)) = baseOf b := by rw [e]
  omega
/-! bounds -/
theorem back_mem {ws : Win} {s t : Int} (h : back ws s = some t) : some t ∈ ws := by
  unfold back at h
  rw [List.getD_eq_getElem?_getD] at h
  cases e : ws[ws.length - s.toNat]? with
  | none => rw [e] at h; cases h
  | some o =>
    rw [e] at h
    have h2 : o = some t := h
    subst h2
    exact List.mem_of_getElem? e
theorem called_bounds {rule : List Int} (hl : rule.length ≤ 4) {ws : Win} {lo hi t : Int} (h : ∀ x ∈ told ws, lo ≤ x ∧ x ≤ hi) (ht : calledAt rule ws = some t) : lo ≤ t ∧ t ≤ hi + 4 := by
  obtain ⟨hm, _⟩ := leastO_spec ht
  unfold calls at hm
  obtain ⟨p, hp, e⟩ := List.mem_filterMap.mp hm
  unfold callAt at e
  cases eb : back ws p.1 with
  | none => rw [eb] at e; cases e
  | some x =>
    rw [eb] at e
    have e2 : x + (p.2 : Int) = t := Option.some.inj e
    obtain ⟨b1, b2⟩ := h x (told_mem.mpr (back_mem eb))
    obtain ⟨i, hi2⟩ := List.mem_iff_getElem?.mp hp
    rw [List.getElem?_zipIdx] at hi2
    cases er : rule[i]? with
    | none => rw [er] at hi2; cases hi2
    | some s =>
      rw [er] at hi2
      have e3 : (s, 1 + i) = p := Option.some.inj hi2
      have hlt := (List.getElem?_eq_some_iff.mp er).1
      have e4 : p.2 = 1 + i := by rw [← e3]
      omega
theorem winN_bounds {rule : List Int} (hl : rule.length ≤ 4) {lo : Int} : ∀ (n : Nat) (ws : Win) (hi : Int), (∀ x ∈ told ws, lo ≤ x ∧ x ≤ hi) → ∀ x ∈ told (winN rule n ws), lo ≤ x ∧ x ≤ hi + 4 * (n : Int)
  | 0, ws, hi, h => fun x hx => by have := h x hx; omega
  | n + 1, ws, hi, h => fun x hx => by
    have step : ∀ y ∈ told (nextW rule ws), lo ≤ y ∧ y ≤ hi + 4 := fun y hy => by
      have hy' := told_mem.mp hy
      unfold nextW at hy'
      rcases List.mem_append.mp hy' with q | q
      · have := h y (told_mem.mpr (List.mem_of_mem_tail q))
        omega
      · exact called_bounds hl h (List.mem_singleton.mp q).symm
    have := winN_bounds hl n (nextW rule ws) (hi + 4) step x hx
    omega
theorem exists_max : ∀ (ns : List Int), ns ≠ [] → ∃ m ∈ ns, ∀ k ∈ ns, k ≤ m
  | [], h => absurd rfl h
  | [n], _ => ⟨n, List.mem_cons_self, fun k hk => by rw [List.mem_singleton.mp hk]; exact Int.le_refl _⟩
  | n :: k :: r, _ => by
    obtain ⟨m, hm, h⟩ := exists_max (k :: r) (by simp)
    by_cases c : n ≤ m
    · exact ⟨m, List.mem_cons_of_mem _ hm, fun j hj => by
        rcases List.mem_cons.mp hj with rfl | hj
        · exact c
        · exact h j hj⟩
    · exact ⟨n, List.mem_cons_self, fun j hj => by
        rcases List.mem_cons.mp hj with rfl | hj
        · exact Int.le_refl _
        · have := h j hj; omega⟩
/-- where a shape comes again, by how much it is later -/
theorem more_bounds {rule : List Int} (hl : rule.length ≤ 4) {ws : Win} {z : Nat} (h : shapeOf ws = shapeOf (winN rule z ws)) :
    winN rule z ws = laterW ws (baseOf (winN rule z ws) - baseOf ws) ∧ 0 ≤ baseOf (winN rule z ws) - baseOf ws ∧ baseOf (winN rule z ws) - baseOf ws ≤ 4 * (z : Int) := by
  have e := shape_eq h
  refine ⟨e, ?_⟩
  generalize hm : baseOf (winN rule z ws) - baseOf ws = m at e
  by_cases hn : told ws = []
  · have : baseOf ws = 0 := by unfold baseOf; rw [hn]; rfl
    have h2 : baseOf (winN rule z ws) = 0 := by
      rw [e]
      unfold baseOf
      rw [told_later, hn]
      rfl
    omega
  · have hb : ∃ b, leastO (told ws) = some b := by
      cases q : told ws with
      | nil => exact absurd q hn
      | cons n r => exact ⟨_, rfl⟩
    obtain ⟨b, hb⟩ := hb
    obtain ⟨b1, b2⟩ := leastO_spec hb
    obtain ⟨x, x1, x2⟩ := exists_max _ hn
    have bd := winN_bounds hl z ws x (lo := b) fun y hy => ⟨b2 y hy, x2 y hy⟩
    rw [e, told_later] at bd
    have c1 := bd (b + m) (List.mem_map.mpr ⟨b, b1, rfl⟩)
    have c2 := bd (x + m) (List.mem_map.mpr ⟨x, x1, rfl⟩)
    omega
/-! the film of all people -/
def backF (fs : List (Option Int)) (s : Int) : Option Int := if s.toNat ≤ fs.length then fs.getD (fs.length - s.toNat) none else none
def callF (fs : List (Option Int)) (p : Int × Nat) : Option Int := (backF fs p.1).map (· + (p.2 : Int))
def nextF (rule gone : List Int) (fs : List (Option Int)) : Option Int := if (fs.length : Int) ∈ gone then none else leastO ((rule.zipIdx 1).filterMap (callF fs))
def film (rule gone : List Int) : Nat → List (Option Int)
  | 0 => [some 0]
  | n + 1 => film rule gone n ++ [nextF rule gone (film rule gone n)]
theorem film_len (rule gone : List Int) : ∀ n, (film rule gone n).length = n + 1
  | 0 => rfl
  | n + 1 => by
    show (film rule gone n ++ [_]).length = _
    rw [List.length_append, film_len rule gone n]
    rfl
def winOf (R : Nat) (fs : List (Option Int)) : Win := (List.replicate R none ++ fs).drop fs.length
theorem winOf_len (R : Nat) (fs : List (Option Int)) : (winOf R fs).length = R := by
  unfold winOf
  rw [List.length_drop, List.length_append, List.length_replicate]
  omega
theorem winOf_snoc {R : Nat} (fs : List (Option Int)) (t : Option Int) (h : 1 ≤ R) : winOf R (fs ++ [t]) = (winOf R fs).tail ++ [t] := by
  unfold winOf
  rw [← List.append_assoc, List.length_append, List.length_singleton, List.drop_append_of_le_length (by rw [List.length_append, List.length_replicate]; omega), List.tail_drop]
theorem back_winOf {R : Nat} {fs : List (Option Int)} {s : Int} (h1 : 1 ≤ s) (h2 : s ≤ R) : back (winOf R fs) s = backF fs s := by
  unfold back backF
  rw [winOf_len, List.getD_eq_getElem?_getD]
  unfold winOf
  rw [List.getElem?_drop]
  by_cases c : s.toNat ≤ fs.length
  · rw [if_pos c, List.getElem?_append_right (by rw [List.length_replicate]; omega), List.length_replicate, List.getD_eq_getElem?_getD]
    congr 2
    omega
  · rw [if_neg c, List.getElem?_append_left (by rw [List.length_replicate]; omega), List.getElem?_replicate]
    split <;> rfl
structure Fits (rule : List Int) (R : Nat) : Prop where
  r1 : 1 ≤ R
  st : ∀ s ∈ rule, 1 ≤ s ∧ s ≤ (R : Int)
theorem filterMap_same {α β : Type} {f g : α → Option β} : ∀ {xs : List α}, (∀ x ∈ xs, f x = g x) → xs.filterMap f = xs.filterMap g
  | [], _ => rfl
  | x :: r, h => by
    rw [List.filterMap_cons, List.filterMap_cons, h x List.mem_cons_self, filterMap_same fun y hy => h y (List.mem_cons_of_mem _ hy)]
theorem called_winOf {rule : List Int} {R : Nat} (F : Fits rule R) (fs : List (Option Int)) : calledAt rule (winOf R fs) = leastO ((rule.zipIdx 1).filterMap (callF fs)) := by
  unfold calledAt calls
  congr 1
  refine filterMap_same fun p hp => ?_
  have hm : p.1 ∈ rule := by
    obtain ⟨i, hi⟩ := List.mem_iff_getElem?.mp hp
    rw [List.getElem?_zipIdx] at hi
    cases er : rule[i]? with
    | none => rw [er] at hi; cases hi
    | some s =>
      rw [er] at hi
      have e3 : (s, 1 + i) = p := Option.some.inj hi
      rw [← e3]
      exact List.mem_of_getElem? er
  unfold callAt callF
  rw [back_winOf (F.st _ hm).1 (F.st _ hm).2]
/-- the state behind the people 0 to n -/
def stF (rule gone : List Int) (R n : Nat) : LState := (winOf R (film rule gone n), lastL 0 (film rule gone n))
theorem stF_succ {rule gone : List Int} {R : Nat} (F : Fits rule R) (n : Nat) : stF rule gone R (n + 1) = behindP (stF rule gone R n) (nextF rule gone (film rule gone n)) := by
  unfold stF behindP
  refine Prod.ext ?_ ?_
  · exact winOf_snoc _ _ F.r1
  · show lastL 0 (film rule gone n ++ [_]) = _
    rw [lastL_append]
    rfl
theorem stF_few {rule gone : List Int} {R : Nat} (F : Fits rule R) (n : Nat) : ∀ k : Nat, (∀ j : Nat, n < j → j ≤ n + k → (j : Int) ∉ gone) → few rule k (stF rule gone R n) = stF rule gone R (n + k)
  | 0, _ => rfl
  | k + 1, h => by
    rw [few_succ, stF_few F n k fun j h1 h2 => h j h1 (by omega), ← Nat.add_assoc, stF_succ F]
    congr 1
    show calledAt rule (winOf R (film rule gone (n + k))) = nextF rule gone (film rule gone (n + k))
    rw [called_winOf F]
    unfold nextF
    rw [if_neg]
    rw [film_len]
    exact h _ (by omega) (by omega)
/-! the walk over those who are missing -/
def behindAll (rule : List Int) : List Int → Int → Int → LState → LState
  | [], person, people, st => few rule (people - person).toNat st
  | g :: gs, person, people, st => if g < people then behindAll rule gs (g + 1) people (behindP (few rule (g - person).toNat st) none) else behindAll rule gs person people st
theorem asc_cons {g : Int} {gs : List Int} (h : ascB (g :: gs) = true) : ascB gs = true ∧ ∀ k ∈ gs, g < k := by
  induction gs generalizing g with
  | nil => exact ⟨rfl, fun k hk => by cases hk⟩
  | cons k r ih =>
    have e : ascB (g :: k :: r) = (decide (g < k) && ascB (k :: r)) := rfl
    rw [e, Bool.and_eq_true, decide_eq_true_eq] at h
    refine ⟨h.2, fun j hj => ?_⟩
    rcases List.mem_cons.mp hj with rfl | hj
    · exact h.1
    · have := (ih h.2).2 j hj
      omega
theorem behindAll_film {rule G : List Int} {R : Nat} (F : Fits rule R) : ∀ (gs : List Int) (p n : Nat), ascB gs = true → (∀ k ∈ gs, (p : Int) < k) → (∀ k : Int, (p : Int) < k → (k ∈ G ↔ k ∈ gs)) → p ≤ n →
    behindAll rule gs ((p : Int) + 1) ((n : Int) + 1) (stF rule G R p) = stF rule G R n
  | [], p, n, _, _, hG, hn => by
    show few rule (((n : Int) + 1) - ((p : Int) + 1)).toNat _ = _
    obtain ⟨k, rfl⟩ : ∃ k, n = p + k := ⟨n - p, by omega⟩
    rw [show (((p + k : Nat) : Int) + 1 - ((p : Int) + 1)).toNat = k by omega]
    refine stF_few F p k fun j h1 h2 hm => ?_
    have := (hG (j : Int) (by omega)).mp hm
    cases this
  | g :: gs, p, n, ha, hp, hG, hn => by
    obtain ⟨a1, a2⟩ := asc_cons ha
    have hg := hp g List.mem_cons_self
    show (if g < (n : Int) + 1 then _ else _) = _
    by_cases c : g < (n : Int) + 1
    · rw [if_pos c]
      obtain ⟨q, hq⟩ : ∃ q : Nat, g = (q : Int) + 1 := ⟨(g - 1).toNat, by omega⟩
      obtain ⟨k, hk⟩ : ∃ k, q = p + k := ⟨q - p, by omega⟩
      have e1 : (g - ((p : Int) + 1)).toNat = k := by omega
      rw [e1, stF_few F p k (fun j h1 h2 hm => by
        have := (hG (j : Int) (by omega)).mp hm
        rcases List.mem_cons.mp this with e | e
        · omega
        · have := a2 _ e; omega), ← hk]
      have e2 : behindP (stF rule G R q) none = stF rule G R (q + 1) := by
        rw [stF_succ F]
        congr 1
        unfold nextF
        rw [film_len, if_pos]
        rw [show ((q + 1 : Nat) : Int) = g by omega]
        exact (hG g hg).mpr List.mem_cons_self
      have e3 : g + 1 = ((q + 1 : Nat) : Int) + 1 := by omega
      rw [e2, e3]
      refine behindAll_film F gs (q + 1) n a1 (fun k hk => by have := a2 k hk; omega) (fun k hk => ?_) (by omega)
      rw [hG k (by omega)]
      exact ⟨fun h => (List.mem_cons.mp h).resolve_left (by omega), List.mem_cons_of_mem _⟩
    · rw [if_neg c]
      -- g and all behind are beyond
      have : ∀ (l : List Int), (∀ k ∈ l, (n : Int) < k) → behindAll rule l ((p : Int) + 1) ((n : Int) + 1) (stF rule G R p) = few rule (n - p) (stF rule G R p) := by
        intro l
        induction l with
        | nil =>
          intro _
          show few rule (((n : Int) + 1) - ((p : Int) + 1)).toNat _ = _
          congr 1
          omega
        | cons x r ih =>
          intro hx
          show (if x < (n : Int) + 1 then _ else _) = _
          have := hx x List.mem_cons_self
          rw [if_neg (by omega)]
          exact ih fun k hk => hx k (List.mem_cons_of_mem _ hk)
      rw [this gs fun k hk => by have := a2 k hk; omega, stF_few F p (n - p) (fun j h1 h2 hm => by
        have := (hG (j : Int) (by omega)).mp hm
        rcases List.mem_cons.mp this with e | e
        · omega
        · have := a2 _ e; omega)]
      congr 1
      omega
def stInit (R : Nat) : LState := (List.replicate (R - 1) none ++ [some 0], 0)
theorem stInit_film {rule gone : List Int} {R : Nat} (h : 1 ≤ R) : stInit R = stF rule gone R 0 := by
  obtain ⟨r, rfl⟩ : ∃ r, R = r + 1 := ⟨R - 1, by omega⟩
  refine Prod.ext ?_ rfl
  show (List.replicate (r + 1 - 1) none ++ [some 0] : Win) = (List.replicate (r + 1) none ++ [some 0] : Win).drop 1
  rw [List.replicate_succ]
  rfl
theorem behindAll_eq {rule gone : List Int} {R : Nat} (F : Fits rule R) (ha : ascB gone = true) (h1 : ∀ k ∈ gone, 1 ≤ k) (n : Nat) : behindAll rule gone 1 ((n : Int) + 1) (stInit R) = stF rule gone R n := by
  rw [stInit_film (rule := rule) (gone := gone) F.r1]
  have := behindAll_film (G := gone) F gone 0 n ha (fun k hk => by have := h1 k hk; omega) (fun k _ => Iff.rfl) (Nat.zero_le _)
  exact this
end CD
set_option maxHeartbeats 400000
/-! the mathematics of scaled rules: who calls whom, when each one is told, how few these hang on -/
namespace CD
theorem nodup_lenT {α : Type} [DecidableEq α] : ∀ (l D : List α), l.Nodup → (∀ x ∈ l, x ∈ D) → l.length ≤ D.length
  | [], _, _, _ => Nat.zero_le _
  | x :: r, D, hn, h => by
    have hx := h x List.mem_cons_self
    have ih := nodup_lenT r (D.erase x) (List.nodup_cons.mp hn).2 fun y hy => (List.mem_erase_of_ne (fun e => (List.nodup_cons.mp hn).1 (by rw [← e]; exact hy))).mpr (h y (List.mem_cons_of_mem _ hy))
    rw [List.length_erase_of_mem hx] at ih
    have : 0 < D.length := List.length_pos_of_mem hx
    rw [List.length_cons]
    omega
theorem fm_congr {α β : Type} {f g : α → Option β} : ∀ {l : List α}, (∀ x ∈ l, f x = g x) → l.filterMap f = l.filterMap g
  | [], _ => rfl
  | x :: r, h => by rw [List.filterMap_cons, List.filterMap_cons, h x List.mem_cons_self, fm_congr fun y hy => h y (List.mem_cons_of_mem _ hy)]
theorem len_flat {α β : Type} (f : α → List β) (k : Nat) (h : ∀ x, (f x).length = k) : ∀ l : List α, (l.flatMap f).length = l.length * k
  | [] => by simp
  | x :: r => by
    rw [List.flatMap_cons, List.length_append, h, len_flat f k h r, List.length_cons, Nat.succ_mul]
    omega
structure IsSc (D : Int) (ads : List Int) : Prop where
  d2 : 2 ≤ D
  d5 : D ≤ 5
  one : 1 ≤ ads.length
  most : ads.length ≤ 5
  rng : ∀ a ∈ ads, 0 ≤ a ∧ a ≤ 20
  nd : ads.Nodup
/-- all who may call n, and the place of that call; those but n itself -/
def callsI (D : Int) (ads : List Int) (n : Int) : List (Int × Int) :=
  ads.zipIdx.filterMap fun e => if e.1 ≤ n ∧ (n - e.1) % D = 0 then some ((n - e.1) / D, 1 + (e.2 : Int)) else none
def callsO (D : Int) (ads : List Int) (n : Int) : List (Int × Int) := (callsI D ads n).filter fun p => decide (p.1 ≠ n)
section
variable {D : Int} {ads : List Int} (S : IsSc D ads)
include S
theorem callsI_mem {n : Int} {p : Int × Int} (h : p ∈ callsI D ads n) : ∃ a ∈ ads, a ≤ n ∧ (n - a) % D = 0 ∧ p.1 = (n - a) / D ∧ 1 ≤ p.2 ∧ p.2 ≤ 5 := by
  obtain ⟨e, he, hp⟩ := List.mem_filterMap.mp h
  have z := List.mem_zipIdx he
  have hm := S.most
  have ha : e.1 ∈ ads := by rw [z.2.2]; exact List.getElem_mem _
  by_cases c : e.1 ≤ n ∧ (n - e.1) % D = 0
  · rw [if_pos c] at hp
    cases hp
    exact ⟨e.1, ha, c.1, c.2, rfl, by show (1 : Int) ≤ 1 + (e.2 : Int); omega, by show 1 + (e.2 : Int) ≤ 5; have := z.2.1; omega⟩
  · rw [if_neg c] at hp; cases hp
theorem callsO_mem {n : Int} (h0 : 0 ≤ n) {p : Int × Int} (h : p ∈ callsO D ads n) : 0 ≤ p.1 ∧ p.1 < n ∧ 1 ≤ p.2 ∧ p.2 ≤ 5 ∧ ∃ a ∈ ads, a ≤ n ∧ p.1 = (n - a) / D := by
  obtain ⟨h1, h2⟩ := List.mem_filter.mp h
  obtain ⟨a, ha, an, md, e, q1, q5⟩ := callsI_mem S h1
  have ne : p.1 ≠ n := of_decide_eq_true h2
  have r := S.rng a ha
  have d2 := S.d2
  have p0 : 0 ≤ p.1 := by rw [e]; exact Int.ediv_nonneg (by omega) (by omega)
  have pl : p.1 ≤ n := by
    rw [e]
    have z := Int.ediv_le_self D (show 0 ≤ n - a by omega)
    omega
  exact ⟨p0, by omega, q1, q5, a, ha, an, e⟩
omit S in
theorem callsI_len (n : Int) : (callsI D ads n).length ≤ ads.length := by
  have := List.length_filterMap_le (fun e : Int × Nat => if e.1 ≤ n ∧ (n - e.1) % D = 0 then some ((n - e.1) / D, 1 + (e.2 : Int)) else none) ads.zipIdx
  rw [List.length_zipIdx] at this
  exact this
theorem callsI_len5 (n : Int) : (callsI D ads n).length ≤ 5 := Nat.le_trans (callsI_len n) S.most
theorem callsO_len5 (n : Int) : (callsO D ads n).length ≤ 5 := Nat.le_trans (List.length_filter_le _ _) (callsI_len5 S n)
end
/-- when n is told, or none -/
def tkF (D : Int) (ads : List Int) : Nat → Int → Option Int
  | 0, _ => some 0
  | f + 1, n => if n = 0 then some 0 else leastO ((callsO D ads n).filterMap fun p => (tkF D ads f p.1).map (· + p.2))
def tk (D : Int) (ads : List Int) (n : Int) : Option Int := tkF D ads n.toNat n
theorem tkF_same {D : Int} {ads : List Int} (S : IsSc D ads) : ∀ (f g : Nat) (n : Int), 0 ≤ n → n ≤ f → n ≤ g → tkF D ads f n = tkF D ads g n
  | 0, 0, _, _, _, _ => rfl
  | 0, g + 1, n, h0, hf, _ => by
    have : n = 0 := by omega
    subst this
    rw [tkF, tkF, if_pos rfl]
  | f + 1, 0, n, h0, _, hg => by
    have : n = 0 := by omega
    subst this
    rw [tkF, tkF, if_pos rfl]
  | f + 1, g + 1, n, h0, hf, hg => by
    rw [tkF, tkF]
    by_cases c : n = 0
    · rw [if_pos c, if_pos c]
    · rw [if_neg c, if_neg c]
      congr 1
      refine fm_congr fun p hp => ?_
      have z := callsO_mem S h0 hp
      rw [tkF_same S f g p.1 z.1 (by omega) (by omega)]
theorem tk_zero (D : Int) (ads : List Int) : tk D ads 0 = some 0 := rfl
theorem tk_eq {D : Int} {ads : List Int} (S : IsSc D ads) {n : Int} (h : 0 < n) : tk D ads n = leastO ((callsO D ads n).filterMap fun p => (tk D ads p.1).map (· + p.2)) := by
  obtain ⟨m, rfl⟩ : ∃ m : Nat, n = ((m + 1 : Nat) : Int) := ⟨(n - 1).toNat, by omega⟩
  unfold tk
  rw [Int.toNat_natCast, tkF, if_neg (by omega)]
  congr 1
  refine fm_congr fun p hp => ?_
  have z := callsO_mem S (by omega) hp
  rw [tkF_same S m p.1.toNat p.1 z.1 (by omega) (by omega)]
/-! ### how few people one hangs on -/
def Near (D n c : Int) : Prop := 0 ≤ c ∧ ∃ d : Nat, c ≤ n / D ^ d ∧ n / D ^ d ≤ c + 20
theorem Near.self {D n : Int} (h : 0 ≤ n) : Near D n n := ⟨h, 0, by rw [Int.pow_zero, Int.ediv_one]; exact Int.le_refl _, by rw [Int.pow_zero, Int.ediv_one]; omega⟩
theorem Near.step {D n c a : Int} (h : Near D n c) (hD : 2 ≤ D) (h0 : 0 ≤ a) (h20 : a ≤ 20) (hc : a ≤ c) : Near D n ((c - a) / D) := by
  obtain ⟨c0, d, h1, h2⟩ := h
  refine ⟨Int.ediv_nonneg (by omega) (by omega), d + 1, ?_⟩
  have e : n / D ^ (d + 1) = n / D ^ d / D := by
    rw [Int.pow_succ, Int.ediv_ediv_of_nonneg (Int.le_of_lt (Int.pow_pos (by omega)))]
  rw [e]
  constructor
  · exact Int.ediv_le_ediv (by omega) (by omega)
  · have z : n / D ^ d ≤ (c - a) + 20 * D := by omega
    have z2 := Int.ediv_le_ediv (c := D) (by omega) z
    rw [Int.add_mul_ediv_right _ _ (by omega)] at z2
    exact z2
def nearL (D n : Int) : List Int := (List.range 101).flatMap fun d => (List.range 21).map fun j : Nat => n / D ^ d - (j : Int)
theorem pow_ge {D : Int} (hD : 2 ≤ D) : ∀ d : Nat, (2 : Int) ^ d ≤ D ^ d
  | 0 => by simp
  | d + 1 => by
    rw [Int.pow_succ, Int.pow_succ]
    exact Int.mul_le_mul (pow_ge hD d) hD (by decide) (Int.le_of_lt (Int.pow_pos (by omega)))
theorem near_mem {D n c : Int} (hD : 2 ≤ D) (h0 : 0 ≤ n) (h30 : n ≤ 10 ^ 30) (h : Near D n c) : c ∈ nearL D n := by
  obtain ⟨c0, d, h1, h2⟩ := h
  refine List.mem_flatMap.mpr ?_
  by_cases hd : d ≤ 100
  · exact ⟨d, List.mem_range.mpr (by omega), List.mem_map.mpr ⟨(n / D ^ d - c).toNat, List.mem_range.mpr (by omega), by omega⟩⟩
  · have big : ∀ e : Nat, 100 ≤ e → n / D ^ e = 0 := fun e he => by
      have z1 := pow_ge hD e
      have z2 : (2 : Int) ^ 100 ≤ 2 ^ e := by
        obtain ⟨k, rfl⟩ : ∃ k, e = 100 + k := ⟨e - 100, by omega⟩
        rw [Int.pow_add]
        have : (1 : Int) ≤ 2 ^ k := Int.pow_pos (by decide)
        have z3 := Int.mul_le_mul_of_nonneg_left this (show (0 : Int) ≤ 2 ^ 100 by decide)
        rw [Int.mul_one] at z3
        exact z3
      have z3 : (10 : Int) ^ 30 < 2 ^ 100 := by decide
      exact Int.ediv_eq_zero_of_lt h0 (by omega)
    rw [big d (by omega)] at h1 h2
    exact ⟨100, List.mem_range.mpr (by decide), List.mem_map.mpr ⟨0, List.mem_range.mpr (by decide), by rw [big 100 (by decide)]; show (0 : Int) - ((0 : Nat) : Int) = c; omega⟩⟩
theorem nearL_len (D n : Int) : (nearL D n).length = 2121 := by
  unfold nearL
  rw [len_flat _ 21 (fun d => by rw [List.length_map, List.length_range]), List.length_range]
theorem few_near {D : Int} (hD : 2 ≤ D) {ns ks : List Int} (hn : ∀ n ∈ ns, 0 ≤ n ∧ n ≤ 10 ^ 30) (nd : ks.Nodup) (h : ∀ k ∈ ks, ∃ n ∈ ns, Near D n k) : ks.length ≤ ns.length * 2121 := by
  have z := nodup_lenT ks (ns.flatMap fun n => nearL D n) nd fun k hk => by
    obtain ⟨n, hm, hN⟩ := h k hk
    exact List.mem_flatMap.mpr ⟨n, hm, near_mem hD (hn n hm).1 (hn n hm).2 hN⟩
  rw [len_flat _ 2121 (fun n => nearL_len D n)] at z
  exact z
end CD
/-! the mathematics of plain scaled rules: how many are told, and when the last one -/
namespace CD
def Plain (N : Int) (ads : List Int) : Prop := (ads.map (· % N)).Nodup
instance (N : Int) (ads : List Int) : Decidable (Plain N ads) := inferInstanceAs (Decidable (List.Nodup _))
def partsI (N : Int) (ads : List Int) (n : Int) : List (Int × Int × Int) :=
  ads.zipIdx.filterMap fun e => if e.1 < n ∧ 1 < n then some (1 + (e.2 : Int), e.1, (n - 1 - e.1) / N + 1) else none
def cnt (N : Int) (ads : List Int) : Nat → Int
  | 0 => 0
  | k + 1 => cnt N ads k + if (tk N ads k).isSome then 1 else 0
def mx (N : Int) (ads : List Int) : Nat → Int
  | 0 => 0
  | k + 1 => max (mx N ads k) ((tk N ads k).getD 0)
def cI (N : Int) (ads : List Int) (n : Int) : Int := cnt N ads n.toNat
def mI (N : Int) (ads : List Int) (n : Int) : Int := mx N ads n.toNat
/-! ### sums and greatest ones -/
theorem sum_if {α : Type} (p : α → Prop) [DecidablePred p] (f : α → Int) : ∀ l : List α, (l.map fun e => if p e then f e else 0).sum = ((l.filter fun e => decide (p e)).map f).sum
  | [] => rfl
  | x :: r => by
    rw [List.map_cons, List.sum_cons, List.filter_cons, sum_if p f r]
    by_cases c : p x
    · rw [if_pos c, if_pos (decide_eq_true c), List.map_cons, List.sum_cons]
    · rw [if_neg c, if_neg (by simpa using c), Int.zero_add]
theorem sum_add {α : Type} (f g h : α → Int) : ∀ l : List α, (∀ e ∈ l, h e = f e + g e) → (l.map h).sum = (l.map f).sum + (l.map g).sum
  | [], _ => rfl
  | x :: r, k => by
    rw [List.map_cons, List.map_cons, List.map_cons, List.sum_cons, List.sum_cons, List.sum_cons, sum_add f g h r fun e he => k e (List.mem_cons_of_mem _ he), k x List.mem_cons_self]
    omega
def top (l : List Int) : Int := l.foldl max 0
theorem fold_max : ∀ (l : List Int) (a : Int), l.foldl max a = max a (l.foldl max a) ∧ a ≤ l.foldl max a
  | [], a => ⟨by show a = max a a; omega, Int.le_refl _⟩
  | x :: r, a => by
    have z := fold_max r (max a x)
    rw [List.foldl_cons]
    exact ⟨by omega, by omega⟩
theorem fold_from : ∀ (l : List Int) (a : Int), 0 ≤ a → l.foldl max a = max a (l.foldl max 0)
  | [], a, h => by show a = max a 0; omega
  | x :: r, a, h => by
    rw [List.foldl_cons, List.foldl_cons, fold_from r (max a x) (by omega), fold_from r (max 0 x) (by omega)]
    omega
theorem top_nn (l : List Int) : 0 ≤ top l := (fold_max l 0).2
theorem top_cons (x : Int) (r : List Int) : top (x :: r) = max (max 0 x) (top r) := by
  unfold top
  rw [List.foldl_cons, fold_from r (max 0 x) (by omega)]
theorem top_max {α : Type} (f g h : α → Int) : ∀ l : List α, (∀ e ∈ l, h e = max (f e) (g e)) → top (l.map h) = max (top (l.map f)) (top (l.map g))
  | [], _ => rfl
  | x :: r, k => by
    rw [List.map_cons, List.map_cons, List.map_cons, top_cons, top_cons, top_cons, top_max f g h r fun e he => k e (List.mem_cons_of_mem _ he), k x List.mem_cons_self]
    omega
theorem top_if {α : Type} (p : α → Prop) [DecidablePred p] (f : α → Int) : ∀ l : List α, top (l.map fun e => if p e then f e else 0) = top ((l.filter fun e => decide (p e)).map f)
  | [] => rfl
  | x :: r => by
    rw [List.map_cons, top_cons, List.filter_cons, top_if p f r]
    by_cases c : p x
    · rw [if_pos c, if_pos (decide_eq_true c), List.map_cons, top_cons]
    · rw [if_neg c, if_neg (by simpa using c)]
      have := top_nn ((r.filter fun e => decide (p e)).map f)
      omega
theorem top_fm {α : Type} (f : α → Option Int) : ∀ l : List α, top (l.filterMap f) = top (l.map fun e => (f e).getD 0)
  | [] => rfl
  | x :: r => by
    rw [List.map_cons, top_cons, List.filterMap_cons, ← top_fm f r]
    cases c : f x with
    | none =>
      have := top_nn (r.filterMap f)
      show top (r.filterMap f) = max (max 0 0) _
      omega
    | some y => exact top_cons _ _
theorem sum_fm {α : Type} (f : α → Option Int) : ∀ l : List α, (l.filterMap f).sum = (l.map fun e => (f e).getD 0).sum
  | [] => rfl
  | x :: r => by
    rw [List.map_cons, List.sum_cons, List.filterMap_cons, ← sum_fm f r]
    cases c : f x with
    | none => show (r.filterMap f).sum = 0 + _; omega
    | some y => rw [List.sum_cons]; rfl
/-! ### the one call -/
def hits (N : Int) (ads : List Int) (n : Int) : List (Int × Nat) := ads.zipIdx.filter fun e => decide (e.1 ≤ n ∧ (n - e.1) % N = 0)
theorem fm_if {α β : Type} (p : α → Prop) [DecidablePred p] (f : α → β) : ∀ l : List α, (l.filterMap fun e => if p e then some (f e) else none) = (l.filter fun e => decide (p e)).map f
  | [] => rfl
  | x :: r => by
    rw [List.filterMap_cons, List.filter_cons, fm_if p f r]
    by_cases c : p x
    · rw [if_pos c, if_pos (decide_eq_true c), List.map_cons]
    · rw [if_neg c, if_neg (by simpa using c)]
section
variable {N : Int} {ads : List Int} (S : IsSc N ads)
include S
theorem calls_hits {n : Int} (h : 1 ≤ n) : callsO N ads n = (hits N ads n).map fun e => ((n - e.1) / N, 1 + (e.2 : Int)) := by
  have e1 : callsI N ads n = (hits N ads n).map fun e => ((n - e.1) / N, 1 + (e.2 : Int)) := fm_if (fun e : Int × Nat => e.1 ≤ n ∧ (n - e.1) % N = 0) _ _
  rw [← e1]
  unfold callsO
  refine List.filter_eq_self.mpr fun p hp => decide_eq_true fun e => ?_
  obtain ⟨a, ha, an, _, ep, _⟩ := callsI_mem S hp
  have r := S.rng a ha
  have d2 := S.d2
  rw [e] at ep
  have z := Int.ediv_mul_le (n - a) (b := N) (by omega)
  rw [← ep] at z
  have z2 := Int.mul_le_mul_of_nonneg_left d2 (show (0 : Int) ≤ n by omega)
  omega
theorem hits_one (P : Plain N ads) (n : Int) : hits N ads n = [] ∨ ∃ e, hits N ads n = [e] ∧ e ∈ ads.zipIdx ∧ e.1 ≤ n ∧ (n - e.1) % N = 0 := by
  have e0 : (ads.zipIdx.map fun e => e.1 % N) = ads.map (· % N) := by
    have z : ads.zipIdx.map (fun e : Int × Nat => e.1) = ads := by simp
    rw [← z, List.map_map]
    simp
  have nd : ((hits N ads n).map fun e => e.1 % N).Nodup := by
    have z : ((hits N ads n).map fun e => e.1 % N).Sublist (ads.zipIdx.map fun e => e.1 % N) := List.filter_sublist.map _
    rw [e0] at z
    exact P.sublist z
  have all : ∀ e ∈ hits N ads n, e ∈ ads.zipIdx ∧ e.1 ≤ n ∧ (n - e.1) % N = 0 := fun e he => by
    obtain ⟨h1, h2⟩ := List.mem_filter.mp he
    exact ⟨h1, of_decide_eq_true h2⟩
  cases c : hits N ads n with
  | nil => exact .inl rfl
  | cons e r =>
    refine .inr ⟨e, ?_, all e (by rw [c]; exact List.mem_cons_self)⟩
    cases r with
    | nil => rfl
    | cons e2 r2 =>
      rw [c] at nd all
      have h1 := (all e List.mem_cons_self).2.2
      have h2 := (all e2 (List.mem_cons_of_mem _ List.mem_cons_self)).2.2
      have q1 := Int.emod_eq_emod_iff_emod_sub_eq_zero.mpr h1
      have q2 := Int.emod_eq_emod_iff_emod_sub_eq_zero.mpr h2
      rw [List.map_cons, List.map_cons] at nd
      exact absurd (by rw [← q1, ← q2]; exact List.mem_cons_self) (List.nodup_cons.mp nd).1
theorem tk_none {n : Int} (h : 1 ≤ n) (e : hits N ads n = []) : tk N ads n = none := by
  rw [tk_eq S (by omega), calls_hits S h, e]
  rfl
theorem tk_one {n : Int} (h : 1 ≤ n) {e : Int × Nat} (eh : hits N ads n = [e]) : tk N ads n = (tk N ads ((n - e.1) / N)).map (· + (1 + (e.2 : Int))) := by
  rw [tk_eq S (by omega), calls_hits S h, eh, List.map_cons, List.map_nil, List.filterMap_cons]
  cases c : tk N ads ((n - e.1) / N) with
  | none => rfl
  | some x => rfl
theorem hits_all {n : Int} {e : Int × Nat} (he : e ∈ ads.zipIdx) : 0 ≤ e.1 ∧ e.1 ≤ 20 := by
  have z := List.mem_zipIdx he
  have ha : e.1 ∈ ads := by rw [z.2.2]; exact List.getElem_mem _
  exact S.rng _ ha
omit S in
theorem cI_next {c : Int} (h : 0 ≤ c) : cI N ads (c + 1) = cI N ads c + if (tk N ads c).isSome then 1 else 0 := by
  unfold cI
  rw [show (c + 1).toNat = c.toNat + 1 by omega, cnt, show ((c.toNat : Nat) : Int) = c by omega]
omit S in
theorem mI_next {c : Int} (h : 0 ≤ c) : mI N ads (c + 1) = max (mI N ads c) ((tk N ads c).getD 0) := by
  unfold mI
  rw [show (c + 1).toNat = c.toNat + 1 by omega, mx, show ((c.toNat : Nat) : Int) = c by omega]
omit S in
theorem mI_nn (c : Int) : 0 ≤ mI N ads c := by
  unfold mI
  generalize c.toNat = k
  induction k with
  | zero => exact Int.le_refl _
  | succ k ih => rw [mx]; omega
def gC (N : Int) (ads : List Int) (n : Int) (e : Int × Nat) : Int := if e.1 < n then cI N ads ((n - 1 - e.1) / N + 1) - (if 0 < e.1 then 0 else 1) else 0
omit S in
theorem div_hit {N : Int} (d2 : 2 ≤ N) (d5 : N ≤ 5) (b : Int) : (b % N = 0 → (b - 1) / N + 1 = b / N) ∧ (b % N ≠ 0 → (b - 1) / N = b / N) := by
  have : N = 2 ∨ N = 3 ∨ N = 4 ∨ N = 5 := by omega
  rcases this with h | h | h | h <;> subst h <;> constructor <;> intro z <;> omega
theorem gC_next {n : Int} (h : 1 ≤ n) {e : Int × Nat} (he : e ∈ ads.zipIdx) : gC N ads (n + 1) e = gC N ads n e + if e.1 ≤ n ∧ (n - e.1) % N = 0 then (if (tk N ads ((n - e.1) / N)).isSome then 1 else 0) else 0 := by
  have r := hits_all S (n := n) he
  have dv := div_hit S.d2 S.d5 (n - e.1)
  have e1 : n + 1 - 1 - e.1 = n - e.1 := by omega
  have e2 : n - 1 - e.1 = n - e.1 - 1 := by omega
  unfold gC
  rw [e1, e2]
  have d2 := S.d2
  by_cases c : e.1 < n
  · have nn : 0 ≤ (n - e.1) / N := Int.ediv_nonneg (by omega) (by omega)
    rw [if_pos c, if_pos (by omega : e.1 < n + 1)]
    by_cases m : (n - e.1) % N = 0
    · rw [if_pos (show e.1 ≤ n ∧ (n - e.1) % N = 0 from ⟨by omega, m⟩), dv.1 m, cI_next nn]
      omega
    · rw [if_neg (show ¬ (e.1 ≤ n ∧ (n - e.1) % N = 0) from fun x => m x.2), dv.2 m]
      omega
  · rw [if_neg c]
    by_cases c2 : e.1 = n
    · rw [if_pos (by omega : e.1 < n + 1), c2, Int.sub_self, Int.zero_ediv, if_pos (show n ≤ n ∧ (0 : Int) % N = 0 from ⟨Int.le_refl _, Int.zero_emod _⟩), if_pos (show 0 < n by omega), cI_next (Int.le_refl 0), tk_zero]
      show cI N ads 0 + 1 - 0 = _
      have : cI N ads 0 = 0 := rfl
      rw [this]
      rfl
    · rw [if_neg (by omega : ¬ e.1 < n + 1), if_neg (fun x => by omega)]
      rfl
theorem sum_told (P : Plain N ads) {n : Int} (h : 1 ≤ n) : (ads.zipIdx.map fun e => if e.1 ≤ n ∧ (n - e.1) % N = 0 then (if (tk N ads ((n - e.1) / N)).isSome then (1 : Int) else 0) else 0).sum = if (tk N ads n).isSome then 1 else 0 := by
  rw [sum_if (fun e : Int × Nat => e.1 ≤ n ∧ (n - e.1) % N = 0)]
  show ((hits N ads n).map _).sum = _
  rcases hits_one S P n with e | ⟨e, eh, _⟩
  · rw [e, tk_none S h e]
    rfl
  · rw [eh, tk_one S h eh]
    cases c : tk N ads ((n - e.1) / N) with
    | none => simp [c]
    | some x => simp [c]
theorem many_sum (P : Plain N ads) : ∀ k : Nat, cI N ads ((k + 1 : Nat) : Int) = 1 + (ads.zipIdx.map (gC N ads ((k + 1 : Nat) : Int))).sum
  | 0 => by
    have z : ads.zipIdx.map (gC N ads 1) = ads.zipIdx.map fun _ => 0 := by
      refine List.map_congr_left fun e he => ?_
      have r := hits_all S (n := 1) he
      unfold gC
      by_cases c : e.1 < 1
      · have e0 : e.1 = 0 := by omega
        rw [if_pos c, e0, if_neg (by decide)]
        show cI N ads ((0 : Int) / N + 1) - 1 = 0
        rw [Int.zero_ediv, cI_next (Int.le_refl 0)]
        rfl
      · rw [if_neg c]
    have z2 : ∀ l : List (Int × Nat), (l.map fun _ => (0 : Int)).sum = 0 := fun l => by
      induction l with
      | nil => rfl
      | cons x r ih => rw [List.map_cons, List.sum_cons, ih]; rfl
    show cI N ads 1 = 1 + (ads.zipIdx.map (gC N ads 1)).sum
    rw [z, z2]
    rfl
  | k + 1 => by
    have ih := many_sum P k
    have h1 : (1 : Int) ≤ ((k + 1 : Nat) : Int) := by omega
    rw [show ((k + 1 + 1 : Nat) : Int) = ((k + 1 : Nat) : Int) + 1 by omega, cI_next (by omega), ih, sum_add (gC N ads ((k + 1 : Nat) : Int)) _ (gC N ads (((k + 1 : Nat) : Int) + 1)) ads.zipIdx fun e he => gC_next S h1 he, sum_told S P h1]
    omega
theorem many_eq (P : Plain N ads) {n : Int} (h : 1 ≤ n) : cI N ads n = 1 + ((partsI N ads n).map fun p => cI N ads p.2.2 - (if 0 < p.2.1 then 0 else 1)).sum := by
  obtain ⟨k, rfl⟩ : ∃ k : Nat, n = ((k + 1 : Nat) : Int) := ⟨(n - 1).toNat, by omega⟩
  rw [many_sum S P k]
  congr 1
  unfold partsI
  rw [List.map_filterMap, sum_fm]
  congr 1
  refine List.map_congr_left fun e he => ?_
  have r := hits_all S (n := 1) he
  unfold gC
  by_cases c : e.1 < ((k + 1 : Nat) : Int)
  · by_cases c1 : 1 < ((k + 1 : Nat) : Int)
    · rw [if_pos c, if_pos (show e.1 < ((k + 1 : Nat) : Int) ∧ 1 < ((k + 1 : Nat) : Int) from ⟨c, c1⟩)]
      rfl
    · have ek : k = 0 := by omega
      subst ek
      have e0 : e.1 = 0 := by omega
      rw [if_pos c, if_neg (show ¬ (e.1 < ((0 + 1 : Nat) : Int) ∧ 1 < ((0 + 1 : Nat) : Int)) from fun x => c1 x.2), e0]
      show cI N ads ((0 : Int) / N + 1) - 1 = 0
      rw [Int.zero_ediv, cI_next (Int.le_refl 0)]
      rfl
  · rw [if_neg c, if_neg (show ¬ (e.1 < ((k + 1 : Nat) : Int) ∧ 1 < ((k + 1 : Nat) : Int)) from fun x => c x.1)]
    rfl
omit S in
theorem least_memT : ∀ {l : List Int} {t : Int}, leastO l = some t → t ∈ l
  | n :: ns, t, h => by
    have key : ∀ (l : List Int) (a : Int), l.foldl min a = a ∨ l.foldl min a ∈ l := by
      intro l
      induction l with
      | nil => intro a; exact .inl rfl
      | cons x r ih =>
        intro a
        rw [List.foldl_cons]
        rcases ih (min a x) with e | m
        · rw [e]
          rcases (show min a x = a ∨ min a x = x by omega) with z | z
          · exact .inl z
          · exact .inr (by rw [z]; exact List.mem_cons_self)
        · exact .inr (List.mem_cons_of_mem _ m)
    have e : ns.foldl min n = t := Option.some.inj h
    rw [← e]
    rcases key ns n with z | z
    · rw [z]; exact List.mem_cons_self
    · exact List.mem_cons_of_mem _ z
theorem tk_low : ∀ (k : Nat) (c t : Int), c ≤ k → 0 ≤ c → tk N ads c = some t → 0 ≤ t ∧ (0 < c → 1 ≤ t)
  | 0, c, t, h, h0, e => by
    have : c = 0 := by omega
    subst this
    rw [tk_zero] at e
    cases e
    exact ⟨Int.le_refl _, fun x => by omega⟩
  | k + 1, c, t, h, h0, e => by
    by_cases c0 : c = 0
    · subst c0
      rw [tk_zero] at e
      cases e
      exact ⟨Int.le_refl _, fun x => by omega⟩
    · rw [tk_eq S (by omega)] at e
      obtain ⟨p, hp, ep⟩ := List.mem_filterMap.mp (least_memT e)
      have z := callsO_mem S h0 hp
      cases q : tk N ads p.1 with
      | none => rw [q] at ep; cases ep
      | some x =>
        rw [q] at ep
        have e2 : x + p.2 = t := Option.some.inj ep
        have ih := tk_low k p.1 x (by omega) z.1 q
        exact ⟨by omega, fun _ => by omega⟩
def hM (N : Int) (ads : List Int) (n : Int) (e : Int × Nat) : Int := if e.1 < n ∧ 1 < n ∧ (0 < e.1 ∨ 0 < mI N ads ((n - 1 - e.1) / N + 1)) then mI N ads ((n - 1 - e.1) / N + 1) + (1 + (e.2 : Int)) else 0
omit S in
theorem mI_one : mI N ads 1 = 0 := by
  have z := mI_next (N := N) (ads := ads) (Int.le_refl 0)
  rw [tk_zero] at z
  exact z
theorem hM_next {n : Int} (h : 1 ≤ n) {e : Int × Nat} (he : e ∈ ads.zipIdx) : hM N ads (n + 1) e = max (hM N ads n e) (if e.1 ≤ n ∧ (n - e.1) % N = 0 then ((tk N ads ((n - e.1) / N)).map (· + (1 + (e.2 : Int)))).getD 0 else 0) := by
  have r := hits_all S (n := n) he
  have dv := div_hit S.d2 S.d5 (n - e.1)
  have e1 : n + 1 - 1 - e.1 = n - e.1 := by omega
  have e2 : n - 1 - e.1 = n - e.1 - 1 := by omega
  have d2 := S.d2
  have d5 := S.d5
  unfold hM
  rw [e1, e2]
  by_cases c : e.1 < n
  · have nn : 0 ≤ (n - e.1) / N := Int.ediv_nonneg (by omega) (by omega)
    by_cases n1 : n = 1
    · have e0 : e.1 = 0 := by omega
      have q1 : ((1 : Int) - 0) / N = 0 := Int.ediv_eq_zero_of_lt (by omega) (by omega)
      have q2 : ((1 : Int) - 0) % N ≠ 0 := by
        rw [Int.emod_eq_of_lt (by omega) (by omega)]
        decide
      rw [n1, e0, q1, show (0 : Int) + 1 = 1 from rfl, mI_one, if_neg (show ¬ ((0 : Int) < 1 + 1 ∧ (1 : Int) < 1 + 1 ∧ ((0 : Int) < 0 ∨ (0 : Int) < 0)) by omega), if_neg (show ¬ ((0 : Int) < 1 ∧ (1 : Int) < 1 ∧ _) from fun x => by have := x.2.1; omega), if_neg (show ¬ ((0 : Int) ≤ 1 ∧ ((1 : Int) - 0) % N = 0) from fun x => q2 x.2)]
      rfl
    · by_cases m : (n - e.1) % N = 0
      · rw [if_pos (show e.1 ≤ n ∧ (n - e.1) % N = 0 from ⟨by omega, m⟩), dv.1 m, mI_next nn]
        have mn := mI_nn (N := N) (ads := ads) ((n - e.1) / N)
        cases q : tk N ads ((n - e.1) / N) with
        | none =>
          have z0 : (none : Option Int).getD 0 = 0 := rfl
          rw [Option.map_none, z0, show max (mI N ads ((n - e.1) / N)) 0 = mI N ads ((n - e.1) / N) by omega]
          by_cases g : 0 < e.1 ∨ 0 < mI N ads ((n - e.1) / N)
          · rw [if_pos ⟨by omega, by omega, g⟩, if_pos ⟨c, by omega, g⟩]
            omega
          · rw [if_neg (fun x => g x.2.2), if_neg (fun x => g x.2.2)]
            rfl
        | some t =>
          have tl := tk_low S ((n - e.1) / N).toNat _ t (by omega) nn q
          have z0 : ((some t).map (· + (1 + (e.2 : Int)))).getD 0 = t + (1 + (e.2 : Int)) := rfl
          have z1 : (some t).getD 0 = t := rfl
          rw [z0, z1]
          have gpos : 0 < e.1 ∨ 0 < max (mI N ads ((n - e.1) / N)) t := by
            by_cases a0 : 0 < e.1
            · exact .inl a0
            · have cp : 0 < (n - e.1) / N := by
                have : N = 2 ∨ N = 3 ∨ N = 4 ∨ N = 5 := by omega
                rcases this with h | h | h | h <;> subst h <;> omega
              have := tl.2 cp
              exact .inr (by omega)
          rw [if_pos ⟨by omega, by omega, gpos⟩]
          by_cases g : 0 < e.1 ∨ 0 < mI N ads ((n - e.1) / N)
          · rw [if_pos ⟨c, by omega, g⟩]
            omega
          · rw [if_neg (fun x => g x.2.2)]
            omega
      · rw [if_neg (show ¬ (e.1 ≤ n ∧ (n - e.1) % N = 0) from fun x => m x.2), dv.2 m]
        have mn := mI_nn (N := N) (ads := ads) ((n - e.1) / N + 1)
        by_cases g : 0 < e.1 ∨ 0 < mI N ads ((n - e.1) / N + 1)
        · rw [if_pos ⟨by omega, by omega, g⟩, if_pos ⟨c, by omega, g⟩]
          omega
        · rw [if_neg (fun x => g x.2.2), if_neg (fun x => g x.2.2)]
          rfl
  · rw [if_neg (show ¬ (e.1 < n ∧ _) from fun x => c x.1)]
    by_cases c2 : e.1 = n
    · rw [c2, Int.sub_self, Int.zero_ediv, show (0 : Int) + 1 = 1 from rfl, mI_one, if_pos (show n < n + 1 ∧ 1 < n + 1 ∧ (0 < n ∨ (0 : Int) < 0) from ⟨by omega, by omega, .inl (by omega)⟩), if_pos (show n ≤ n ∧ (0 : Int) % N = 0 from ⟨Int.le_refl _, Int.zero_emod _⟩), tk_zero]
      show (0 : Int) + (1 + (e.2 : Int)) = max 0 (0 + (1 + (e.2 : Int)))
      omega
    · rw [if_neg (show ¬ (e.1 < n + 1 ∧ _) from fun x => by have := x.1; omega), if_neg (show ¬ (e.1 ≤ n ∧ (n - e.1) % N = 0) from fun x => by have := x.1; omega)]
      rfl
theorem top_told (P : Plain N ads) {n : Int} (h : 1 ≤ n) : top (ads.zipIdx.map fun e => if e.1 ≤ n ∧ (n - e.1) % N = 0 then ((tk N ads ((n - e.1) / N)).map (· + (1 + (e.2 : Int)))).getD 0 else 0) = (tk N ads n).getD 0 := by
  rw [top_if (fun e : Int × Nat => e.1 ≤ n ∧ (n - e.1) % N = 0)]
  show top ((hits N ads n).map _) = _
  rcases hits_one S P n with e | ⟨e, eh, _, en, _⟩
  · rw [e, tk_none S h e]
    rfl
  · rw [eh, List.map_cons, List.map_nil, top_cons]
    rw [← tk_one S h eh]
    show max (max 0 _) 0 = _
    cases c : tk N ads n with
    | none => rfl
    | some x =>
      have := (tk_low S n.toNat n x (by omega) (by omega) c).1
      show max (max 0 x) 0 = x
      omega
theorem last_top (P : Plain N ads) : ∀ k : Nat, mI N ads ((k + 1 : Nat) : Int) = top (ads.zipIdx.map (hM N ads ((k + 1 : Nat) : Int)))
  | 0 => by
    have z : ads.zipIdx.map (hM N ads 1) = ads.zipIdx.map fun _ => 0 := by
      refine List.map_congr_left fun e he => ?_
      unfold hM
      rw [if_neg fun x => by have := x.2.1; omega]
    have z2 : ∀ l : List (Int × Nat), top (l.map fun _ => (0 : Int)) = 0 := fun l => by
      induction l with
      | nil => rfl
      | cons x r ih => rw [List.map_cons, top_cons, ih]; rfl
    show mI N ads 1 = top (ads.zipIdx.map (hM N ads 1))
    rw [z, z2]
    exact mI_one
  | k + 1 => by
    have ih := last_top P k
    have h1 : (1 : Int) ≤ ((k + 1 : Nat) : Int) := by omega
    rw [show ((k + 1 + 1 : Nat) : Int) = ((k + 1 : Nat) : Int) + 1 by omega, mI_next (by omega), ih, top_max (hM N ads ((k + 1 : Nat) : Int)) _ (hM N ads (((k + 1 : Nat) : Int) + 1)) ads.zipIdx fun e he => hM_next S h1 he, top_told S P h1]
theorem last_eq (P : Plain N ads) {n : Int} (h : 1 ≤ n) : mI N ads n = top ((partsI N ads n).filterMap fun p => if 0 < p.2.1 ∨ 0 < mI N ads p.2.2 then some (mI N ads p.2.2 + p.1) else none) := by
  obtain ⟨k, rfl⟩ : ∃ k : Nat, n = ((k + 1 : Nat) : Int) := ⟨(n - 1).toNat, by omega⟩
  rw [last_top S P k]
  unfold partsI
  rw [List.filterMap_filterMap, top_fm]
  congr 1
  refine List.map_congr_left fun e he => ?_
  unfold hM
  by_cases c : e.1 < ((k + 1 : Nat) : Int) ∧ 1 < ((k + 1 : Nat) : Int)
  · rw [if_pos c]
    by_cases g : 0 < e.1 ∨ 0 < mI N ads ((((k + 1 : Nat) : Int) - 1 - e.1) / N + 1)
    · rw [if_pos (show _ ∧ _ ∧ _ from ⟨c.1, c.2, g⟩)]
      show _ = (if _ then some _ else none : Option Int).getD 0
      rw [if_pos g]
      rfl
    · rw [if_neg (fun x => g x.2.2)]
      show _ = (if _ then some _ else none : Option Int).getD 0
      rw [if_neg g]
      rfl
  · rw [if_neg c, if_neg (fun x => c ⟨x.1, x.2.1⟩)]
    rfl
omit S in
theorem fm_filter {α β : Type} (p : α → Prop) [DecidablePred p] (f : α → Option β) : ∀ l : List α, (l.filter fun e => decide (p e)).filterMap f = l.filterMap fun e => if p e then f e else none
  | [] => rfl
  | x :: r => by
    rw [List.filter_cons, List.filterMap_cons, ← fm_filter p f r]
    by_cases c : p x
    · rw [if_pos (decide_eq_true c), if_pos c, List.filterMap_cons]
    · rw [if_neg (by simpa using c), if_neg c]
def callT (N : Int) (ads : List Int) (n : Int) (e : Int × Nat) : Option Int := if e.1 ≤ n ∧ (n - e.1) % N = 0 then (tk N ads ((n - e.1) / N)).map (· + (1 + (e.2 : Int))) else none
theorem tk_calls {n : Int} (h : 1 ≤ n) : tk N ads n = leastO (ads.zipIdx.filterMap (callT N ads n)) := by
  rw [tk_eq S (by omega), calls_hits S h, List.filterMap_map]
  unfold hits
  rw [fm_filter (fun e : Int × Nat => e.1 ≤ n ∧ (n - e.1) % N = 0)]
  rfl
def filmT (N : Int) (ads : List Int) (n : Nat) : List (Option Int) := (List.range (n + 1)).map fun k : Nat => tk N ads (k : Int)
omit S in
theorem filmT_len (n : Nat) : (filmT N ads n).length = n + 1 := by unfold filmT; rw [List.length_map, List.length_range]
omit S in
theorem filmT_next (n : Nat) : filmT N ads (n + 1) = filmT N ads n ++ [tk N ads ((n + 1 : Nat) : Int)] := by
  unfold filmT
  rw [List.range_succ, List.map_append]
  rfl
omit S in
theorem filmT_at {n k : Nat} (h : k ≤ n) : (filmT N ads n)[k]? = some (tk N ads (k : Int)) := by
  unfold filmT
  rw [List.getElem?_map, List.getElem?_range (by omega)]
  rfl
omit S in
theorem div_eq {N : Int} (d2 : 2 ≤ N) (d5 : N ≤ 5) (k st : Int) : (k = (k - st) / N * N + st ↔ (k - st) % N = 0) ∧ (0 ≤ (k - st) / N ↔ st ≤ k) := by
  have : N = 2 ∨ N = 3 ∨ N = 4 ∨ N = 5 := by omega
  rcases this with h | h | h | h <;> subst h <;> refine ⟨⟨fun _ => ?_, fun _ => ?_⟩, fun _ => ?_, fun _ => ?_⟩ <;> omega
omit S in
theorem div_lt {N : Int} (d2 : 2 ≤ N) (d5 : N ≤ 5) (k st : Int) (h1 : 1 ≤ k) (h0 : 0 ≤ st) : (k - st) / N < k := by
  have : N = 2 ∨ N = 3 ∨ N = 4 ∨ N = 5 := by omega
  rcases this with h | h | h | h <;> subst h <;> omega
def toldT (N : Int) (ads : List Int) (n : Nat) : List Int := (List.range n).filterMap fun k : Nat => tk N ads (k : Int)
omit S in
theorem toldT_next (n : Nat) : toldT N ads (n + 1) = toldT N ads n ++ (tk N ads (n : Int)).toList := by
  unfold toldT
  rw [List.range_succ, List.filterMap_append]
  cases e : tk N ads (n : Int) <;> simp [e]
omit S in
theorem toldT_len : ∀ n : Nat, ((toldT N ads n).length : Int) = cnt N ads n
  | 0 => rfl
  | n + 1 => by
    rw [toldT_next, List.length_append, cnt, ← toldT_len n]
    cases e : tk N ads (n : Int) with
    | none => simp
    | some x => simp
theorem toldT_le : ∀ n : Nat, (∀ x ∈ toldT N ads n, x ≤ mx N ads n) ∧ (1 ≤ n → mx N ads n ∈ toldT N ads n)
  | 0 => ⟨fun _ h => (by cases h), fun h => absurd h (by decide)⟩
  | n + 1 => by
    obtain ⟨h1, h2⟩ := toldT_le n
    rw [toldT_next, mx]
    have nn : 0 ≤ mx N ads n := mI_nn (N := N) (ads := ads) (n : Int)
    refine ⟨fun x hx => ?_, fun _ => ?_⟩
    · rcases List.mem_append.mp hx with m | m
      · have := h1 x m
        omega
      · cases e : tk N ads (n : Int) with
        | none => rw [e] at m; cases m
        | some t =>
          rw [e] at m
          have : x = t := by simpa using m
          show x ≤ max _ t
          omega
    · cases n with
      | zero => exact List.mem_append_right _ (by show max (0 : Int) ((tk N ads 0).getD 0) ∈ (tk N ads 0).toList; rw [tk_zero]; decide)
      | succ n =>
        have m := h2 (by omega)
        cases e : tk N ads ((n + 1 : Nat) : Int) with
        | none =>
          show max (mx N ads (n + 1)) 0 ∈ _
          rw [show max (mx N ads (n + 1)) 0 = mx N ads (n + 1) by omega]
          exact List.mem_append_left _ m
        | some t =>
          show max (mx N ads (n + 1)) t ∈ _
          by_cases c : t ≤ mx N ads (n + 1)
          · rw [show max (mx N ads (n + 1)) t = mx N ads (n + 1) by omega]
            exact List.mem_append_left _ m
          · rw [show max (mx N ads (n + 1)) t = t by omega]
            exact List.mem_append_right _ (by simp)
theorem tk_up : ∀ (k : Nat) (c t : Int), c ≤ k → 0 ≤ c → tk N ads c = some t → t ≤ 5 * c
  | 0, c, t, h, h0, e => by
    have : c = 0 := by omega
    subst this
    rw [tk_zero] at e
    cases e
    decide
  | k + 1, c, t, h, h0, e => by
    by_cases c0 : c = 0
    · subst c0
      rw [tk_zero] at e
      cases e
      decide
    · rw [tk_eq S (by omega)] at e
      obtain ⟨p, hp, ep⟩ := List.mem_filterMap.mp (least_memT e)
      have z := callsO_mem S h0 hp
      cases q : tk N ads p.1 with
      | none => rw [q] at ep; cases ep
      | some x =>
        rw [q] at ep
        have e2 : x + p.2 = t := Option.some.inj ep
        have ih := tk_up k p.1 x (by omega) z.1 q
        omega
theorem mx_up : ∀ n : Nat, mx N ads n ≤ 5 * (n : Int)
  | 0 => Int.le_refl _
  | n + 1 => by
    have ih := mx_up n
    rw [mx]
    cases e : tk N ads (n : Int) with
    | none => show max _ 0 ≤ _; omega
    | some t =>
      have := tk_up S n (n : Int) t (by omega) (by omega) e
      show max _ t ≤ _
      omega
omit S in
theorem cnt_up : ∀ n : Nat, 0 ≤ cnt N ads n ∧ cnt N ads n ≤ (n : Int)
  | 0 => ⟨Int.le_refl _, Int.le_refl _⟩
  | n + 1 => by
    have ih := cnt_up n
    rw [cnt]
    split <;> omega
omit S in
theorem filmT_take {n k : Nat} (h : k ≤ n + 1) : (filmT N ads n).take k = (List.range k).map fun k : Nat => tk N ads (k : Int) := by
  unfold filmT
  rw [← List.map_take, List.take_range, Nat.min_eq_left h]
/-! ### all of them are told by the steps 1 to 5 at scale 5 -/
theorem all_told (h5 : N = 5) (ha : ∀ r : Int, 0 ≤ r → r < 5 → ∃ a ∈ ads, 1 ≤ a ∧ a ≤ 5 ∧ a % 5 = r) : ∀ (k : Nat) (c : Int), c ≤ k → 0 ≤ c → (tk N ads c).isSome = true
  | 0, c, h, h0 => by
    have : c = 0 := by omega
    subst this
    rfl
  | k + 1, c, h, h0 => by
    by_cases c0 : c = 0
    · subst c0
      rfl
    · obtain ⟨a, am, a1, a2, ar⟩ := ha (c % 5) (by omega) (by omega)
      obtain ⟨i, hi, ei⟩ := List.mem_iff_getElem.mp am
      have ac : a ≤ c := by omega
      have md : (c - a) % N = 0 := by rw [h5]; omega
      have ih := all_told h5 ha k ((c - a) / N) (by rw [h5]; omega) (by rw [h5]; omega)
      have mem : (a, i) ∈ ads.zipIdx := by
        refine List.mem_iff_getElem?.mpr ⟨i, ?_⟩
        rw [List.getElem?_zipIdx, List.getElem?_eq_getElem hi, ei]
        simp
      rw [tk_calls S (by omega)]
      cases e : tk N ads ((c - a) / N) with
      | none => rw [e] at ih; cases ih
      | some x =>
        have m2 : x + (1 + (i : Int)) ∈ ads.zipIdx.filterMap (callT N ads c) := by
          refine List.mem_filterMap.mpr ⟨(a, i), mem, ?_⟩
          unfold callT
          rw [if_pos (show a ≤ c ∧ (c - a) % N = 0 from ⟨ac, md⟩), e]
          rfl
        cases l : ads.zipIdx.filterMap (callT N ads c) with
        | nil => rw [l] at m2; cases m2
        | cons y r => rfl
theorem cnt_all (h5 : N = 5) (ha : ∀ r : Int, 0 ≤ r → r < 5 → ∃ a ∈ ads, 1 ≤ a ∧ a ≤ 5 ∧ a % 5 = r) : ∀ n : Nat, cnt N ads n = (n : Int)
  | 0 => rfl
  | n + 1 => by
    rw [cnt, cnt_all h5 ha n, if_pos (all_told S h5 ha n (n : Int) (by omega) (by omega))]
    omega
end
end CD
set_option maxHeartbeats 4000000
/-! own rules: a dict with tuple keys of None and ints -/
namespace CD
open PySem PySem.Spec PyProof.Rows L2

/-! ### keys: None or an int -/
def oIs : Option Int → Value → Bool
  | none, .none => true
  | none, _ => false
  | some i, v => Value.isInt i v
def oH : Option Int → Int
  | none => 0xFCA86420
  | some i => hashInt i
def oV : Option Int → V
  | none => .non
  | some i => .int i
theorem oIs_shape : ∀ {k : Option Int} {v : Value}, oIs k v = true → (k = none ∧ v = Value.none) ∨ (∃ i t, k = some i ∧ v = Value.int i t)
  | none, v, h => by
    cases v <;> first | exact .inl ⟨rfl, rfl⟩ | exact absurd h (by simp [oIs])
  | some i, v, h => by
    obtain ⟨t, e⟩ := Value.isInt_shape (k := i) (v := v) h
    exact .inr ⟨i, t, rfl, e⟩
theorem oIs_none : oIs none .none = true := rfl
theorem oIs_int (i : Int) (t : Tok) : oIs (some i) (.int i t) = true := by simp [oIs, Value.isInt]
theorem wpAny_pyHash_none {prog : Program} {w : World} {A : Around} {E : Value → Shared → Prop} {s : Shared} {Q : Int → Shared → Prop} (h : Q 0xFCA86420 { s with toks := s.toks + 1 }) :
    wpAny (model prog w) A (pyHash .none) Q E s := by
  unfold pyHash
  have hT : s.TypeIs Value.none "NoneType" := rfl
  have hv : [Value.none].any Value.onHeap = false := rfl
  refine wpAny_bind ?_
  rw [cRoomFor, if_neg (by rw [hv]; exact Bool.false_ne_true)]; refine wpAny_pure ?_
  refine wpAny_bind (wpAny_specialOf hT F.slot_NoneType_hash.lookup ?_)
  show wpAny _ _ (if (some (Value.builtin "NoneType.__hash__") == some Value.none) = true then _ else _) Q E s
  rw [if_neg (by rw [beq_builtin_none]; exact Bool.false_ne_true)]
  refine wpAny_bind (wpAny_specialOf hT F.slot_NoneType_hash.lookup ?_)
  show wpAny _ _ (callSpecialIfBoundUnlessNone? .none "__hash__" _ >>= _) Q E s
  refine wpAny_bind (wpAny_callSpecialIfBoundUnlessNone?_slot hT F.slot_NoneType_hash
    (wpAny_call_entry F.slot_NoneType_hash hT F.entry_NoneType_hash
      (show wpAny _ _ (do ret (← mkInt 0xFCA86420)) _ _ s from wpAny_ret_mkInt ?_) (F.args_NoneType_hash_1 _)))
  show wpAny _ _ (if (decide (-(2 : Int) ^ 63 ≤ 0xFCA86420) && decide ((0xFCA86420 : Int) < 2 ^ 63)) = true then _ else _) Q E _
  rw [if_pos (by decide)]
  exact wpAny_pure h
theorem okey_ss (a b : Int) : decide (some a = some b) = (a == b) := by
  by_cases e : a = b
  · subst e; simp
  · have h : ¬ some a = some b := fun q => e (Option.some.inj q)
    rw [decide_eq_false h]
    exact (beq_eq_false_iff_ne.mpr e).symm
theorem wpAny_eqBool_none {prog : Program} {w : World} {A : Around} {E : Value → Shared → Prop} {s : Shared} {Q : Bool → Shared → Prop} (h : Q true s) :
    wpAny (model prog w) A (eqBool .none .none) Q E s := by
  unfold eqBool
  try with_reducible refine wpAny_holding ?_
  show wpAny _ _ (if (Value.none == Value.none) = true then _ else _) Q E s
  rw [if_pos (by rfl)]
  exact wpAny_bind (wpAny_rule (wpAny_pure h))
def optKind (prog : Program) (w : World) : PySem.KeyKind prog w (Option Int) where
  is := oIs
  hash := oH
  inj := fun v a b ha hb => by
    rcases oIs_shape ha with ⟨rfl, rfl⟩ | ⟨i, t, rfl, rfl⟩
    · rcases oIs_shape hb with ⟨rfl, _⟩ | ⟨j, u, rfl, e⟩
      · rfl
      · exact nomatch e
    · rcases oIs_shape hb with ⟨rfl, e⟩ | ⟨j, u, rfl, e⟩
      · exact nomatch e
      · injection e with e1 _; rw [e1]
  byValue := fun k v h => by
    rcases oIs_shape h with ⟨rfl, rfl⟩ | ⟨i, t, rfl, rfl⟩ <;> rfl
  pyHash := fun hv h => by
    rcases oIs_shape hv with ⟨rfl, rfl⟩ | ⟨i, t, rfl, rfl⟩
    · exact wpAny_pyHash_none h
    · exact wpAny_pyHash_int h
  eqBool := fun hu hv h => by
    rcases oIs_shape hu with ⟨rfl, rfl⟩ | ⟨i, t, rfl, rfl⟩
    · rcases oIs_shape hv with ⟨rfl, rfl⟩ | ⟨j, u, rfl, rfl⟩
      · rw [decide_eq_true rfl] at h; exact wpAny_eqBool_none h
      · rw [decide_eq_false (fun q => nomatch q)] at h; exact SeqAt.EqAt.none_int j u _ _ _ _ h
    · rcases oIs_shape hv with ⟨rfl, rfl⟩ | ⟨j, u, rfl, rfl⟩
      · rw [decide_eq_false (fun q => nomatch q)] at h; exact SeqAt.EqAt.int_none i t _ _ _ _ h
      · rw [okey_ss] at h; exact wpAny_eqBool_int h
  «strs» := fun k x t v h => by
    rcases oIs_shape h with ⟨rfl, e⟩ | ⟨i, u, rfl, e⟩ <;> exact nomatch e
theorem oV_is {P : Program} {w : World} {k : Option Int} {u : Value} (r : RelV (oV k) u) : (optKind P w).is k u = true := by
  cases k with
  | none => cases (show u = Value.none from r); rfl
  | some i => obtain ⟨t, e⟩ := (show ∃ t, u = Value.int i t from r); subst e; exact oIs_int i t
theorem oV_inj {a b : Option Int} (e : oV a = oV b) : a = b := by
  cases a <;> cases b
  · rfl
  · exact nomatch (show V.non = V.int _ from e)
  · exact nomatch (show V.int _ = V.non from e)
  · have e' : V.int _ = V.int _ := e; injection e' with e'; rw [e']
theorem oitems_are {P : Program} {w : World} : ∀ {ks : List (Option Int)} {us : List Value}, Vals (ks.map oV) us → ItemsAre (optKind P w) ks us
  | [], _, r => by rw [List.map_nil] at r; cases r; exact .nil
  | k :: ks, _, r => by
    rw [List.map_cons] at r
    cases r with
    | cons h t => exact .cons (oV_is h) (oitems_are t)

/-! ### the dict -/
abbrev OKey := List (Option Int)
/-- the raw dict object at a: xs its entries (key, where the key's tuple lies, value) -/
def RawO (P : Program) (w : World) (a : Addr) (xs : List (OKey × Addr × Value)) (h : Heap) : Prop :=
  ∃ o es ep, h.get? a = some o ∧ o.ExactDict ∧ o.data = .dict es ep ∧ es.toList = xs.map (entryOfKey (tupleKind (optKind P w))) ∧ (xs.map (·.1)).Nodup
/-- a dict with keys of None and ints: its entries, where each key lies -/
def DO (P : Program) (w : World) (a : Addr) (ds : List (OKey × Addr × V)) : HO :=
  .ext fun h => ∃ xs : List (OKey × Addr × Value), Paired (fun (p : OKey × Addr × V) (q : OKey × Addr × Value) => p.1 = q.1 ∧ p.2.1 = q.2.1 ∧ RelV p.2.2 q.2.2) ds xs ∧ (a == sysModules) = false ∧ RawO P w a xs h
/-- the keys lie where they are said to lie -/
def KeysO (H : Hp) (ds : List (OKey × Addr × V)) : Prop := ∀ p ∈ ds, H p.2.1 = some (.tup (p.1.map oV))
def valO (ds : List (OKey × Addr × V)) (k : OKey) : Option V := (ds.find? fun p => decide (p.1 = k)).map (·.2.2)

section
variable {P : Program} {w : World} {H : Hp} {h : Heap} {a : Addr}
theorem okey_of {ks : OKey} (ok : HOk P w H h) (e : H a = some (.tup (ks.map oV))) : (tupleKind (optKind P w)).is h ks a := by
  obtain ⟨_, its, r, o, h1, h2, n, h3⟩ := (show ObjOk P w H h a (.tup (ks.map oV)) from ok a _ e)
  exact ⟨o, its.toArray, n, h1, h2, h3, by simpa using oitems_are r⟩
abbrev OP := Paired (fun (p : OKey × Addr × V) (q : OKey × Addr × Value) => p.1 = q.1 ∧ p.2.1 = q.2.1 ∧ RelV p.2.2 q.2.2)
theorem OP.val {ds : List (OKey × Addr × V)} {xs : List (OKey × Addr × Value)} (r : OP ds xs) (k : OKey) : RelO (valO ds k) ((atKey xs k).map (·.2)) := by
  induction r with
  | nil => exact True.intro
  | @cons p q ps qs h t ih =>
    obtain ⟨h1, _, h2⟩ := h
    by_cases e : p.1 = k
    · have e' : q.1 = k := h1.symm.trans e
      have b : atKey (q :: qs) k = some q.2 := by simp [atKey, List.find?_cons, e']
      have c : valO (p :: ps) k = some p.2.2 := by simp [valO, List.find?_cons, e]
      rw [c, b]; exact h2
    · have e' : ¬ q.1 = k := fun z => e (h1.trans z)
      have b : atKey (q :: qs) k = atKey qs k := by simp [atKey, List.find?_cons, e']
      have c : valO (p :: ps) k = valO ps k := by simp [valO, List.find?_cons, e]
      rw [c, b]; exact ih
theorem do_of {ds : List (OKey × Addr × V)} (ok : HOk P w H h) (e : H a = some (DO P w a ds)) (ks : KeysO H ds) : (a == sysModules) = false ∧ ∃ xs, OP ds xs ∧ h.DictOfH (tupleKind (optKind P w)) a xs := by
  obtain ⟨⟨xs, r, y, o, es, ep, h1, h2, h3, h4, h5⟩, _, _⟩ := (show ObjOk P w H h a (DO P w a ds) from ok a _ e)
  refine ⟨y, xs, r, o, es, ep, h1, h2, h3, h4, fun x hx => ?_, h5⟩
  have all : ∀ {l : List (OKey × Addr × V)} {m : List (OKey × Addr × Value)}, OP l m → KeysO H l → ∀ x ∈ m, (tupleKind (optKind P w)).is h x.1 x.2.1 := by
    intro l m q
    induction q with
    | nil => intro _ x hx; exact nomatch hx
    | @cons p q ps qs hq t ih =>
      intro kk x hx
      rcases List.mem_cons.mp hx with e | hx
      · subst e
        have z := kk p List.mem_cons_self
        rw [hq.2.1] at z
        exact okey_of ok (by rw [← hq.1]; exact z)
      · exact ih (fun p hp => kk p (List.mem_cons_of_mem _ hp)) x hx
  exact all r ks x hx
theorem do_ok {ds : List (OKey × Addr × V)} {xs : List (OKey × Addr × Value)} {H' : Hp} {h' : Heap} (y : (a == sysModules) = false) (r : OP ds xs) (d : h'.DictOfH (tupleKind (optKind P w)) a xs) : ObjOk P w H' h' a (DO P w a ds) := by
  obtain ⟨o, es, ep, h1, h2, h3, h4, h5, h6⟩ := d
  refine ⟨⟨xs, r, y, o, es, ep, h1, h2, h3, h4, h6⟩, ⟨o, h1⟩, fun g1 g2 hg k => ?_⟩
  obtain ⟨xs', r', y', o', es', ep', e1, e2, e3, e4, e5⟩ := hg
  exact ⟨xs', r', y', o', es', ep', k _ e1, e2, e3, e4, e5⟩
end

section
variable {X : Cx} {pins : List (Addr × Obj)} {σ : L2.St} {H : Hp} {s : Shared} {a b : Addr} {v : V} {r : Value} {A : Around} {E : Value → Shared → Prop} {ds : List (OKey × Addr × V)} {k : OKey}
theorem o_getItem {Q : Value → Shared → Prop} (hu : A.units + 1 < cLine) (I : Inv X pins σ H s) (e : H a = some (DO X.prog X.w a ds)) (ks : KeysO H ds) (eb : H b = some (.tup (k.map oV))) (l : valO ds k = some v) (h : ∀ w' s', Inv X pins σ H s' → RelV v w' → Q w' s') :
    wpAny (model X.prog X.w) A (getItem (.ref a) (.ref b)) Q E s := by
  obtain ⟨hd, xs, rel, dd⟩ := do_of I.hok e ks
  obtain ⟨w', hw, rw'⟩ := RelO.some_of (v := v) (o := (atKey xs k).map (·.2)) (by rw [← l]; exact rel.val k)
  obtain ⟨p, hp, hp2⟩ := Option.map_eq_some_iff.mp hw
  refine wpAny_getItem_heap (tupleKind_room_in1 hu) (okey_of I.hok eb) dd hp ?_
  rw [hp2]
  exact h w' _ (I.tok _) rw'
theorem o_in {Q : Value → Shared → Prop} (hu : A.units + 1 < cLine) (I : Inv X pins σ H s) (e : H a = some (DO X.prog X.w a ds)) (ks : KeysO H ds) (eb : H b = some (.tup (k.map oV))) (h : ∀ s', Inv X pins σ H s' → Q (.bool (valO ds k).isSome) s') :
    wpAny (model X.prog X.w) A (compareOp .In (.ref b) (.ref a)) Q E s := by
  obtain ⟨hd, xs, rel, dd⟩ := do_of I.hok e ks
  refine wpAny_in_heap (tupleKind_room_in1 hu) (okey_of I.hok eb) hd dd ?_
  have q := (rel.val k).isSome_eq
  rw [Option.isSome_map] at q
  rw [← q]
  exact h _ (I.tok _)
theorem o_setItem {Q : Unit → Shared → Prop} (hu : A.units + 1 < cLine) (I : Inv X pins σ H s) (e : H a = some (DO X.prog X.w a ds)) (ks : KeysO H ds) (eb : H b = some (.tup (k.map oV))) (hn : valO ds k = none) (hl : ds.length < sizeLine) (rv : RelV v r)
    (h : ∀ s', Inv X pins σ (upd H a (DO X.prog X.w a (ds ++ [(k, b, v)]))) s' → Q () s') :
    wpAny (model X.prog X.w) A (setItem (.ref a) (.ref b) r) Q E s := by
  obtain ⟨hd, xs, rel, dd⟩ := do_of I.hok e ks
  have hz : xs.length ≤ sizeLine := by rw [← Paired.length rel]; exact Nat.le_of_lt hl
  refine wpAny_setItem_heap (hsz := hz) (tupleKind_room_in1 hu) (okey_of I.hok eb) dd fun h' dd' hs => h _ ?_
  have q := (rel.val k).isSome_eq
  rw [Option.isSome_map, hn] at q
  have es : storedH xs k b r = xs ++ [(k, b, r)] := by
    unfold storedH
    rw [← q]
    rfl
  rw [es] at dd'
  have he : ∃ q, h'.get? a = some q := let ⟨q, _, _, hq, _⟩ := dd'; ⟨q, hq⟩
  exact d_write I (by rw [e]; exact True.intro) hs he (do_ok hd (Paired.snoc (b := (k, b, r)) (a := (k, b, v)) rel ⟨rfl, rfl, rv⟩) dd')
end
/-- d[t], t in d, d[t] = v (t new) -/
def tOGet (P : Program) (w : World) (td ty : TE) : TE := fun σ H Q => td σ H fun x H1 => ty σ H1 fun y H2 => ∃ a b ds k v, x = .ref a ∧ y = .ref b ∧ H2 a = some (DO P w a ds) ∧ KeysO H2 ds ∧ H2 b = some (.tup (k.map oV)) ∧ valO ds k = some v ∧ Q v H2
def tOIn (P : Program) (w : World) (ty td : TE) : TE := fun σ H Q => ty σ H fun y H1 => td σ H1 fun x H2 => ∃ a b ds k, x = .ref a ∧ y = .ref b ∧ H2 a = some (DO P w a ds) ∧ KeysO H2 ds ∧ H2 b = some (.tup (k.map oV)) ∧ Q (.bl (valO ds k).isSome) H2
def sOPut (P : Program) (w : World) (td ty tv : TE) : TS := fun D σ H => tv σ H fun v H1 => td σ H1 fun x H2 => ty σ H2 fun y H3 => ∃ a b ds k, x = .ref a ∧ y = .ref b ∧ H3 a = some (DO P w a ds) ∧ KeysO H3 ds ∧ H3 b = some (.tup (k.map oV)) ∧ valO ds k = none ∧ ds.length < sizeLine ∧ D.nx σ (upd H3 a (DO P w a (ds ++ [(k, b, v)])))
section
variable {X : Cx} {o i e value : Expr} {pos pos' tpos : Pos} {td ty tv : TE}
theorem pe_oget (hu : X.A.units + 1 < cLine) (ho : PE X o td) (hi : PE X i ty) (hs : NoSl i) : PE X (.Subscript o i pos) (tOGet X.prog X.w td ty) := by
  refine ⟨fun pins s σ H Q I h => ?_⟩
  refine subD_of PySem.F.slot_dict_getitem.lookup hs (thn (ho.run pins s σ H _ I h) fun u s1 ⟨x, H1, I1, rx, q1⟩ => thn (hi.run pins s1 σ H1 _ I1 q1) fun iv s2 ⟨y, H2, I2, ry, a, b, ds, k, v, ex, ey, e1, e2, e3, e4, q2⟩ => ?_)
  subst ex ey
  obtain rfl : u = Value.ref a := rx
  obtain rfl : iv = Value.ref b := ry
  obtain ⟨_, xs, _, dd⟩ := do_of I2.hok e1 e2
  exact ⟨dd.typeIs, o_getItem hu I2 e1 e2 e3 e4 fun w' s3 I3 rw' => ⟨v, H2, I3, rw', q2⟩⟩
theorem pc_oin (hu : X.A.units + 1 < cLine) (hi : PE X i ty) (ho : PE X o td) : PC X .In i o (tOIn X.prog X.w ty td) := by
  refine ⟨fun pins s σ H Q I h => ?_⟩
  refine thn (hi.run pins s σ H _ I h) fun iv s1 ⟨y, H1, I1, ry, q1⟩ => thn (ho.run pins s1 σ H1 _ I1 q1) fun u s2 ⟨x, H2, I2, rx, a, b, ds, k, ex, ey, e1, e2, e3, q2⟩ => ?_
  subst ex ey
  obtain rfl : u = Value.ref a := rx
  obtain rfl : iv = Value.ref b := ry
  exact o_in hu I2 e1 e2 e3 fun s3 I3 => ⟨.bl _, H2, I3, rfl, q2⟩
theorem ps_oput (hu : X.A.units + 1 < cLine) (ho : PE X o td) (hi : PE X i ty) (hv : PE X value tv) (hs : swapsWith value (some (.Subscript o i pos')) pos.line X.env = pure false) :
    PS X (.Assign [.Subscript o i pos'] value pos) (sOPut X.prog X.w td ty tv) := by
  refine ⟨fun pins s σ H D I h => ?_⟩
  refine wpAny_Assign_Subscript (thn (hv.run pins s σ H _ I h) fun r s1 ⟨v, H1, I1, rv, q1⟩ => thn (ho.run pins s1 σ H1 _ I1 q1) fun u s2 ⟨x, H2, I2, rx, q2⟩ => thn (hi.run pins s2 σ H2 _ I2 q2) fun iv s3 ⟨y, H3, I3, ry, a, b, ds, k, ex, ey, e1, e2, e3, e4, e5, q3⟩ => ?_) hs
  subst ex ey
  obtain rfl : u = Value.ref a := rx
  obtain rfl : iv = Value.ref b := ry
  exact o_setItem hu I3 e1 e2 e3 e4 e5 rv fun s4 I4 => ⟨σ, _, I4, q3⟩
/-- {}: to be such a dict -/
def tDNewO (P : Program) (w : World) : TE := fun _ H Q => ∀ p, H p = none → Q (.ref p) (upd H p (DO P w p []))
theorem do_empty {P : Program} {w : World} {H : Hp} (h : Heap) (hb : sysModules < h.objs.size) : ObjOk P w H (h.push { cls := .type "dict", data := .dict #[] }) h.objs.size (DO P w h.objs.size []) := by
  have e := Heap.get?_push_size h (o := { cls := .type "dict", data := .dict #[] }) rfl
  refine ⟨⟨[], .nil, beq_eq_false_iff_ne.mpr (Ne.symm (Nat.ne_of_lt hb)), _, #[], 0, e, ⟨rfl, rfl, rfl⟩, rfl, rfl, List.nodup_nil⟩, ⟨_, e⟩, fun g1 g2 hg k => ?_⟩
  obtain ⟨xs', r', y', o', es', ep', e1, e2, e3, e4, e5⟩ := hg
  exact ⟨xs', r', y', o', es', ep', k _ e1, e2, e3, e4, e5⟩
theorem pe_dnewO : PE X (.Dict [] [] pos) (tDNewO X.prog X.w) := ⟨fun pins s σ H Q I h =>
  wpAny_Dict_empty ⟨.ref s.heap.objs.size, _, I.laid (a := s.heap.objs.size) (o := DO X.prog X.w s.heap.objs.size []) (t' := s.toks) (fun _ _ q => Heap.get?_push_of_some _ q) (Nat.le_refl _) (do_empty s.heap I.big), rfl, h _ (I.hok.fresh (Nat.le_refl _))⟩⟩
end
end CD
set_option maxHeartbeats 400000
/-! own rules 2: min(default=), max of a tuple, (x,) * k, enumerate(t, start=), sorted(t, reverse=True), len(set(t)), repr -/
namespace CD
open PySem PySem.Spec PyProof.Rows L2
section
variable {X : Cx}

/-! ### min(xs, default=d), max(t) -/
theorem alike_ints (ns : List Int)   : PySem.W.AlikeAll (ns.map PyData.int) := by
  refine ⟨fun x hx y hy => ?_, fun x hx e => ?_⟩
  · obtain ⟨i, _, rfl⟩ := List.mem_map.mp hx
    obtain ⟨j, _, rfl⟩ := List.mem_map.mp hy
    simp only [PySem.W.alike]
  · obtain ⟨i, _, rfl⟩ := List.mem_map.mp hx
    cases e
theorem reads_ints {h : Heap} : ∀ {us : List Value} {ns : List Int}, IntsAre us ns → ReadsAll h us (ns.map PyData.int) []
  | _, _, .nil => .nil
  | _, _, .cons n t r => ReadsAll.cons (as := []) (bs := []) (.int n t) (reads_ints r)
theorem depth_ints : ∀ ns : List Int, PyData.depthAll (ns.map PyData.int) = 0
  | [] => rfl
  | n :: ns => by
    rw [List.map_cons, PyData.depthAll, depth_ints ns]
    rfl
def orD (d : V) : Option Int → V
  | none => d
  | some m => .int m
def rMinD (K : PySem.W.Frag) : List V → List V → Hp → VK → Prop := fun vs zs H Q => ∃ (a : Addr) (ns : List Int) (d : V), vs = [V.ref a] ∧ zs = [d] ∧ SqL K H a (ns.map V.int) ∧ Q (orD d (leastO ns)) H
theorem cr_minDef (hc : X.calm = true) (hu : X.A.units + 1 < cLine) : CallRK X (.builtin "min") [Str.ofString "default"] (rMinD X.K) := by
  intro pins s σ H vs zs us ws Q I r rz h
  obtain ⟨a, ns, d, rfl, rfl, hs, q⟩ := h
  obtain rfl := Vals.ref1 r
  obtain ⟨w1, rfl, e1⟩ := vals1 rz
  obtain ⟨its, rv, hl, _⟩ := I.list hs
  have hi := rv.ints
  refine PySem.W.min_list_default (I.ok.hd hc) hl.isList (xs := ns.map PyData.int) (as := []) (by simpa using reads_ints hi) (alike_ints ns) (by rw [depth_ints]; exact hu) (fun e h' tk hk => ?_) fun y ys i v h' tk bs e hv hr hk => ?_
  · have e2 : ns = [] := List.map_eq_nil_iff.mp e
    subst e2
    exact ⟨d, H, I.kept hk, e1, q⟩
  · cases ns with
    | nil => cases e
    | cons n ns =>
      rw [List.map_cons] at e
      injection e with e2 e3
      subst e2 e3
      rw [PySem.W.minD_ints] at hr
      cases hr with
      | int i t => exact ⟨.int _, H, I.kept hk, ⟨t, rfl⟩, q⟩
def rMaxT (K : PySem.W.Frag) : List V → Hp → VK → Prop := fun vs H Q => ∃ (a : Addr) (n : Int) (ns : List Int), vs = [V.ref a] ∧ SqT K H a ((n :: ns).map V.int) ∧ Q (.int (ns.foldl max n)) H
theorem cr_maxT (hc : X.calm = true) (hu : X.A.units + 1 < cLine) : CallR X (.builtin "max") (rMaxT X.K) := by
  intro pins s σ H vs us Q I r h
  obtain ⟨a, n, ns, rfl, hs, q⟩ := h
  obtain rfl := Vals.ref1 r
  obtain ⟨its, rv, hl, _⟩ := I.tuple hs
  have hi := rv.ints
  refine PySem.W.max_tuple_data (I.ok.hd hc) (show s.heap.IsTuple a its.toArray from hl) (x := .int n) (xs := ns.map PyData.int) (as := []) (by simpa using reads_ints hi) (alike_ints (n :: ns)) (by
    have := depth_ints (n :: ns)
    rw [List.map_cons] at this
    rw [this]
    exact hu) fun i v h' tk bs hv hr hk => ?_
  rw [PySem.W.maxD_ints] at hr
  cases hr with
  | int i t => exact ⟨.int _, H, I.kept hk, ⟨t, rfl⟩, q⟩

/-! ### t * k, k at most 1 -/
theorem tuple_mul1 (l : Addr) (items : Array Value) (n : Nat) (dd : Option Addr) (sl : Array (Option Value)) (u : Tok) :
    Meets (Builtin.«tuple.__mul__» ⟨[.ref l, .int 1 u], []⟩) (fun _ R s => s.heap.get? l = some { cls := .type "tuple", dict := dd, data := .seq items n, slots := sl } ∧ R (.ok (.ret (Value.ref l))) s) :=
  .of_wp fun prog w A R s h => by
    obtain ⟨hp, g, d, tk, os⟩ := s
    obtain ⟨hl, h⟩ := h
    have f1 := AutoSeq1.idx_int
    wp_walk using wpAny_loadPart' hl
    repeat (first
      | (refine wpAny_ite_false (by decide) ?_; wp_walk using wpAny_loadPart' hl)
      | (refine wpAny_ite_true (by simp) ?_; wp_walk using wpAny_loadPart' hl))
    exact ⟨_, rfl, h⟩
theorem tuple_mul0 (l : Addr) (items : Array Value) (n : Nat) (dd : Option Addr) (sl : Array (Option Value)) (u : Tok) (c1 : items.isEmpty = false) :
    Meets (Builtin.«tuple.__mul__» ⟨[.ref l, .int 0 u], []⟩) (fun _ R s => s.heap.get? l = some { cls := .type "tuple", dict := dd, data := .seq items n, slots := sl } ∧
      R (.ok (.ret (Value.ref s.heap.objs.size))) { s with heap := s.heap.push { cls := Value.type "tuple", data := Data.seq #[] }, toks := s.toks }) :=
  .of_wp fun prog w A R s h => by
    obtain ⟨hp, g, d, tk, os⟩ := s
    obtain ⟨hl, h⟩ := h
    have f1 := AutoSeq1.idx_int
    wp_walk using wpAny_loadPart' hl
    repeat (first
      | (refine wpAny_ite_false (by rw [c1]; decide) ?_; wp_walk using wpAny_loadPart' hl)
      | (refine wpAny_ite_false (by decide) ?_; wp_walk using wpAny_loadPart' hl)
      | (refine wpAny_ite_true (by simp) ?_; wp_walk using wpAny_loadPart' hl))
    exact ⟨_, rfl, h⟩
/-- t * k for k = 0, 1 and more -/
def rRepA (K : PySem.W.Frag) : R2 := fun x y H Q => ∃ l xs, ∃ k : Nat, x = .ref l ∧ y = .int k ∧ SqT K H l xs ∧ xs ≠ [] ∧ k ≤ 1000 ∧ xs.length ≤ 1000 ∧
  (k = 1 → Q (.ref l) H) ∧ (k ≠ 1 → ∀ p, H p = none → Q (.ref p) (upd H p (.tup (List.replicate k xs).flatten)))
theorem op_repA : OpR X (binaryOp .Mult) (rRepA X.K) := by
  intro pins s σ H x y v u Q I rx ry h
  obtain ⟨l, xs, k, rfl, rfl, hT, hne, h2, hz, q1, q2⟩ := h
  by_cases k2 : 2 ≤ k
  · refine op_repT pins s σ H _ _ v u Q I rx ry ⟨l, (k : Int), xs, rfl, rfl, hT, hne, by omega, by omega, hz, ?_⟩
    rw [Int.toNat_natCast]
    exact q2 (by omega)
  · cases rx
    obtain ⟨t, rfl⟩ := ry
    obtain ⟨its, r, ⟨⟨cls, dd, data, sl⟩, ho, hc, n, hd⟩, hs⟩ := I.tuple hT
    simp only at hc hd
    subst hc hd
    have hi : its.toArray.isEmpty = false := by
      cases its with
      | nil =>
        have e := r.length
        cases xs with
        | nil => exact absurd rfl hne
        | cons a b => simp at e
      | cons a b => rfl
    have road : ∀ {Q' : Value → Shared → Prop} (kk : Int), wpAny (model X.prog X.w) X.A (call (.builtin "tuple.__mul__") [.ref l, .int kk t]) Q' X.xe s → wpAny (model X.prog X.w) X.A (binaryOp .Mult (.ref l) (.int kk t)) Q' X.xe s := fun {Q'} kk hq =>
      wpAny_binaryOp_repeat_ref (T := "tuple") (U := "int") (by decide) ⟨_, ho, rfl⟩ (fun s' => typeIs_int s' kk t) noFill_tuple_mul F.fills_int_mul F.slot_int_rmul repeat_tuple F.slot_int_index.lookup
        (call_meets F.slot_int_rmul (typeIs_int s kk t) F.entry_int_rmul (F.args_int_rmul_2 _ _) (int_rmul_tuple kk t l its.toArray n dd sl) ⟨ho, rfl, ⟨_, ho, rfl⟩, hq⟩)
    by_cases k1 : k = 1
    · subst k1
      refine road 1 (call_meets F.slot_tuple_mul ⟨_, ho, rfl⟩ F.entry_tuple_mul (F.args_tuple_mul_2 _ _) (tuple_mul1 l its.toArray n dd sl t) ⟨ho, ?_⟩)
      exact ⟨.ref l, H, I, rfl, q1 rfl⟩
    · obtain rfl : k = 0 := by omega
      refine road 0 (call_meets F.slot_tuple_mul ⟨_, ho, rfl⟩ F.entry_tuple_mul (F.args_tuple_mul_2 _ _) (tuple_mul0 l its.toArray n dd sl t hi) ⟨ho, ?_⟩)
      exact ⟨.ref s.heap.objs.size, _, I.laid (t' := s.toks) (o := .tup []) (fun b ob q => Heap.get?_push_of_some _ q) (Nat.le_refl _) ⟨Nat.zero_le _, [], .nil, IsTup.new _ _⟩, rfl, q2 (by omega) _ (I.hok.fresh (Nat.le_refl _))⟩

/-! ### for i, x in enumerate(t, start=k), t a tuple -/
def IteT (K : PySem.W.Frag) (a : Addr) (k : Int) : It :=
  ⟨fun i H => ∃ (xs : List V) (x : V), SqT K H a xs ∧ xs[i]? = some x,
    fun i H v H' => ∃ T x, v = .ref T ∧ H T = none ∧ H' = upd H T (.tup [.int (k + (i : Nat)), x]) ∧ ∀ xs, SqT K H a xs → xs[i]? = some x,
    fun i H => ∃ xs : List V, SqT K H a xs ∧ xs.length = i⟩
theorem turn_enumT {P : Program} {w : World} {K : PySem.W.Frag} {elts : List Expr} {kk : Nat} {tpos : Pos} (a e it : Addr) (k : Int) :
    Turn P w K (.Tuple elts kk tpos) (IteT K a k) [e, it] e (fun i h => (∃ old, IsEnum h e it (k + (i : Nat)) old) ∧ h.IsTupleIter it a i ∧ e ≠ it) where
  mem := by simp
  obj := fun i h st b hb => by
    obtain ⟨⟨old, he⟩, ⟨o, ho, hc, hd⟩, _⟩ := st
    rcases (by simpa using hb : b = e ∨ b = it) with rfl | rfl
    · exact ⟨_, he, fun v q => nomatch q⟩
    · exact ⟨o, ho, fun v q => by rw [hd] at q; cases q⟩
  keep := fun i h h' st q => ⟨⟨st.1.choose, q e (by simp) _ st.1.choose_spec⟩, st.2.1.at fun o z => q it (by simp) o z, st.2.2⟩
  item := by
    intro X hP hw hK hc i pins s σ H E I hf st hg
    subst hP hw hK
    obtain ⟨⟨old, he⟩, hit, hne⟩ := st
    obtain ⟨xs, x, hq, hx⟩ := hg
    obtain ⟨its, rv, p, hz⟩ := I.tuple hq
    obtain ⟨u, hu, ru⟩ := rv.get hx
    have hel : e < s.heap.objs.size := Heap.lt_size he
    have hil : it < s.heap.objs.size := by obtain ⟨_, q, _⟩ := hit; exact Heap.lt_size q
    have hai : a ≠ it := by
      intro z
      obtain ⟨o1, h1, c1, _⟩ := p
      obtain ⟨o2, h2, c2, _⟩ := hit
      rw [z, h2] at h1
      cases h1
      rw [c1] at c2
      exact absurd c2 (by decide)
    have hae : e ≠ a := by
      intro z
      obtain ⟨o1, h1, c1, _⟩ := p
      rw [← z, he] at h1
      cases h1
      have c2 : Value.type "enumerate" = Value.type "tuple" := c1
      exact absurd c2 (by decide)
    have hlen : its.toArray.size = xs.length := by rw [List.size_toArray]; exact rv.length.symm
    have hi : i < its.toArray.size := by
      rw [hlen]
      exact (List.getElem?_eq_some_iff.mp hx).1
    refine PySem.wpAny_pyNext_enum_itemC (Draws.tuple (A := X.A.in1) (I.ok.hd hc) it a hai its.toArray) he ⟨hit, show s.heap.IsTuple a its.toArray from p⟩ hi hne (by simp [hne, hae]) fun y h' tk hy ho hst' hT hsz hk => ?_
    obtain rfl : u = y := by
      have z : its.toArray[i]? = some u := by simpa using hu
      exact Option.some.inj (z.symm.trans hy)
    refine ⟨_, rfl, wpAny_letOwnedTupleGo_enum (s := { s with heap := h', toks := tk + 1 }) ho fun h'' he' sb => ?_⟩
    have hT2 := (sb.2 _ (Nat.ne_of_gt hel)).trans hT
    have new : ObjOk X.prog X.w (upd H s.heap.objs.size (.tup [.int (k + (i : Nat)), x])) h'' s.heap.objs.size (.tup [.int (k + (i : Nat)), x]) :=
      ⟨(by decide : 2 ≤ sizeLine), _, .cons ⟨tk, rfl⟩ (.cons ru .nil), ⟨_, hT2, rfl, _, rfl⟩⟩
    have ap : ∀ b, b ∉ [e, it] → b ≠ e ∧ b ≠ it := fun b hb => by simpa using hb
    have I1 := I.turnedNew (t' := tk + 1) (ch := [e, it]) (fun b ob hb q => (sb.2 b (ap b hb).1).trans (hk b ob (ap b hb).1 (ap b hb).2 q)) hf (Nat.le_refl _) new
    refine ⟨.ref s.heap.objs.size, _, I1, rfl, ⟨_, x, rfl, I.hok.fresh (Nat.le_refl _), rfl, fun ys hy => by rw [I.tuple_inj hy hq]; exact hx⟩, ⟨⟨u, ?_⟩, hst'.1.at fun o q => (sb.2 it (Ne.symm hne)).trans q, hne⟩, fun b hb => ?_⟩
    · have e1 : k + ((i + 1 : Nat) : Int) = k + (i : Nat) + 1 := by omega
      rw [e1]; exact he'
    · have hb' : b < s.heap.objs.size := by
        rcases (by simpa using hb : b = e ∨ b = it) with rfl | rfl
        · exact hel
        · exact hil
      rw [upd_ne (Nat.ne_of_lt hb')]
      exact (hf b hb).1
  done := by
    intro X hP hw hK hc i pins s σ H E I hf st hg
    subst hP hw hK
    obtain ⟨⟨old, he⟩, hit, hne⟩ := st
    obtain ⟨xs, hq, hx⟩ := hg
    obtain ⟨its, rv, p, hz⟩ := I.tuple hq
    obtain ⟨f0, f1, f2, f3, f4, f5⟩ := hf it (by simp)
    have hl := rv.length
    have hai : a ≠ it := by
      intro z
      obtain ⟨o1, h1, c1, _⟩ := p
      obtain ⟨o2, h2, c2, _⟩ := hit
      rw [z, h2] at h1
      cases h1
      rw [c1] at c2
      exact absurd c2 (by decide)
    have hsz : i = its.toArray.size := by rw [List.size_toArray]; omega
    subst hsz
    refine PySem.wpAny_pyNext_enum_endD (Draws.tuple (A := X.A.in1) (I.ok.hd hc) it a hai its.toArray) he ⟨hit, show s.heap.IsTuple a its.toArray from p⟩ fun h' eb => ?_
    exact ⟨rfl, I.turned (t' := s.toks) (fun b o hb q => eb b o hb q) f0 f1 f3 f4 f5⟩
  self := fun A i s Q E st h => wpAny_pyIter_enum st.1.choose_spec h
theorem walk_enumT {K : PySem.W.Frag} {a : Addr} {k : Int} {xs : List V} : Walk (IteT K a k) xs.length (fun H => SqT K H a xs) (YPair (fun i => some (.int (k + (i : Nat)))) (fun i => xs[i]?)) := by
  refine ⟨fun i _ hi q => ⟨xs, xs[i], q, by simp [hi]⟩, fun _ q => ⟨xs, q, rfl⟩, fun i H v H' _ q y => ?_⟩
  obtain ⟨T, x, h1, h2, h3, h4⟩ := y
  exact ⟨T, .int (k + (i : Nat)), x, h1, h2, h3, rfl, h4 xs q⟩
theorem callWith_tyK {M : Model} {A : Around} {E : Value → Shared → Prop} {s : Shared} {env : Env} {pos : Pos} {T : String} {e : Expr} {kws : List Keyword} {Q : Value → Shared → Prop}
    (h : wpAny M A (spliced (backTo pos (starEach [e] env))) (fun vs s₁ => wpAny M A (evalAll ((backToKw pos (keywordEach kws env)).map (·.2)))
      (fun kvs s₂ => wpAny M A (call (.type T) vs (((backToKw pos (keywordEach kws env)).filterMap (·.1)).zip kvs)) Q E s₂) E s₁) E s)
    (he : backTo pos (starEach [e] env) = [(false, eval e env)])
    (hall : (backToKw pos (keywordEach kws env)).all (·.1.isSome) = true)
    (hkw : (backToKw pos (keywordEach kws env)).any (·.1.isNone) = false) :
    wpAny M A (callWith pos (.type T) [] (backTo pos (starEach [e] env)) (backToKw pos (keywordEach kws env))) Q E s := by
  rw [he] at h ⊢
  have h2 := PyProof.Rows.evalArgs_kwB (f := .type T) (Q := fun a s₁ => wpAny M A (call (.type T) ([] ++ a.pos) a.kw) Q E s₁) hall h
  unfold callWith
  refine wpAny_bind (wpAny_holding (wpAny_mono h2 (fun a s₁ h₁ => wpAny_bind (wpAny_standAt ?_)) fun _ _ z => z))
  simp only [List.any_cons, List.any_nil, hkw, Bool.or_false]
  refine wpAny_bind (wpAny_pure ?_)
  refine wpAny_bind (wpAny_mono h₁ (fun r s₂ hr => ?_) fun _ _ z => z)
  exact wpAny_bind (wpAny_holding (wpAny_point (wpAny_pure hr)))
def iEnumT (K : PySem.W.Frag) (ta tk : TA) : TI := fun σ H R => ta σ H fun vs H1 => tk σ H1 fun zs H2 => ∃ a xs k, vs = [.ref a] ∧ zs = [.int k] ∧ -(2 ^ 63) ≤ k ∧ k < 2 ^ 63 ∧ SqT K H2 a xs ∧ R (IteT K a k) H2
theorem pi_enumT {e e2 : Expr} {ta tk : TA} {p pos tpos kpos : Pos} {elts : List Expr} {kk : Nat} (hg : Gl X "enumerate") (hm : X.mg "enumerate" = none) (ha : PA X [e] ta) (hk : PK X [⟨some (Str.ofString "start"), e2, kpos⟩] tk)
    (hs : backTo pos (starEach [e] X.env) = [(false, eval e X.env)] := by rfl)
    (hall : (backToKw pos (keywordEach [⟨some (Str.ofString "start"), e2, kpos⟩] X.env)).all (·.1.isSome) = true := by rfl) (hnone : (backToKw pos (keywordEach [⟨some (Str.ofString "start"), e2, kpos⟩] X.env)).any (·.1.isNone) = false := by rfl)
    (hks : (backToKw pos (keywordEach [⟨some (Str.ofString "start"), e2, kpos⟩] X.env)).filterMap (·.1) = [Str.ofString "start"] := by rfl) :
    PI X (.Tuple elts kk tpos) (.Call (.Name "enumerate" p) [e] [⟨some (Str.ofString "start"), e2, kpos⟩] pos) (iEnumT X.K ta tk) := by
  refine ⟨fun pins s σ H R I h => ?_⟩
  refine wpAny_Call_Name_kw (ld_blt I hg hm boot_enumerate ?_)
  refine callWith_tyK (thn (ha.run pos pins s σ H _ I h) fun us s1 ⟨vs, H1, I1, r1, q1⟩ => thn (hk.run pos pins s1 σ H1 _ I1 q1) fun ws s2 ⟨zs, H2, I2, r2, q2⟩ => ?_) hs hall hnone
  obtain ⟨a, xs, k, rfl, rfl, k0, k1, hq, q⟩ := q2
  obtain rfl := Vals.ref1 r1
  obtain ⟨w1, rfl, tk1, rfl⟩ := vals1 r2
  rw [hks]
  obtain ⟨its, rv, pt, hz⟩ := I2.tuple hq
  refine PySem.enum_begins_start (PySem.begins_tuple a its.toArray) (show s2.heap.IsTuple a its.toArray from pt) k0 k1 fun h' he hit hsz hkeep => wpAny_pyIter_enum he ?_
  have I3 : Inv X pins σ H2 { s2 with heap := h' } := I2.kept (t' := s2.toks) hkeep
  have he0 : IsEnum h' (s2.heap.objs.size + 1) s2.heap.objs.size (k + ((0 : Nat) : Int)) .none := by
    rw [show k + ((0 : Nat) : Int) = k by omega]
    exact he
  have hit0 : h'.IsTupleIter s2.heap.objs.size a 0 := ⟨_, hit, rfl, rfl⟩
  refine ⟨s2.heap.objs.size + 1, [s2.heap.objs.size + 1, s2.heap.objs.size], _, _, H2, rfl, I3, turn_enumT a (s2.heap.objs.size + 1) s2.heap.objs.size k, ?_, fun b hb => ?_, q⟩
  · exact ⟨⟨.none, he0⟩, hit0, Nat.succ_ne_self _⟩
  · have hle : s2.heap.objs.size ≤ b := by
      rcases (by simpa using hb : b = s2.heap.objs.size + 1 ∨ b = s2.heap.objs.size) with z | z
      · rw [z]; exact Nat.le_succ _
      · rw [z]; exact Nat.le_refl _
    exact I2.fpOk hle (I2.hok.fresh hle)
end
end CD
/-! own rules 3: len(set(t)), repr of data, sorted(t, reverse=True) -/
namespace CD
open PySem PySem.Spec PyProof.Rows L2
section
variable {X : Cx}
/-! ### len(set(t)), t a tuple of unlike ints -/
def tLenSetT (K : PySem.W.Frag) (ta : TE) : TE := fun σ H Q => ta σ H fun x H1 => ∃ (l : Addr) (ns : List Int), x = .ref l ∧ SqT K H1 l (ns.map V.int) ∧ ns.Nodup ∧ ns.length ≤ 1000 ∧ Q (.int (ns.length : Nat)) H1
theorem pe_lenSetT {a : Expr} {ta : TE} {p p2 q pos : Pos} (hg : Gl X "len") (hm : X.mg "len" = none) (hg2 : Gl X "set") (hm2 : X.mg "set" = none) (ha : PE X a ta) (hc : X.calm = true := by rfl)
    (na : starEach [a] X.env = (false, eval a X.env) :: starEach [] X.env := by rfl) : PE X (.Call (.Name "len" p) [.Call (.Name "set" p2) [a] [] q] [] pos) (tLenSetT X.K ta) := by
  refine ⟨fun pins s σ H Q I h => ?_⟩
  refine Call_ (ld_blt I hg hm boot_len (PyProof.Rows.callWith_builtin1 (PyProof.Rows.args_cons ?_ rfl) rfl rfl))
  refine Call_ (ld_blt I hg2 hm2 boot_set (PyProof.Rows.callWith_type1 (PyProof.Rows.args_cons (thn (ha.run pins s σ H _ I h) fun v s1 ⟨x, H1, I1, r1, l, ns, ex, hq, hnd, hl, q1⟩ => PyProof.Rows.args_nil ?_) na) na rfl))
  subst ex
  cases r1
  obtain ⟨its, r, pl, hz⟩ := I1.tuple hq
  refine call_set_tupI ns (I1.ok.hd hc) (show s1.heap.IsTuple l its.toArray from pl) (by simpa using ints_of_vals r) (by unfold scanBound; omega) fun h' tk c hS hcl hk => PyProof.Rows.args_nil ?_
  obtain ⟨o, es, ep, t, ho, hex, hdt, g, nd, hm3, hb, hf, hn, _, _⟩ := hS
  have hlen : es.size = ns.length := by
    have e1 : (es.toList.map keyOf).Perm ns := (List.perm_ext_iff_of_nodup nd hnd).mpr fun j => by
      have z : decide (j ∈ ns) = true ↔ j ∈ es.toList.map keyOf := hm3 j
      rw [decide_eq_true_eq] at z
      exact z.symm
    have := e1.length_eq
    simpa using this
  have I2 : Inv X pins σ H1 { s1 with heap := h', toks := tk } := I1.kept hk
  exact call_len_set ho hex hdt hf (by omega) ⟨.int ns.length, H1, I2.tok _, ⟨_, by rw [hlen]⟩, q1⟩

/-! ### repr of data -/
def rRepr (K : PySem.W.Frag) : List V → Hp → VK → Prop := fun vs H Q => ∃ (x : V) (d : PyData), vs = [x] ∧ Dp K H x d ∧ d.showable = true ∧ d.hasDict = false ∧ d.depth ≤ 60 ∧ d.shown.length ≤ sizeLine ∧ Q (.str d.shown) H
theorem call_reprD (hg : X.A.guards = some []) (hu : X.A.units + 64 < cLine) : CallR X (.builtin "repr") (rRepr X.K) := by
  intro pins s σ H xs us Q I r h
  obtain ⟨x, d, rfl, hd, hs, hn, hp, hz, q⟩ := h
  obtain ⟨u, rfl, ru⟩ := vals1 r
  obtain ⟨as, rd⟩ := Dp.reads I d x u hd ru
  have nd : d.hasDict = true → sysModules ∉ as := fun e => by rw [hn] at e; cases e
  cases rd with
  | list h1 h2 h3 h4 => exact repr_of_reads' (.list h1 h2 h3 h4) hs nd hg (by omega) (fun _ _ e => e) (fun h' u tk hk => ⟨.str _, H, I.kept hk, ⟨_, rfl⟩, q⟩) hz
  | tuple h1 h2 h3 h4 => exact repr_of_reads' (.tuple h1 h2 h3 h4) hs nd hg (by omega) (fun _ _ e => e) (fun h' u tk hk => ⟨.str _, H, I.kept hk, ⟨_, rfl⟩, q⟩) hz
  | dict h1 h2 h3 h4 h5 => exact repr_of_reads' (.dict h1 h2 h3 h4 h5) hs nd hg (by omega) (fun _ _ e => e) (fun h' u tk hk => ⟨.str _, H, I.kept hk, ⟨_, rfl⟩, q⟩) hz
  | int i t => exact PySem.P.repr_of_int (by simpa [PyData.showable] using hs) ⟨.str _, H, I.tok _, ⟨_, rfl⟩, q⟩
  | none => exact PySem.P.repr_of_none ⟨.str _, H, I.tok _, ⟨_, rfl⟩, q⟩
  | bool b => exact PySem.P.repr_of_bool ⟨.str _, H, I.tok _, ⟨_, rfl⟩, q⟩
  | str y t => exact PySem.P.repr_of_str ⟨.str _, H, I.tok _, ⟨_, rfl⟩, q⟩ hz

/-! ### sorted(t, reverse=True), t a tuple of ints -/
theorem collect_tup {prog : Program} {w : World} {A : Around} {E : Value → Shared → Prop} {s : Shared} {l : Addr} {vs : List Value} {Q : List Value → Shared → Prop} (hl : IsTup s.heap l vs.toArray) (hsz : vs.length ≤ sizeLine)
    (h : Q vs { s with heap := (s.heap.push (seqObj "list" #[] 0)).update s.heap.objs.size (Obj.mapSeq (· ++ vs.toArray)) }) : wpAny (model prog w) A (collect (.ref l)) Q E s := by
  obtain ⟨o, ho, hc, n, hd⟩ := id hl
  have e0 : (s.heap.push (seqObj "list" #[] 0)).get? s.heap.objs.size = some (seqObj "list" #[] 0) := Heap.get?_push_size _ rfl
  have e1 : (s.heap.push (seqObj "list" #[] 0)).get? l = some o := Heap.get?_push_of_some _ ho
  unfold collect
  refine wpAny_bind (wpAny_runValue (codeAny_builtin entry_proto_collect' (wpAny_bind (wpAny_newList (wpAny_pure ⟨Code.quiet_builtin _ (by decide +kernel), codeAny_builtin entry_list_iadd' ?_⟩)))))
  show wpAny _ _ (Builtin.List.listExtendWith (.ref s.heap.objs.size) (.ref l) (.ref s.heap.objs.size)) _ _ { s with heap := s.heap.push (seqObj "list" #[] 0) }
  unfold Builtin.List.listExtendWith
  refine wpAny_bind (wpAny_typeOf (T := "tuple") ⟨o, e1, hc⟩ ?_)
  rw [if_pos (by rw [show (Value.type "tuple" == Value.type "tuple") = true by rfl]; simp)]
  refine wpAny_bind (listItems_at e1 hd (wpAny_bind (listItems_at (xs := #[]) (n := 0) e0 rfl ?_)))
  rw [if_neg (by simp)]
  refine wpAny_bind (listUpdate_at (xs := #[]) (n := 0) e0 rfl (wpAny_pure ?_) (Nat.zero_le _) (by show (#[] ++ vs.toArray).size ≤ sizeLine + 1; simp only [Array.size_append, List.size_toArray, List.length_nil]; omega))
  refine wpAny_bind (wpAny_load (get?_update_seq e0 _) ?_)
  show wpAny _ _ (pure ((#[] : Array Value) ++ vs.toArray).toList) Q E _
  have e3 : ((#[] : Array Value) ++ vs.toArray).toList = vs := by simp
  rw [e3]
  exact wpAny_pure h
theorem sorted_tup {prog : Program} {w : World} {A : Around} {E : Value → Shared → Prop} {s : Shared} {l : Addr} {vs : List Value} {ns : List Int} {b : Bool} {Q : Value → Shared → Prop} (hl : IsTup s.heap l vs.toArray) (hz : vs.length ≤ sizeLine) (hi : IntsAre vs ns)
    (h : ∀ (out : Array Value) (ns' : List Int), IntsAre out.toList ns' → ns'.Perm ns → OrdB b ns' → Q (.ref (s.heap.objs.size + 1)) { s with heap := sortedAll s.heap vs out }) :
    wpAny (model prog w) A (call (.builtin "sorted") [.ref l] [(Str.ofString "reverse", .bool b)]) Q E s := by
  refine call_function_entry_kw kind_sorted plain_sorted entry_sorted (PyProof.Rows.args_sorted_rev _ _) ?_
  unfold Builtin.«sorted»
  refine wpAny_bind (m := checkCount "sorted" 1 1 _) (wpAny_pure (wpAny_bind (collect_tup hl hz (wpAny_bind (wpAny_newList ?_ hz)))))
  have z0 : (s.heap.push (seqObj "list" #[] 0)).objs.size = s.heap.objs.size + 1 := Heap.size_push ..
  generalize hg1 : (s.heap.push (seqObj "list" #[] 0)).update s.heap.objs.size (Obj.mapSeq (· ++ vs.toArray)) = h1
  have z1 : h1.objs.size = s.heap.objs.size + 1 := by rw [← hg1, Heap.size_update, z0]
  have k1 : ∀ c u, s.heap.get? c = some u → h1.get? c = some u := fun c u q => by
    have lt := Heap.lt_size q
    rw [← hg1, Heap.get?_update_ne _ _ _ _ (Nat.ne_of_lt lt)]
    exact Heap.get?_push_of_some _ q
  have o1 : (h1.push (seqObj "list" vs.toArray 0)).get? (s.heap.objs.size + 1) = some (seqObj "list" vs.toArray 0) := by
    rw [← z1]; exact Heap.get?_push_size _ rfl
  show wpAny _ _ _ _ _ { s with heap := h1.push (seqObj "list" vs.toArray 0) }
  rw [z1]
  refine wpAny_bind (wpAny_holding (wpAny_call_entry_kw slot_list_sort ⟨_, o1, rfl⟩ entry_list_sort ?_ (PyProof.Rows.args_list_sort_rev _ _)))
  refine SrtR.list_sort_ordR (b := b) SrtO.swo_int o1 hz (fun h2 => SrtO.ints_sortable hi h2) fun out hs hb => ⟨_, rfl, wpAny_pure ⟨_, rfl, ?_⟩⟩
  obtain ⟨ns', k1, k2, k3⟩ := SrtR.ints_outR hi hs hb
  have := h _ ns' k1 k2 k3
  rw [← hg1]
  exact this
/-- sorted(t, reverse=b) -/
def rSortedT (K : PySem.W.Frag) (b : Bool) : List V → List V → Hp → VK → Prop := fun vs zs H Q => ∃ (a : Addr) (ns : List Int), vs = [V.ref a] ∧ zs = [.bl b] ∧ SqT K H a (ns.map V.int) ∧
  ∀ (ns' : List Int) (p : Addr), ns'.Perm ns → OrdB b ns' → H p = none → Q (.ref p) (upd H p (.lst (ns'.map V.int)))
theorem cr_sortedTRev {b : Bool} : CallRK X (.builtin "sorted") [Str.ofString "reverse"] (rSortedT X.K b) := by
  intro pins s σ H vs zs us ws Q I r rz h
  obtain ⟨a, ns, rfl, rfl, hs, q⟩ := h
  obtain rfl := Vals.ref1 r
  obtain ⟨w1, rfl, e1⟩ := vals1 rz
  obtain rfl : w1 = Value.bool b := e1
  obtain ⟨its, rv, hl, hz⟩ := I.tuple hs
  refine sorted_tup hl (by rw [← rv.length]; exact hz) rv.ints fun out ns' k1 k2 k3 => ?_
  obtain ⟨ep, he'⟩ := PyProof.Rows.sortedAll_at s.heap its out
  have hlen : (ns'.map V.int).length ≤ sizeLine := by
    rw [List.length_map, k2.length_eq]
    rw [List.length_map] at hz
    exact hz
  have e0 : out.toList.toArray = out := Array.toArray_toList
  exact ⟨.ref _, upd H (s.heap.objs.size + 1) (.lst (ns'.map V.int)), I.laid (t' := s.toks) (fun _ _ => PyProof.Rows.sortedAll_old) (Nat.le_succ _) ⟨hlen, _, ep, vals_of_ints k1, by rw [e0]; exact he'⟩, rfl, q _ _ k2 k3 (I.hok.fresh (Nat.le_succ _))⟩
end

/-! ### a def that asks that nothing is under repr -/
structure GOk (P : Program) (w : World) (K : PySem.W.Frag) (mg : Str → Option Value) (base : Heap) (k : Nat) (f : Addr) (fd : FuncData) (ps : List Str) (sp : Sp) : Prop where
  len : ∀ vs H Q E, sp vs H Q E → vs.length = ps.length
  run : ∀ (A : Around) (outer : List Env) (s : Shared) (H : Hp) (args : Args) (us : List Value) (vs : List V) (Q : VK) (E : XK), A.guards = some [] → Room k A → Env0 P w K mg base A outer s H → BindsTo s fd args (ps.zip us) → Vals vs us → sp vs H Q E →
    codeAny (model P w) A (.call (.ref f) args) (CR CX0 outer P w H s Q E) s
end CD
/-! own rules 4: defs that call repr, the law's end over such -/
namespace CD
open PySem PySem.Spec PyProof.Rows L2
section
variable {P : Program} {w : World} {K : PySem.W.Frag} {mg : Str → Option Value} {base : Heap}
theorem g_ok {x qual : Str} {st : Stmt} {f : Addr} {fd : FuncData} {N ps : List Str} {k : Nat} {sp : Sp} (F : Fun K x qual st f fd) (S : FnScope N ps (defScope st)) (len : ∀ vs H Q E, sp vs H Q E → vs.length = ps.length)
    (body : ∀ (cdv : Value) (A : Around) (outer : List Env) (s : Shared) (H : Hp) (vs : List V) (Q : VK) (E : XK), A.guards = some [] → Room k (A.deeper (envOfC qual (defScope st) s.heap.objs.size f cdv)) → sp vs H Q E →
      ∃ t, PSs (cxOf CX0 P w K mg base N qual (defScope st) f cdv A outer s H E).nox (defBody st) t ∧ t { nx := fun _ H' => Q .non H', rt := Q } (start N vs) H) : GOk P w K mg base (k + 1) f fd ps sp := by
  obtain ⟨oc, od, kV, doc, pm, an, cdv, ct, osl, rfl, lk, hcd⟩ := F.ex
  refine ⟨len, fun A outer s H args us vs Q E hg hr e0 hb r hsp => ?_⟩
  -- the promise at this one A, as if there were no other
  have one : FnOk P w K mg base CX0 (k + 1) f (PySem.W.fnOf x qual (defArgs st) (defBody st) (defScope st) .none kV doc pm an cdv ct) ps
      (fun vs' H' Q' E' => sp vs' H' Q' E') → codeAny (model P w) A (.call (.ref f) args) (CR CX0 outer P w H s Q E) s := fun G => G.run A outer s H args us vs Q E hr e0 hb r hsp
  have keepB : ∀ b o, base.get? b = some o → s.heap.get? b = some o := fun b o e => (e0.bs b o e).1
  refine codeAny_call_function hr.depth ((e0.mod.kin.keeps keepB) _ _ lk) rfl S.co S.gen rfl (PySem.W.codeRec_of (e0.mod.kin.keeps keepB) hcd) (hb _ _ _ _ ?_)
  refine wpAny_newFunctionEnv_cells S.kind (fun y hy => ?_) fun env he s1 x1 => ?_
  · rcases S.par y.1 (List.of_mem_zip hy).1 with q | q
    · exact .inl q
    · exact .inr ⟨q, PySem.W.cellsFrom_some _ _ _ (.inl q)⟩
  subst he
  refine ⟨(e0.mod.nolimit.keeps keepB).keeps x1.toInCall.keep, codeAny_func ?_⟩
  obtain ⟨t, ht, hq⟩ := body cdv A outer s H vs Q E hg (hr.deeper _) hsp
  refine wpAny_mono (ht.nox.run [] s1 (start N vs) H _ (inv_start S hr.hd e0 (len _ _ _ _ hsp) r x1) hq) (fun fl s' hs => ?_) fun e s' hs => hs
  match fl, hs with
  | .ret u, ⟨v, σ', H', J, rv, q⟩ => exact ⟨v, H', J.os, J.bare, J.base, J.hok, rv, q⟩
  | .next, ⟨σ', H', J, q⟩ => exact ⟨V.non, H', J.os, J.bare, J.base, J.hok, rfl, q⟩
  | .brk, ⟨_, _, _, q⟩ => exact False.elim q
  | .cont, ⟨_, _, _, q⟩ => exact False.elim q
end
section
variable {X : Cx} {k : Nat} {f : Addr} {fd : FuncData} {ps : List Str} {sp : Sp} {x : Str} {p pos : Pos} {e : Expr} {es : List Expr} {t : TA}
theorem pe_callG (G : GOk X.prog X.w X.K X.mg X.base k f fd ps sp) (hgd : X.A.guards = some []) (hr : Room k X.A) (hg : Gl X x) (hm : X.mg x = some (.ref f)) (hk : PySem.W.keepIn X.K (.ref f) = true) (hb : Binds X.K fd ps [])
    (ha : PA X (e :: es) t) (hdb : (x == ("__debug__" : Str)) = false := by decide) (he : starEach (e :: es) X.env = (false, eval e X.env) :: starEach es X.env := by rfl) (hpl : (backTo pos (starEach es X.env)).any (·.1) = false := by rfl) :
    PE X (.Call (.Name x p) (e :: es) [] pos) (tCall sp [] E0 t) := by
  refine ⟨fun pins s σ H Q I h => wpAny_Call_Name_kw (ld_glob I hg hm ?_ hdb)⟩
  refine PySem.W.callWith_K (h₀ := X.base) I.ok.mod.kin hk (thn (ha.run pos pins s σ H _ I h) fun us s1 ⟨vs, H1, I1, r, q⟩ => ⟨I1.kIn, ?_⟩) he hpl
  have q' : sp vs H1 Q E0 := by
    have z : sp (vs ++ []) H1 Q E0 := q
    rwa [List.append_nil] at z
  have hl : (us ++ []).length = ps.length := by rw [List.append_nil, ← r.length]; exact G.len _ _ _ _ q'
  have hbb := hb s1 us I1.kIn hl
  rw [List.append_nil] at hbb
  refine wpAny_call (codeAny_mono (G.run X.A X.stack s1 H1 ⟨us, []⟩ us vs Q E0 hgd hr I1.env0 hbb r q') fun r s' hq => ?_)
  match r, hq with
  | .error _, hq => exact False.elim hq
  | .ok (.ret u), hq => exact I1.after hq
  | .ok .next, hq => exact False.elim hq
  | .ok .brk, hq => exact False.elim hq
  | .ok .cont, hq => exact False.elim hq
end
/-! ### the law's end -/
/-- the abstract heap at the law's entry: the script alone, if it is none of the module's own objects -/
def H00 (K : PySem.W.Frag) (a : Addr) (o : Obj) (ns : List Int) : Hp := fun b => if b = a ∧ K.lookup a = none then some (.frz o (.lst (ns.map V.int))) else none
theorem law_g {P : Program} {w : World} {K : PySem.W.Frag} {mg mb : Str → Option Value} {k : Nat} {fa a : Addr} {fd : FuncData} {x : Str} {sp : Sp} {s₁ : Shared} {vs : List Value} {ns : List Int}
    (KX : K.In s₁.heap) (hns : s₁.heap.Ns mainGlobals mg) (hb : s₁.heap.Ns builtinsNs mb) (hbb : ∀ x : Str, x ≠ "__name__" → mb x = bootBuiltins x) (hlim : s₁.heap.NoLimit) (hg : s₁.gens = #[])
    (ha : s₁.heap.get? a = some { cls := .type "list", data := .seq vs.toArray }) (hi : IntsAre vs ns) (hl : ns.length ≤ sizeLine) (hr : Room k callerA)
    (F : ∀ base : Heap, K.In base → base.Ns mainGlobals mg → GOk P w K mg base k fa fd [x] sp) (hbind : ∀ (s : Shared) (u : Value), BindsTo s fd ⟨[u], []⟩ [(x, u)])
    (hsp : ∀ H : Hp, SqL K H a (ns.map V.int) → sp [.ref a] H (fun v _ => v = .bl true) fun _ _ _ => False) :
    codeAny (model P w) callerA (.call (.ref fa) ⟨[.ref a], []⟩) (fun r s' => r = .ok (.ret (.bool true)) ∧ OldK s₁.heap s'.heap ∧ s'.os = s₁.os ∧ AllBare s'.gens) s₁ := by
  have rv := vals_ints hi
  generalize hO : ({ cls := .type "list", data := .seq vs.toArray } : Obj) = o at ha
  generalize hH : H00 K a o ns = H
  have tr : ∀ b u, H b = some u → b = a ∧ K.lookup a = none ∧ u = .frz o (.lst (ns.map V.int)) := fun b u e => by
    rw [← hH] at e
    unfold H00 at e
    by_cases c : b = a ∧ K.lookup a = none
    · rw [if_pos c] at e; exact ⟨c.1, c.2, (Option.some.inj e).symm⟩
    · rw [if_neg c] at e; cases e
  have own : s₁.heap.get? a = some { cls := .type "list", data := .seq vs.toArray } := by rw [hO]; exact ha
  have okF : HOk P w H s₁.heap := fun b u e => by
    obtain ⟨rfl, _, rfl⟩ := tr b u e
    exact ⟨ha, by rw [List.length_map]; exact hl, vs, _, rv, own⟩
  have free : ∀ {b : Addr} {u : Obj}, s₁.heap.get? b = some u → (∀ es ep, o.data = .dict es ep → False) → (b = a → False) → H b = none := fun {b u} _ _ n => by
    cases q : H b with
    | none => rfl
    | some z => exact absurd (tr b z q).1 n
  have ndata : ∀ es ep, o.data = Data.dict es ep → False := fun es ep e => by rw [← hO] at e; cases e
  have hidn : ∀ {b : Addr} {m : Str → Option Value}, s₁.heap.Ns b m → (hidT s₁.heap H).Ns b m := fun {b m} ⟨u, es, ep, e, d, r⟩ => ⟨u, es, ep, hidT_get e (free e ndata fun z => by
    subst z
    rw [ha] at e
    cases e
    exact ndata _ _ d), d, r⟩
  have kin : K.In (hidT s₁.heap H) := fun b u e => hidT_get (KX b u e) (by
    cases q : H b with
    | none => rfl
    | some z =>
      obtain ⟨rfl, n, _⟩ := tr b z q
      rw [n] at e; cases e)
  have sq : SqL K H a (ns.map V.int) := by
    cases hk : K.lookup a with
    | none => exact .inl (.inr ⟨o, by rw [← hH]; unfold H00; rw [if_pos ⟨rfl, hk⟩]⟩)
    | some u =>
      have e := KX a u hk
      rw [own] at e
      cases e
      exact .inr ⟨_, vs.toArray, _, hk, rfl, rfl, rfl, by rw [List.size_toArray, hi.length]; exact hl, by simpa using rv⟩
  have hM : Mod K mg (hidT s₁.heap H) := ⟨kin, hidn hns, ⟨mb, hidn hb, hbb⟩, let ⟨mc, h1, h2⟩ := hlim; ⟨mc, hidn h1, h2⟩⟩
  have e0 : Env0 P w K mg (hidT s₁.heap H) callerA [] s₁ H := ⟨rfl, hM, fun b u e => of_hidT e, Nat.le_of_eq (hidT_size _ _), trivial, fun b hm => (by cases hm), okF, .of_eq hg⟩
  refine codeAny_mono ((F _ kin (hidn hns)).run callerA [] s₁ H ⟨[.ref a], []⟩ [.ref a] [.ref a] _ _ rfl hr e0 (hbind s₁ (.ref a)) (.cons rfl .nil) (hsp H sq)) fun r s' h => ?_
  match r, h with
  | .error _, h => exact False.elim h
  | .ok .next, h => exact False.elim h
  | .ok .brk, h => exact False.elim h
  | .ok .cont, h => exact False.elim h
  | .ok (.ret u), ⟨v, H', os, bare, un, ok', r', q⟩ =>
    obtain rfl : v = .bl true := q
    obtain rfl : u = Value.bool true := r'
    refine ⟨rfl, OldK.of_keep fun b u e => ?_, os, bare⟩
    cases q : H b with
    | none => exact un.keep b u e q (fun z => by cases z) (fun z => by cases z)
    | some z =>
      obtain ⟨rfl, _, rfl⟩ := tr b z q
      obtain ⟨e1, _⟩ := okF b _ q
      obtain ⟨e2, _⟩ := ok' b _ (un.frzs b o _ q)
      rw [e] at e1; cases e1
      exact e2
theorem walk_g {l : PySem.W.OpenLaw} {n k : Nat} {q : Program} {loose : List Str} {XP : (Str → Option Value) → Heap → Prop} {YP : World → Heap → Prop} {d : DefRec} {K : Params → PySem.W.Frag} {sp : World → Sp} {x : Str}
    (hn : l.most = some n) (hn2 : n ≤ sizeLine) (hdf : d.params.defaults = []) (hr : Room k callerA)
    (hY : ∀ (w : World) (h : Heap), YP w h → (K w.params).In h)
    (F : ∀ (w : World) (mg : Str → Option Value) (fa : Addr) (h : Heap), (K w.params).In h → h.Ns mainGlobals mg → mg d.name = some (.ref fa) →
      ∃ fd : FuncData, (∀ (s : Shared) (u : Value), BindsTo s fd ⟨[u], []⟩ [(x, u)]) ∧
        ∀ base : Heap, (K w.params).In base → base.Ns mainGlobals mg → GOk l.prog w (K w.params) mg base k fa fd [x] (sp w))
    (hsp : ∀ (w : World) (H : Hp) (a : Addr) (ns : List Int), ns.length ≤ n → SqL (K w.params) H a (ns.map V.int) → sp w [.ref a] H (fun v _ => v = .bl true) fun _ _ _ => False) :
    PySem.W.WalkO q loose XP YP l.row.toRowW d [] (fun f vs => PySem.call f vs) := by
  refine Att.attach_call hn hdf fun w s₀ s₁ mg mb fa o pm cd doc a vs ns G Y ho hd hcd hmg hobj hints hlen hg => ?_
  obtain ⟨fd, hb, hF⟩ := F w mg fa _ (hY w _ Y) G.T.g hmg
  exact law_g (hY w _ Y) G.T.g G.T.b G.T.builtins G.T.nolimit hg hobj hints (Nat.le_trans hlen hn2) hr hF hb fun H hS => hsp w H a ns hlen hS
end CD
/-! own words 5: a def of the text and its promise, by name -/
namespace CD
open PySem PySem.Spec PyProof.Rows L2
/-- no built-in's name is the text's own -/
structure Z (mg : Str → Option Value) : Prop where
  «all» : mg "all" = none
  «any» : mg "any" = none
  «bool» : mg "bool" = none
  «divmod» : mg "divmod" = none
  «enumerate» : mg "enumerate" = none
  «int» : mg "int" = none
  «isinstance» : mg "isinstance" = none
  «len» : mg "len" = none
  «list» : mg "list" = none
  «max» : mg "max" = none
  «min» : mg "min" = none
  «range» : mg "range" = none
  «repr» : mg "repr" = none
  «reversed» : mg "reversed" = none
  «set» : mg "set" = none
  «sorted» : mg "sorted" = none
  «str» : mg "str" = none
  «sum» : mg "sum" = none
  «tuple» : mg "tuple" = none
  «zip» : mg "zip" = none
/-- a def of the text, where it stands -/
def Def (K : PySem.W.Frag) (mg : Str → Option Value) (x : Str) (st : Stmt) (ps : List Str) : Prop :=
  ∃ f fd, Fun K x x st f fd ∧ mg x = some (.ref f) ∧ Binds K fd ps []
/-- what is known of a def by its name -/
def Cal (P : Program) (w : World) (K : PySem.W.Frag) (mg : Str → Option Value) (base : Heap) (k : Nat) (x : Str) (ps : List Str) (sp : Sp) : Prop :=
  ∃ f fd, FnOk P w K mg base CX0 k f fd ps sp ∧ mg x = some (.ref f) ∧ PySem.W.keepIn K (.ref f) = true ∧ Binds K fd ps []
def CalG (P : Program) (w : World) (K : PySem.W.Frag) (mg : Str → Option Value) (base : Heap) (k : Nat) (x : Str) (ps : List Str) (sp : Sp) : Prop :=
  ∃ f fd, GOk P w K mg base k f fd ps sp ∧ mg x = some (.ref f) ∧ PySem.W.keepIn K (.ref f) = true ∧ Binds K fd ps []
section
variable {P : Program} {w : World} {K : PySem.W.Frag} {mg : Str → Option Value} {base : Heap} {x : Str} {st : Stmt} {N ps : List Str} {k : Nat} {sp : Sp}
theorem Def.cal (D : Def K mg x st ps) (S : FnScope N ps (defScope st)) (len : ∀ vs H Q E, sp vs H Q E → vs.length = ps.length)
    (body : ∀ (f : Addr) (cdv : Value) (A : Around) (outer : List Env) (s : Shared) (H : Hp) (vs : List V) (Q : VK) (E : XK), Room k (A.deeper (envOfC x (defScope st) s.heap.objs.size f cdv)) → sp vs H Q E →
      ∃ t, PSs (cxOf CX0 P w K mg base N x (defScope st) f cdv A outer s H E).nox (defBody st) t ∧ t { nx := fun _ H' => Q .non H', rt := Q } (start N vs) H) : Cal P w K mg base (k + 1) x ps sp := by
  obtain ⟨f, fd, F, m, b⟩ := D
  exact ⟨f, fd, F.ok S len fun cdv A outer s H vs Q E => body f cdv A outer s H vs Q E, m, F.kp, b⟩
theorem Def.calG (D : Def K mg x st ps) (S : FnScope N ps (defScope st)) (len : ∀ vs H Q E, sp vs H Q E → vs.length = ps.length)
    (body : ∀ (f : Addr) (cdv : Value) (A : Around) (outer : List Env) (s : Shared) (H : Hp) (vs : List V) (Q : VK) (E : XK), A.guards = some [] → Room k (A.deeper (envOfC x (defScope st) s.heap.objs.size f cdv)) → sp vs H Q E →
      ∃ t, PSs (cxOf CX0 P w K mg base N x (defScope st) f cdv A outer s H E).nox (defBody st) t ∧ t { nx := fun _ H' => Q .non H', rt := Q } (start N vs) H) : CalG P w K mg base (k + 1) x ps sp := by
  obtain ⟨f, fd, F, m, b⟩ := D
  exact ⟨f, fd, g_ok F S len fun cdv A outer s H vs Q E => body f cdv A outer s H vs Q E, m, F.kp, b⟩
theorem Cal.mono {j : Nat} (C : Cal P w K mg base j x ps sp) (h : j ≤ k) : Cal P w K mg base k x ps sp := by
  obtain ⟨f, fd, F, r⟩ := C
  exact ⟨f, fd, F.mono h, r⟩
theorem Cal.imp {sp' : Sp} (C : Cal P w K mg base k x ps sp) (h : ∀ vs H Q E, sp' vs H Q E → sp vs H Q E) : Cal P w K mg base k x ps sp' := by
  obtain ⟨f, fd, F, r⟩ := C
  exact ⟨f, fd, F.imp h, r⟩
end
section
variable {X : Cx} {k : Nat} {ps : List Str} {sp : Sp} {x : Str} {p pos : Pos} {e : Expr} {es : List Expr} {t : TA}
theorem pe_cal (C : Cal X.prog X.w X.K X.mg X.base k x ps sp) (hr : Room k X.A) (hg : Gl X x) (ha : PA X (e :: es) t) (hdb : (x == ("__debug__" : Str)) = false := by decide)
    (he : starEach (e :: es) X.env = (false, eval e X.env) :: starEach es X.env := by rfl) (hpl : (backTo pos (starEach es X.env)).any (·.1) = false := by rfl) : PE X (.Call (.Name x p) (e :: es) [] pos) (tCall sp [] E0 t) := by
  obtain ⟨f, fd, F, m, kp, b⟩ := C
  exact pe_call F hr hg m kp b .nil pass0 ha hdb he hpl
theorem pe_cal0 (C : Cal X.prog X.w X.K X.mg X.base k x ps sp) (hr : Room k X.A) (hg : Gl X x) (hdb : (x == ("__debug__" : Str)) = false := by decide) : PE X (.Call (.Name x p) [] [] pos) (tCall sp [] E0 tNil) := by
  obtain ⟨f, fd, F, m, kp, b⟩ := C
  exact pe_call0 F hr hg m kp b .nil pass0 hdb
theorem pe_calG (C : CalG X.prog X.w X.K X.mg X.base k x ps sp) (hgd : X.A.guards = some []) (hr : Room k X.A) (hg : Gl X x) (ha : PA X (e :: es) t) (hdb : (x == ("__debug__" : Str)) = false := by decide)
    (he : starEach (e :: es) X.env = (false, eval e X.env) :: starEach es X.env := by rfl) (hpl : (backTo pos (starEach es X.env)).any (·.1) = false := by rfl) : PE X (.Call (.Name x p) (e :: es) [] pos) (tCall sp [] E0 t) := by
  obtain ⟨f, fd, F, m, kp, b⟩ := C
  exact pe_callG F hgd hr hg m kp b ha hdb he hpl
end
/-- what was tracked stays; a new object besides -/
theorem same_upd {H : Hp} {p : Addr} {o : HO} (h : H p = none) : Same H (upd H p o) := fun b x e => by
  rw [upd_ne (ne_of_none e h)]
  exact e
theorem _root_.L2.Same.tup {K : PySem.W.Frag} {H H' : Hp} {a : Addr} {xs : List V} (e : Same H H') (h : SqT K H a xs) : SqT K H' a xs := by
  rcases h with (h | ⟨o, h⟩) | h
  · exact .inl (.inl (e _ _ h))
  · exact .inl (.inr ⟨o, e _ _ h⟩)
  · exact .inr h
/-- a comprehension in which each turn gives what h says of the item, and changes nothing that was tracked -/
theorem lc_std {J : It} {n : Nat} {G : Hp → Prop} {Y : Nat → Hp → V → Hp → Prop} {α : Type} (w : Walk J n G Y) {g : TG} {tt : TT} {te : TE} {vs : List Nat} {σ : L2.St} {H1 : Hp} {D : Addr} {Qd : Hp → Prop}
    (ys : List α) (h : α → Option V) (hn : ys.length = n) (hz : n < sizeLine) (hD : H1 D = none) (hG : ∀ H, Same H1 H → G H)
    (hs : ∀ i x H H' a (R : Option V → Hp → Prop), ys[i]? = some a → Same H1 H → Y i H x H' → (∀ H4, Same H H4 → R (h a) H4) →
      g x (wipe σ vs) H' fun σ2 H2 => wipe σ2 vs = wipe σ vs ∧ tt σ2 H2 fun b H3 => if b = true then te σ2 H3 fun y H4 => R (some y) H4 else R none H3)
    (hd : ∀ H, Same H1 H → H D = some (.lst (ys.filterMap h)) → Qd H) :
    ∃ W : Nat → Nat → Hp → Prop, (∃ m, W 0 m (upd H1 D (.lst []))) ∧ ∀ i m H, W i m H →
      (J.stop i H ∧ Qd H) ∨ (J.go i H ∧ ∃ Nx : Hp → Prop, (∀ H', Nx H' → ∃ m', m' < m ∧ W (i + 1) m' H') ∧ ∀ x H', J.yld i H x H' → g x (wipe σ vs) H' fun σ2 H2 => wipe σ2 vs = wipe σ vs ∧ tt σ2 H2 fun b H3 =>
        if b = true then te σ2 H3 fun y H4 => ∃ acc, H4 D = some (.lst acc) ∧ acc.length < sizeLine ∧ Nx (upd H4 D (.lst (acc ++ [y]))) else Nx H3) := by
  refine lc_it w (fun i H => Same H1 H ∧ H D = some (.lst ((ys.take i).filterMap h))) ⟨same_upd hD, by rw [upd_same]; rfl⟩ (fun i H _ q => hG H q.1) (fun i x H H' hi q y => ?_) fun H q => hd H q.1 (by rw [q.2, ← hn, List.take_length])
  obtain ⟨sm, eD⟩ := q
  have hi' : i < ys.length := by omega
  have ha : ys[i]? = some ys[i] := List.getElem?_eq_getElem hi'
  have tk : (ys.take (i + 1)).filterMap h = (ys.take i).filterMap h ++ (h ys[i]).toList := by
    rw [List.take_add_one, ha, List.filterMap_append]
    cases e : h ys[i] <;> simp [e]
  have ln : ((ys.take i).filterMap h).length < sizeLine := by
    have z := List.length_filterMap_le h (ys.take i)
    rw [List.length_take] at z
    omega
  have go := hs i x H H' ys[i] (fun o H4 => match o with
    | some y => ∃ acc, H4 D = some (.lst acc) ∧ acc.length < sizeLine ∧ (Same H1 (upd H4 D (.lst (acc ++ [y]))) ∧ (upd H4 D (.lst (acc ++ [y]))) D = some (.lst ((ys.take (i + 1)).filterMap h)))
    | none => Same H1 H4 ∧ H4 D = some (.lst ((ys.take (i + 1)).filterMap h))) ha sm y (fun H4 s4 => by
      have e4 : H4 D = some (.lst ((ys.take i).filterMap h)) := s4 _ _ eD
      cases e : h ys[i] with
      | none =>
        rw [e] at tk
        exact ⟨sm.trans s4, by rw [e4, tk]; simp⟩
      | some y =>
        rw [e] at tk
        refine ⟨_, e4, ln, fun b o eb => ?_, ?_⟩
        · have nb : b ≠ D := ne_of_none eb hD
          rw [upd_ne nb]
          exact s4 _ _ (sm _ _ eb)
        · rw [upd_same, tk]
          simp)
  exact go
/-! ### tuples -/
theorem tyx_tup {K : PySem.W.Frag} {H : Hp} {a : Addr} {xs : List V} (h : SqT K H a xs) : TyX K H (.ref a) (.type "tuple") := by
  rcases h with (h | ⟨o, h⟩) | ⟨o, its, n, h, c, _⟩
  · exact .base (.tup h)
  · exact .fTuple h
  · exact .kTuple h c
theorem cut_tail (xs : List V) : cutV xs (some 1) none = xs.tail := by
  unfold cutV
  rw [show HT.sIx xs.length 0 (some 1) = min 1 xs.length from HT.sIx_nat xs.length 0 1, HT.sIx_none]
  cases xs with
  | nil => rfl
  | cons x r =>
    have e : min 1 (x :: r).length = 1 := by rw [List.length_cons]; omega
    rw [e]
    show List.take ((x :: r).length - 1) r = r
    rw [List.length_cons, Nat.add_sub_cancel, List.take_length]
/-- t[1:] -/
theorem sl_tail {K : PySem.W.Frag} {H : Hp} {a : Addr} {xs : List V} {R : VK} (hS : SqT K H a xs) (h : ∀ c Hc, Same H Hc → SqT K Hc c xs.tail → R (.ref c) Hc) : rSlA K (.ref a) (some 1) none H R := by
  refine ⟨a, xs, rfl, hS, fun e => ?_, fun _ p hp => ?_⟩
  · have e1 : HT.sIx xs.length 0 (some 1) = min 1 xs.length := HT.sIx_nat xs.length 0 1
    have e2 : xs = [] := by
      cases xs with
      | nil => rfl
      | cons x r =>
        have z := e.1
        rw [e1, List.length_cons] at z
        omega
    subst e2
    exact h a H (Same.refl H) hS
  · exact h p _ (same_upd hp) (.inl (.inl (by rw [upd_same, cut_tail])))
/-- t + u, u new -/
theorem cat_new {K : PySem.W.Frag} {H : Hp} {a b : Addr} {xs ys : List V} {R : VK} (hS : SqT K H a xs) (hb : H b = some (.tup ys)) (hy : ys ≠ []) (hz : xs.length + ys.length ≤ 1000)
    (h : ∀ c Hc, Same H Hc → Hc c = some (.tup (xs ++ ys)) → R (.ref c) Hc) : rCatA K (.ref a) (.ref b) H R := by
  refine ⟨a, b, xs, ys, rfl, rfl, hS, .inl (.inl hb), Nat.le_of_lt (small1000 hz), fun e => ?_, fun _ e => absurd e hy, fun _ _ p hp => h p _ (same_upd hp) upd_same⟩
  subst e
  exact h b H (Same.refl H) hb
/-- t[-i], i from 1 to the length -/
theorem at_neg {α : Type} {xs : List α} {i : Nat} {v : α} (h1 : 1 ≤ i) (h2 : i ≤ xs.length) (h : xs[xs.length - i]? = some v) : atI xs (-(i : Int)) = some v := by
  have e : ixN xs.length (-(i : Int)) = some (xs.length - i) := by
    unfold ixN
    rw [if_neg (by omega)]
    rw [if_pos (by omega)]
    congr 1
    omega
  unfold atI
  rw [e]
  exact h
theorem walk_zipT {K : PySem.W.Frag} {a b : Addr} {xs ys : List V} {n : Nat} (hn : n = min xs.length ys.length) : Walk (RZ.ItzT K a b) n (fun H => SqT K H a xs ∧ SqT K H b ys) (YPair (fun i => xs[i]?) (fun i => ys[i]?)) := by
  subst hn
  refine ⟨fun i _ hi q => ?_, fun _ q => ⟨xs, ys, q.1, q.2, by omega⟩, fun i H v H' _ q y => ?_⟩
  · have h1 : i < xs.length := by omega
    have h2 : i < ys.length := by omega
    exact ⟨xs, ys, xs[i], ys[i], q.1, q.2, by simp [h1], by simp [h2]⟩
  · obtain ⟨T, x, y', h1, h2, h3, h4, h5⟩ := y
    exact ⟨T, x, y', h1, h2, h3, h4 _ q.1, h5 _ q.2⟩
theorem map_at {α β : Type} {f : α → β} {xs : List α} {i : Nat} {a : α} {b : β} (h : xs[i]? = some a) (g : (xs.map f)[i]? = some b) : b = f a := by
  rw [List.getElem?_map, h] at g
  exact (Option.some.inj g).symm
theorem filterMap_some {α β : Type} (f : α → β) : ∀ xs : List α, xs.filterMap (fun x => some (f x)) = xs.map f
  | [] => rfl
  | x :: r => by rw [List.filterMap_cons, List.map_cons, filterMap_some f r]
theorem pe_globI {X : Cx} {x : Str} {pos : Pos} {n : Int} {t : Tok} (hg : Gl X x) (hm : X.mg x = some (.int n t)) (hd : (x == ("__debug__" : Str)) = false := by decide) : PE X (.Name x pos) (tC (.int n)) := by
  first
    | exact pe_glob hg hm ⟨t, rfl⟩ hd
    | exact pe_glob hg hm ⟨t, rfl⟩
theorem ix_tupK {X : Cx} {K : PySem.W.Frag} (h : X.K = K) : IxR X (rIxT K) := h ▸ ix_tup
theorem ix_listK {X : Cx} {K : PySem.W.Frag} (h : X.K = K) : IxR X (rIxL K) := h ▸ ix_list
/-- t * k -/
theorem rep_any {K : PySem.W.Frag} {H : Hp} {l : Addr} {xs : List V} {k : Nat} {v : V} {R : VK} (e : v = .int k) (hS : SqT K H l xs) (hx : xs ≠ []) (hk : k ≤ 1000) (hl : xs.length ≤ 1000)
    (h : ∀ c Hc, Same H Hc → SqT K Hc c (List.replicate k xs).flatten → R (.ref c) Hc) : rRepA K (.ref l) v H R := by
  refine ⟨l, xs, k, rfl, e, hS, hx, hk, hl, fun e1 => ?_, fun _ p np => h p _ (same_upd np) (.inl (.inl upd_same))⟩
  subst e1
  refine h l H (Same.refl H) ?_
  have z : (List.replicate 1 xs).flatten = xs := by simp
  rw [z]
  exact hS
theorem flat_one {α : Type} (x : α) : ∀ n : Nat, (List.replicate n [x]).flatten = List.replicate n x
  | 0 => rfl
  | n + 1 => by rw [List.replicate_succ, List.flatten_cons, flat_one x n]; rfl
theorem in_ints (n : Int) : ∀ ns : List Int, inV (.int n) (ns.map V.int) = decide (n ∈ ns)
  | [] => rfl
  | k :: r => by
    have ih := in_ints n r
    unfold inV at ih ⊢
    rw [List.map_cons, List.any_cons, ih]
    show (k == n || decide (n ∈ r)) = _
    by_cases c : n = k
    · subst c; simp
    · have c2 : (k == n) = false := by simpa using fun e => c e.symm
      rw [c2, Bool.false_or]
      exact decide_eq_decide.mpr ⟨fun h => List.mem_cons_of_mem _ h, fun h => (List.mem_cons.mp h).resolve_left c⟩
theorem flat_ints : ∀ ns : List Int, (ns.map V.int).all flatV = true
  | [] => rfl
  | _ :: r => flat_ints r
/-! ### data of ints -/
theorem dp_ints {K : PySem.W.Frag} {H : Hp} : ∀ ns : List Int, DpAll K H (ns.map V.int) (ns.map PyData.int)
  | [] => .nil
  | n :: r => .cons (.int n) (dp_ints r)
theorem can_ints : ∀ ns : List Int, PyData.canLayAll0 (ns.map PyData.int) = true
  | [] => by rw [List.map_nil, PyData.canLayAll0]
  | n :: r => by rw [List.map_cons, PyData.canLayAll0, can_ints r, PyData.canLay0]; rfl
theorem shaped_ints (ns : List Int) : SeqAt.shaped (.list (ns.map PyData.int)) = true := by
  unfold SeqAt.shaped
  rw [PyData.canLay0, can_ints, PyData.depth, depth_ints]
  decide
theorem eqv_nil (ns : List Int) : PyData.eqv (.list (ns.map PyData.int)) (.list []) = ns.isEmpty := by
  cases ns with
  | nil => rw [List.map_nil, PyData.eqv, PyData.eqvAll]; rfl
  | cons n r => rw [List.map_cons, PyData.eqv, PyData.eqvAll]; rfl
/-- xs != [] of a list of ints, the other one new -/
theorem ne_nil {K : PySem.W.Frag} {H : Hp} {g p : Addr} {ns : List Int} {R : VK} (hg : SqL K H g (ns.map V.int)) (hp : H p = some (.lst [])) (h : R (.bl (!ns.isEmpty)) H) : rNeD K (.ref g) (.ref p) H R := by
  refine ⟨.list (ns.map .int), .list [], .lst hg (dp_ints ns), .lst (.inl (.inl hp)) .nil, shaped_ints ns, shaped_ints [], ?_⟩
  rw [eqv_nil]
  exact h
/-! ### a step into a reading -/
theorem seq_go {t u : TS} {D : Ends} {σ : L2.St} {H : Hp} (h : t { D with nx := fun σ1 H1 => u D σ1 H1 } σ H) : tSeq t u D σ H := h
theorem asg_go {te : TE} {g : TG} {D : Ends} {σ : L2.St} {H : Hp} (h : te σ H fun v H1 => g v σ H1 D.nx) : tAsg te g D σ H := h
theorem drop_go {te : TE} {D : Ends} {σ : L2.St} {H : Hp} (h : te σ H fun _ H1 => D.nx σ H1) : tDrop te D σ H := h
theorem ret_go {te : TE} {D : Ends} {σ : L2.St} {H : Hp} (h : te σ H D.rt) : tRet te D σ H := h
theorem lst_go {t : TA} {σ : L2.St} {H : Hp} {Q : VK} (h : t σ H fun xs H1 => xs.length ≤ sizeLine ∧ ∀ p, H1 p = none → Q (.ref p) (upd H1 p (.lst xs))) : tLst t σ H Q := h
theorem tup_go {t : TA} {σ : L2.St} {H : Hp} {Q : VK} (h : t σ H fun xs H1 => xs.length ≤ sizeLine ∧ ∀ p, H1 p = none → Q (.ref p) (upd H1 p (.tup xs))) : tTup t σ H Q := h
theorem cons_go {ta : TE} {tr : TA} {σ : L2.St} {H : Hp} {Q : List V → Hp → Prop} (h : ta σ H fun x H1 => tr σ H1 fun xs H2 => Q (x :: xs) H2) : tCons ta tr σ H Q := h
theorem op_go {r : R2} {ta tb : TE} {σ : L2.St} {H : Hp} {Q : VK} (h : ta σ H fun x H1 => tb σ H1 fun y H2 => r x y H2 Q) : tOp r ta tb σ H Q := h
theorem cb_go {r : List V → Hp → VK → Prop} {t : TA} {σ : L2.St} {H : Hp} {Q : VK} (h : t σ H fun vs H1 => r vs H1 Q) : tCB r t σ H Q := h
theorem call_go {sp : Sp} {dvs : List V} {E : XK} {t : TA} {σ : L2.St} {H : Hp} {Q : VK} (h : t σ H fun vs H1 => sp (vs ++ dvs) H1 Q E) : tCall sp dvs E t σ H Q := h
end CD
set_option maxHeartbeats 3200000
/-! own rules 6: set(l), l a list of ints, with its ledger; sorted(set(l)) -/
namespace CD
open PySem PySem.Spec PyProof.Rows L2
def newSet (w : World) : Obj := { cls := .type "set", dict := none, data := .set #[] 0 (.fresh 0 0 (!w.params.followText "set-order")) }
section
variable {P : Program} {w : World} {A : Around} {E : Value → Shared → Prop} {s : Shared}
theorem new_set (a : Value) {Q : Value → Shared → Prop} (h : Q (.ref s.heap.objs.size) { s with heap := s.heap.push (newSet w) }) : codeAny (model P w) A (.call (.builtin "set.__new__") ⟨[.type "set", a], []⟩) (wants Q E) s := code_set_led1 a h
/-- the loop of set(l), over the new iterator -/
theorem fill_set {l : Addr} {its : Array Value} (ns : List Int) {h0 : Heap} {R : Result → Shared → Prop} (hh : A.handled = none) (hl : h0.IsList l its) (hi : IntsAre its.toList ns) (hb : ns.length + 1 < scanBound) (hs : s.heap = ((h0.push (newSet w)).push { cls := .type "list_iterator", data := .fields #[.ref l, .int 0 0] }))
    (h : ∀ s' c, (∀ b o, h0.get? b = some o → s'.heap.get? b = some o) → s'.gens = s.gens → s'.drawn = s.drawn → s'.os = s.os → c ≤ ns.length → SetR w s'.heap h0.objs.size (fun j => decide (j ∈ ns)) c → R (.ok (.ret .none)) s') :
    codeAny (model P w) A (.builtin "set.update.loop" ⟨[.ref h0.objs.size, .ref (h0.push (newSet w)).objs.size], []⟩) R s := by
  rw [show (h0.push (newSet w)).objs.size = h0.objs.size + 1 from Heap.size_push ..]
  have hsz : its.size = ns.length := by
    have q := IntsAre.length hi
    rwa [Array.length_toList] at q
  have z1 : (h0.push (newSet w)).objs.size = h0.objs.size + 1 := Heap.size_push ..
  have hll : l < h0.objs.size := by
    obtain ⟨o, ho, _⟩ := hl
    exact Heap.lt_size ho
  have n1 : l ≠ h0.objs.size + 1 := Nat.ne_of_lt (Nat.lt_succ_of_lt hll)
  have n2 : h0.objs.size ∉ [h0.objs.size + 1, l] := by
    intro m
    rcases List.mem_cons.mp m with e | e
    · exact absurd e (Nat.ne_of_lt (Nat.lt_succ_self _))
    · exact absurd (List.mem_singleton.mp e) (Nat.ne_of_gt hll)
  have g0 : s.heap.get? h0.objs.size = some (newSet w) := by
    rw [hs]
    exact Heap.get?_push_of_some _ (Heap.get?_push_size _ rfl)
  have g1 : s.heap.get? (h0.objs.size + 1) = some { cls := .type "list_iterator", data := .fields #[.ref l, .int 0 0] } := by
    rw [hs, ← z1]
    exact Heap.get?_push_size _ rfl
  have val : ∀ (i : Nat) (v : Value), its[i]? = some v → ∃ k t, ns[i]? = some k ∧ v = .int k t := fun i v hv => by
    have b : i < ns.length := by
      rw [← hsz]
      exact (Array.getElem?_eq_some_iff.mp hv).1
    have q := IntsAre.int_at hi i v (by rw [Array.getElem?_toList]; exact hv)
    obtain ⟨t, e⟩ := q
    rw [List.getD_eq_getElem?_getD, List.getElem?_eq_getElem b] at e
    exact ⟨ns[i], t, List.getElem?_eq_getElem b, e⟩
  have hl2 : s.heap.IsList l its := by
    rw [hs]
    exact (hl.push _).push _
  refine set_update_ints ((Walks.list (by simp [hh]) (h0.objs.size + 1) l n1 its).toS) h0.objs.size n2 ns hsz hb val its.size 0 s (by omega) (Nat.zero_le _) ⟨⟨_, g1, rfl, rfl⟩, hl2⟩ ⟨0, Nat.le_refl 0, setR_new_at g0⟩ fun s' c hm hc hS => ?_
  refine h s' c (fun b o e => ?_) hm.gens hm.drawn hm.os (by omega) hS
  have bl := Heap.lt_size e
  refine hm.heap b o (fun m => ?_) (by rw [hs]; exact Heap.get?_push_of_some _ (Heap.get?_push_of_some _ e))
  rcases List.mem_cons.mp m with x | x
  · exact absurd x (Nat.ne_of_lt bl)
  · rcases List.mem_cons.mp x with y | y
    · exact absurd y (Nat.ne_of_lt (Nat.lt_succ_of_lt bl))
    · cases y
theorem call_set_lst {l : Addr} {its : Array Value} (ns : List Int) {Q : Value → Shared → Prop} (hh : A.handled = none) (hl : s.heap.IsList l its) (hi : IntsAre its.toList ns) (hb : ns.length + 1 < scanBound)
    (h : ∀ (h' : Heap) (tk c : Nat), SetR w h' s.heap.objs.size (fun j => decide (j ∈ ns)) c → c ≤ ns.length → (∀ b o, s.heap.get? b = some o → h'.get? b = some o) → Q (.ref s.heap.objs.size) { s with heap := h', toks := tk }) :
    wpAny (model P w) A (call (.type "set") [.ref l]) Q E s := by
  have f1 := PySem.F.called_set.made
  have f2 := PySem.F.called_set.sub
  obtain ⟨f3, f4, f5⟩ := PySem.F.called_set.mro
  have f6 := PySem.F.called_set.notType
  have f7 := PySem.F.called_set.canCreate
  have f8 := PySem.F.typeCall_set_1 (.ref l)
  refine wpAny_call (codeAny_of_tree ?_)
  show wpAny _ _ (callAny (.type "set") _) _ _ _
  refine wpAny_pure ⟨Code.quiet_builtin _ (by decide +kernel), codeAny_builtin PySem.F.entry_type_call ?_⟩
  rw [Around.under_plain (weight_type_call_type "set" [.ref l] []) rfl]
  repeat any_goals first | assumption | wp_step
  refine codeAny_mono (new_set (.ref l) (E := E) (Q := fun obj t => obj = .ref s.heap.objs.size ∧ t = { s with heap := s.heap.push (newSet w) }) ⟨rfl, rfl⟩) fun r t hr => ?_
  match r, hr with
  | .error _, hr => exact hr
  | .ok .next, hr => exact hr.elim
  | .ok .brk, hr => exact hr.elim
  | .ok .cont, hr => exact hr.elim
  | .ok (.ret obj), hr =>
    obtain ⟨rfl, rfl⟩ := hr
    have gS : (s.heap.push (newSet w)).get? s.heap.objs.size = some (newSet w) := Heap.get?_push_size _ rfl
    have tS : Shared.TypeIs { s with heap := s.heap.push (newSet w) } (.ref s.heap.objs.size) "set" := ⟨_, gS, rfl⟩
    have f9 := PySem.F.called_set.init.lookup
    have f10 := PySem.F.called_set.init.bind (.ref s.heap.objs.size)
    repeat any_goals first | assumption | wp_step
    refine codeAny_mono (codeAny_call_builtin (R := wants (fun u t => u = .none ∧ ∃ h' tk c, t = { s with heap := h', toks := tk } ∧ SetR w h' s.heap.objs.size (fun j => decide (j ∈ ns)) c ∧ c ≤ ns.length ∧ ∀ b o, s.heap.get? b = some o → h'.get? b = some o) E)
      PySem.F.called_set.init.plain PySem.F.entry_set_init (check_set_init_1 tS ?_)) fun r2 t2 hr2 => ?_
    · have g1 := PySem.F.sub_list_set
      have g2 := PySem.F.sub_list_frozenset
      have g3 : (Value.type "list" == Value.type "dict") = false := by decide
      have hl2 : (s.heap.push (newSet w)).IsList l its := hl.push _
      obtain ⟨ob, hob, hcl, en, hda⟩ := id hl2
      obtain ⟨oc, odi, oda, osl⟩ := ob
      dsimp only at hcl hda
      subst hcl hda
      unfold Builtin.«set.__init__» noKeywords Builtin.Frozenset.updateFrom
      generalize hpi : pyIter = pi
      wp_walk
      subst hpi
      refine wpAny_pyIter_list hl2 (wpAny_bind (wpAny_runValue ?_))
      refine fill_set ns (h0 := s.heap) (by simp [hh]) hl hi hb rfl fun t c k e1 e2 e3 hc hS => ?_
      obtain ⟨th, tg, td, tt, tos⟩ := t
      dsimp only at e1 e2 e3 hS k
      subst e1 e2 e3
      show wpAny _ _ _ _ _ _
      refine wpAny_pure ?_
      show wpAny _ _ (ret Value.none) _ _ _
      exact wpAny_pure ⟨rfl, th, tt, c, rfl, hS, hc, k⟩
    · match r2, hr2 with
      | .error _, hr2 => exact hr2
      | .ok .next, hr2 => exact hr2.elim
      | .ok .brk, hr2 => exact hr2.elim
      | .ok .cont, hr2 => exact hr2.elim
      | .ok (.ret u), hr2 =>
        obtain ⟨rfl, h', tk, c, rfl, hS, hc, hk⟩ := hr2
        repeat any_goals first | assumption | wp_step
        exact h _ _ _ hS hc hk
end
section
variable {X : Cx}
/-- set(l), l a list of ints -/
def rSetLs (K : PySem.W.Frag) (w : World) : List V → Hp → VK → Prop := fun vs H Q => ∃ (a : Addr) (ns : List Int), vs = [V.ref a] ∧ SqL K H a (ns.map V.int) ∧ ns.length ≤ 1000 ∧ ∀ p c, H p = none → c ≤ ns.length → Q (.ref p) (upd H p (SetO w p (fun j => decide (j ∈ ns)) c))
theorem cr_setLs (hc : X.calm = true) : CallR X (.type "set") (rSetLs X.K X.w) := by
  intro pins s σ H vs us Q I r h
  obtain ⟨a, ns, rfl, hs, hz, q⟩ := h
  obtain ⟨its, rv, hl, _⟩ := I.list hs
  rw [Vals.ref1 r]
  exact call_set_lst ns (I.ok.hd hc) hl.isList rv.ints (by unfold scanBound; omega) fun h' tk c hS hcl hk => ⟨.ref _, upd H s.heap.objs.size (SetO X.w s.heap.objs.size (fun j => decide (j ∈ ns)) c), I.laid (t' := tk) hk (Nat.le_refl _) (setO_new hS), rfl, q _ c (I.hok.fresh (Nat.le_refl _)) hcl⟩
end
end CD
set_option maxHeartbeats 1000000
/-! own rules 7: enumerate(t), t a tuple -/
namespace CD
open PySem PySem.Spec PyProof.Rows L2
theorem new_enum {v : Value} {o : Obj} {H0 : Heap → Prop} (B : Begins v o H0) :
    Meets (Builtin.«enumerate.__new__» ⟨[.type "enumerate", v], []⟩) (fun _ R s => H0 s.heap ∧ R (.ok (.ret (.ref (s.heap.push o).objs.size)))
      { s with heap := (s.heap.push o).push { cls := .type "enumerate", data := .fields #[.none, .bool false, .ref s.heap.objs.size, rawInt 0, .none, .none] } }) :=
  .of_wp fun prog w A R s hh => by
    obtain ⟨hp, g, d, tk, os⟩ := s
    obtain ⟨h0, hR⟩ := hh
    have sub := sub_enumerate
    have it : ∀ {A' : Around} {E Q : Value → Shared → Prop}, Q (.ref hp.objs.size) ⟨hp.push o, g, d, tk, os⟩ → wpAny (model prog w) A' (pyIter v) Q E ⟨hp, g, d, tk, os⟩ := fun q => B.iter prog w _ _ ⟨hp, g, d, tk, os⟩ _ h0 q
    wp_walk using it
    refine wpAny_stack_any fun below => wpAny_pure ?_
    split
    · rename_i cl _ _ _ _ _
      cases (cl == Value.type "enumerate") <;>
      · wp_walk using it
        exact ⟨_, rfl, hR⟩
    · wp_walk using it
      exact ⟨_, rfl, hR⟩
section
variable {prog : Program} {w : World} {A : Around} {E : Value → Shared → Prop} {s : Shared}
theorem enum_of {v : Value} {o : Obj} {H0 : Heap → Prop} {Q : Value → Shared → Prop} (B : Begins v o H0) (h0 : H0 s.heap)
    (h : ∀ h', IsEnum h' (s.heap.objs.size + 1) s.heap.objs.size 0 .none → h'.get? s.heap.objs.size = some o → (∀ b u, s.heap.get? b = some u → h'.get? b = some u) → Q (.ref (s.heap.objs.size + 1)) { s with heap := h' }) :
    wpAny (model prog w) A (call (.type "enumerate") [v]) Q E s := by
  have sz : (s.heap.push o).objs.size = s.heap.objs.size + 1 := Heap.size_push ..
  refine callType_new F.called_enumerate (by decide) (F.typeCall_enumerate_1 _) (F.newCall_enumerate_1 _) (fun x => F.args_object_init_2 x _) F.entry_enumerate_new (new_enum B) ⟨h0, ?_⟩
  show _ ∧ _
  rw [sz]
  have ie : IsEnum ((s.heap.push o).push { cls := .type "enumerate", data := .fields #[.none, .bool false, .ref s.heap.objs.size, rawInt 0, .none, .none] }) (s.heap.objs.size + 1) s.heap.objs.size 0 .none := by
    have z := Heap.get?_push_size (s.heap.push o) (o := { cls := .type "enumerate", data := .fields #[.none, .bool false, .ref s.heap.objs.size, rawInt 0, .none, .none] }) rfl
    rwa [sz] at z
  exact ⟨⟨_, ie, rfl⟩, h _ ie (Heap.get?_push_of_some _ (Heap.get?_push_size _ B.free)) fun b u x => Heap.get?_push_of_some _ (Heap.get?_push_of_some _ x)⟩
end
def iEnum1 (K : PySem.W.Frag) (ta : TA) : TI := fun σ H R => ta σ H fun vs H1 => ∃ a xs, vs = [.ref a] ∧ SqT K H1 a xs ∧ R (IteT K a 0) H1
theorem pi_enum1 {X : Cx} {e : Expr} {ta : TA} {p pos tpos : Pos} {elts : List Expr} {kk : Nat} (hg : Gl X "enumerate") (hm : X.mg "enumerate" = none) (ha : PA X [e] ta) (hs : starEach [e] X.env = [(false, eval e X.env)] := by rfl) :
    PI X (.Tuple elts kk tpos) (.Call (.Name "enumerate" p) [e] [] pos) (iEnum1 X.K ta) := by
  refine ⟨fun pins s σ H R I h => ?_⟩
  refine Call_ (ld_blt I hg hm boot_enumerate (PyProof.Rows.callWith_type1 (thn (ha.run pos pins s σ H _ I h) fun us s2 ⟨vs, H2, I2, r1, q1⟩ => ?_) hs rfl))
  obtain ⟨a, xs, rfl, hq, q⟩ := q1
  obtain rfl := Vals.ref1 r1
  obtain ⟨its, rv, pt, hz⟩ := I2.tuple hq
  refine enum_of (PySem.begins_tuple a its.toArray) (show s2.heap.IsTuple a its.toArray from pt) fun h' he hit hkeep => wpAny_pyIter_enum he ?_
  have I3 : Inv X pins σ H2 { s2 with heap := h' } := I2.kept (t' := s2.toks) hkeep
  have hit0 : h'.IsTupleIter s2.heap.objs.size a 0 := ⟨_, hit, rfl, rfl⟩
  refine ⟨s2.heap.objs.size + 1, [s2.heap.objs.size + 1, s2.heap.objs.size], _, _, H2, rfl, I3, turn_enumT a (s2.heap.objs.size + 1) s2.heap.objs.size 0, ?_, fun b hb => ?_, q⟩
  · exact ⟨⟨.none, he⟩, hit0, Nat.succ_ne_self _⟩
  · have hle : s2.heap.objs.size ≤ b := by
      rcases (by simpa using hb : b = s2.heap.objs.size + 1 ∨ b = s2.heap.objs.size) with z | z
      · rw [z]; exact Nat.le_succ _
      · rw [z]; exact Nat.le_refl _
    exact I2.fpOk hle (I2.hok.fresh hle)
end CD
set_option maxHeartbeats 400000
/-! own words: dicts with ints as keys; lists of tuples -/
namespace CD
open PySem PySem.Spec PyProof.Rows L2
def dkV (es : List (Int × V)) : List (Key × V) := es.map fun e => (Sum.inl e.1, e.2)
theorem dkV_len (es : List (Int × V)) : (dkV es).length = es.length := List.length_map _
theorem dkV_keys (es : List (Int × V)) : (dkV es).map (fun kv => kV kv.1) = (es.map (·.1)).map V.int := by
  unfold dkV
  rw [List.map_map, List.map_map]
  rfl
theorem dv_get : ∀ {es : List (Int × V)} {k : Int} {v : V}, (es.map (·.1)).Nodup → (k, v) ∈ es → valV (dkV es) (.inl k) = some v
  | [], _, _, _, h => by cases h
  | (k1, v1) :: r, k, v, nd, h => by
    obtain ⟨n1, n2⟩ := List.nodup_cons.mp nd
    unfold dkV valV
    rw [List.map_cons, List.find?_cons]
    rcases List.mem_cons.mp h with e | m
    · cases e
      rw [show decide ((Sum.inl k1 : Key) = Sum.inl k1) = true from decide_eq_true rfl]
      rfl
    · have ne : k1 ≠ k := fun e => n1 (by rw [e]; exact List.mem_map.mpr ⟨(k, v), m, rfl⟩)
      rw [show decide ((Sum.inl k1 : Key) = Sum.inl k) = false from decide_eq_false fun e => ne (Sum.inl.inj e)]
      exact dv_get n2 m
theorem dv_none : ∀ {es : List (Int × V)} {k : Int}, k ∉ es.map (·.1) → valV (dkV es) (.inl k) = none
  | [], _, _ => rfl
  | (k1, v1) :: r, k, h => by
    have ne : k1 ≠ k := fun e => h (by rw [List.map_cons, e]; exact List.mem_cons_self)
    unfold dkV valV
    rw [List.map_cons, List.find?_cons, show decide ((Sum.inl k1 : Key) = Sum.inl k) = false from decide_eq_false fun e => ne (Sum.inl.inj e)]
    exact dv_none fun m => h (by rw [List.map_cons]; exact List.mem_cons_of_mem _ m)
theorem dv_put {es : List (Int × V)} {k : Int} {v : V} (h : k ∉ es.map (·.1)) : putK (dkV es) (.inl k) v = dkV (es ++ [(k, v)]) := by
  unfold putK
  have e : (dkV es).any (fun kv => decide (kv.1 = (Sum.inl k : Key))) = false := by
    rw [List.any_eq_false]
    intro x hx
    obtain ⟨y, hy, rfl⟩ := List.mem_map.mp hx
    exact fun z => h (List.mem_map.mpr ⟨y, hy, Sum.inl.inj (of_decide_eq_true z)⟩)
  rw [e, if_neg Bool.false_ne_true]
  unfold dkV
  rw [List.map_append]
  rfl
theorem at_key {es : List (Int × V)} {k : Int} (h : k ∈ es.map (·.1)) : ∃ v, (k, v) ∈ es := by
  obtain ⟨⟨k', v⟩, m, e⟩ := List.mem_map.mp h
  exact ⟨v, by cases e; exact m⟩
/-- all that was tracked stays, but two objects -/
def Keep2 (H H' : Hp) (c f : Addr) : Prop := ∀ b o, H b = some o → b ≠ c → b ≠ f → H' b = some o
theorem _root_.L2.Same.keep2 {H H' : Hp} {c f : Addr} (s : Same H H') : Keep2 H H' c f := fun b o e _ _ => s b o e
theorem Keep2.trans {H H' H2 : Hp} {c f : Addr} (s : Keep2 H H' c f) (t : Keep2 H' H2 c f) : Keep2 H H2 c f := fun b o e n1 n2 => t b o (s b o e n1 n2) n1 n2
theorem keep2_c {H : Hp} {c f : Addr} {o : HO} : Keep2 H (upd H c o) c f := fun b x e n1 _ => by rw [upd_ne n1]; exact e
theorem keep2_f {H : Hp} {c f : Addr} {o : HO} : Keep2 H (upd H f o) c f := fun b x e _ n2 => by rw [upd_ne n2]; exact e
/-- a list of tuples -/
abbrev EntT := List V × Addr
def RowsAt (H : Hp) (l : Addr) (rows : List (List V)) : Prop := ∃ es : List EntT, H l = some (.lst (es.map fun e => V.ref e.2)) ∧ es.map (·.1) = rows ∧ ∀ e ∈ es, H e.2 = some (.tup e.1)
theorem RowsAt.same {H H' : Hp} {l : Addr} {rows : List (List V)} (h : RowsAt H l rows) (s : Same H H') : RowsAt H' l rows := let ⟨es, h1, h2, h3⟩ := h; ⟨es, s _ _ h1, h2, fun e he => s _ _ (h3 e he)⟩
theorem RowsAt.keep {H H' : Hp} {l c f : Addr} {rows : List (List V)} (h : RowsAt H l rows) (s : Keep2 H H' c f) (nc : l ≠ c) (nf : l ≠ f) (tc : ∀ t, H c ≠ some (.tup t)) (tf : ∀ t, H f ≠ some (.tup t)) : RowsAt H' l rows :=
  let ⟨es, h1, h2, h3⟩ := h
  ⟨es, s _ _ h1 nc nf, h2, fun e he => s _ _ (h3 e he) (fun x => tc e.1 (by rw [← x]; exact h3 e he)) (fun x => tf e.1 (by rw [← x]; exact h3 e he))⟩
theorem RowsAt.refs {H : Hp} {l : Addr} {rows : List (List V)} (h : RowsAt H l rows) : ∃ rs : List Addr, H l = some (.lst (rs.map V.ref)) ∧ rs.length = rows.length ∧ ∀ (i : Nat) (r : Addr) (row : List V), rs[i]? = some r → rows[i]? = some row → H r = some (.tup row) := by
  obtain ⟨es, h1, h2, h3⟩ := h
  refine ⟨es.map (·.2), by rw [h1, List.map_map]; rfl, by rw [List.length_map, ← h2, List.length_map], fun i r row hr hw => ?_⟩
  rw [← h2, List.getElem?_map] at hw
  rw [List.getElem?_map] at hr
  cases e : es[i]? with
  | none => rw [e] at hr; cases hr
  | some y =>
    rw [e] at hr hw
    cases hr
    cases hw
    exact h3 y (List.mem_of_getElem? e)
theorem dget_of {H : Hp} {c : Addr} {es : List (Int × V)} {k : Int} {v : V} (h : H c = some (.dK (dkV es))) (nd : (es.map (·.1)).Nodup) (m : (k, v) ∈ es) : DGet H c (.int k) (some v) := by
  have z := DGet.k (k := .inl k) h
  rw [dv_get nd m] at z
  exact z
theorem dput_of {H : Hp} {c : Addr} {es : List (Int × V)} {k : Int} {v : V} (h : H c = some (.dK (dkV es))) (n : k ∉ es.map (·.1)) (hl : es.length < sizeLine) : DPut H c (.int k) v (upd H c (.dK (dkV (es ++ [(k, v)])))) := by
  have z := DPut.k (k := .inl k) (v := v) h (by rw [dkV_len]; exact hl)
  rw [dv_put n] at z
  exact z
/-- k in d -/
theorem din_of {H : Hp} {c : Addr} {es : List (Int × V)} (k : Int) (h : H c = some (.dK (dkV es))) : ∃ o : Option V, DGet H c (.int k) o ∧ (o.isSome = true ↔ k ∈ es.map (·.1)) := by
  refine ⟨_, DGet.k (k := .inl k) h, ?_⟩
  constructor
  · intro e
    refine Decidable.by_contra fun n => ?_
    rw [dv_none n] at e
    cases e
  · intro m
    obtain ⟨v, hv⟩ := at_key m
    have e : (dkV es).find? (fun kv => decide (kv.1 = (Sum.inl k : Key))) ≠ none := fun z => by
      have z2 := List.find?_eq_none.mp z (Sum.inl k, v) (List.mem_map.mpr ⟨(k, v), hv, rfl⟩)
      exact z2 (decide_eq_true rfl)
    unfold valV
    cases c : (dkV es).find? (fun kv => decide (kv.1 = (Sum.inl k : Key))) with
    | none => exact absurd c e
    | some y => rfl
theorem orD_non (o : Option Int) : orD .non o = oV o := by cases o <;> rfl
theorem srt_take {ns : List Int} {i : Nat} {k c : Int} (hs : ns.Pairwise (· ≤ ·)) (hi : ns[i]? = some k) (hc : c ∈ ns) (hl : c < k) : c ∈ ns.take i := by
  obtain ⟨j, hj, rfl⟩ := List.mem_iff_getElem.mp hc
  have hi' := (List.getElem?_eq_some_iff.mp hi)
  obtain ⟨li, ei⟩ := hi'
  by_cases c2 : j < i
  · exact List.mem_take_iff_getElem.mpr ⟨j, by omega, rfl⟩
  · exfalso
    rcases Nat.lt_or_eq_of_le (Nat.le_of_not_lt c2) with l | e
    · have z := (List.pairwise_iff_getElem.mp hs) i j li hj l
      omega
    · subst e
      omega
/-! ### len(set(l)), l a list of ints -/
def tLenSetGL (K : PySem.W.Frag) (ta : TE) : TE := fun σ H Q => ta σ H fun x H1 => ∃ (l : Addr) (ns : List Int), x = .ref l ∧ SqL K H1 l (ns.map V.int) ∧ ns.length ≤ 1000 ∧
  ∀ ks : List Int, ks.Nodup → (∀ x, x ∈ ks ↔ x ∈ ns) → Q (.int (ks.length : Nat)) H1
theorem pe_lenSetGL {X : Cx} {a : Expr} {ta : TE} {p p2 q pos : Pos} (hg : Gl X "len") (hm : X.mg "len" = none) (hg2 : Gl X "set") (hm2 : X.mg "set" = none) (ha : PE X a ta) (hc : X.calm = true := by rfl)
    (na : starEach [a] X.env = (false, eval a X.env) :: starEach [] X.env := by rfl) : PE X (.Call (.Name "len" p) [.Call (.Name "set" p2) [a] [] q] [] pos) (tLenSetGL X.K ta) := by
  refine ⟨fun pins s σ H Q I h => ?_⟩
  refine Call_ (ld_blt I hg hm boot_len (PyProof.Rows.callWith_builtin1 (PyProof.Rows.args_cons ?_ rfl) rfl rfl))
  refine Call_ (ld_blt I hg2 hm2 boot_set (PyProof.Rows.callWith_type1 (PyProof.Rows.args_cons (thn (ha.run pins s σ H _ I h) fun v s1 ⟨x, H1, I1, r1, l, ns, ex, hq, hl, q1⟩ => PyProof.Rows.args_nil ?_) na) na rfl))
  subst ex
  cases r1
  obtain ⟨its, r, pl, hz⟩ := I1.list hq
  refine call_set_lst ns (I1.ok.hd hc) pl.isList r.ints (by unfold scanBound; omega) fun h' tk c hS hcl hk => PyProof.Rows.args_nil ?_
  obtain ⟨o, es, ep, t, ho, hex, hdt, g, nd, hm3, hb, hf, hn, _, _⟩ := hS
  have hmem : ∀ x, x ∈ es.toList.map keyOf ↔ x ∈ ns := fun j => by
    have z : decide (j ∈ ns) = true ↔ j ∈ es.toList.map keyOf := hm3 j
    rw [decide_eq_true_eq] at z
    exact z.symm
  have hlen : (es.toList.map keyOf).length = es.size := by simp
  have hle := nodup_lenT _ ns nd fun x hx => (hmem x).mp hx
  have I2 : Inv X pins σ H1 { s1 with heap := h', toks := tk } := I1.kept hk
  exact call_len_set ho hex hdt hf (by omega) ⟨.int (es.toList.map keyOf).length, H1, I2.tok _, ⟨_, by rw [hlen]⟩, q1 _ nd hmem⟩
/-! ### max(xs, default=d) -/
def maxO : List Int → Option Int
  | [] => none
  | n :: ns => some (ns.foldl max n)
def rMaxDf (K : PySem.W.Frag) : List V → List V → Hp → VK → Prop := fun vs zs H Q => ∃ (a : Addr) (ns : List Int) (d : V), vs = [V.ref a] ∧ zs = [d] ∧ SqL K H a (ns.map V.int) ∧ Q (orD d (maxO ns)) H
theorem cr_maxDef {X : Cx} (hc : X.calm = true) (hu : X.A.units + 1 < cLine) : CallRK X (.builtin "max") [Str.ofString "default"] (rMaxDf X.K) := by
  intro pins s σ H vs zs us ws Q I r rz h
  obtain ⟨a, ns, d, rfl, rfl, hs, q⟩ := h
  obtain rfl := Vals.ref1 r
  obtain ⟨w1, rfl, e1⟩ := vals1 rz
  obtain ⟨its, rv, hl, _⟩ := I.list hs
  have hi := rv.ints
  refine PySem.W.max_list_default (I.ok.hd hc) hl.isList (xs := ns.map PyData.int) (as := []) (by simpa using reads_ints hi) (alike_ints ns) (by rw [depth_ints]; exact hu) (fun e h' tk hk => ?_) fun y ys i v h' tk bs e hv hr hk => ?_
  · have e2 : ns = [] := List.map_eq_nil_iff.mp e
    subst e2
    exact ⟨d, H, I.kept hk, e1, q⟩
  · cases ns with
    | nil => cases e
    | cons n ns =>
      rw [List.map_cons] at e
      injection e with e2 e3
      subst e2 e3
      rw [PySem.W.maxD_ints] at hr
      cases hr with
      | int i t => exact ⟨.int _, H, I.kept hk, ⟨t, rfl⟩, q⟩
end CD
/-! own words: the least of a list of pairs -/
namespace CD
open PySem PySem.Spec PyProof.Rows L2
def pD (p : Int × Int) : PyData := .tuple [.int p.1, .int p.2]
def pLt (p q : Int × Int) : Bool := decide (p.1 < q.1 ∨ (p.1 = q.1 ∧ p.2 < q.2))
theorem eqv_int (a b : Int) : (PyData.int a).eqv (.int b) = decide (a = b) := by
  simp only [PyData.eqv]
  exact Bool.eq_iff_iff.mpr (by simp)
theorem alike_int (a b : Int) : PySem.W.alike (.int a) (.int b) = true := by simp [PySem.W.alike]
theorem dataLt_pair (p q : Int × Int) : PySem.W.dataLt (pD p) (pD q) = pLt p q := by
  unfold pD pLt
  rw [PySem.W.dataLt_tuple]
  by_cases c : p.1 = q.1
  · rw [PySem.W.dataLt_all_yes (alike_int _ _) (by rw [eqv_int]; exact decide_eq_true c)]
    by_cases c2 : p.2 = q.2
    · rw [PySem.W.dataLt_all_yes (alike_int _ _) (by rw [eqv_int]; exact decide_eq_true c2)]
      rw [decide_eq_false (by omega)]
      rfl
    · rw [PySem.W.dataLt_all_no (alike_int _ _) (by rw [eqv_int]; exact decide_eq_false c2), PySem.W.dataLt_int]
      exact decide_eq_decide.mpr (by omega)
  · rw [PySem.W.dataLt_all_no (alike_int _ _) (by rw [eqv_int]; exact decide_eq_false c), PySem.W.dataLt_int]
    exact decide_eq_decide.mpr (by omega)
theorem alike_pairs (ps : List (Int × Int)) : PySem.W.AlikeAll (ps.map pD) := by
  refine ⟨fun x hx y hy => ?_, fun x hx e => ?_⟩
  · obtain ⟨i, _, rfl⟩ := List.mem_map.mp hx
    obtain ⟨j, _, rfl⟩ := List.mem_map.mp hy
    simp [pD, PySem.W.alike, PySem.W.alikeAll]
  · obtain ⟨i, _, rfl⟩ := List.mem_map.mp hx
    cases e
def minP (p : Int × Int) (ps : List (Int × Int)) : Int × Int := ps.foldl (fun a y => if pLt y a = true then y else a) p
theorem minD_pairs (ps : List (Int × Int)) : ∀ p, PySem.W.minD (pD p) (ps.map pD) = pD (minP p ps) := by
  induction ps with
  | nil => intro p; rfl
  | cons q r ih =>
    intro p
    have e : PySem.W.minD (pD p) ((q :: r).map pD) = PySem.W.minD (if PySem.W.dataLt (pD q) (pD p) = true then pD q else pD p) (r.map pD) := rfl
    rw [e, dataLt_pair]
    have e2 : minP p (q :: r) = minP (if pLt q p = true then q else p) r := rfl
    rw [e2, ← ih]
    congr 1
    split <;> rfl
theorem minP_le (ps : List (Int × Int)) : ∀ p, ∀ q ∈ p :: ps, pLt q (minP p ps) = false := by
  induction ps with
  | nil =>
    intro p q hq
    rw [List.mem_singleton.mp hq]
    exact decide_eq_false (by show ¬ (p.1 < p.1 ∨ (p.1 = p.1 ∧ p.2 < p.2)); omega)
  | cons y r ih =>
    intro p q hq
    have e2 : minP p (y :: r) = minP (if pLt y p = true then y else p) r := rfl
    rw [e2]
    have low := ih (if pLt y p = true then y else p)
    rcases List.mem_cons.mp hq with e | m
    · rw [e]
      by_cases c : pLt y p = true
      · rw [if_pos c] at low ⊢
        have ly := low y List.mem_cons_self
        cases z : pLt p (minP y r) with
        | false => rfl
        | true =>
          have g1 := of_decide_eq_true c
          have g2 := of_decide_eq_false ly
          have g3 := of_decide_eq_true z
          omega
      · rw [if_neg c] at low ⊢
        exact low p List.mem_cons_self
    · rcases List.mem_cons.mp m with e | m2
      · rw [e]
        by_cases c : pLt y p = true
        · rw [if_pos c] at low ⊢
          exact low y List.mem_cons_self
        · rw [if_neg c] at low ⊢
          have lp := low p List.mem_cons_self
          cases z : pLt y (minP p r) with
          | false => rfl
          | true =>
            have g1 := of_decide_eq_false (Bool.eq_false_iff.mpr c)
            have g2 := of_decide_eq_false lp
            have g3 := of_decide_eq_true z
            omega
      · exact low q (List.mem_cons_of_mem _ m2)
theorem minP_mem (ps : List (Int × Int)) : ∀ p, minP p ps ∈ p :: ps := by
  induction ps with
  | nil => intro p; exact List.mem_cons_self
  | cons y r ih =>
    intro p
    have e2 : minP p (y :: r) = minP (if pLt y p = true then y else p) r := rfl
    rw [e2]
    rcases List.mem_cons.mp (ih (if pLt y p = true then y else p)) with e | m
    · rw [e]
      split
      · exact List.mem_cons_of_mem _ List.mem_cons_self
      · exact List.mem_cons_self
    · exact List.mem_cons_of_mem _ (List.mem_cons_of_mem _ m)
theorem minP_is {p0 p : Int × Int} {ps : List (Int × Int)} (hm : p ∈ p0 :: ps) (h : ∀ q ∈ p0 :: ps, pLt q p = false) : p = minP p0 ps := by
  have h1 := of_decide_eq_false (h _ (minP_mem ps p0))
  have h2 := of_decide_eq_false (minP_le ps p0 p hm)
  exact Prod.ext (by omega) (by omega)
section
variable {X : Cx}
theorem vals_at {vs : List V} {us : List Value} (h : Vals vs us) : ∀ (i : Nat) (v : V) (u : Value), vs[i]? = some v → us[i]? = some u → RelV v u := by
  induction h with
  | nil => intro i v u h1; cases h1
  | cons r1 _ ih =>
    intro i v u h1 h2
    cases i with
    | zero => cases h1; cases h2; exact r1
    | succ i => exact ih i v u h1 h2
def rMinP (K : PySem.W.Frag) : List V → Hp → VK → Prop := fun vs H Q => ∃ (a : Addr) (rs : List Addr) (p0 : Int × Int) (ps : List (Int × Int)), vs = [V.ref a] ∧ SqL K H a (rs.map V.ref) ∧ rs.length = (p0 :: ps).length ∧
  (∀ (i : Nat) (r : Addr) (p : Int × Int), rs[i]? = some r → (p0 :: ps)[i]? = some p → SqT K H r [.int p.1, .int p.2]) ∧
  ∀ (i : Nat) (r : Addr) (p : Int × Int), rs[i]? = some r → (p0 :: ps)[i]? = some p → (∀ q ∈ p0 :: ps, pLt q p = false) → Q (.ref r) H
theorem dp_pair {K : PySem.W.Frag} {H : Hp} {r : Addr} {p : Int × Int} (h : SqT K H r [.int p.1, .int p.2]) : Dp K H (.ref r) (pD p) := .tup h (.cons (.int _) (.cons (.int _) .nil))
theorem reads_pairs {pins : List (Addr × Obj)} {σ : L2.St} {H : Hp} {s : Shared} (I : Inv X pins σ H s) : ∀ (rs : List Addr) (ps : List (Int × Int)) (us : List Value), Vals (rs.map V.ref) us → rs.length = ps.length → (∀ (i : Nat) (r : Addr) (p : Int × Int), rs[i]? = some r → ps[i]? = some p → SqT X.K H r [.int p.1, .int p.2]) → ∃ as, ReadsAll s.heap us (ps.map pD) as
  | [], [], us, hv, _, _ => by cases hv; exact ⟨[], .nil⟩
  | r :: rs, p :: ps, us, hv, hl, h => by
    cases hv with
    | cons r1 rn =>
      obtain ⟨as1, h1⟩ := Dp.reads I _ _ _ (dp_pair (h 0 r p rfl rfl)) r1
      obtain ⟨as2, h2⟩ := reads_pairs I rs ps _ rn (by simpa using hl) fun i r p h3 h4 => h (i + 1) r p h3 h4
      exact ⟨_, .cons h1 h2⟩
  | [], _ :: _, _, _, hl, _ => by cases hl
  | _ :: _, [], _, _, hl, _ => by cases hl
theorem cr_minP (hc : X.calm = true) (hu : X.A.units + 2 < cLine) : CallR X (.builtin "min") (rMinP X.K) := by
  intro pins s σ H vs us Q I r h
  obtain ⟨a, rs, p0, ps, rfl, hs, hlen, ht, q⟩ := h
  obtain rfl := Vals.ref1 r
  obtain ⟨its, rv, hl, _⟩ := I.list hs
  obtain ⟨as, ra⟩ := reads_pairs I rs (p0 :: ps) its rv hlen ht
  have dep : ∀ l : List (Int × Int), PyData.depthAll (l.map pD) ≤ 1 := fun l => by
    induction l with
    | nil => exact Nat.zero_le _
    | cons p r ih =>
      rw [List.map_cons, PyData.depthAll]
      have : (pD p).depth = 1 := by simp [pD, PyData.depth, PyData.depthAll]
      omega
  refine PySem.W.min_list_data (I.ok.hd hc) hl.isList (x := pD p0) (xs := ps.map pD) (as := as) (by simpa using ra) (alike_pairs (p0 :: ps)) (by
    have := dep (p0 :: ps)
    rw [List.map_cons] at this
    omega) fun i v h' tk bs hv hr hk => ?_
  rw [minD_pairs] at hr
  have I2 : Inv X pins σ H { s with heap := h', toks := tk } := I.kept hk
  have hv' : its[i]? = some v := by simpa using hv
  have li : i < rs.length := by
    have e1 := rv.length
    rw [List.length_map] at e1
    have := (List.getElem?_eq_some_iff.mp hv').1
    omega
  have hri : rs[i]? = some rs[i] := List.getElem?_eq_getElem li
  have lp : i < (p0 :: ps).length := by omega
  have hpi : (p0 :: ps)[i]? = some (p0 :: ps)[i] := List.getElem?_eq_getElem lp
  have rel : RelV (V.ref rs[i]) v := vals_at rv i _ _ (by rw [List.getElem?_map, hri]; rfl) hv'
  obtain ⟨as2, rd⟩ := Dp.reads I2 _ _ _ (dp_pair (ht i _ _ hri hpi)) rel
  have e := (PySem.Reads.unique hr _ _ rd).1
  have e2 : minP p0 ps = (p0 :: ps)[i] := by
    unfold pD at e
    injection e with e
    injection e with e3 e4
    injection e3 with e3
    injection e4 with e4 e5
    injection e4 with e4
    exact Prod.ext e3 e4
  exact ⟨.ref rs[i], H, I2, rel, q i _ _ hri hpi (by rw [← e2]; exact minP_le ps p0)⟩
end
end CD
set_option maxHeartbeats 1000000
namespace LK
open PySem PySem.Spec PyProof.Rows L2 CD
def topS (i : Nat) : Stmt := PySem.Challenge.pw_callsdown_k50_whole_scaled_rules.main.body.getD i (.Pass ⟨0, 0, 0, 0⟩)
abbrev s_is_integer : Stmt := topS 5
abbrev n_is_integer : List Str := ["thing"]
abbrev p_is_integer : List Str := ["thing"]
theorem sc_is_integer : FnScope n_is_integer p_is_integer (defScope s_is_integer) := ⟨rfl, rfl, rfl, by decide +kernel, rfl, by decide +kernel, by decide +kernel⟩
abbrev s_is_number : Stmt := topS 6
abbrev n_is_number : List Str := ["thing", "low", "high"]
abbrev p_is_number : List Str := ["thing", "low", "high"]
theorem sc_is_number : FnScope n_is_number p_is_number (defScope s_is_number) := ⟨rfl, rfl, rfl, by decide +kernel, rfl, by decide +kernel, by decide +kernel⟩
abbrev s_need_person : Stmt := topS 7
abbrev n_need_person : List Str := ["person"]
abbrev p_need_person : List Str := ["person"]
theorem sc_need_person : FnScope n_need_person p_need_person (defScope s_need_person) := ⟨rfl, rfl, rfl, by decide +kernel, rfl, by decide +kernel, by decide +kernel⟩
abbrev s_callers_of : Stmt := topS 9
abbrev n_callers_of : List Str := ["scaled", "person", "scale", "adds", "pairs", "place", "add", "caller"]
abbrev p_callers_of : List Str := ["scaled", "person"]
theorem sc_callers_of : FnScope n_callers_of p_callers_of (defScope s_callers_of) := ⟨rfl, rfl, rfl, by decide +kernel, rfl, by decide +kernel, by decide +kernel⟩
abbrev s_ticks_of : Stmt := topS 10
abbrev n_ticks_of : List Str := ["scaled", "people", "calls", "fresh", "person", "ticks", "heard", "caller", "place", "_"]
abbrev p_ticks_of : List Str := ["scaled", "people"]
theorem sc_ticks_of : FnScope n_ticks_of p_ticks_of (defScope s_ticks_of) := ⟨rfl, rfl, rfl, by decide +kernel, rfl, by decide +kernel, by decide +kernel⟩
abbrev s_need_scaled : Stmt := topS 16
abbrev n_need_scaled : List Str := ["thing", "scale", "adds", "add"]
abbrev p_need_scaled : List Str := ["thing"]
theorem sc_need_scaled : FnScope n_need_scaled p_need_scaled (defScope s_need_scaled) := ⟨rfl, rfl, rfl, by decide +kernel, rfl, by decide +kernel, by decide +kernel⟩
abbrev s_tick_at : Stmt := topS 17
abbrev n_tick_at : List Str := ["scaled", "person"]
abbrev p_tick_at : List Str := ["scaled", "person"]
theorem sc_tick_at : FnScope n_tick_at p_tick_at (defScope s_tick_at) := ⟨rfl, rfl, rfl, by decide +kernel, rfl, by decide +kernel, by decide +kernel⟩
abbrev s_caller_of : Stmt := topS 18
abbrev n_caller_of : List Str := ["scaled", "person", "ticks", "calls", "caller", "place"]
abbrev p_caller_of : List Str := ["scaled", "person"]
theorem sc_caller_of : FnScope n_caller_of p_caller_of (defScope s_caller_of) := ⟨rfl, rfl, rfl, by decide +kernel, rfl, by decide +kernel, by decide +kernel⟩
abbrev s_is_plain : Stmt := topS 19
abbrev n_is_plain : List Str := ["scaled", "scale", "adds", "add"]
abbrev p_is_plain : List Str := ["scaled"]
theorem sc_is_plain : FnScope n_is_plain p_is_plain (defScope s_is_plain) := ⟨rfl, rfl, rfl, by decide +kernel, rfl, by decide +kernel, by decide +kernel⟩
abbrev s__law_begun : Stmt := topS 21
abbrev n__law_begun : List Str := ["script", "great", "cell"]
abbrev p__law_begun : List Str := ["script"]
theorem sc__law_begun : FnScope n__law_begun p__law_begun (defScope s__law_begun) := ⟨rfl, rfl, rfl, by decide +kernel, rfl, by decide +kernel, by decide +kernel⟩
abbrev s__law_next : Stmt := topS 22
abbrev n__law_next : List Str := ["m", "total", "rest", "k", "cell", "mixed"]
abbrev p__law_next : List Str := ["m", "total"]
theorem sc__law_next : FnScope n__law_next p__law_next (defScope s__law_next) := ⟨rfl, rfl, rfl, by decide +kernel, rfl, by decide +kernel, by decide +kernel⟩
abbrev s__law_of : Stmt := topS 23
abbrev n__law_of : List Str := ["m", "some"]
abbrev p__law_of : List Str := ["m", "some"]
theorem sc__law_of : FnScope n__law_of p__law_of (defScope s__law_of) := ⟨rfl, rfl, rfl, by decide +kernel, rfl, by decide +kernel, by decide +kernel⟩
abbrev s__law_scale : Stmt := topS 24
abbrev n__law_scale : List Str := ["m", "scale", "way", "found", "k", "more", "far"]
abbrev p__law_scale : List Str := ["m"]
theorem sc__law_scale : FnScope n__law_scale p__law_scale (defScope s__law_scale) := ⟨rfl, rfl, rfl, by decide +kernel, rfl, by decide +kernel, by decide +kernel⟩
abbrev s__law_spread : Stmt := topS 25
abbrev n__law_spread : List Str := ["rule_so", "count", "scale", "adds", "found", "k", "some", "spot", "more", "far"]
abbrev p__law_spread : List Str := ["rule_so", "count"]
theorem sc__law_spread : FnScope n__law_spread p__law_spread (defScope s__law_spread) := ⟨rfl, rfl, rfl, by decide +kernel, rfl, by decide +kernel, by decide +kernel⟩
abbrev s__law_spread_at : Stmt := topS 26
abbrev n__law_spread_at : List Str := ["rule_so", "goal", "known", "best", "spot", "more", "tick"]
abbrev p__law_spread_at : List Str := ["rule_so", "goal", "known"]
theorem sc__law_spread_at : FnScope n__law_spread_at p__law_spread_at (defScope s__law_spread_at) := ⟨rfl, rfl, rfl, by decide +kernel, rfl, by decide +kernel, by decide +kernel⟩
abbrev s_law : Stmt := topS 27
abbrev n_law : List Str := ["script", "m", "turn", "rule_so", "scale", "adds", "film", "again", "k", "some", "spot", "more", "first", "far", "told", "goal", "known", "due", "rests"]
abbrev p_law : List Str := ["script"]
theorem sc_law : FnScope n_law p_law (defScope s_law) := ⟨rfl, rfl, rfl, by decide +kernel, rfl, by decide +kernel, by decide +kernel⟩
section
variable {P : Program} {w : World} {K : PySem.W.Frag} {mg : Str → Option Value} {base : Heap}
/-! ### checks -/
def spNum : Sp := fun vs H Q _ => ∃ n lo hi : Int, vs = [.int n, .int lo, .int hi] ∧ Q (.bl (decide (lo ≤ n ∧ n ≤ hi))) H
def spInt1 : Sp := fun vs H Q _ => ∃ n : Int, vs = [.int n] ∧ Q (.bl true) H
theorem cal_is_integer (z : Z mg) (D : Def K mg "is_integer" s_is_integer p_is_integer) : Cal P w K mg base 1 "is_integer" p_is_integer spInt1 := by
  refine D.cal sc_is_integer (fun vs H Q E h => by obtain ⟨_, rfl, _⟩ := h; rfl) fun f cdv A outer s H vs Q E hr h => ?_
  obtain ⟨n, rfl, q⟩ := h
  refine ⟨_, (pss_one (ps_ret (pe_and (pe_callB (call_isi) (by rfl) z.«isinstance» (by decide +kernel) (pa_cons (pv 0) (pa_cons (pe_bltn (v := .ty "int") (by rfl) z.«int» (by decide +kernel) rfl) pa_nil))) (pe_one (pe_not (pe_callB (call_isi) (by rfl) z.«isinstance» (by decide +kernel) (pa_cons (pv 0) (pa_cons (pe_bltn (v := .ty "bool") (by rfl) z.«bool» (by decide +kernel) rfl) pa_nil)))))))), ?_⟩
  refine ⟨.int n, rfl, .int n, .ty "int", .type "int", .type "int", true, rfl, .ty _, .base (.int n), kit_ty (by decide +kernel), true, rfl, iteT ?_⟩
  exact ⟨.int n, rfl, .int n, .ty "bool", .type "int", .type "bool", false, rfl, .ty _, .base (.int n), kit_ty (by decide +kernel), false, rfl, q⟩
theorem cal_is_number (z : Z mg) (c_is_integer : Cal P w K mg base 1 "is_integer" p_is_integer spInt1) (D : Def K mg "is_number" s_is_number p_is_number) : Cal P w K mg base 2 "is_number" p_is_number spNum := by
  refine D.cal sc_is_number (fun vs H Q E h => by obtain ⟨_, _, _, rfl, _⟩ := h; rfl) fun f cdv A outer s H vs Q E hr h => ?_
  obtain ⟨n, lo, hi, rfl, q⟩ := h
  refine ⟨_, (pss_one (ps_ret (pe_and (pe_cal c_is_integer (hr.mono (by decide)) (by rfl) (pa_cons (pv 0) pa_nil)) (pe_one (pe_chain op_le op_le (pv 1) (pv 0) (pv 2)))))), ?_⟩
  refine ⟨.int n, rfl, n, rfl, true, rfl, iteT ?_⟩
  refine ⟨.int lo, rfl, .int n, rfl, lo, n, rfl, rfl, _, rfl, ite2 (fun e => ?_) (fun e => ?_)⟩
  · have e' : lo ≤ n := of_decide_eq_true e
    refine ⟨.int hi, rfl, n, hi, rfl, rfl, ?_⟩
    show Q (.bl (decide (n ≤ hi))) H
    rw [show decide (n ≤ hi) = decide (lo ≤ n ∧ n ≤ hi) from decide_eq_decide.mpr ⟨fun x => ⟨e', x⟩, fun x => x.2⟩]
    exact q
  · have e' : ¬ lo ≤ n := fun x => e (decide_eq_true x)
    show Q (.bl false) H
    rw [show false = decide (lo ≤ n ∧ n ≤ hi) from (decide_eq_false fun x => e' x.1).symm]
    exact q
def spAsc (K : PySem.W.Frag) : Sp := fun vs H Q _ => ∃ (a : Addr) (ns : List Int), vs = [.ref a] ∧ SqT K H a (ns.map V.int) ∧ ns.length ≤ 1000 ∧ ∀ H', Same H H' → Q (.bl (ascB ns)) H'
/-- thing, most, low, high: a tuple of ints -/
def rowB (ns : List Int) (most lo hi : Int) : Bool := decide ((ns.length : Int) ≤ most) && (ns.all fun n => decide (lo ≤ n ∧ n ≤ hi)) && ascB ns
def spRow (K : PySem.W.Frag) : Sp := fun vs H Q _ => ∃ (a : Addr) (ns : List Int) (most lo hi : Int), vs = [.ref a, .int most, .int lo, .int hi] ∧ SqT K H a (ns.map V.int) ∧ ns.length ≤ 1000 ∧ ∀ H', Same H H' → Q (.bl (rowB ns most lo hi)) H'
def spNeedNum (lo : Int) : Sp := fun vs H Q _ => ∃ n : Int, vs = [.int n] ∧ lo ≤ n ∧ n ≤ 10 ^ 30 ∧ Q .non H
theorem cal_need_person (z : Z mg) (m_MOST_NUMBER : ∃ t, mg "MOST_NUMBER" = some (.int (10 ^ 30) t)) (c_is_number : Cal P w K mg base 2 "is_number" p_is_number spNum) (D : Def K mg "need_person" s_need_person p_need_person) :
    Cal P w K mg base 3 "need_person" p_need_person (spNeedNum 0) := by
  obtain ⟨tt, m_MOST_NUMBER⟩ := m_MOST_NUMBER
  refine D.cal sc_need_person (fun vs H Q E h => by obtain ⟨_, rfl, _⟩ := h; rfl) fun f cdv A outer s H vs Q E hr h => ?_
  obtain ⟨n, rfl, h0, h1, q⟩ := h
  refine ⟨_, (pss_one (ps_if (pt_not (pt_val (pe_cal c_is_number (hr.mono (by decide)) (by rfl) (pa_cons (pv 0) (pa_cons pe_int (pa_cons (pe_globI (by rfl) m_MOST_NUMBER) pa_nil)))))) (pss_one ps_never) pss_nil)), ?_⟩
  refine ⟨.int n, rfl, n, 0, 10 ^ 30, rfl, ?_⟩
  rw [decide_eq_true ⟨h0, h1⟩]
  exact ⟨true, rfl, iteF q⟩
/-! ### scaled rules -/
/-- a scaled rule at a, its numbers at t -/
structure ScAt (K : PySem.W.Frag) (H : Hp) (a t : Addr) (D : Int) (ads : List Int) : Prop where
  sc : SqT K H a [.int D, .ref t]
  ads : SqT K H t (ads.map V.int)
theorem ScAt.same {H H' : Hp} {a t : Addr} {D : Int} {ads : List Int} (h : ScAt K H a t D ads) (s : Same H H') : ScAt K H' a t D ads := ⟨s.tup h.sc, s.tup h.ads⟩
def spNeedSc (K : PySem.W.Frag) : Sp := fun vs H Q _ => ∃ (a t : Addr) (D : Int) (ads : List Int), vs = [.ref a] ∧ ScAt K H a t D ads ∧ IsSc D ads ∧ ∀ H', Same H H' → Q (.ref a) H'
theorem cal_need_scaled (z : Z mg) (m_LEAST_SCALE : ∃ t, mg "LEAST_SCALE" = some (.int 2 t)) (m_GREATEST_SCALE : ∃ t, mg "GREATEST_SCALE" = some (.int 5 t)) (m_MOST_ADDS : ∃ t, mg "MOST_ADDS" = some (.int 5 t)) (m_GREATEST_ADD : ∃ t, mg "GREATEST_ADD" = some (.int 20 t))
    (c_is_number : Cal P w K mg base 2 "is_number" p_is_number spNum) (D : Def K mg "need_scaled" s_need_scaled p_need_scaled) : Cal P w K mg base 3 "need_scaled" p_need_scaled (spNeedSc K) := by
  obtain ⟨t1, m_LEAST_SCALE⟩ := m_LEAST_SCALE
  obtain ⟨t2, m_GREATEST_SCALE⟩ := m_GREATEST_SCALE
  obtain ⟨t3, m_MOST_ADDS⟩ := m_MOST_ADDS
  obtain ⟨t4, m_GREATEST_ADD⟩ := m_GREATEST_ADD
  refine D.cal sc_need_scaled (fun vs H Q E h => by obtain ⟨_, _, _, _, rfl, _⟩ := h; rfl) fun f cdv A outer s H vs Q E hr h => ?_
  obtain ⟨a, t, N, ads, rfl, hS, hR, q⟩ := h
  have h1 := hR.one
  have h5 := hR.most
  refine ⟨_, (pss_cons (ps_if (PW.pt (pw_or (pt_not (pt_val (pe_callB (call_isi) (by rfl) z.«isinstance» (by decide +kernel) (pa_cons (pv 0) (pa_cons (pe_bltn (v := .ty "tuple") (by rfl) z.«tuple» (by decide +kernel) rfl) pa_nil))))) (pw_or1 (pt_cmpR op_ne (pe_callB (call_len_seq) (by rfl) z.«len» (by decide +kernel) (pa_cons (pv 0) pa_nil)) pe_int (nomark _))))) (pss_one ps_never) pss_nil)
        (pss_cons (ps_asg (pv 0) (pg_tup rfl (pgs_cons (pg_name (i := 1) sc_need_scaled.nd rfl (Or.inl rfl)) (pgs_cons (pg_name (i := 2) sc_need_scaled.nd rfl (Or.inl rfl)) pgs_nil))))
        (pss_cons (ps_if (PW.pt (pw_or (pt_not (pt_val (pe_callB (call_isi) (by rfl) z.«isinstance» (by decide +kernel) (pa_cons (pv 2) (pa_cons (pe_bltn (v := .ty "tuple") (by rfl) z.«tuple» (by decide +kernel) rfl) pa_nil))))) (pw_or1 (pt_not (pt_chain op_le op_le pe_int (pe_callB (call_len_seq) (by rfl) z.«len» (by decide +kernel) (pa_cons (pv 2) pa_nil)) (pe_globI (by rfl) m_MOST_ADDS)))))) (pss_one ps_never) pss_nil)
        (pss_cons (ps_if (pt_not (pt_val (pe_cal c_is_number (hr.mono (by decide)) (by rfl) (pa_cons (pv 1) (pa_cons (pe_globI (by rfl) m_LEAST_SCALE) (pa_cons (pe_globI (by rfl) m_GREATEST_SCALE) pa_nil)))))) (pss_one ps_never) pss_nil)
        (pss_cons (ps_if (pt_not (pt_val (pe_callB (cr_all rfl) (by rfl) z.«all» (by decide +kernel) (pa_cons (pe_lc (own := [("add", 3)]) (g := (gName 3)) (tt := tYes) rfl sc_need_scaled.nd (pi_tup (pv 2)) (blkOk_by (N := n_need_scaled) (sc := defScope s_need_scaled) (by decide +kernel)) (fun _ _ _ _ _ => (pg_name (i := 3) sc_need_scaled.nd rfl (Or.inl rfl))) (fun _ _ _ _ _ => pts_nil) (fun _ _ _ _ _ => (pe_cal c_is_number (hr.mono (by decide)) (by rfl) (pa_cons (pv 3) (pa_cons pe_int (pa_cons (pe_globI (by rfl) m_GREATEST_ADD) pa_nil)))))) pa_nil)))) (pss_one ps_never) pss_nil)
        (pss_cons (ps_if (pt_cmpR op_lt (pe_lenSetT (by rfl) z.«len» (by rfl) z.«set» (pv 2)) (pe_callB (call_len_seq) (by rfl) z.«len» (by decide +kernel) (pa_cons (pv 2) pa_nil)) (nomark _)) (pss_one ps_never) pss_nil)
        (pss_one (ps_ret (pv 0))))))))), ?_⟩
  refine ⟨.ref a, rfl, .ref a, .ty "tuple", .type "tuple", .type "tuple", true, rfl, .ty _, tyx_tup hS.sc, kit_ty (by decide +kernel), true, rfl, iteF ?_⟩
  refine ⟨.ref a, rfl, a, _, rfl, .inr hS.sc, rfl, _, rfl, iteF ?_⟩
  refine ⟨.ref a, rfl, a, _, rfl, hS.sc, rfl, _, _, rfl, _, _, rfl, rfl, ?_⟩
  refine ⟨.ref t, rfl, .ref t, .ty "tuple", .type "tuple", .type "tuple", true, rfl, .ty _, tyx_tup hS.ads, kit_ty (by decide +kernel), true, rfl, iteF ?_⟩
  refine ⟨.ref t, rfl, t, _, rfl, .inr hS.ads, 1, _, rfl, rfl, _, rfl, ?_⟩
  rw [List.length_map]
  have e1 : decide ((1 : Int) ≤ (ads.length : Int)) = true := decide_eq_true (by omega)
  have e2 : decide ((ads.length : Int) ≤ 5) = true := decide_eq_true (by omega)
  rw [e1]
  refine iteT ⟨_, 5, rfl, rfl, _, rfl, ?_⟩
  rw [e2]
  refine iteF ?_
  refine ⟨.int N, rfl, N, 2, 5, rfl, ?_⟩
  rw [decide_eq_true ⟨hR.d2, hR.d5⟩]
  refine ⟨true, rfl, iteF ?_⟩
  refine ⟨.ref t, rfl, t, rfl, ⟨_, hS.ads⟩, fun L nL => ?_⟩
  refine lc_std (walk_tup (K := K) (a := t) (xs := ads.map V.int)) ads (fun n => some (.bl (decide (0 ≤ n ∧ n ≤ 20)))) (by rw [List.length_map]) (small1000 (by rw [List.length_map]; omega)) nL (fun H2 s2 => s2.tup hS.ads) (fun i x H2 H3 n R hn s2 y hR => ?_) (fun H2 s2 e3 => ?_)
  · obtain ⟨rfl, g⟩ := y
    obtain rfl := map_at hn g
    refine ⟨rfl, ?_⟩
    exact ⟨_, rfl, n, 0, 20, rfl, hR _ (Same.refl _)⟩
  · refine ⟨L, ads.map fun n => decide (0 ≤ n ∧ n ≤ 20), rfl, .inl (.inl ?_), ?_⟩
    · rw [e3, filterMap_some, List.map_map]
      rfl
    · have e4 : (ads.map fun n => decide (0 ≤ n ∧ n ≤ 20)).all id = true := by
        rw [List.all_map, List.all_eq_true]
        intro n hn
        exact decide_eq_true (hR.rng n hn)
      rw [e4]
      refine ⟨true, rfl, iteF ?_⟩
      refine ⟨.ref t, rfl, t, ads, rfl, s2.tup hS.ads, hR.nd, by omega, .ref t, rfl, t, _, rfl, .inr (s2.tup hS.ads), _, _, rfl, rfl, _, rfl, ?_⟩
      rw [List.length_map, decide_eq_false (by omega)]
      exact iteF ⟨.ref a, rfl, q H2 s2⟩
/-- a comprehension that makes tuples -/
abbrev EntV := List V × Addr
theorem lc_tups {J : It} {n : Nat} {G : Hp → Prop} {Y : Nat → Hp → V → Hp → Prop} {α : Type} (wk : Walk J n G Y) {g : TG} {tt : TT} {te : TE} {vs : List Nat} {σ : L2.St} {H1 : Hp} {D : Addr} {Qd : Hp → Prop}
    (ys : List α) (h : α → Option (List V)) (hn : ys.length = n) (hz : n < sizeLine) (hD : H1 D = none) (hG : ∀ H, Same H1 H → G H)
    (hs : ∀ i x H H' a (R : Option V → Hp → Prop), ys[i]? = some a → Same H1 H → Y i H x H' → (h a = none → ∀ H4, Same H H4 → R none H4) → (∀ t, h a = some t → ∀ H4 r, Same H H4 → H4 r = some (.tup t) → R (some (.ref r)) H4) →
      g x (wipe σ vs) H' fun σ2 H2 => wipe σ2 vs = wipe σ vs ∧ tt σ2 H2 fun b H3 => if b = true then te σ2 H3 fun y H4 => R (some y) H4 else R none H3)
    (hd : ∀ H (es : List EntV), Same H1 H → H D = some (.lst (es.map fun e => V.ref e.2)) → es.map (·.1) = ys.filterMap h → (∀ e ∈ es, H e.2 = some (.tup e.1)) → Qd H) :
    ∃ W : Nat → Nat → Hp → Prop, (∃ m, W 0 m (upd H1 D (.lst []))) ∧ ∀ i m H, W i m H →
      (J.stop i H ∧ Qd H) ∨ (J.go i H ∧ ∃ Nx : Hp → Prop, (∀ H', Nx H' → ∃ m', m' < m ∧ W (i + 1) m' H') ∧ ∀ x H', J.yld i H x H' → g x (wipe σ vs) H' fun σ2 H2 => wipe σ2 vs = wipe σ vs ∧ tt σ2 H2 fun b H3 =>
        if b = true then te σ2 H3 fun y H4 => ∃ acc, H4 D = some (.lst acc) ∧ acc.length < sizeLine ∧ Nx (upd H4 D (.lst (acc ++ [y]))) else Nx H3) := by
  refine lc_it wk (fun i H => Same H1 H ∧ ∃ es : List EntV, H D = some (.lst (es.map fun e => V.ref e.2)) ∧ es.map (·.1) = (ys.take i).filterMap h ∧ ∀ e ∈ es, H e.2 = some (.tup e.1) ∧ e.2 ≠ D)
    ⟨same_upd hD, [], by rw [upd_same]; rfl, rfl, fun _ h => by cases h⟩ (fun i H _ q => hG H q.1) (fun i x H H' hi q y => ?_) fun H q => ?_
  · obtain ⟨sm, es, eD, em, et⟩ := q
    have hi' : i < ys.length := by omega
    have ha : ys[i]? = some ys[i] := List.getElem?_eq_getElem hi'
    have tk : (ys.take (i + 1)).filterMap h = (ys.take i).filterMap h ++ (h ys[i]).toList := by
      rw [List.take_add_one, ha, List.filterMap_append]
      cases e : h ys[i] <;> simp [e]
    have ln : es.length < sizeLine := by
      have z := List.length_filterMap_le h (ys.take i)
      rw [← em, List.length_map, List.length_take] at z
      omega
    refine hs i x H H' ys[i] (fun o H4 => match o with
      | some y => ∃ acc, H4 D = some (.lst acc) ∧ acc.length < sizeLine ∧ (Same H1 (upd H4 D (.lst (acc ++ [y]))) ∧ ∃ es : List EntV, (upd H4 D (.lst (acc ++ [y]))) D = some (.lst (es.map fun e => V.ref e.2)) ∧ es.map (·.1) = (ys.take (i + 1)).filterMap h ∧ ∀ e ∈ es, (upd H4 D (.lst (acc ++ [y]))) e.2 = some (.tup e.1) ∧ e.2 ≠ D)
      | none => Same H1 H4 ∧ ∃ es : List EntV, H4 D = some (.lst (es.map fun e => V.ref e.2)) ∧ es.map (·.1) = (ys.take (i + 1)).filterMap h ∧ ∀ e ∈ es, H4 e.2 = some (.tup e.1) ∧ e.2 ≠ D) ha sm y (fun hN H4 s4 => ?_) (fun t ht H4 r s4 hr => ?_)
    · exact ⟨sm.trans s4, es, s4 _ _ eD, by rw [em, tk, hN]; simp, fun e he => ⟨s4 _ _ (et e he).1, (et e he).2⟩⟩
    · have rD : r ≠ D := fun x => by
        rw [x, s4 _ _ eD] at hr
        cases hr
      refine ⟨_, s4 _ _ eD, by rw [List.length_map]; exact ln, fun b o eb => ?_, es ++ [(t, r)], by rw [upd_same, List.map_append]; rfl, by rw [List.map_append, em, tk, ht]; rfl, fun e he => ?_⟩
      · have nb : b ≠ D := ne_of_none eb hD
        rw [upd_ne nb]
        exact s4 _ _ (sm _ _ eb)
      · rcases List.mem_append.mp he with m | m
        · rw [upd_ne (et e m).2]
          exact ⟨s4 _ _ (et e m).1, (et e m).2⟩
        · rw [List.mem_singleton.mp m]
          exact ⟨by rw [upd_ne rD]; exact hr, rD⟩
  · obtain ⟨sm, es, eD, em, et⟩ := q
    exact hd H es sm eD (by rw [em, ← hn, List.take_length]) fun e he => (et e he).1
end
end LK
namespace LK
open PySem PySem.Spec PyProof.Rows L2 CD
section
variable {P : Program} {w : World} {K : PySem.W.Frag} {mg : Str → Option Value} {base : Heap}
def pV (p : Int × Int) : List V := [.int p.1, .int p.2]
def spCallersOf (K : PySem.W.Frag) : Sp := fun vs H Q _ => ∃ (a t : Addr) (N n : Int) (ads : List Int), vs = [.ref a, .int n] ∧ ScAt K H a t N ads ∧ IsSc N ads ∧ 0 ≤ n ∧ ∀ H' L, Same H H' → H L = none → RowsAt H' L ((callsO N ads n).map pV) → Q (.ref L) H'
theorem cal_callers_of (z : Z mg) (D : Def K mg "callers_of" s_callers_of p_callers_of) : Cal P w K mg base 2 "callers_of" p_callers_of (spCallersOf K) := by
  refine D.cal sc_callers_of (fun vs H Q E h => by obtain ⟨_, _, _, _, _, rfl, _⟩ := h; rfl) fun f cdv A outer s H vs Q E hr h => ?_
  obtain ⟨a, t, N, n, ads, rfl, hS, hR, n0, q⟩ := h
  have h5 := hR.most
  have d2 := hR.d2
  have d5 := hR.d5
  refine ⟨_, (pss_cons (ps_asg (pv 0) (pg_tup rfl (pgs_cons (pg_name (i := 2) sc_callers_of.nd rfl (Or.inr rfl)) (pgs_cons (pg_name (i := 3) sc_callers_of.nd rfl (Or.inl rfl)) pgs_nil))))
        (pss_cons (ps_setLc (i := 4) (own := [("place", 5), ("add", 6)]) (g := (gTup K 2 (gCons (gName 5) (gCons (gName 6) gNil)))) rfl sc_callers_of.nd rfl rfl (sw_true rfl rfl rfl (by decide +kernel)) (pi_enumT (by rfl) z.«enumerate» (pa_cons (pv 3) pa_nil) (pk_cons pe_int pk_nil)) (blkOk_by (N := n_callers_of) (sc := defScope s_callers_of) (by decide +kernel)) (fun _ _ _ _ _ => (pg_tup rfl (pgs_cons (pg_name (i := 5) sc_callers_of.nd rfl (Or.inl rfl)) (pgs_cons (pg_name (i := 6) sc_callers_of.nd rfl (Or.inl rfl)) pgs_nil)))) (fun _ _ _ _ _ => (pts_one (PW.pt (pw_and (pt_cmpR op_le (pv 6) (pv 1) (nomark _)) (pw_and1 (pt_cmpR op_eq (pe_op op_modN (pe_op op_sub (pv 1) (pv 6)) (pv 2)) pe_int (nomark _))))))) (fun _ _ _ _ _ => (pe_tup (pa_cons (pe_op op_fdivN (pe_op op_sub (pv 1) (pv 6)) (pv 2)) (pa_cons (pv 5) pa_nil)))))
        (pss_one (ps_ret (pe_lc (own := [("caller", 7), ("place", 5)]) (g := (gTup K 2 (gCons (gName 7) (gCons (gName 5) gNil)))) rfl sc_callers_of.nd (pi_list (pv 4)) (blkOk_by (N := n_callers_of) (sc := defScope s_callers_of) (by decide +kernel)) (fun _ _ _ _ _ => (pg_tup rfl (pgs_cons (pg_name (i := 7) sc_callers_of.nd rfl (Or.inl rfl)) (pgs_cons (pg_name (i := 5) sc_callers_of.nd rfl (Or.inl rfl)) pgs_nil)))) (fun _ _ _ _ _ => (pts_one (pt_cmpR op_ne (pv 7) (pv 1) (nomark _)))) (fun _ _ _ _ _ => (pe_tup (pa_cons (pv 7) (pa_cons (pv 5) pa_nil))))))))), ?_⟩
  refine ⟨.ref a, rfl, a, _, rfl, hS.sc, rfl, _, _, rfl, _, _, rfl, rfl, ?_⟩
  refine ⟨.ref t, rfl, t, _, 1, rfl, rfl, by omega, by omega, hS.ads, fun L nL => ?_⟩
  refine lc_tups (walk_enumT (K := K) (a := t) (k := 1) (xs := ads.map V.int)) ads.zipIdx (fun e => if e.1 ≤ n ∧ (n - e.1) % N = 0 then some (pV ((n - e.1) / N, 1 + (e.2 : Int))) else none) (by rw [List.length_zipIdx, List.length_map]) (small1000 (by rw [List.length_map]; omega)) nL (fun H2 s2 => s2.tup hS.ads) (fun i x H2 H3 p R hp s2 y hN hT => ?_) (fun H2 es s2 eL em et => ?_)
  · obtain ⟨T, v1, v2, rfl, nT, rfl, g1, g2⟩ := y
    have sT : Same H2 (upd H2 T (.tup [v1, v2])) := same_upd nT
    rw [List.getElem?_zipIdx] at hp
    cases er : ads[i]? with
    | none => rw [er] at hp; cases hp
    | some sp =>
      rw [er] at hp
      have ep : p = (sp, 0 + i) := (Option.some.inj hp).symm
      rw [Nat.zero_add] at ep
      subst ep
      obtain rfl := map_at er g2
      have e1 : v1 = .int (1 + (i : Nat)) := (Option.some.inj g1).symm
      subst e1
      refine ⟨T, _, rfl, .inl (.inl upd_same), rfl, _, _, rfl, _, _, rfl, rfl, rfl, ?_⟩
      refine ⟨.int sp, rfl, .int n, rfl, sp, n, rfl, rfl, _, rfl, ite2 (fun c => ?_) (fun c => ?_)⟩
      · have c' : sp ≤ n := of_decide_eq_true c
        refine ⟨.int n, rfl, .int sp, rfl, n, sp, rfl, rfl, .int N, rfl, _, N, rfl, rfl, (by omega : N ≠ 0), rfl, ?_⟩
        have ef : (n - sp).fmod N = (n - sp) % N := Int.fmod_eq_emod_of_nonneg _ (by omega : 0 ≤ N)
        refine ⟨_, rfl, ite2 (fun c2 => ?_) (fun c2 => ?_)⟩
        · have c2' : (n - sp) % N = 0 := by
            have z3 : V.int ((n - sp).fmod N) = V.int 0 := of_decide_eq_true c2
            injection z3 with z3
            rw [← ef]
            exact z3
          refine ⟨.int n, rfl, .int sp, rfl, n, sp, rfl, rfl, .int N, rfl, _, N, rfl, rfl, ⟨by omega, by omega⟩, .int (1 + (i : Nat)), rfl, (by decide : 2 ≤ sizeLine), fun r nr => ?_⟩
          refine hT (pV ((n - sp) / N, 1 + (i : Int))) (if_pos ⟨c', c2'⟩) _ r (sT.trans (same_upd nr)) ?_
          rw [upd_same]
          show some (HO.tup [V.int ((n - sp).fdiv N), V.int (1 + (i : Int))]) = _
          rw [Int.fdiv_eq_ediv_of_nonneg _ (by omega : 0 ≤ N)]
          rfl
        · have c2' : ¬ (n - sp) % N = 0 := fun x => c2 (decide_eq_true (show V.int ((n - sp).fmod N) = V.int 0 by rw [ef, x]))
          exact hN (if_neg fun x => c2' x.2) _ sT
      · have c' : ¬ sp ≤ n := fun x => c (decide_eq_true x)
        exact hN (if_neg fun x => c' x.1) _ sT
  · have em2 : es.map (·.1) = (callsI N ads n).map pV := by
      rw [em]
      unfold callsI
      rw [List.map_filterMap]
      refine fm_congr fun e _ => ?_
      by_cases c : e.1 ≤ n ∧ (n - e.1) % N = 0
      · rw [if_pos c, if_pos c]
        rfl
      · rw [if_neg c, if_neg c]
        rfl
    have le : es.length ≤ 5 := by
      have z2 := callsI_len5 hR n
      rw [← List.length_map pV, ← em2, List.length_map] at z2
      exact z2
    refine ⟨.ref L, rfl, L, rfl, ⟨_, .inl (.inl eL)⟩, fun L2 nL2 => ?_⟩
    refine lc_tups (walk_list (K := K) (a := L) (xs := es.map fun e => V.ref e.2)) es (fun e => if e.1[0]? = some (.int n) then none else some e.1) (by rw [List.length_map]) (small1000 (by rw [List.length_map]; omega)) nL2 (fun H3 s3 => .inl (.inl (s3 _ _ eL))) (fun i x H3 H4 e R he s3 y hN hT => ?_) (fun H3 es3 s3 eL3 em3 et3 => ?_)
    · obtain ⟨rfl, g⟩ := y
      obtain rfl := map_at he g
      have hm := List.mem_of_getElem? he
      obtain ⟨p, _, ep⟩ : ∃ p ∈ callsI N ads n, pV p = e.1 := by
        have z2 : e.1 ∈ es.map (·.1) := List.mem_map.mpr ⟨e, hm, rfl⟩
        rw [em2] at z2
        exact List.mem_map.mp z2
      have hT3 := s3 _ _ (et e hm)
      rw [← ep] at hT3 hN hT
      refine ⟨e.2, _, rfl, .inl (.inl hT3), rfl, _, _, rfl, _, _, rfl, rfl, rfl, ?_⟩
      refine ⟨.int p.1, rfl, .int n, rfl, rfl, _, rfl, ite2 (fun c => ?_) (fun c => ?_)⟩
      · have c' : ¬ p.1 = n := fun x => by
          rw [x] at c
          simp at c
        refine ⟨.int p.1, rfl, .int p.2, rfl, (by decide : 2 ≤ sizeLine), fun r nr => ?_⟩
        exact hT (pV p) (if_neg fun x => c' (by injection x with x; injection x)) _ r (same_upd nr) upd_same
      · have c' : p.1 = n := by
          refine Decidable.by_contra fun x => c ?_
          have z3 : ¬ V.int p.1 = V.int n := fun y => x (by injection y)
          rw [decide_eq_false z3]
          rfl
        exact hN (if_pos (by rw [← c']; rfl)) _ (Same.refl _)
    · refine q H3 L2 (s2.trans s3) (Same.free s2 nL2) ⟨es3, eL3, ?_, et3⟩
      rw [em3]
      have e4 : es.filterMap (fun e => if e.1[0]? = some (.int n) then none else some e.1) = (es.map (·.1)).filterMap (fun t : List V => if t[0]? = some (.int n) then none else some t) := by
        rw [List.filterMap_map]
        rfl
      rw [e4, em2]
      unfold callsO
      generalize callsI N ads n = ps
      clear em2
      induction ps with
      | nil => rfl
      | cons p r ih =>
        rw [List.map_cons, List.filterMap_cons, List.filter_cons]
        by_cases c : p.1 = n
        · rw [if_pos (by rw [← c]; rfl), if_neg (by simpa using c), ih]
        · rw [if_neg (fun x => c (by injection x with x; injection x)), if_pos (by simpa using c), List.map_cons, ih]
end
end LK
namespace LK
open PySem PySem.Spec PyProof.Rows L2 CD
section
variable {P : Program} {w : World} {K : PySem.W.Frag} {mg : Str → Option Value} {base : Heap}
/-- the dict of who calls whom: what is known between the turns -/
structure CallsOk (H0 H : Hp) (C F : Addr) (N : Int) (ads ns : List Int) (es : List (Int × V)) (fs : List Int) : Prop where
  same : Same H0 H
  nC : H0 C = none
  nF : H0 F = none
  ne : C ≠ F
  dC : H C = some (.dK (dkV es))
  lF : H F = some (.lst (fs.map V.int))
  nd : (es.map (·.1)).Nodup
  rows : ∀ e ∈ es, ∃ L, e.2 = .ref L ∧ L ≠ C ∧ L ≠ F ∧ RowsAt H L ((callsO N ads e.1).map pV)
  closed : ∀ e ∈ es, ∀ p ∈ callsO N ads e.1, p.1 ∈ es.map (·.1) ∨ p.1 ∈ fs
  all : ∀ n ∈ ns, n ∈ es.map (·.1) ∨ n ∈ fs
  near : ∀ k, k ∈ es.map (·.1) ∨ k ∈ fs → ∃ n ∈ ns, Near N n k
  few : fs.length ≤ ns.length + 5 * es.length
theorem CallsOk.bound {H0 H : Hp} {C F : Addr} {N : Int} {ads ns : List Int} {es : List (Int × V)} {fs : List Int} (h : CallsOk H0 H C F N ads ns es fs) (S : IsSc N ads) (hn : ∀ n ∈ ns, 0 ≤ n ∧ n ≤ 10 ^ 30) : es.length ≤ ns.length * 2121 := by
  have z := few_near S.d2 hn h.nd fun k hk => h.near k (.inl hk)
  rwa [List.length_map] at z
def spTicksOf (K : PySem.W.Frag) : Sp := fun vs H Q _ => ∃ (a t l : Addr) (N : Int) (ads ns : List Int), vs = [.ref a, .ref l] ∧ ScAt K H a t N ads ∧ IsSc N ads ∧ SqL K H l (ns.map V.int) ∧ ns.length ≤ 200 ∧ (∀ n ∈ ns, 0 ≤ n ∧ n ≤ 10 ^ 30) ∧
  ∀ H' d (es : List (Int × V)), Same H H' → H d = none → H' d = some (.dK (dkV es)) → (es.map (·.1)).Nodup → (∀ e ∈ es, e.2 = oV (tk N ads e.1)) → (∀ e ∈ es, ∀ p ∈ callsO N ads e.1, p.1 ∈ es.map (·.1)) → (∀ n ∈ ns, n ∈ es.map (·.1)) → Q (.ref d) H'
theorem cal_ticks_of (z : Z mg) (c_callers_of : Cal P w K mg base 2 "callers_of" p_callers_of (spCallersOf K)) (D : Def K mg "ticks_of" s_ticks_of p_ticks_of) : Cal P w K mg base 3 "ticks_of" p_ticks_of (spTicksOf K) := by
  refine D.cal sc_ticks_of (fun vs H Q E h => by obtain ⟨_, _, _, _, _, _, rfl, _⟩ := h; rfl) fun f cdv A outer s H vs Q E hr h => ?_
  obtain ⟨a, t, l, N, ads, ns, rfl, hS, hR, hl, h200, hn, q⟩ := h
  have hu := hu_of hr
  refine ⟨_, (pss_cons (ps_set (i := 2) sc_ticks_of.nd rfl (Or.inl rfl) pe_dnewK)
        (pss_cons (ps_set (i := 3) sc_ticks_of.nd rfl (Or.inl rfl) (pe_callTy (call_list_of) (by rfl) z.«list» (by decide +kernel) (pa_cons (pv 1) pa_nil)))
        (pss_cons (ps_while PassesOwn.never (pt_truth (pv 3) (by intro _; rfl)) (pss_cons (ps_set (i := 4) sc_ticks_of.nd rfl (Or.inl rfl) (pe_bm0 PySem.F.plainAttrs_list PySem.F.slot_list_pop PySem.F.type_list_pop mt_pop (pv 3)))
        (pss_one (ps_if (pt_cmp (pc_dnotin hu (pv 4) (pv 2))) (pss_cons (ps_dput hu (pv 2) (pv 4) (pe_cal c_callers_of (hr.mono (by decide)) (by rfl) (pa_cons (pv 0) (pa_cons (pv 4) pa_nil))) rfl)
        (pss_one (ps_expr (pe_bm PySem.F.plainAttrs_list PySem.F.slot_list_extend PySem.F.type_list_extend mt_extend (pv 3) (pa_cons (pe_lc (own := [("caller", 7), ("_", 9)]) (g := (gTup K 2 (gCons (gName 7) (gCons (gName 9) gNil)))) (tt := tYes) rfl sc_ticks_of.nd (pi_list (pe_dget hu (pv 2) (pv 4) (fun _ _ => rfl))) (blkOk_by (N := n_ticks_of) (sc := defScope s_ticks_of) (by decide +kernel)) (fun _ _ _ _ _ => (pg_tup rfl (pgs_cons (pg_name (i := 7) sc_ticks_of.nd rfl (Or.inl rfl)) (pgs_cons (pg_name (i := 9) sc_ticks_of.nd rfl (Or.inl rfl)) pgs_nil)))) (fun _ _ _ _ _ => pts_nil) (fun _ _ _ _ _ => (pv 7))) pa_nil))))) pss_nil))))
        (pss_cons (ps_set (i := 5) sc_ticks_of.nd rfl (Or.inr rfl) pe_dnewK)
        (pss_cons (ps_for PassesOwn.never rfl (pi_list (pe_callB (cr_sortedI) (by rfl) z.«sorted» (by decide +kernel) (pa_cons (pe_callTy (call_list_dK rfl) (by rfl) z.«list» (by decide +kernel) (pa_cons (pv 2) pa_nil)) pa_nil))) (pg_name (i := 4) sc_ticks_of.nd rfl (Or.inl rfl)) (pss_cons (ps_setLc (i := 6) (own := [("caller", 7), ("place", 8)]) (g := (gTup K 2 (gCons (gName 7) (gCons (gName 8) gNil)))) rfl sc_ticks_of.nd rfl rfl (sw_true rfl rfl rfl (by decide +kernel)) (pi_list (pe_dget hu (pv 2) (pv 4) (fun _ _ => rfl))) (blkOk_by (N := n_ticks_of) (sc := defScope s_ticks_of) (by decide +kernel)) (fun _ _ _ _ _ => (pg_tup rfl (pgs_cons (pg_name (i := 7) sc_ticks_of.nd rfl (Or.inl rfl)) (pgs_cons (pg_name (i := 8) sc_ticks_of.nd rfl (Or.inl rfl)) pgs_nil)))) (fun _ _ _ _ _ => (pts_one (pt_cmpR op_notN (pe_dget hu (pv 5) (pv 7) (fun _ _ => rfl)) pe_non (nomark _)))) (fun _ _ _ _ _ => (pe_op op_add (pe_dget hu (pv 5) (pv 7) (fun _ _ => rfl)) (pv 8))))
        (pss_one (ps_dput hu (pv 5) (pv 4) (pe_ifExp (pt_cmpR op_eq (pv 4) pe_int (nomark _)) pe_int (pe_callBK (cr_minDef rfl (hu_of hr)) (by rfl) z.«min» (by decide +kernel) (pa_cons (pv 6) pa_nil) (pk_cons pe_non pk_nil))) rfl))))
        (pss_one (ps_ret (pv 5)))))))), ?_⟩
  refine fun C nC => ⟨.ref l, rfl, l, _, rfl, .inl ((same_upd nC).seq hl), fun F nF => ?_⟩
  have sC := same_upd (o := .dK ([] : List (Key × V))) nC
  have sF := same_upd (o := .lst (ns.map V.int)) nF
  have nF0 : H F = none := Same.free sC nF
  have neCF : C ≠ F := fun x => by rw [← x, upd_same] at nF; cases nF
  have ok0 : CallsOk H (upd (upd H C (.dK [])) F (.lst (ns.map V.int))) C F N ads ns [] ns :=
    ⟨sC.trans sF, nC, nF0, neCF, sF _ _ upd_same, upd_same, List.nodup_nil, fun _ h => (by cases h), fun _ h => (by cases h), fun n h => .inr h, fun k h => by
      rcases h with h | h
      · cases h
      · exact ⟨k, h, Near.self (hn k h).1⟩, by omega⟩
  refine ⟨fun m σ H4 => ∃ es fs y4, m = 6 * (ns.length * 2121 - es.length) + fs.length ∧ σ = [some (.ref a), some (.ref l), some (.ref C), some (.ref F), y4, none, none, none, none, none] ∧ CallsOk H H4 C F N ads ns es fs, ⟨_, [], ns, none, rfl, rfl, ok0⟩, ?_⟩
  intro m σ H4 hW
  obtain ⟨es, fs, y4, rfl, rfl, ok⟩ := hW
  have tC : ∀ t, H4 C ≠ some (.tup t) := fun t x => by rw [ok.dC] at x; cases x
  have tF : ∀ t, H4 F ≠ some (.tup t) := fun t x => by rw [ok.lF] at x; cases x
  have bd := ok.bound hR hn
  refine ⟨.ref F, rfl, _, .inl ⟨_, .inl (.inl ok.lF), rfl⟩, ite2 (fun e => ?_) (fun e => ?_)⟩
  · rcases List.eq_nil_or_concat fs with e0 | ⟨gs, k, e0⟩
    · rw [e0] at e; cases e
    rw [List.concat_eq_append] at e0
    subst e0
    clear e
    refine ⟨fun σ' H' => ∃ m', m' < 6 * (ns.length * 2121 - es.length) + (gs ++ [k]).length ∧ ∃ es' fs' y4, m' = 6 * (ns.length * 2121 - es'.length) + fs'.length ∧ σ' = [some (.ref a), some (.ref l), some (.ref C), some (.ref F), y4, none, none, none, none, none] ∧ CallsOk H H' C F N ads ns es' fs', fun _ _ h => h, ?_⟩
    have lg : (gs ++ [k]).length = gs.length + 1 := by rw [List.length_append]; rfl
    obtain ⟨n1, hn1, hN1⟩ := ok.near k (.inr (List.mem_append_right _ List.mem_cons_self))
    have k0 : 0 ≤ k := hN1.1
    refine ⟨.ref F, rfl, .inl ⟨rfl, _, .inl (.inl ok.lF)⟩, F, _, .int k, rfl, rfl, ok.lF, ?_, ?_⟩
    · rw [List.map_append, List.length_append, List.length_map]
      show (gs.map V.int ++ [V.int k])[gs.length + 1 - 1]? = _
      rw [Nat.add_sub_cancel, List.getElem?_append_right (by rw [List.length_map]; omega), List.length_map, Nat.sub_self]
      rfl
    have edl : ((gs ++ [k]).map V.int).dropLast = gs.map V.int := by rw [List.map_append]; exact List.dropLast_concat
    rw [edl]
    have k5 : Keep2 H4 (upd H4 F (.lst (gs.map V.int))) C F := keep2_f
    have dC5 : (upd H4 F (.lst (gs.map V.int))) C = some (.dK (dkV es)) := by rw [upd_ne ok.ne]; exact ok.dC
    obtain ⟨o, dg, ho⟩ := din_of k dC5
    refine ⟨.int k, rfl, .ref C, rfl, C, o, rfl, dg, _, rfl, ite2 (fun c => ?_) (fun c => ?_)⟩
    · have kn : k ∉ es.map (·.1) := fun x => by
        rw [ho.mpr x] at c
        cases c
      have same5 : Same H (upd H4 F (.lst (gs.map V.int))) := fun b o e => by
        rw [upd_ne (ne_of_none e ok.nF)]
        exact ok.same b o e
      refine ⟨.ref a, rfl, .int k, rfl, a, t, N, k, ads, rfl, hS.same same5, hR, k0, fun H6 L s6 nL rL => ?_⟩
      have LC : L ≠ C := fun x => by rw [x, dC5] at nL; cases nL
      have LF : L ≠ F := fun x => by rw [x, upd_same] at nL; cases nL
      have lt : es.length < sizeLine := by
        have : ns.length * 2121 ≤ 200 * 2121 := Nat.mul_le_mul_right _ h200
        rw [sizeLine_eq]
        omega
      refine ⟨.ref C, rfl, .int k, rfl, C, _, rfl, dput_of (s6 _ _ dC5) kn lt, ?_⟩
      have k7 : Keep2 H6 (upd H6 C (.dK (dkV (es ++ [(k, .ref L)])))) C F := keep2_c
      have dC7 : (upd H6 C (.dK (dkV (es ++ [(k, .ref L)])))) C = some (.dK (dkV (es ++ [(k, .ref L)]))) := upd_same
      have lF7 : (upd H6 C (.dK (dkV (es ++ [(k, .ref L)])))) F = some (.lst (gs.map V.int)) := by rw [upd_ne (Ne.symm ok.ne)]; exact s6 _ _ upd_same
      have rL7 : RowsAt (upd H6 C (.dK (dkV (es ++ [(k, .ref L)])))) L ((callsO N ads k).map pV) := rL.keep k7 LC LF (fun t x => by rw [s6 _ _ dC5] at x; cases x) (fun t x => by rw [s6 _ _ upd_same] at x; cases x)
      generalize (upd H6 C (.dK (dkV (es ++ [(k, .ref L)])))) = H7 at k7 dC7 lF7 rL7
      have nd7 : ((es ++ [(k, V.ref L)]).map (·.1)).Nodup := by
        rw [List.map_append]
        refine List.nodup_append.mpr ⟨ok.nd, by simp, fun x hx y hy => ?_⟩
        rw [List.mem_singleton.mp hy]
        exact fun z => kn (by have z2 : x = k := z; rw [← z2]; exact hx)
      have mk : (k, V.ref L) ∈ es ++ [(k, V.ref L)] := List.mem_append_right _ List.mem_cons_self
      refine ⟨.ref F, rfl, .inl ⟨rfl, _, .inl (.inl lF7)⟩, ?_⟩
      obtain ⟨rs, hrs, lrs, ars⟩ := rL7.refs
      rw [List.length_map] at lrs
      have l5 := callsO_len5 hR k
      refine ⟨.ref C, rfl, .int k, rfl, C, .ref L, rfl, dget_of dC7 nd7 mk, L, rfl, ⟨_, .inl (.inl hrs)⟩, fun B nB => ?_⟩
      refine lc_std (walk_list (K := K) (a := L) (xs := rs.map V.ref)) (callsO N ads k) (fun p => some (.int p.1)) (by rw [List.length_map, lrs]) (small1000 (by rw [List.length_map]; omega)) nB (fun H8 s8 => .inl (.inl (s8 _ _ hrs))) (fun i x H8 H9 p R hp s8 y hR => ?_) (fun H8 s8 e8 => ?_)
      · obtain ⟨rfl, g⟩ := y
        rw [List.getElem?_map] at g
        cases er : rs[i]? with
        | none => rw [er] at g; cases g
        | some r =>
          rw [er] at g
          cases g
          have hT := s8 _ _ (ars i r (pV p) er (by rw [List.getElem?_map, hp]; rfl))
          exact ⟨r, _, rfl, .inl (.inl hT), rfl, _, _, rfl, _, _, rfl, rfl, rfl, .int p.1, rfl, hR _ (Same.refl _)⟩
      · have e9 : (callsO N ads k).filterMap (fun p => some (V.int p.1)) = ((callsO N ads k).map (·.1)).map V.int := by
          rw [filterMap_some, List.map_map]
          rfl
        rw [e9] at e8
        have BF : B ≠ F := fun x => by rw [x, lF7] at nB; cases nB
        refine ⟨F, B, _, _, rfl, rfl, s8 _ _ lF7, e8, ?_, ?_⟩
        · have : ns.length * 2121 ≤ 200 * 2121 := Nat.mul_le_mul_right _ h200
          have f1 := ok.few
          rw [lg] at f1
          rw [List.length_map, List.length_map, List.length_map, sizeLine_eq]
          omega
        rw [← List.map_append]
        have kk : Keep2 H4 (upd H8 F (.lst ((gs ++ (callsO N ads k).map (·.1)).map V.int))) C F := k5.trans (s6.keep2.trans (k7.trans (s8.keep2.trans keep2_f)))
        have dC9 : (upd H8 F (.lst ((gs ++ (callsO N ads k).map (·.1)).map V.int))) C = some (.dK (dkV (es ++ [(k, .ref L)]))) := by rw [upd_ne ok.ne]; exact s8 _ _ dC7
        have rL9 : RowsAt (upd H8 F (.lst ((gs ++ (callsO N ads k).map (·.1)).map V.int))) L ((callsO N ads k).map pV) := (rL7.same s8).keep keep2_f LC LF (fun t x => by rw [s8 _ _ dC7] at x; cases x) (fun t x => by rw [s8 _ _ lF7] at x; cases x)
        have ok' : CallsOk H (upd H8 F (.lst ((gs ++ (callsO N ads k).map (·.1)).map V.int))) C F N ads ns (es ++ [(k, .ref L)]) (gs ++ (callsO N ads k).map (·.1)) := by
          refine ⟨fun b o e => kk b o (ok.same b o e) (ne_of_none e ok.nC) (ne_of_none e ok.nF), ok.nC, ok.nF, ok.ne, dC9, upd_same, nd7, fun e he => ?_, fun e he p hp => ?_, fun n h => ?_, fun c hc => ?_, ?_⟩
          · rcases List.mem_append.mp he with m | m
            · obtain ⟨L', e1, e2, e3, e4⟩ := ok.rows e m
              exact ⟨L', e1, e2, e3, e4.keep kk e2 e3 tC tF⟩
            · rw [List.mem_singleton.mp m]
              exact ⟨L, rfl, LC, LF, rL9⟩
          · rw [List.map_append]
            rcases List.mem_append.mp he with m | m
            · rcases ok.closed e m p hp with x | x
              · exact .inl (List.mem_append_left _ x)
              · rcases List.mem_append.mp x with x | x
                · exact .inr (List.mem_append_left _ x)
                · rw [List.mem_singleton.mp x]
                  exact .inl (List.mem_append_right _ List.mem_cons_self)
            · rw [List.mem_singleton.mp m] at hp
              exact .inr (List.mem_append_right _ (List.mem_map.mpr ⟨p, hp, rfl⟩))
          · rw [List.map_append]
            rcases ok.all n h with x | x
            · exact .inl (List.mem_append_left _ x)
            · rcases List.mem_append.mp x with x | x
              · exact .inr (List.mem_append_left _ x)
              · rw [List.mem_singleton.mp x]
                exact .inl (List.mem_append_right _ List.mem_cons_self)
          · rw [List.map_append] at hc
            have old : (c ∈ es.map (·.1) ∨ c ∈ gs ++ [k]) → ∃ n ∈ ns, Near N n c := ok.near c
            rcases hc with x | x
            · rcases List.mem_append.mp x with x | x
              · exact old (.inl x)
              · exact old (.inr (List.mem_append_right _ x))
            · rcases List.mem_append.mp x with x | x
              · exact old (.inr (List.mem_append_left _ x))
              · obtain ⟨p, hp, rfl⟩ := List.mem_map.mp x
                obtain ⟨_, _, _, _, a', ha, hl, hp1⟩ := callsO_mem hR k0 hp
                have r' := hR.rng a' ha
                rw [hp1]
                exact ⟨n1, hn1, hN1.step hR.d2 r'.1 r'.2 hl⟩
          · have f1 := ok.few
            rw [lg] at f1
            rw [List.length_append, List.length_append, List.length_map, List.length_singleton]
            omega
        have bd' := ok'.bound hR hn
        rw [List.length_append, List.length_singleton] at bd'
        refine ⟨_, ?_, _, _, _, rfl, rfl, ok'⟩
        rw [List.length_append, List.length_append, List.length_singleton, List.length_map, lg]
        omega
    · have km : k ∈ es.map (·.1) := by
        refine ho.mp ?_
        cases x : o.isSome with
        | true => rfl
        | false => rw [x] at c; exact absurd rfl c
      have ok' : CallsOk H (upd H4 F (.lst (gs.map V.int))) C F N ads ns es gs := by
        refine ⟨fun b o e => k5 b o (ok.same b o e) (ne_of_none e ok.nC) (ne_of_none e ok.nF), ok.nC, ok.nF, ok.ne, dC5, upd_same, ok.nd, fun e he => ?_, fun e he p hp => ?_, fun n h => ?_, fun c hc => ok.near c (hc.imp id (List.mem_append_left _)), ?_⟩
        · obtain ⟨L', e1, e2, e3, e4⟩ := ok.rows e he
          exact ⟨L', e1, e2, e3, e4.keep k5 e2 e3 tC tF⟩
        · rcases ok.closed e he p hp with x | x
          · exact .inl x
          · rcases List.mem_append.mp x with x | x
            · exact .inr x
            · rw [List.mem_singleton.mp x]
              exact .inl km
        · rcases ok.all n h with x | x
          · exact .inl x
          · rcases List.mem_append.mp x with x | x
            · exact .inr x
            · rw [List.mem_singleton.mp x]
              exact .inl km
        · have f1 := ok.few
          rw [lg] at f1
          omega
      exact ⟨_, by rw [lg]; omega, _, _, _, rfl, rfl, ok'⟩
  · have fe : fs = [] := by
      cases fs with
      | nil => rfl
      | cons x r => exact absurd rfl e
    subst fe
    refine fun T nT => ?_
    have sT := same_upd (o := .dK ([] : List (Key × V))) nT
    have CT : C ≠ T := fun x => by rw [← x, ok.dC] at nT; cases nT
    refine ⟨.ref C, rfl, C, _, rfl, sT _ _ ok.dC, fun l1 nl1 => ?_⟩
    rw [dkV_keys]
    have s1 := same_upd (o := .lst ((es.map (·.1)).map V.int)) nl1
    refine ⟨l1, _, rfl, .inl (.inl upd_same), fun ks l2 perm srt nl2 => ?_⟩
    have s2 := same_upd (o := .lst (ks.map V.int)) nl2
    have hb : Same H4 (upd (upd (upd H4 T (.dK [])) l1 (.lst ((es.map (·.1)).map V.int))) l2 (.lst (ks.map V.int))) := sT.trans (s1.trans s2)
    have dT0 : (upd (upd (upd H4 T (.dK [])) l1 (.lst ((es.map (·.1)).map V.int))) l2 (.lst (ks.map V.int))) T = some (.dK (dkV [])) := s2 _ _ (s1 _ _ upd_same)
    have hl2 : (upd (upd (upd H4 T (.dK [])) l1 (.lst ((es.map (·.1)).map V.int))) l2 (.lst (ks.map V.int))) l2 = some (.lst (ks.map V.int)) := upd_same
    generalize (upd (upd (upd H4 T (.dK [])) l1 (.lst ((es.map (·.1)).map V.int))) l2 (.lst (ks.map V.int))) = H5 at hb dT0 hl2
    have l2T : l2 ≠ T := fun x => by rw [x, dT0] at hl2; cases hl2
    have ndk : ks.Nodup := perm.nodup_iff.mpr ok.nd
    have lk : ks.length = es.length := by rw [perm.length_eq, List.length_map]
    refine ⟨l2, rfl, ⟨_, .inl (.inl hl2)⟩, ?_⟩
    refine for_it (walk_list (K := K) (a := l2) (xs := ks.map V.int)) (fun i σ H6 => ∃ y4 y6 ts, σ = [some (.ref a), some (.ref l), some (.ref C), some (.ref F), y4, some (.ref T), y6, none, none, none] ∧ Keep2 H5 H6 T T ∧ H6 T = some (.dK (dkV ts)) ∧ ts.map (·.1) = ks.take i ∧ ∀ e ∈ ts, e.2 = oV (tk N ads e.1))
      ⟨y4, none, [], rfl, fun b o e _ _ => e, dT0, rfl, fun _ h => (by cases h)⟩ (fun i σ H6 _ hW => ?_) (fun i x σ H6 H7 hi hW y => ?_) (fun σ H6 hW => ?_)
    · obtain ⟨_, _, _, _, kp, _, _, _⟩ := hW
      exact .inl (.inl (kp _ _ hl2 l2T l2T))
    · obtain ⟨y4, y6, ts, rfl, kp, dT, em, et⟩ := hW
      obtain ⟨rfl, g⟩ := y
      rw [List.getElem?_map] at g
      cases ek : ks[i]? with
      | none => rw [ek] at g; cases g
      | some k =>
        rw [ek] at g
        cases g
        have kk : k ∈ es.map (·.1) := perm.mem_iff.mp (List.mem_of_getElem? ek)
        obtain ⟨v, hv⟩ := at_key kk
        obtain ⟨L, eL, LC, LF, rL⟩ := ok.rows _ hv
        have k0 : 0 ≤ k := by
          obtain ⟨_, _, hN1⟩ := ok.near k (.inl kk)
          exact hN1.1
        dsimp only at eL
        subst eL
        have dC6 : H7 C = some (.dK (dkV es)) := kp _ _ (hb _ _ ok.dC) CT CT
        have LT : L ≠ T := fun x => by
          obtain ⟨rs, hrs, _, _⟩ := rL.refs
          rw [x] at hrs
          rw [hrs] at nT
          cases nT
        have rL6 : RowsAt H7 L ((callsO N ads k).map pV) := (rL.same hb).keep kp LT LT (fun t x => by rw [dT0] at x; cases x) (fun t x => by rw [dT0] at x; cases x)
        obtain ⟨rs, hrs, lrs, ars⟩ := rL6.refs
        rw [List.length_map] at lrs
        have l5 := callsO_len5 hR k
        have ndt : (ts.map (·.1)).Nodup := by rw [em]; exact ndk.sublist (List.take_sublist _ _)
        have have_p : ∀ p ∈ callsO N ads k, (p.1, oV (tk N ads p.1)) ∈ ts := fun p hp => by
          have z := callsO_mem hR k0 hp
          have m1 : p.1 ∈ es.map (·.1) := by
            rcases ok.closed _ hv p hp with x | x
            · exact x
            · cases x
          have m2 : p.1 ∈ ks.take i := srt_take srt ek (perm.mem_iff.mpr m1) z.2.1
          rw [← em] at m2
          obtain ⟨v, hv2⟩ := at_key m2
          have e2 := et _ hv2
          dsimp only at e2
          rw [← e2]
          exact hv2
        refine ⟨.ref C, rfl, .int k, rfl, C, .ref L, rfl, dget_of dC6 ok.nd hv, L, rfl, ⟨_, .inl (.inl hrs)⟩, fun B nB => ?_⟩
        refine lc_std (walk_list (K := K) (a := L) (xs := rs.map V.ref)) (callsO N ads k) (fun p => (tk N ads p.1).map fun t => V.int (t + p.2)) (by rw [List.length_map, lrs]) (small1000 (by rw [List.length_map]; omega)) nB (fun H8 s8 => .inl (.inl (s8 _ _ hrs))) (fun j x H8 H9 p R hp s8 y hR => ?_) (fun H8 s8 e8 => ?_)
        · obtain ⟨rfl, g⟩ := y
          rw [List.getElem?_map] at g
          cases er : rs[j]? with
          | none => rw [er] at g; cases g
          | some r =>
            rw [er] at g
            cases g
            have hT := s8 _ _ (ars j r (pV p) er (by rw [List.getElem?_map, hp]; rfl))
            have dg := dget_of (s8 _ _ dT) ndt (have_p p (List.mem_of_getElem? hp))
            refine ⟨r, _, rfl, .inl (.inl hT), rfl, _, _, rfl, _, _, rfl, rfl, rfl, ?_⟩
            refine ⟨.ref T, rfl, .int p.1, rfl, T, _, rfl, dg, rfl, ?_⟩
            cases et : tk N ads p.1 with
            | none =>
              rw [et] at hR
              exact ⟨false, rfl, iteF (hR _ (Same.refl _))⟩
            | some x =>
              rw [et] at hR dg
              exact ⟨true, rfl, iteT ⟨.ref T, rfl, .int p.1, rfl, T, _, rfl, dg, .int p.2, rfl, x, _, rfl, rfl, hR _ (Same.refl _)⟩⟩
        · have e9 : (callsO N ads k).filterMap (fun p => (tk N ads p.1).map fun t => V.int (t + p.2)) = ((callsO N ads k).filterMap fun p => (tk N ads p.1).map (· + p.2)).map V.int := by
            rw [List.map_filterMap]
            refine fm_congr fun p _ => ?_
            rw [Option.map_map]
            rfl
          rw [e9] at e8
          have kt : k ∉ ts.map (·.1) := fun x => by
            rw [em] at x
            obtain ⟨j, hj, ej⟩ := List.mem_take_iff_getElem.mp x
            obtain ⟨li, ei⟩ := List.getElem?_eq_some_iff.mp ek
            have z : (ks[j]'(by omega)) = ks[i] := by rw [ej, ei]
            exact (List.pairwise_iff_getElem.mp ndk) j i (by omega) li (by omega) z
          have lt : ts.length < sizeLine := by
            have : ns.length * 2121 ≤ 200 * 2121 := Nat.mul_le_mul_right _ h200
            have e1 : ts.length ≤ ks.length := by
              rw [← List.length_map (·.1), em, List.length_take]
              omega
            rw [sizeLine_eq]
            omega
          have fin : ∀ v, v = oV (tk N ads k) → ∃ (a_1 : Addr) (H4 : Hp), V.ref T = V.ref a_1 ∧ DPut H8 a_1 (.int k) v H4 ∧ ∃ y4 y6 ts, ([some (.ref a), some (.ref l), some (.ref C), some (.ref F), some (.int k), some (.ref T), some (.ref B), none, none, none] : L2.St) = [some (.ref a), some (.ref l), some (.ref C), some (.ref F), y4, some (.ref T), y6, none, none, none] ∧ Keep2 H5 H4 T T ∧ H4 T = some (.dK (dkV ts)) ∧ ts.map (·.1) = ks.take (i + 1) ∧ ∀ e ∈ ts, e.2 = oV (tk N ads e.1) := fun v ev => by
            refine ⟨T, _, rfl, dput_of (s8 _ _ dT) kt lt, _, _, _, rfl, kp.trans (s8.keep2.trans keep2_c), upd_same, ?_, fun e he => ?_⟩
            · rw [List.map_append, em, List.take_add_one, ek]
              rfl
            · rcases List.mem_append.mp he with m | m
              · exact et e m
              · rw [List.mem_singleton.mp m]
                exact ev
          refine ⟨_, rfl, rfl, _, rfl, ite2 (fun c => ?_) (fun c => ?_)⟩
          · have c' : k = 0 := by
              have z3 : V.int k = V.int 0 := of_decide_eq_true c
              injection z3
            refine ⟨.ref T, rfl, .int k, rfl, fin (.int 0) ?_⟩
            rw [c', tk_zero]
            rfl
          · have c' : ¬ k = 0 := fun x => c (decide_eq_true (by rw [x]))
            refine ⟨.ref B, rfl, B, _, .non, rfl, rfl, .inl (.inl e8), .ref T, rfl, .int k, rfl, fin _ ?_⟩
            rw [orD_non, tk_eq hR (by omega)]
    · obtain ⟨y4, y6, ts, rfl, kp, dT, em, et⟩ := hW
      rw [List.length_map, List.take_length] at em
      refine ⟨.ref T, rfl, q H6 T ts (fun b o e => ?_) (Same.free ok.same nT) dT (by rw [em]; exact ndk) et (fun e he p hp => ?_) fun n hm => ?_⟩
      · exact kp _ _ (hb _ _ (ok.same b o e)) (ne_of_none (ok.same b o e) nT) (ne_of_none (ok.same b o e) nT)
      · have m1 : e.1 ∈ es.map (·.1) := by
          refine perm.mem_iff.mp ?_
          rw [← em]
          exact List.mem_map.mpr ⟨e, he, rfl⟩
        obtain ⟨v, hv⟩ := at_key m1
        rw [em]
        rcases ok.closed _ hv p hp with x | x
        · exact perm.mem_iff.mpr x
        · cases x
      · rw [em]
        rcases ok.all n hm with x | x
        · exact perm.mem_iff.mpr x
        · cases x
end
end LK
namespace LK
open PySem PySem.Spec PyProof.Rows L2 CD
section
variable {P : Program} {w : World} {K : PySem.W.Frag} {mg : Str → Option Value} {base : Heap}
def spTickAt (K : PySem.W.Frag) : Sp := fun vs H Q _ => ∃ (a t : Addr) (N n : Int) (ads : List Int), vs = [.ref a, .int n] ∧ ScAt K H a t N ads ∧ IsSc N ads ∧ 0 ≤ n ∧ n ≤ 10 ^ 30 ∧ ∀ H', Same H H' → Q (oV (tk N ads n)) H'
theorem cal_tick_at (z : Z mg) (c_need_scaled : Cal P w K mg base 3 "need_scaled" p_need_scaled (spNeedSc K)) (c_need_person : Cal P w K mg base 3 "need_person" p_need_person (spNeedNum 0))
    (c_ticks_of : Cal P w K mg base 3 "ticks_of" p_ticks_of (spTicksOf K)) (D : Def K mg "tick_at" s_tick_at p_tick_at) : Cal P w K mg base 4 "tick_at" p_tick_at (spTickAt K) := by
  refine D.cal sc_tick_at (fun vs H Q E h => by obtain ⟨_, _, _, _, _, rfl, _⟩ := h; rfl) fun f cdv A outer s H vs Q E hr h => ?_
  obtain ⟨a, t, N, n, ads, rfl, hS, hR, n0, n30, q⟩ := h
  have hu := hu_of hr
  refine ⟨_, (pss_cons (ps_expr (pe_cal c_need_scaled (hr.mono (by decide)) (by rfl) (pa_cons (pv 0) pa_nil)))
        (pss_cons (ps_expr (pe_cal c_need_person (hr.mono (by decide)) (by rfl) (pa_cons (pv 1) pa_nil)))
        (pss_one (ps_ret (pe_dget hu (pe_cal c_ticks_of (hr.mono (by decide)) (by rfl) (pa_cons (pv 0) (pa_cons (pe_lst (pa_cons (pv 1) pa_nil)) pa_nil))) (pv 1) (fun _ _ => rfl)))))), ?_⟩
  refine ⟨.ref a, rfl, a, t, N, ads, rfl, hS, hR, fun H1 s1 => ?_⟩
  refine ⟨.int n, rfl, n, rfl, n0, n30, ?_⟩
  refine ⟨.ref a, rfl, .int n, rfl, (by decide : 1 ≤ sizeLine), fun l nl => ?_⟩
  have s2 := same_upd (o := .lst [V.int n]) nl
  refine ⟨a, t, l, N, ads, [n], rfl, (hS.same s1).same s2, hR, .inl (.inl upd_same), (by decide : 1 ≤ 200), fun m hm => by rw [List.mem_singleton.mp hm]; exact ⟨n0, n30⟩, fun H3 d es s3 nd hd ndk het hcl hin => ?_⟩
  obtain ⟨v, hv⟩ := at_key (hin n List.mem_cons_self)
  have ev := het _ hv
  dsimp only at ev
  subst ev
  exact ⟨.int n, rfl, d, _, rfl, dget_of hd ndk hv, q H3 (s1.trans (s2.trans s3))⟩
def spIsPlain (K : PySem.W.Frag) : Sp := fun vs H Q _ => ∃ (a t : Addr) (N : Int) (ads : List Int), vs = [.ref a] ∧ ScAt K H a t N ads ∧ IsSc N ads ∧ ∀ H', Same H H' → Q (.bl (decide (Plain N ads))) H'
theorem cal_is_plain (z : Z mg) (c_need_scaled : Cal P w K mg base 3 "need_scaled" p_need_scaled (spNeedSc K)) (D : Def K mg "is_plain" s_is_plain p_is_plain) : Cal P w K mg base 4 "is_plain" p_is_plain (spIsPlain K) := by
  refine D.cal sc_is_plain (fun vs H Q E h => by obtain ⟨_, _, _, _, rfl, _⟩ := h; rfl) fun f cdv A outer s H vs Q E hr h => ?_
  obtain ⟨a, t, N, ads, rfl, hS, hR, q⟩ := h
  have h5 := hR.most
  have d2 := hR.d2
  refine ⟨_, (pss_cons (ps_expr (pe_cal c_need_scaled (hr.mono (by decide)) (by rfl) (pa_cons (pv 0) pa_nil)))
        (pss_cons (ps_asg (pv 0) (pg_tup rfl (pgs_cons (pg_name (i := 1) sc_is_plain.nd rfl (Or.inr rfl)) (pgs_cons (pg_name (i := 2) sc_is_plain.nd rfl (Or.inl rfl)) pgs_nil))))
        (pss_one (ps_ret (pe_cmpR op_eq (pe_lenSetGL (by rfl) z.«len» (by rfl) z.«set» (pe_lc (own := [("add", 3)]) (g := (gName 3)) (tt := tYes) rfl sc_is_plain.nd (pi_tup (pv 2)) (blkOk_by (N := n_is_plain) (sc := defScope s_is_plain) (by decide +kernel)) (fun _ _ _ _ _ => (pg_name (i := 3) sc_is_plain.nd rfl (Or.inl rfl))) (fun _ _ _ _ _ => pts_nil) (fun _ _ _ _ _ => (pe_op op_modN (pv 3) (pv 1))))) (pe_callB (call_len_seq) (by rfl) z.«len» (by decide +kernel) (pa_cons (pv 2) pa_nil)) (nomark _)))))), ?_⟩
  refine ⟨.ref a, rfl, a, t, N, ads, rfl, hS, hR, fun H1 s1 => ?_⟩
  have hS1 := hS.same s1
  refine ⟨.ref a, rfl, a, _, rfl, hS1.sc, rfl, _, _, rfl, _, _, rfl, rfl, ?_⟩
  refine ⟨.ref t, rfl, t, rfl, ⟨_, hS1.ads⟩, fun L nL => ?_⟩
  refine lc_std (walk_tup (K := K) (a := t) (xs := ads.map V.int)) ads (fun n => some (.int (n % N))) (by rw [List.length_map]) (small1000 (by rw [List.length_map]; omega)) nL (fun H2 s2 => s2.tup hS1.ads) (fun i x H2 H3 n R hn s2 y hR => ?_) (fun H2 s2 e3 => ?_)
  · obtain ⟨rfl, g⟩ := y
    obtain rfl := map_at hn g
    refine ⟨rfl, .int n, rfl, .int N, rfl, n, N, rfl, rfl, (by omega : N ≠ 0), ?_⟩
    have ef : n.fmod N = n % N := Int.fmod_eq_emod_of_nonneg _ (by omega : 0 ≤ N)
    show R (some (.int (n.fmod N))) H3
    rw [ef]
    exact hR _ (Same.refl _)
  · rw [filterMap_some] at e3
    have e4 : ads.map (fun n => V.int (n % N)) = (ads.map (· % N)).map V.int := by rw [List.map_map]; rfl
    rw [e4] at e3
    refine ⟨L, _, rfl, .inl (.inl e3), by rw [List.length_map]; omega, fun ks nd hm => ?_⟩
    refine ⟨.ref t, rfl, t, _, rfl, .inr (s2.tup hS1.ads), rfl, ?_⟩
    rw [List.length_map]
    have eq : decide (V.int (ks.length : Nat) = V.int (ads.length : Nat)) = decide (Plain N ads) := by
      refine decide_eq_decide.mpr ⟨fun e => ?_, fun e => ?_⟩
      · injection e with e
        have el : ks.length = (ads.map (· % N)).length := by rw [List.length_map]; omega
        unfold Plain
        -- as many unlike ones as there are
        refine Decidable.by_contra fun nn => ?_
        have key : ∀ l : List Int, ¬ l.Nodup → ∃ D : List Int, D.length < l.length ∧ ∀ x ∈ l, x ∈ D := by
          intro l
          induction l with
          | nil => intro h; exact absurd List.nodup_nil h
          | cons x r ih =>
            intro h
            by_cases c : x ∈ r
            · exact ⟨r, by simp, fun y hy => by
                rcases List.mem_cons.mp hy with e | m
                · rw [e]; exact c
                · exact m⟩
            · obtain ⟨D, h1, h2⟩ := ih fun z => h (List.nodup_cons.mpr ⟨c, z⟩)
              exact ⟨x :: D, by simpa using h1, fun y hy => by
                rcases List.mem_cons.mp hy with e | m
                · rw [e]; exact List.mem_cons_self
                · exact List.mem_cons_of_mem _ (h2 y m)⟩
        obtain ⟨D, h1, h2⟩ := key _ nn
        have := nodup_lenT ks D nd fun x hx => h2 x ((hm x).mp hx)
        omega
      · have h1 := nodup_lenT ks (ads.map (· % N)) nd fun x hx => (hm x).mp hx
        have h2 := nodup_lenT (ads.map (· % N)) ks e fun x hx => (hm x).mpr hx
        rw [List.length_map] at h1 h2
        have : ks.length = ads.length := by omega
        rw [this]
    have z3 := q H2 (s1.trans s2)
    rw [← eq] at z3
    exact z3
end
end LK
namespace LK
open PySem PySem.Spec PyProof.Rows L2 CD
section
variable {P : Program} {w : World} {K : PySem.W.Frag} {mg : Str → Option Value} {base : Heap}
/-! ### draws -/
abbrev kC : Key := .inr "cells"
abbrev kG : Key := .inr "great"
abbrev kS : Key := .inr "spot"
theorem nCG : ¬ kC = kG := by decide
theorem nCS : ¬ kC = kS := by decide
theorem nGS : ¬ kG = kS := by decide
def kvM (c g k : V) : List (Key × V) := [(kC, c), (kG, g), (kS, k)]
theorem getM1 (c g k : V) : valV (kvM c g k) kC = some c := by simp [valV, kvM]
theorem getM2 (c g k : V) : valV (kvM c g k) kG = some g := by
  have h := nCG
  simp [valV, kvM, h]
theorem getM3 (c g k : V) : valV (kvM c g k) kS = some k := by
  have h := nCS
  have h2 := nGS
  simp [valV, kvM, h, h2]
theorem putM2 (c g k v : V) : putK (kvM c g k) kG v = kvM c v k := by
  have h := nCG
  have h2 : ¬ kS = kG := fun e => nGS e.symm
  simp [putK, kvM, h, h2]
theorem putM3 (c g k v : V) : putK (kvM c g k) kS v = kvM c g v := by
  have h := nCS
  have h2 := nGS
  simp [putK, kvM, h, h2]
/-- the state of the draws at d, what is left of great cells at g; at most n drawn -/
structure Draw (H : Hp) (d g c : Addr) (n : Nat) : Prop where
  ex : ∃ (cells greats : List Int) (spot : Nat), H d = some (.dK (kvM (.ref c) (.ref g) (.int spot))) ∧ H c = some (.lst (cells.map V.int)) ∧ H g = some (.lst (greats.map V.int)) ∧ c ≠ g ∧ cells.length ≤ 1000 ∧ greats.length ≤ 1000 ∧ spot ≤ n
/-- all that was tracked stays, but the draws -/
def But (H H' : Hp) (d g : Addr) : Prop := ∀ b o, H b = some o → b ≠ d → b ≠ g → H' b = some o
def spBegun (K : PySem.W.Frag) : Sp := fun vs H Q _ => ∃ (a : Addr) (ns : List Int), vs = [.ref a] ∧ SqL K H a (ns.map V.int) ∧ ns.length ≤ 63 ∧ ∀ H' d g c, Same H H' → H d = none → H g = none → H c = none → Draw H' d g c 0 → Q (.ref d) H'
theorem cal_law_begun (z : Z mg) (D : Def K mg "_law_begun" s__law_begun p__law_begun) : Cal P w K mg base 2 "_law_begun" p__law_begun (spBegun K) := by
  refine D.cal sc__law_begun (fun vs H Q E h => by obtain ⟨_, _, rfl, _⟩ := h; rfl) fun f cdv A outer s H vs Q E hr h => ?_
  obtain ⟨a, ns, rfl, hS, hl, q⟩ := h
  refine ⟨_, (pss_cons (ps_setLc (i := 1) (own := [("cell", 2)]) (g := (gName 2)) rfl sc__law_begun.nd rfl rfl (sw_true rfl rfl rfl (by decide +kernel)) (pi_list (pv 0)) (blkOk_by (N := n__law_begun) (sc := defScope s__law_begun) (by decide +kernel)) (fun _ _ _ _ _ => (pg_name (i := 2) sc__law_begun.nd rfl (Or.inl rfl))) (fun _ _ _ _ _ => (pts_one (pt_cmpR op_ge (pv 2) (pe_op op_pow pe_int pe_int) (nomark _)))) (fun _ _ _ _ _ => (pv 2)))
        (pss_one (ps_ret (pe_disp (pps_cons pe_str (pe_callTy (call_list_of) (by rfl) z.«list» (by decide +kernel) (pa_cons (pv 0) pa_nil)) (pps_cons pe_str (pv 1) (pps_cons pe_str pe_int pps_nil))) (by rfl) (by rfl) (fun z => by cases z) (by decide))))), ?_⟩
  refine ⟨.ref a, rfl, a, rfl, ⟨_, hS⟩, fun g ng => ?_⟩
  refine lc_std (walk_list (K := K) (a := a) (xs := ns.map V.int)) ns (fun n => if 10 ^ 18 ≤ n then some (.int n) else none) (by rw [List.length_map]) (small1000 (by rw [List.length_map]; omega)) ng (fun H2 s2 => s2.seq hS) (fun i x H2 H3 n R hn s2 y hR => ?_) (fun H2 s2 e => ?_)
  · obtain ⟨rfl, gg⟩ := y
    obtain rfl := map_at hn gg
    refine ⟨rfl, .int n, rfl, 10, 18, rfl, rfl, ⟨by decide, by decide, by decide⟩, n, 10 ^ 18, rfl, rfl, _, rfl, ite2 (fun c => ?_) (fun c => ?_)⟩
    · have c' : (10 : Int) ^ 18 ≤ n := of_decide_eq_true c
      have z2 := hR _ (Same.refl _)
      rw [if_pos c'] at z2
      exact ⟨.int n, rfl, z2⟩
    · have c' : ¬ (10 : Int) ^ 18 ≤ n := fun x => c (decide_eq_true x)
      have z2 := hR _ (Same.refl _)
      rw [if_neg c'] at z2
      exact z2
  · have e2 : ns.filterMap (fun n => if 10 ^ 18 ≤ n then some (V.int n) else none) = (ns.filter fun n => decide (10 ^ 18 ≤ n)).map V.int := by
      clear e hl hS q ng
      induction ns with
      | nil => rfl
      | cons n r ih =>
        rw [List.filterMap_cons, List.filter_cons]
        by_cases c : (10 : Int) ^ 18 ≤ n
        · rw [if_pos c, if_pos (decide_eq_true c), List.map_cons, ← ih]
        · rw [if_neg c, if_neg (by simpa using c), ← ih]
    rw [e2] at e
    -- the display
    intro d nd
    have sd : Same H2 (upd H2 d (.dK [])) := same_upd nd
    refine ⟨.ref a, rfl, a, _, rfl, .inl (sd.seq (s2.seq hS)), fun c nc => ?_⟩
    have sc : Same (upd H2 d (.dK [])) (upd (upd H2 d (.dK [])) c (.lst (ns.map V.int))) := same_upd nc
    refine ⟨.ref g, rfl, ?_⟩
    have hd : (upd (upd H2 d (.dK [])) c (.lst (ns.map V.int))) d = some (.dK []) := sc _ _ upd_same
    refine ⟨hd, kvM (.ref c) (.ref g) (.int 0), rfl, (by decide : 3 ≤ 15), ?_⟩
    have em : mergeK [] (kvM (.ref c) (.ref g) (.int 0)) = kvM (.ref c) (.ref g) (.int 0) := by
      have h1 := nCG
      have h2 := nCS
      have h3 := nGS
      simp [mergeK, kvM, putK, h1, h2, h3]
    rw [em]
    have cg : c ≠ g := fun x => by
      rw [x, sd _ _ e] at nc
      cases nc
    have cd : c ≠ d := fun x => by
      rw [x, upd_same] at nc
      cases nc
    have gd : g ≠ d := fun x => by
      rw [← x, e] at nd
      cases nd
    refine q _ d g c (fun b o hb => ?_) (Same.free s2 nd) ng (Same.free (s2.trans sd) nc) ⟨ns, ns.filter fun n => decide (10 ^ 18 ≤ n), 0, upd_same, ?_, ?_, cg, by omega, Nat.le_trans (List.length_filter_le _ _) (by omega), Nat.le_refl _⟩
    · have nb : b ≠ d := ne_of_none hb (Same.free s2 nd)
      rw [upd_ne nb]
      exact sc _ _ (sd _ _ (s2 _ _ hb))
    · rw [upd_ne cd, upd_same]
    · rw [upd_ne gd]
      exact sc _ _ (sd _ _ e)
theorem gM1 {H : Hp} {d : Addr} {c g k : V} (h : H d = some (.dK (kvM c g k))) : DGet H d (.str "cells") (some c) := getM1 c g k ▸ DGet.k (k := kC) h
theorem gM2 {H : Hp} {d : Addr} {c g k : V} (h : H d = some (.dK (kvM c g k))) : DGet H d (.str "great") (some g) := getM2 c g k ▸ DGet.k (k := kG) h
theorem gM3 {H : Hp} {d : Addr} {c g k : V} (h : H d = some (.dK (kvM c g k))) : DGet H d (.str "spot") (some k) := getM3 c g k ▸ DGet.k (k := kS) h
theorem pM2 {H : Hp} {d : Addr} {c g k v : V} (h : H d = some (.dK (kvM c g k))) : DPut H d (.str "great") v (upd H d (.dK (kvM c v k))) := putM2 c g k v ▸ DPut.k (k := kG) (v := v) h (by decide : 3 < sizeLine)
theorem pM3 {H : Hp} {d : Addr} {c g k v : V} (h : H d = some (.dK (kvM c g k))) : DPut H d (.str "spot") v (upd H d (.dK (kvM c g v))) := putM3 c g k v ▸ DPut.k (k := kS) (v := v) h (by decide : 3 < sizeLine)
theorem log_small {t : Int} (h : t.natAbs < 2 ^ 100) : t.natAbs.log2 < 100 := by
  by_cases h0 : t.natAbs = 0
  · rw [h0]; decide
  · have := (Nat.log2_lt h0).mpr h
    omega
def spNext : Sp := fun vs H Q _ => ∃ (d g c : Addr) (n : Nat) (t : Int), vs = [.ref d, .int t] ∧ Draw H d g c n ∧ n < 2 ^ 40 ∧ 1 ≤ t ∧ t ≤ 10 ^ 30 ∧
  ∀ H' g' (v : Int), But H H' d g → (g' = g ∨ H g' = none) → Draw H' d g' c (n + 1) → 0 ≤ v → v < t → Q (.int v) H'
theorem But.refl (H : Hp) (d g : Addr) : But H H d g := fun _ _ h _ _ => h
theorem But.same {H H1 H2 : Hp} {d g : Addr} (h : But H H1 d g) (s : Same H1 H2) : But H H2 d g := fun b o e n1 n2 => s _ _ (h b o e n1 n2)
theorem ix0 {xs : List V} (h : xs ≠ []) : ixN xs.length 0 = some 0 := by
  have := List.length_pos_iff.mpr h
  unfold ixN
  rw [if_pos (Int.le_refl 0), if_pos (by omega)]
  rfl
theorem fmod_range {a t : Int} (h : 1 ≤ t) : 0 ≤ a.fmod t ∧ a.fmod t < t := by
  rw [Int.fmod_eq_emod_of_nonneg _ (by omega)]
  exact ⟨Int.emod_nonneg _ (by omega), Int.emod_lt_of_pos _ (by omega)⟩
theorem cut_ints (g0 : Int) (gs : List Int) : cutV ((g0 :: gs).map V.int) (some 1) none = gs.map V.int := by
  rw [cut_tail]
  rfl
theorem cal_law_next (z : Z mg) (D : Def K mg "_law_next" s__law_next p__law_next) : Cal P w K mg base 2 "_law_next" p__law_next spNext := by
  refine D.cal sc__law_next (fun vs H Q E h => by obtain ⟨_, _, _, _, _, rfl, _⟩ := h; rfl) fun f cdv A outer s H vs Q E hr h => ?_
  obtain ⟨d, g, c, n, t, rfl, ⟨cells, greats, spot, hd, hc, hg, ncg, lc, lg, hs⟩, hn, t1, t2, q⟩ := h
  have hu := hu_of hr
  have ncd : c ≠ d := ne_of hc hd (fun e => nomatch e)
  have ngd : g ≠ d := ne_of hg hd (fun e => nomatch e)
  refine ⟨_, (pss_cons (ps_while PassesOwn.never (PW.pt (pw_and (pt_cmpR (op_neD hr.units) (pe_dget hu (pv 0) pe_str (fun _ _ => rfl)) (pe_lst pa_nil) (nomark _)) (pw_and1 (pt_cmpR op_eq (pe_ix ix_list (pe_dget hu (pv 0) pe_str (fun _ _ => rfl)) pe_int (fun _ _ => rfl)) pe_int (nomark _))))) (pss_one (ps_dput hu (pv 0) pe_str (pe_slice sl_list (pe_dget hu (pv 0) pe_str (fun _ _ => rfl)) (po_some pe_int) po_none) rfl)))
        (pss_cons (ps_if (pt_cmpR (op_neD hr.units) (pe_dget hu (pv 0) pe_str (fun _ _ => rfl)) (pe_lst pa_nil) (nomark _)) (pss_cons (ps_set (i := 2) sc__law_next.nd rfl (Or.inl rfl) (pe_callTy (call_int1) (by rfl) z.«int» (by decide +kernel) (pa_cons (pe_ix ix_list (pe_dget hu (pv 0) pe_str (fun _ _ => rfl)) pe_int (fun _ _ => rfl)) pa_nil)))
        (pss_cons (ps_asg (pe_op op_fdivW (pv 2) (pv 1)) (pg_sub (pe_dget hu (pv 0) pe_str (fun _ _ => rfl)) pe_int set_list))
        (pss_one (ps_ret (pe_op op_modN (pv 2) (pv 1)))))) pss_nil)
        (pss_cons (ps_set (i := 3) sc__law_next.nd rfl (Or.inl rfl) (pe_op op_add (pe_dget hu (pv 0) pe_str (fun _ _ => rfl)) pe_int))
        (pss_cons (ps_dput hu (pv 0) pe_str (pv 3) rfl)
        (pss_cons (ps_set (i := 4) sc__law_next.nd rfl (Or.inl rfl) (pe_ifExp (pt_cmpR (op_neD hr.units) (pe_dget hu (pv 0) pe_str (fun _ _ => rfl)) (pe_lst pa_nil) (nomark _)) (pe_ix ix_list (pe_dget hu (pv 0) pe_str (fun _ _ => rfl)) (pe_op op_modN (pe_callTy (call_int1) (by rfl) z.«int» (by decide +kernel) (pa_cons (pv 3) pa_nil)) (pe_callB (call_len_seq) (by rfl) z.«len» (by decide +kernel) (pa_cons (pe_dget hu (pv 0) pe_str (fun _ _ => rfl)) pa_nil))) (fun _ _ => rfl)) pe_int))
        (pss_cons (ps_set (i := 5) sc__law_next.nd rfl (Or.inl rfl) (pe_op op_mul (pe_callTy (call_int1) (by rfl) z.«int» (by decide +kernel) (pa_cons (pe_op op_add (pe_op op_add (pe_op op_modN (pe_callTy (call_int1) (by rfl) z.«int» (by decide +kernel) (pa_cons (pv 4) pa_nil)) pe_int) (pe_op op_mul pe_int (pv 3))) (pe_op op_mul (pe_op op_mul pe_int (pv 3)) (pv 3))) pa_nil)) pe_int))
        (pss_cons (ps_set (i := 5) sc__law_next.nd rfl (Or.inl rfl) (pe_op op_mul (pe_callTy (call_int1) (by rfl) z.«int» (by decide +kernel) (pa_cons (pe_op op_add (pe_op op_modN (pe_callTy (call_int1) (by rfl) z.«int» (by decide +kernel) (pa_cons (pv 5) pa_nil)) pe_int) (pe_op op_mul pe_int (pv 3))) pa_nil)) pe_int))
        (pss_one (ps_ret (pe_op op_modN (pe_callTy (call_int1) (by rfl) z.«int» (by decide +kernel) (pa_cons (pe_op op_fdivN (pe_op op_modN (pe_callTy (call_int1) (by rfl) z.«int» (by decide +kernel) (pa_cons (pv 5) pa_nil)) pe_int) pe_int) pa_nil)) (pv 1))))))))))), ?_⟩
  refine ⟨fun m σ H2 => ∃ g2 gs2, m = gs2.length ∧ σ = [some (.ref d), some (.int t), none, none, none, none] ∧ H2 d = some (.dK (kvM (.ref c) (.ref g2) (.int spot))) ∧ H2 c = some (.lst (cells.map V.int)) ∧ H2 g2 = some (.lst (gs2.map V.int)) ∧ c ≠ g2 ∧ gs2.length ≤ 1000 ∧
      But H H2 d g ∧ (g2 = g ∨ H g2 = none),
    ⟨greats.length, g, greats, rfl, rfl, hd, hc, hg, ncg, lg, But.refl H d g, .inl rfl⟩, ?_⟩
  intro m σ H2 hW
  obtain ⟨g2, gs2, rfl, rfl, hd2, hc2, hg2, ncg2, lg2, but, hfr⟩ := hW
  have ngd2 : g2 ≠ d := ne_of hg2 hd2 (fun e => nomatch e)
  -- m['great'] != []
  refine ⟨.ref d, rfl, d, _, rfl, gM2 hd2, by decide, fun p np => ?_⟩
  have s1 : Same H2 (upd H2 p (.lst [])) := same_upd np
  refine ne_nil (.inl (.inl (s1 _ _ hg2))) upd_same ⟨_, rfl, ?_⟩
  generalize upd H2 p (.lst []) = H3 at s1
  replace hd2 := s1 _ _ hd2
  replace hc2 := s1 _ _ hc2
  replace hg2 := s1 _ _ hg2
  replace but := but.same s1
  clear s1 np
  cases gs2 with
  | nil =>
    refine iteF (iteF ?_)
    refine ⟨.ref d, rfl, d, _, rfl, gM2 hd2, by decide, fun p np => ?_⟩
    have s1 : Same H3 (upd H3 p (.lst [])) := same_upd np
    refine ne_nil (ns := []) (.inl (.inl (s1 _ _ hg2))) upd_same ⟨_, rfl, iteF ?_⟩
    generalize upd H3 p (.lst []) = H4 at s1
    replace hd2 := s1 _ _ hd2
    replace hc2 := s1 _ _ hc2
    replace hg2 := s1 _ _ hg2
    replace but := but.same s1
    refine ⟨.ref d, rfl, d, _, rfl, gM3 hd2, spot, 1, rfl, rfl, ?_⟩
    refine ⟨_, rfl, .ref d, rfl, d, _, rfl, pM3 hd2, ?_⟩
    have hd5 : (upd H4 d (.dK (kvM (.ref c) (.ref g2) (.int ((spot : Int) + 1))))) d = some (.dK (kvM (.ref c) (.ref g2) (.int ((spot : Int) + 1)))) := upd_same
    have hc5 : (upd H4 d (.dK (kvM (.ref c) (.ref g2) (.int ((spot : Int) + 1))))) c = some (.lst (cells.map V.int)) := by rw [upd_ne ncd]; exact hc2
    have hg5 : (upd H4 d (.dK (kvM (.ref c) (.ref g2) (.int ((spot : Int) + 1))))) g2 = some (.lst ([].map V.int)) := by rw [upd_ne ngd2]; exact hg2
    have but5 : But H (upd H4 d (.dK (kvM (.ref c) (.ref g2) (.int ((spot : Int) + 1))))) d g := fun b o e n1 n2 => by rw [upd_ne n1]; exact but b o e n1 n2
    show tSeq _ _ _ _ (upd H4 d (.dK (kvM (.ref c) (.ref g2) (.int ((spot : Int) + 1)))))
    generalize upd H4 d (.dK (kvM (.ref c) (.ref g2) (.int ((spot : Int) + 1)))) = H5 at hd5 hc5 hg5 but5
    refine ⟨.ref d, rfl, d, _, rfl, gM1 hd5, by decide, fun p5 np5 => ?_⟩
    have s5 : Same H5 (upd H5 p5 (.lst [])) := same_upd np5
    refine ne_nil (.inl (.inl (s5 _ _ hc5))) upd_same ⟨_, rfl, ?_⟩
    generalize upd H5 p5 (.lst []) = H6 at s5
    replace hd5 := s5 _ _ hd5
    replace hc5 := s5 _ _ hc5
    replace hg5 := s5 _ _ hg5
    replace but5 := but5.same s5
    have dr : Draw H6 d g2 c (n + 1) := ⟨cells, [], spot + 1, hd5, hc5, hg5, ncg2, lc, by decide, by omega⟩
    refine ite2 (fun e => ?_) (fun e => ?_)
    · have ne : cells ≠ [] := fun x => by rw [x] at e; exact absurd e (by decide)
      have hlen : 0 < cells.length := List.length_pos_iff.mpr ne
      obtain ⟨r1, r2⟩ := fmod_range (a := (spot : Int) + 1) (t := (cells.length : Int)) (by omega)
      obtain ⟨j, hj⟩ : ∃ j : Nat, ((spot : Int) + 1).fmod (cells.length : Int) = j := ⟨_, (Int.toNat_of_nonneg r1).symm⟩
      have hjl : j < cells.length := by omega
      have ha : atI (cells.map V.int) (((spot : Int) + 1).fmod ((cells.map V.int).length : Int)) = some (.int cells[j]) := by
        rw [List.length_map, hj]
        refine atI_nat ?_
        rw [List.getElem?_map, List.getElem?_eq_getElem hjl]
        rfl
      refine ⟨.ref d, rfl, d, _, rfl, gM1 hd5, _, rfl, .inl ⟨_, rfl, .ref d, rfl, d, _, rfl, gM1 hd5, c, _, rfl, .inl (.inl (.inl hc5)), _, _, rfl, rfl, by rw [List.length_map]; omega, c, _, _, _, rfl, rfl, .inl (.inl hc5), ha, ?_⟩⟩
      refine ⟨.int cells[j], rfl, .inl ⟨cells[j], rfl, cells[j], 2147483563, rfl, rfl, (by decide : (2147483563 : Int) ≠ 0), .int ((spot : Int) + 1), rfl, 6067, (spot : Int) + 1, rfl, rfl, .inl ⟨by decide, by decide⟩, _, _, rfl, rfl, .int ((spot : Int) + 1), rfl, 59, (spot : Int) + 1, rfl, rfl, .inl ⟨by decide, by decide⟩, .int ((spot : Int) + 1), rfl, _, (spot : Int) + 1, rfl, rfl, .inr ⟨by omega, by omega⟩, _, _, rfl, rfl, .inl ⟨_, rfl, _, 40014, rfl, rfl, .inr ⟨by decide, by decide⟩, ?_⟩⟩⟩
      refine ⟨_, rfl, .inl ⟨_, rfl, _, 2147483563, rfl, rfl, (by decide : (2147483563 : Int) ≠ 0), .int ((spot : Int) + 1), rfl, 88993, (spot : Int) + 1, rfl, rfl, .inl ⟨by decide, by decide⟩, _, _, rfl, rfl, .inl ⟨_, rfl, _, 742938285, rfl, rfl, .inr ⟨by decide, by decide⟩, ?_⟩⟩⟩
      refine ⟨_, rfl, .inl ⟨_, rfl, _, 2147483549, rfl, rfl, (by decide : (2147483549 : Int) ≠ 0), _, 17, rfl, rfl, ⟨by decide, by decide⟩, .inl ⟨_, rfl, .int t, rfl, _, t, rfl, rfl, by omega, ?_⟩⟩⟩
      exact q H6 g2 _ but5 hfr dr (fmod_range t1).1 (fmod_range t1).2
    · refine ⟨.int 47, rfl, .inl ⟨47, rfl, 47, 2147483563, rfl, rfl, (by decide : (2147483563 : Int) ≠ 0), .int ((spot : Int) + 1), rfl, 6067, (spot : Int) + 1, rfl, rfl, .inl ⟨by decide, by decide⟩, _, _, rfl, rfl, .int ((spot : Int) + 1), rfl, 59, (spot : Int) + 1, rfl, rfl, .inl ⟨by decide, by decide⟩, .int ((spot : Int) + 1), rfl, _, (spot : Int) + 1, rfl, rfl, .inr ⟨by omega, by omega⟩, _, _, rfl, rfl, .inl ⟨_, rfl, _, 40014, rfl, rfl, .inr ⟨by decide, by decide⟩, ?_⟩⟩⟩
      refine ⟨_, rfl, .inl ⟨_, rfl, _, 2147483563, rfl, rfl, (by decide : (2147483563 : Int) ≠ 0), .int ((spot : Int) + 1), rfl, 88993, (spot : Int) + 1, rfl, rfl, .inl ⟨by decide, by decide⟩, _, _, rfl, rfl, .inl ⟨_, rfl, _, 742938285, rfl, rfl, .inr ⟨by decide, by decide⟩, ?_⟩⟩⟩
      refine ⟨_, rfl, .inl ⟨_, rfl, _, 2147483549, rfl, rfl, (by decide : (2147483549 : Int) ≠ 0), _, 17, rfl, rfl, ⟨by decide, by decide⟩, .inl ⟨_, rfl, .int t, rfl, _, t, rfl, rfl, by omega, ?_⟩⟩⟩
      exact q H6 g2 _ but5 hfr dr (fmod_range t1).1 (fmod_range t1).2
  | cons g0 gr =>
    have hat : atI ((g0 :: gr).map V.int) 0 = some (.int g0) := atI_nat (j := 0) rfl
    refine iteT ⟨.ref d, rfl, d, _, rfl, gM2 hd2, g2, _, 0, _, rfl, rfl, .inl (.inl hg2), hat, rfl, _, rfl, ?_⟩
    by_cases e0 : g0 = 0
    · subst e0
      refine iteT ?_
      refine ⟨fun σ H4 => ∃ g4, σ = [some (.ref d), some (.int t), none, none, none, none] ∧ H4 d = some (.dK (kvM (.ref c) (.ref g4) (.int spot))) ∧ H4 c = some (.lst (cells.map V.int)) ∧ H4 g4 = some (.lst (gr.map V.int)) ∧ c ≠ g4 ∧ gr.length ≤ 1000 ∧
          But H H4 d g ∧ (g4 = g ∨ H g4 = none), fun σ H4 hN => ?_, ?_⟩
      · obtain ⟨g4, r⟩ := hN
        exact ⟨gr.length, by rw [List.length_cons]; omega, g4, gr, rfl, r⟩
      · refine ⟨.ref d, rfl, d, _, rfl, gM2 hd2, 1, rfl, ?_⟩
        dsimp only [tNoPart]
        refine ⟨g2, _, rfl, .inl (.inl hg2), fun p np => ?_⟩
        rw [cut_ints]
        have s1 : Same H3 (upd H3 p (.lst (gr.map V.int))) := same_upd np
        have ngp : p ≠ d := fun x => by rw [x, hd2] at np; cases np
        have ncp : c ≠ p := ne_of_none hc2 np
        refine ⟨.ref d, rfl, d, _, rfl, pM2 (s1 _ _ hd2), ?_⟩
        refine ⟨p, rfl, upd_same, ?_, ?_, ncp, by rw [List.length_cons] at lg2; omega, fun b o e n1 n2 => ?_, ?_⟩
        · rw [upd_ne ncd]; exact s1 _ _ hc2
        · rw [upd_ne ngp]; exact upd_same
        · rw [upd_ne n1]; exact s1 _ _ (but b o e n1 n2)
        · by_cases hp : p = g
          · exact .inl hp
          · refine .inr ?_
            cases hq : H p with
            | none => rfl
            | some o =>
              have := but p o hq ngp hp
              rw [np] at this
              cases this
    · have e1 : decide (V.int g0 = V.int 0) = false := decide_eq_false (fun x => e0 (by injection x))
      rw [e1]
      refine iteF ?_
      refine ⟨.ref d, rfl, d, _, rfl, gM2 hd2, by decide, fun p np => ?_⟩
      have s1 : Same H3 (upd H3 p (.lst [])) := same_upd np
      refine ne_nil (.inl (.inl (s1 _ _ hg2))) upd_same ⟨_, rfl, iteT ?_⟩
      generalize upd H3 p (.lst []) = H4 at s1
      replace hd2 := s1 _ _ hd2
      replace hc2 := s1 _ _ hc2
      replace hg2 := s1 _ _ hg2
      replace but := but.same s1
      -- rest = int(m['great'][0])
      refine ⟨.ref d, rfl, d, _, rfl, gM2 hd2, g2, _, 0, _, rfl, rfl, .inl (.inl hg2), hat, .inl ⟨g0, rfl, ?_⟩⟩
      -- m['great'][0] = rest // total
      refine ⟨.int g0, rfl, .int t, rfl, g0, t, rfl, rfl, ⟨by omega, by have := log_small (t := t) (by omega); omega⟩, .ref d, rfl, d, _, rfl, gM2 hd2, g2, _, 0, 0, rfl, rfl, hg2, ix0 (by simp), ?_⟩
      have sw : ((g0 :: gr).map V.int).set 0 (.int (g0 / t)) = (g0 / t :: gr).map V.int := rfl
      refine ⟨.int g0, rfl, .int t, rfl, g0, t, rfl, rfl, by omega, ?_⟩
      refine q _ g2 _ (fun b o e n1 n2 => ?_) hfr ⟨cells, g0 / t :: gr, spot, ?_, ?_, upd_same, ncg2, lc, by rw [List.length_cons] at lg2 ⊢; exact lg2, by omega⟩ (fmod_range t1).1 (fmod_range t1).2
      · have nb : b ≠ g2 := by
          rcases hfr with x | x
          · rw [x]; exact n2
          · exact fun y => by rw [y, x] at e; cases e
        rw [upd_ne nb]; exact but b o e n1 n2
      · rw [upd_ne (Ne.symm ngd2)]; exact hd2
      · rw [upd_ne ncg2]; exact hc2
def spOf : Sp := fun vs H Q _ => ∃ (d g c l : Addr) (n : Nat) (xs : List V), vs = [.ref d, .ref l] ∧ Draw H d g c n ∧ n < 2 ^ 40 ∧ H l = some (.lst xs) ∧ l ≠ g ∧ xs ≠ [] ∧ xs.length ≤ 1000 ∧
  ∀ H' g' (i : Nat) (x : V), But H H' d g → (g' = g ∨ H g' = none) → Draw H' d g' c (n + 1) → xs[i]? = some x → Q x H'
theorem Draw.nd {H : Hp} {d g c : Addr} {n : Nat} (h : Draw H d g c n) : (∃ kv, H d = some (.dK kv)) ∧ (∃ xs, H g = some (.lst xs)) ∧ ∃ xs, H c = some (.lst xs) := by
  obtain ⟨cells, greats, spot, h1, h2, h3, _⟩ := h
  exact ⟨⟨_, h1⟩, ⟨_, h3⟩, _, h2⟩
theorem Draw.same {H H' : Hp} {d g c : Addr} {n : Nat} (h : Draw H d g c n) (s : Same H H') : Draw H' d g c n := by
  obtain ⟨cells, greats, spot, h1, h2, h3, r⟩ := h
  exact ⟨cells, greats, spot, s _ _ h1, s _ _ h2, s _ _ h3, r⟩
theorem Draw.up {H : Hp} {d g c : Addr} {n m : Nat} (h : Draw H d g c n) (k : n ≤ m) : Draw H d g c m := by
  obtain ⟨cells, greats, spot, h1, h2, h3, h4, h5, h6, h7⟩ := h
  exact ⟨cells, greats, spot, h1, h2, h3, h4, h5, h6, by omega⟩
theorem Draw.upd {H : Hp} {d g c a : Addr} {n : Nat} {o : HO} (h : Draw H d g c n) (n1 : a ≠ d) (n2 : a ≠ g) (n3 : a ≠ c) : Draw (L2.upd H a o) d g c n := by
  obtain ⟨cells, greats, spot, h1, h2, h3, r⟩ := h
  exact ⟨cells, greats, spot, by rw [upd_ne (Ne.symm n1)]; exact h1, by rw [upd_ne (Ne.symm n3)]; exact h2, by rw [upd_ne (Ne.symm n2)]; exact h3, r⟩
/-- the draws went on from H to H': d is the same, what is left of great ones may be a new list -/
structure Go (H H' : Hp) (d g g' : Addr) : Prop where
  but : ∀ b o, H b = some o → b ≠ d → b ≠ g → H' b = some o
  fresh : g' = g ∨ H g' = none
theorem Go.refl (H : Hp) (d g : Addr) : Go H H d g g := ⟨fun _ _ h _ _ => h, .inl rfl⟩
theorem Go.of {H H2 : Hp} {d g : Addr} (s : Same H H2) : Go H H2 d g g := ⟨fun b o e _ _ => s _ _ e, .inl rfl⟩
theorem Go.same {H H1 H2 : Hp} {d g g' : Addr} (h : Go H H1 d g g') (s : Same H1 H2) : Go H H2 d g g' := ⟨fun b o e n1 n2 => s _ _ (h.but b o e n1 n2), h.fresh⟩
theorem Go.ne {H H1 : Hp} {d g g' a : Addr} {o : HO} (h : Go H H1 d g g') (e : H a = some o) (n : a ≠ g) : a ≠ g' := fun x => by
  rcases h.fresh with y | y
  · exact n (x.trans y)
  · rw [← x, e] at y
    cases y
theorem Go.trans {H H1 H2 : Hp} {d g g' g'' : Addr} {n : Nat} {c : Addr} (h : Go H H1 d g g') (D : Draw H1 d g' c n) (D0 : ∃ xs, H g = some (.lst xs)) (k : Go H1 H2 d g' g'') : Go H H2 d g g'' := by
  refine ⟨fun b o e n1 n2 => k.but b o (h.but b o e n1 n2) n1 (h.ne e n2), ?_⟩
  by_cases hg : g'' = g
  · exact .inl hg
  · refine .inr ?_
    cases e : H g'' with
    | none => rfl
    | some o =>
      have nd : g'' ≠ d := fun x => by
        obtain ⟨⟨kv, h1⟩, _⟩ := D.nd
        rcases k.fresh with y | y
        · obtain ⟨_, ⟨xs, h2⟩, _⟩ := D.nd
          rw [← y, x, h1] at h2
          cases h2
        · rw [x, h1] at y
          cases y
      have e2 := h.but _ _ e nd hg
      rcases k.fresh with y | y
      · exact absurd y (h.ne e hg)
      · rw [y] at e2
        cases e2
/-- a tuple stays -/
theorem Go.tup {H H' : Hp} {d g g' c a : Addr} {n : Nat} {xs : List V} (h : Go H H' d g g') (D : Draw H d g c n) (e : H a = some (.tup xs)) : H' a = some (.tup xs) := by
  obtain ⟨⟨kv, h1⟩, ⟨ys, h2⟩, _⟩ := D.nd
  exact h.but _ _ e (ne_of e h1 (fun z => nomatch z)) (ne_of e h2 (fun z => nomatch z))
/-- a list of one's own stays -/
theorem Go.lst {H H' : Hp} {d g g' c a : Addr} {n : Nat} {xs : List V} (h : Go H H' d g g') (D : Draw H d g c n) (e : H a = some (.lst xs)) (k : a ≠ g) : H' a = some (.lst xs) := by
  obtain ⟨⟨kv, h1⟩, _⟩ := D.nd
  exact h.but _ _ e (ne_of e h1 (fun z => nomatch z)) k
theorem cal_law_of (z : Z mg) (c__law_next : Cal P w K mg base 2 "_law_next" p__law_next spNext) (D : Def K mg "_law_of" s__law_of p__law_of) : Cal P w K mg base 3 "_law_of" p__law_of spOf := by
  refine D.cal sc__law_of (fun vs H Q E h => by obtain ⟨_, _, _, _, _, _, rfl, _⟩ := h; rfl) fun f cdv A outer s H vs Q E hr h => ?_
  obtain ⟨d, g, c, l, n, xs, rfl, hD, hn, hl, hlg, hx, hz, q⟩ := h
  have hlen := List.length_pos_iff.mpr hx
  refine ⟨_, (pss_one (ps_ret (pe_ix ix_list (pv 1) (pe_cal c__law_next (hr.mono (by decide)) (by rfl) (pa_cons (pv 0) (pa_cons (pe_callB (call_len_seq) (by rfl) z.«len» (by decide +kernel) (pa_cons (pv 1) pa_nil)) pa_nil))) (fun _ _ => rfl)))), ?_⟩
  refine ⟨.ref l, rfl, .ref d, rfl, .ref l, rfl, l, xs, rfl, .inl (.inl (.inl hl)), d, g, c, n, xs.length, rfl, hD, hn, by omega, by omega, fun H' g' v but hg' hD' v0 v1 => ?_⟩
  obtain ⟨j, rfl⟩ : ∃ j : Nat, v = j := ⟨_, (Int.toNat_of_nonneg v0).symm⟩
  have hj : xs[j]? = some xs[j] := List.getElem?_eq_getElem (by omega)
  exact ⟨l, xs, j, _, rfl, rfl, .inl (.inl (but _ _ hl (ne_of hl hD.nd.1.choose_spec (fun z => nomatch z)) hlg)), atI_nat hj, q H' g' j _ but hg' hD' hj⟩
end
end LK
namespace LK
open PySem PySem.Spec PyProof.Rows L2 CD
section
variable {P : Program} {w : World} {K : PySem.W.Frag} {mg : Str → Option Value} {base : Heap}
theorem leastO_is {ns : List Int} {m : Int} (h1 : m ∈ ns) (h2 : ∀ k ∈ ns, m ≤ k) : leastO ns = some m := by
  cases e : leastO ns with
  | none => rw [leastO_none e] at h1; cases h1
  | some k =>
    obtain ⟨k1, k2⟩ := leastO_spec e
    have a := h2 k k1
    have b := k2 m h1
    rw [show k = m by omega]
def spSpread (K : PySem.W.Frag) : Sp := fun vs H Q _ => ∃ (a t : Addr) (N : Int) (ads : List Int) (n : Nat), vs = [.ref a, .int ((n : Int) + 1)] ∧ ScAt K H a t N ads ∧ IsSc N ads ∧ n ≤ 900 ∧
  ∀ H' p, Same H H' → H p = none → H' p = some (.lst ((filmT N ads n).map oV)) → Q (.ref p) H'
theorem cal_law_spread (z : Z mg) (D : Def K mg "_law_spread" s__law_spread p__law_spread) : Cal P w K mg base 2 "_law_spread" p__law_spread (spSpread K) := by
  refine D.cal sc__law_spread (fun vs H Q E h => by obtain ⟨_, _, _, _, _, rfl, _⟩ := h; rfl) fun f cdv A outer s H vs Q E hr h => ?_
  obtain ⟨a, t, N, ads, n, rfl, L, hR, hn, q⟩ := h
  have d2 := hR.d2
  have d5 := hR.d5
  have h5 := hR.most
  refine ⟨_, (pss_cons (ps_asg (pv 0) (pg_tup rfl (pgs_cons (pg_name (i := 2) sc__law_spread.nd rfl (Or.inl rfl)) (pgs_cons (pg_name (i := 3) sc__law_spread.nd rfl (Or.inl rfl)) pgs_nil))))
        (pss_cons (ps_set (i := 4) sc__law_spread.nd rfl (Or.inl rfl) (pe_lst (pa_cons pe_int pa_nil)))
        (pss_cons (ps_for PassesOwn.never rfl (pi_range2 (by rfl) z.«range» (pa_cons pe_int (pa_cons (pv 1) pa_nil))) (pg_name (i := 5) sc__law_spread.nd rfl (Or.inl rfl)) (pss_cons (ps_set (i := 6) sc__law_spread.nd rfl (Or.inl rfl) (pe_lst pa_nil))
        (pss_cons (ps_for PassesOwn.never rfl (pi_enum1 (by rfl) z.«enumerate» (pa_cons (pv 3) pa_nil)) (pg_tup rfl (pgs_cons (pg_name (i := 7) sc__law_spread.nd rfl (Or.inl rfl)) (pgs_cons (pg_name (i := 8) sc__law_spread.nd rfl (Or.inl rfl)) pgs_nil))) (pss_cons (ps_set (i := 9) sc__law_spread.nd rfl (Or.inl rfl) (pe_op op_fdivN (pe_op op_sub (pv 5) (pv 8)) (pv 2)))
        (pss_one (ps_if (PW.pt (pw_and (pt_cmpR op_eq (pv 5) (pe_op op_add (pe_op op_mul (pv 9) (pv 2)) (pv 8)) (nomark _)) (pw_and (pt_cmpR op_ge (pv 9) pe_int (nomark _)) (pw_and1 (pt_cmpR op_notN (pe_ix ix_list (pv 4) (pv 9) (fun _ _ => rfl)) pe_non (nomark _)))))) (pss_one (ps_expr (pe_bm PySem.F.plainAttrs_list PySem.F.slot_list_append PySem.F.type_list_append mt_append (pv 6) (pa_cons (pe_op op_add (pe_op op_add (pe_ix ix_list (pv 4) (pv 9) (fun _ _ => rfl)) (pv 7)) pe_int) pa_nil)))) pss_nil))))
        (pss_one (ps_expr (pe_bm PySem.F.plainAttrs_list PySem.F.slot_list_append PySem.F.type_list_append mt_append (pv 4) (pa_cons (pe_ifExp (pt_cmpR (op_neD hr.units) (pv 6) (pe_lst pa_nil) (nomark _)) (pe_callB (cr_min rfl) (by rfl) z.«min» (by decide +kernel) (pa_cons (pv 6) pa_nil)) pe_non) pa_nil)))))))
        (pss_one (ps_ret (pv 4)))))), ?_⟩
  refine ⟨.ref a, rfl, a, _, rfl, L.sc, rfl, _, _, rfl, _, _, rfl, rfl, ?_⟩
  refine ⟨(by decide : 1 ≤ sizeLine), fun fa nfa => ?_⟩
  have sm : Same H (upd H fa (.lst ([some 0].map oV))) := same_upd nfa
  have hfa : (upd H fa (.lst ([some 0].map oV))) fa = some (.lst ((filmT N ads 0).map oV)) := upd_same
  show tSeq _ _ _ _ (upd H fa (.lst ([some 0].map oV)))
  generalize upd H fa (.lst ([some 0].map oV)) = H2 at sm hfa
  refine ⟨.int ((n : Int) + 1), rfl, 1, (n : Int) + 1, rfl, ⟨by decide, by decide, by omega, by omega⟩, ?_⟩
  rw [show ((n : Int) + 1 - 1).toNat = n by omega]
  refine for_it (walk_range (lo := 1) (n := n)) (fun i σ H4 => ∃ y5 y6 y7 y8 y9, σ = [some (.ref a), some (.int ((n : Int) + 1)), some (.int N), some (.ref t), some (.ref fa), y5, y6, y7, y8, y9] ∧ H4 fa = some (.lst ((filmT N ads i).map oV)) ∧ Same H H4)
    ⟨none, none, none, none, none, rfl, hfa, sm⟩ (fun _ _ _ _ _ => trivial) (fun i x σ H4 H5 hi hW y => ?_) (fun σ H4 hW => ?_)
  · obtain ⟨y5, y6, y7, y8, y9, rfl, hfa, sm⟩ := hW
    obtain ⟨rfl, rfl⟩ := y
    have L4 := L.same sm
    have hs : filmT N ads (i + 1) = filmT N ads i ++ [tk N ads ((i + 1 : Nat) : Int)] := filmT_next i
    have hlen : (filmT N ads i).length = i + 1 := filmT_len i
    refine ⟨(by decide : 0 ≤ sizeLine), fun sa nsa => ?_⟩
    have s0 : Same H5 (upd H5 sa (.lst (([] : List Int).map V.int))) := same_upd nsa
    have hsa : (upd H5 sa (.lst (([] : List Int).map V.int))) sa = some (.lst (([] : List Int).map V.int)) := upd_same
    show tSeq _ _ _ _ (upd H5 sa (.lst (([] : List Int).map V.int)))
    generalize upd H5 sa (.lst (([] : List Int).map V.int)) = H6 at s0 hsa
    refine ⟨.ref t, rfl, t, ads.map V.int, rfl, s0.tup L4.ads, ?_⟩
    have nfs : fa ≠ sa := ne_of_none hfa nsa
    obtain ⟨k, hk⟩ : ∃ k : Int, (1 : Int) + (i : Nat) = k := ⟨_, rfl⟩
    have hk2 : ((i + 1 : Nat) : Int) = k := by omega
    rw [hk2] at hs
    refine for_it (walk_enumT (K := K) (a := t) (k := 0) (xs := ads.map V.int)) (fun j σ H7 => ∃ y7 y8 y9, σ = [some (.ref a), some (.int ((n : Int) + 1)), some (.int N), some (.ref t), some (.ref fa), some (.int (1 + (i : Nat))), some (.ref sa), y7, y8, y9] ∧ H7 sa = some (.lst (((ads.zipIdx.take j).filterMap (callT N ads k)).map V.int)) ∧ Same H5 H7)
      ⟨_, _, _, rfl, hsa, s0⟩ (fun j σ H7 _ hW => ?_) (fun j x σ H7 H8 hj hW y => ?_) (fun σ H7 hW => ?_)
    · obtain ⟨_, _, _, _, _, s7⟩ := hW
      exact s7.tup L4.ads
    · obtain ⟨y7, y8, y9, rfl, hsa, s7⟩ := hW
      obtain ⟨T, v1, v2, rfl, nT, rfl, g1, g2⟩ := y
      have sT : Same H7 (upd H7 T (.tup [v1, v2])) := same_upd nT
      obtain rfl := (Option.some.inj g1).symm
      rw [List.length_map] at hj
      have hsi : ads[j]? = some ads[j] := List.getElem?_eq_getElem hj
      have g3 : (ads.map V.int)[j]? = some v2 := g2
      rw [List.getElem?_map, hsi] at g3
      obtain rfl := (Option.some.inj g3).symm
      have tkk : (ads.zipIdx.take (j + 1)).filterMap (callT N ads k) = (ads.zipIdx.take j).filterMap (callT N ads k) ++ (callT N ads k (ads[j], j)).toList := by
        rw [List.take_add_one, List.getElem?_zipIdx, hsi, List.filterMap_append]
        cases e : callT N ads k (ads[j], j) <;> simp [e]
      have lz : ((ads.zipIdx.take j).filterMap (callT N ads k)).length ≤ 10 := by
        have z := List.length_filterMap_le (callT N ads k) (ads.zipIdx.take j)
        rw [List.length_take, List.length_zipIdx] at z
        omega
      have rg := hR.rng ads[j] (List.getElem_mem _)
      have hfa7 := sT _ _ (s7 _ _ hfa)
      have hsa7 := sT _ _ hsa
      have s8 := s7.trans sT
      refine ⟨T, _, rfl, .inl (.inl upd_same), rfl, _, _, rfl, _, _, rfl, rfl, ?_⟩
      show tSeq _ _ _ _ (upd H7 T _)
      generalize upd H7 T (.tup [V.int (0 + (j : Nat)), V.int ads[j]]) = H8 at hfa7 hsa7 s8
      generalize ads[j] = st at *
      have de := div_eq d2 d5 k st
      have dl := div_lt d2 d5 k st (by omega) rg.1
      have efd : ((1 : Int) + (i : Nat) - st).fdiv N = (k - st) / N := by rw [hk]; exact Int.fdiv_eq_ediv_of_nonneg _ (by omega)
      refine ⟨.int (1 + (i : Nat)), rfl, .int st, rfl, _, st, rfl, rfl, .int N, rfl, _, N, rfl, rfl, ⟨by omega, by omega⟩, ?_⟩
      obtain ⟨far, hfar⟩ : ∃ far : Int, (k - st) / N = far := ⟨_, rfl⟩
      rw [hfar] at de dl efd
      dsimp only
      rw [efd]
      refine ⟨.int (1 + (i : Nat)), rfl, .int far, rfl, .int N, rfl, far, N, rfl, rfl, .inr ⟨by omega, by omega⟩, .int st, rfl, _, st, rfl, rfl, rfl, _, rfl, ite2 (fun c => ?_) (fun c => ?_)⟩
      · have c' : k = far * N + st := by
          have z3 : V.int (1 + (i : Nat)) = V.int (far * N + st) := of_decide_eq_true c
          injection z3 with z3
          omega
        refine ⟨.int far, rfl, far, 0, rfl, rfl, _, rfl, ite2 (fun c2 => ?_) (fun c2 => ?_)⟩
        · have c2' : 0 ≤ far := of_decide_eq_true c2
          have hc : callT N ads k (st, j) = (tk N ads far).map (· + (1 + (j : Int))) := by
            unfold callT
            rw [if_pos (show st ≤ k ∧ (k - st) % N = 0 from ⟨de.2.mp c2', de.1.mp c'⟩), hfar]
          rw [hc] at tkk
          have hat : atI ((filmT N ads i).map oV) far = some (oV (tk N ads far)) := by
            obtain ⟨m, rfl⟩ : ∃ m : Nat, far = m := ⟨far.toNat, by omega⟩
            exact atI_nat (by rw [List.getElem?_map, filmT_at (by omega)]; rfl)
          refine ⟨.ref fa, rfl, .int far, rfl, fa, _, _, _, rfl, rfl, .inl (.inl hfa7), hat, rfl, ?_⟩
          cases o : tk N ads far with
          | none =>
            rw [o] at tkk
            refine ⟨false, rfl, iteF ⟨_, _, _, rfl, ?_, s8⟩⟩
            rw [tkk]
            simpa using hsa7
          | some u =>
            rw [o] at tkk hat
            refine ⟨true, rfl, iteT ?_⟩
            refine ⟨.ref sa, rfl, .inl ⟨rfl, _, .inl (.inl hsa7)⟩, .ref fa, rfl, .int far, rfl, fa, _, _, _, rfl, rfl, .inl (.inl hfa7), hat, .int (0 + (j : Nat)), rfl, u, _, rfl, rfl, _, 1, rfl, rfl, sa, _, _, rfl, rfl, hsa7, by rw [List.length_map]; exact small1000 (by omega), ?_⟩
            refine ⟨_, _, _, rfl, ?_, fun b o e => ?_⟩
            · rw [upd_same, tkk, List.map_append]
              show some (HO.lst (_ ++ [V.int (u + ((0 : Int) + (j : Nat)) + 1)])) = some (HO.lst (_ ++ [V.int (u + (1 + (j : Int)))]))
              rw [show u + ((0 : Int) + (j : Nat)) + 1 = u + (1 + (j : Int)) by omega]
            · rw [upd_ne (ne_of_none e nsa)]
              exact s8 _ _ e
        · have c2' : ¬ 0 ≤ far := fun x => c2 (decide_eq_true x)
          have hc : callT N ads k (st, j) = none := by
            unfold callT
            rw [if_neg (show ¬ (st ≤ k ∧ (k - st) % N = 0) from fun x => c2' (de.2.mpr x.1))]
          rw [hc] at tkk
          refine iteF ⟨_, _, _, rfl, ?_, s8⟩
          rw [tkk]
          simpa using hsa7
      · have c' : ¬ k = far * N + st := fun x => c (decide_eq_true (by rw [hk, x]))
        have hc : callT N ads k (st, j) = none := by
          unfold callT
          rw [if_neg (show ¬ (st ≤ k ∧ (k - st) % N = 0) from fun x => c' (de.1.mpr x.2))]
        rw [hc] at tkk
        refine iteF ⟨_, _, _, rfl, ?_, s8⟩
        rw [tkk]
        simpa using hsa7
    · obtain ⟨y7, y8, y9, rfl, hsa, s7⟩ := hW
      rw [List.length_map, List.take_of_length_le (Nat.le_of_eq List.length_zipIdx)] at hsa
      have hfa7 := s7 _ _ hfa
      have put : ∀ (H8 : Hp) (o : Option Int), Same H7 H8 → o = tk N ads k → ∃ u5 u6 u7 u8 u9, ([some (.ref a), some (.int ((n : Int) + 1)), some (.int N), some (.ref t), some (.ref fa), some (.int (1 + (i : Nat))), some (.ref sa), y7, y8, y9] : L2.St) = [some (.ref a), some (.int ((n : Int) + 1)), some (.int N), some (.ref t), some (.ref fa), u5, u6, u7, u8, u9] ∧
          (upd H8 fa (.lst ((filmT N ads i).map oV ++ [oV o]))) fa = some (.lst ((filmT N ads (i + 1)).map oV)) ∧ Same H (upd H8 fa (.lst ((filmT N ads i).map oV ++ [oV o]))) := fun H8 o s8 e => by
        refine ⟨_, _, _, _, _, rfl, ?_, fun b u eb => ?_⟩
        · rw [upd_same, hs, e, List.map_append]
          rfl
        · rw [upd_ne (ne_of_none eb nfa)]
          exact s8 _ _ (s7 _ _ (sm _ _ eb))
      refine ⟨.ref fa, rfl, .inl ⟨rfl, _, .inl (.inl hfa7)⟩, .ref sa, rfl, by decide, fun p np => ?_⟩
      have sp := same_upd (o := .lst []) np
      have hnx := tk_calls hR (n := k) (by omega)
      generalize hLL : ads.zipIdx.filterMap (callT N ads k) = LL at hsa hnx
      refine ne_nil (.inl (.inl (sp _ _ hsa))) upd_same ⟨_, rfl, ?_⟩
      have len7 : ((filmT N ads i).map oV).length < sizeLine := by rw [List.length_map, hlen]; exact small1000 (by omega)
      cases LL with
      | nil => exact iteF ⟨fa, _, _, rfl, rfl, sp _ _ hfa7, len7, put _ none sp (by rw [hnx]; rfl)⟩
      | cons x0 rs =>
        refine iteT ⟨.ref sa, rfl, sa, _, rfl, .inl (.inl (sp _ _ hsa)), Nat.succ_pos _, fun m h1 h2 => ⟨fa, _, _, rfl, rfl, sp _ _ hfa7, len7, ?_⟩⟩
        exact put _ (some m) sp (by rw [hnx, leastO_is h1 h2])
  · obtain ⟨y5, y6, y7, y8, y9, rfl, hfa, sm⟩ := hW
    exact ⟨.ref fa, rfl, q _ fa sm nfa hfa⟩
end
end LK
namespace LK
open PySem PySem.Spec PyProof.Rows L2 CD
section
variable {P : Program} {w : World} {K : PySem.W.Frag} {mg : Str → Option Value} {base : Heap}
def spScale (K : PySem.W.Frag) : Sp := fun vs H Q _ => ∃ (d g c : Addr) (n : Nat), vs = [.ref d] ∧ Draw H d g c n ∧ n + 50 < 2 ^ 40 ∧
  ∀ H' g' p t N ads, Go H H' d g g' → Draw H' d g' c (n + 50) → IsSc N ads → H' p = some (.tup [.int N, .ref t]) → H' t = some (.tup (ads.map V.int)) → Q (.ref p) H'
theorem cal_law_scale (z : Z mg) (c__law_next : Cal P w K mg base 2 "_law_next" p__law_next spNext) (c__law_of : Cal P w K mg base 3 "_law_of" p__law_of spOf) (D : Def K mg "_law_scale" s__law_scale p__law_scale) : Cal P w K mg base 4 "_law_scale" p__law_scale (spScale K) := by
  refine D.cal sc__law_scale (fun vs H Q E h => by obtain ⟨_, _, _, _, rfl, _⟩ := h; rfl) fun f cdv A outer s H vs Q E hr h => ?_
  obtain ⟨d, g, c, n, rfl, hD, hn, q⟩ := h
  refine ⟨_, (pss_cons (ps_par (i := 1) (j := 2) rfl sc__law_scale.nd rfl rfl (by decide) rfl rfl (pa_cons (pe_op op_add pe_int (pe_cal c__law_next (hr.mono (by decide)) (by rfl) (pa_cons (pv 0) (pa_cons pe_int pa_nil)))) (pa_cons (pe_cal c__law_next (hr.mono (by decide)) (by rfl) (pa_cons (pv 0) (pa_cons pe_int pa_nil))) pa_nil)) (by rfl))
        (pss_cons (ps_set (i := 3) sc__law_scale.nd rfl (Or.inl rfl) (pe_lst pa_nil))
        (pss_cons (ps_for PassesOwn.never rfl (pi_range1 (by rfl) z.«range» (pa_cons (pe_ifExp (pt_cmpR op_gt (pv 2) pe_int (nomark _)) (pv 1) (pe_op op_add pe_int (pe_cal c__law_next (hr.mono (by decide)) (by rfl) (pa_cons (pv 0) (pa_cons pe_int pa_nil))))) pa_nil)) (pg_name (i := 4) sc__law_scale.nd rfl (Or.inl rfl)) (pss_cons (ps_set (i := 5) sc__law_scale.nd rfl (Or.inl rfl) (pe_op op_add (pv 4) pe_int))
        (pss_cons (ps_if (pt_cmpR op_lt (pv 2) pe_int (nomark _)) (pss_one (ps_set (i := 5) sc__law_scale.nd rfl (Or.inl rfl) (pe_cal c__law_of (hr.mono (by decide)) (by rfl) (pa_cons (pv 0) (pa_cons (pe_lst (pa_cons (pe_op op_add (pv 4) pe_int) (pa_cons (pv 4) (pa_cons (pe_cal c__law_next (hr.mono (by decide)) (by rfl) (pa_cons (pv 0) (pa_cons (pe_op op_add (pe_op op_mul pe_int (pv 1)) pe_int) pa_nil))) (pa_cons (pe_cal c__law_next (hr.mono (by decide)) (by rfl) (pa_cons (pv 0) (pa_cons pe_int pa_nil))) pa_nil))))) pa_nil))))) pss_nil)
        (pss_one (ps_if (PW.pt (pw_and (pt_cmpR op_notIn_seq (pv 5) (pv 3) (by rfl)) (pw_and1 (pt_cmpR op_lt (pe_callB (call_len_seq) (by rfl) z.«len» (by decide +kernel) (pa_cons (pv 3) pa_nil)) pe_int (nomark _))))) (pss_one (ps_expr (pe_bm PySem.F.plainAttrs_list PySem.F.slot_list_insert PySem.F.type_list_insert mt_insert (pv 3) (pa_cons (pe_cal c__law_next (hr.mono (by decide)) (by rfl) (pa_cons (pv 0) (pa_cons (pe_op op_add (pe_callB (call_len_seq) (by rfl) z.«len» (by decide +kernel) (pa_cons (pv 3) pa_nil)) pe_int) pa_nil))) (pa_cons (pv 5) pa_nil))))) pss_nil)))))
        (pss_cons (ps_set (i := 6) sc__law_scale.nd rfl (Or.inl rfl) (pe_cal c__law_next (hr.mono (by decide)) (by rfl) (pa_cons (pv 0) (pa_cons pe_int pa_nil))))
        (pss_cons (ps_if (PW.pt (pw_and (pt_cmpR op_notIn_seq (pv 6) (pv 3) (by rfl)) (pw_and (pt_cmpR op_lt (pe_callB (call_len_seq) (by rfl) z.«len» (by decide +kernel) (pa_cons (pv 3) pa_nil)) pe_int (nomark _)) (pw_and1 (pt_cmpR op_eq (pe_cal c__law_next (hr.mono (by decide)) (by rfl) (pa_cons (pv 0) (pa_cons pe_int pa_nil))) pe_int (nomark _)))))) (pss_one (ps_expr (pe_bm PySem.F.plainAttrs_list PySem.F.slot_list_append PySem.F.type_list_append mt_append (pv 3) (pa_cons (pv 6) pa_nil)))) pss_nil)
        (pss_one (ps_ret (pe_tup (pa_cons (pv 1) (pa_cons (pe_callTy (call_tuple_of) (by rfl) z.«tuple» (by decide +kernel) (pa_cons (pv 3) pa_nil)) pa_nil)))))))))), ?_⟩
  refine ⟨.ref d, rfl, d, g, c, n, 4, rfl, hD, by omega, by decide, by decide, fun H2 g2 v but hg2 hD2 v0 v1 => ⟨2, v, rfl, rfl, .ref d, rfl, d, g2, c, _, 3, rfl, hD2, by omega, by decide, by decide, fun H2b g2b way butb hg2b hD2b w0 w1 => ?_⟩⟩
  have go2 : Go H H2 d g g2 := ⟨but, hg2⟩
  have go2b := go2.trans hD2 hD.nd.2.1 (⟨butb, hg2b⟩ : Go H2 H2b d g2 g2b)
  obtain ⟨N, hN⟩ : ∃ N : Int, 2 + v = N := ⟨_, rfl⟩
  refine ⟨_, _, rfl, ?_⟩
  dsimp only
  rw [hN]
  have d2 : 2 ≤ N := by omega
  have d5 : N ≤ 5 := by omega
  refine ⟨(by decide : 0 ≤ sizeLine), fun fa nf => ?_⟩
  have nb : ∀ b o, H b = some o → b ≠ d → b ≠ g → b ≠ fa := fun b o e n1 n2 x => by
    have e2 := go2b.but b o e n1 n2
    rw [x, nf] at e2
    cases e2
  have ndf : fa ≠ d := fun x => by obtain ⟨⟨kv, h1⟩, _⟩ := hD2b.nd; rw [x, h1] at nf; cases nf
  have ncf : fa ≠ c := fun x => by obtain ⟨_, _, xs, h1⟩ := hD2b.nd; rw [x, h1] at nf; cases nf
  have nfg : fa ≠ g2b := fun x => by obtain ⟨_, ⟨xs, h1⟩, _⟩ := hD2b.nd; rw [x, h1] at nf; cases nf
  have s3 : Same H2b (upd H2b fa (.lst (([] : List Int).map V.int))) := same_upd nf
  have hfa : (upd H2b fa (.lst (([] : List Int).map V.int))) fa = some (.lst (([] : List Int).map V.int)) := upd_same
  show tSeq _ _ _ _ (upd H2b fa (.lst (([] : List Int).map V.int)))
  generalize upd H2b fa (.lst (([] : List Int).map V.int)) = H3 at s3 hfa
  have go := go2b.same s3
  have hD3 := hD2b.same s3
  clear but hg2 hD2 go2 go2b s3 nf butb hg2b hD2b
  refine ⟨.int way, rfl, way, 0, rfl, rfl, _, rfl, ite2 (fun ew0 => ?_) (fun ew0 => ?_)⟩
  · obtain ⟨cn, hcn⟩ : ∃ cn : Int, N = cn := ⟨_, rfl⟩
    obtain ⟨gs, hgs⟩ : ∃ gs : Addr, g2b = gs := ⟨_, rfl⟩
    have c1 : 1 ≤ cn := by omega
    have c5 : cn ≤ 5 := by omega
    refine ⟨.int N, rfl, N, rfl, by omega, by omega, ?_⟩
    show ∃ W, _
    rw [show N.toNat = cn.toNat by rw [hcn]]
    subst hgs
    refine for_it (walk_range (lo := 0) (n := cn.toNat)) (fun i σ H5 => ∃ (g3 : Addr) (fl : List Int) (y4 y5 : Option V), σ = [some (.ref d), some (.int N), some (.int way), some (.ref fa), y4, y5, none] ∧ H5 fa = some (.lst (fl.map V.int)) ∧ fa ≠ g3 ∧ (1 ≤ i → 1 ≤ fl.length) ∧ fl.length ≤ 5 ∧ fl.Nodup ∧ (∀ s ∈ fl, 0 ≤ s ∧ s ≤ 20) ∧ Go H H5 d g g3 ∧ Draw H5 d g3 c (n + 3 + 4 * i))
      ⟨_, [], none, none, rfl, hfa, nfg, fun h => absurd h (by decide), Nat.zero_le _, List.nodup_nil, fun _ h => (by cases h), go, hD3.up (by omega)⟩ (fun _ _ _ _ _ => trivial) (fun i x σ H5 H6 hi hW y => ?_) (fun σ H5 hW => ?_)
    · obtain ⟨g3, fl, y4, y5, rfl, hf5, nf5, e1, l5, nd, rng, go5, hD5⟩ := hW
      obtain ⟨rfl, rfl⟩ := y
      refine ⟨_, rfl, _, 1, rfl, rfl, ?_⟩
      refine ⟨.int way, rfl, way, 2, rfl, rfl, _, rfl, ite2 (fun ew => ?_) (fun ew => ?_)⟩
      · refine ⟨.ref d, rfl, _, rfl, _, 1, rfl, rfl, _, rfl, .ref d, rfl, .int N, rfl, 2, N, rfl, rfl, .inl ⟨by decide, by decide⟩, _, 2, rfl, rfl, d, g3, c, _, 2 * N + 2, rfl, hD5, by omega, by omega, by omega, fun H7 g7 v7 but7 hg7 hD7 v70 v71 => ⟨.ref d, rfl, d, g7, c, _, 21, rfl, hD7, by omega, by decide, by decide, fun H7b g7b v8 but8 hg8 hD7b v80 v81 => ⟨(by decide : 4 ≤ sizeLine), fun la nla => ?_⟩⟩⟩
        have go7 : Go H6 H7 d g3 g7 := ⟨but7, hg7⟩
        have hf7 := go7.lst hD5 hf5 nf5
        have nf7 := go7.ne hf5 nf5
        have goH7 := go5.trans hD5 hD.nd.2.1 go7
        have go7b : Go H7 H7b d g7 g7b := ⟨but8, hg8⟩
        have hf7b := go7b.lst hD7 hf7 nf7
        have nf7b := go7b.ne hf7 nf7
        have goH7b := goH7.trans hD7 hD.nd.2.1 go7b
        have sl := same_upd (o := .lst [V.int (0 + (i : Nat) + 1), V.int (0 + (i : Nat)), V.int v7, V.int v8]) nla
        have nlg : la ≠ g7b := fun x => by obtain ⟨_, ⟨xs, h1⟩, _⟩ := hD7b.nd; rw [x, h1] at nla; cases nla
        refine ⟨d, g7b, c, la, _, [V.int (0 + (i : Nat) + 1), V.int (0 + (i : Nat)), V.int v7, V.int v8], rfl, hD7b.same sl, by omega, upd_same, nlg, by simp, by simp, fun H8 g8 j o but9 hg9 hD8 hj => ?_⟩
        obtain ⟨more, rfl, m0, m20⟩ : ∃ more : Int, o = .int more ∧ 0 ≤ more ∧ more ≤ 20 := by
          match j, hj with
          | 0, hj => exact ⟨_, (Option.some.inj hj).symm, by omega, by omega⟩
          | 1, hj => exact ⟨_, (Option.some.inj hj).symm, by omega, by omega⟩
          | 2, hj => exact ⟨_, (Option.some.inj hj).symm, by omega, by omega⟩
          | 3, hj => exact ⟨_, (Option.some.inj hj).symm, by omega, by omega⟩
          | j + 4, hj => cases hj
        have go8 : Go _ H8 d g7b g8 := ⟨but9, hg9⟩
        have hf8 := go8.lst (hD7b.same sl) (sl _ _ hf7b) nf7b
        have nf8 := go8.ne (sl _ _ hf7b) nf7b
        have goH8 := (goH7b.same sl).trans (hD7b.same sl) hD.nd.2.1 go8
        refine ⟨.int more, rfl, .ref fa, rfl, fa, _, rfl, .inl (.inl (.inl hf8)), rfl, flat_ints fl, _, rfl, ?_⟩
        rw [in_ints]
        refine ite2 (fun e => ?_) (fun e => ?_)
        · have hm : more ∉ fl := fun x => by rw [decide_eq_true x] at e; cases e
          refine ⟨.ref fa, rfl, fa, _, rfl, .inl (.inl (.inl hf8)), _, 5, rfl, rfl, _, rfl, ite2 (fun e2 => ?_) (fun e2 => ?_)⟩
          · have hl3 : fl.length < 5 := by
              have z2 := of_decide_eq_true e2
              rw [List.length_map] at z2
              omega
            refine ⟨.ref fa, rfl, .inl ⟨rfl, _, .inl (.inl hf8)⟩, .ref d, rfl, .ref fa, rfl, fa, _, rfl, .inl (.inl (.inl hf8)), _, 1, rfl, rfl, d, _, c, _, _, rfl, hD8, by omega, by omega, by rw [List.length_map]; omega, fun HA gA jj butA hgA hDA j0 j1 => ?_⟩
            have goA : Go _ HA d _ gA := ⟨butA, hgA⟩
            have hfA := goA.lst hD8 hf8 nf8
            have nfA := goA.ne hf8 nf8
            have goHA := goH8.trans hD8 hD.nd.2.1 goA
            refine ⟨.int more, rfl, fa, _, jj, .int more, rfl, rfl, hfA, by rw [List.length_map]; exact small1000 (by omega), j0, by rw [List.length_map] at j1; omega, ?_⟩
            have ei : (fl.map V.int).take jj.toNat ++ [V.int more] ++ (fl.map V.int).drop jj.toNat = (fl.take jj.toNat ++ [more] ++ fl.drop jj.toNat).map V.int := by rw [List.map_append, List.map_append, List.map_take, List.map_drop]; rfl
            have pm : (fl.take jj.toNat ++ [more] ++ fl.drop jj.toNat).Perm (more :: fl) := by
              rw [List.perm_iff_count]
              intro a
              have ec := congrArg (List.count a) (List.take_append_drop jj.toNat fl)
              rw [List.count_append] at ec
              simp only [List.count_append, List.count_cons, List.count_nil]
              omega
            refine ⟨gA, fl.take jj.toNat ++ [more] ++ fl.drop jj.toNat, _, _, rfl, by rw [upd_same, ei], nfA, fun _ => by rw [pm.length_eq, List.length_cons]; omega, by rw [pm.length_eq, List.length_cons]; omega, pm.nodup_iff.mpr (List.nodup_cons.mpr ⟨hm, nd⟩), fun s hs => ?_, ⟨fun b o eb n1 n2 => ?_, goHA.fresh⟩, (hDA.upd ndf nfA ncf).up (by omega)⟩
            · rcases List.mem_cons.mp (pm.mem_iff.mp hs) with x | x
              · omega
              · exact rng s x
            · rw [upd_ne (nb b o eb n1 n2)]
              exact goHA.but b o eb n1 n2
          · have hl3 : ¬ fl.length < 5 := fun x => e2 (decide_eq_true (by rw [List.length_map]; omega))
            exact ⟨_, fl, _, _, rfl, hf8, nf8, fun _ => by omega, l5, nd, rng, goH8, hD8.up (by omega)⟩
        · have hm : more ∈ fl := Classical.byContradiction fun x => e (by rw [decide_eq_false x]; rfl)
          exact ⟨_, fl, _, _, rfl, hf8, nf8, fun _ => List.length_pos_of_mem hm, l5, nd, rng, goH8, hD8.up (by omega)⟩
      · obtain ⟨more, hmore⟩ : ∃ more : Int, (0 : Int) + (i : Nat) + 1 = more := ⟨_, rfl⟩
        dsimp only [tNext]
        rw [hmore]
        have m0 : 0 ≤ more := by omega
        have m20 : more ≤ 20 := by omega
        have hf8 := hf5
        have nf8 := nf5
        have goH8 := go5
        have hD8 := hD5
        refine ⟨.int more, rfl, .ref fa, rfl, fa, _, rfl, .inl (.inl (.inl hf8)), rfl, flat_ints fl, _, rfl, ?_⟩
        rw [in_ints]
        refine ite2 (fun e => ?_) (fun e => ?_)
        · have hm : more ∉ fl := fun x => by rw [decide_eq_true x] at e; cases e
          refine ⟨.ref fa, rfl, fa, _, rfl, .inl (.inl (.inl hf8)), _, 5, rfl, rfl, _, rfl, ite2 (fun e2 => ?_) (fun e2 => ?_)⟩
          · have hl3 : fl.length < 5 := by
              have z2 := of_decide_eq_true e2
              rw [List.length_map] at z2
              omega
            refine ⟨.ref fa, rfl, .inl ⟨rfl, _, .inl (.inl hf8)⟩, .ref d, rfl, .ref fa, rfl, fa, _, rfl, .inl (.inl (.inl hf8)), _, 1, rfl, rfl, d, _, c, _, _, rfl, hD8, by omega, by omega, by rw [List.length_map]; omega, fun HA gA jj butA hgA hDA j0 j1 => ?_⟩
            have goA : Go _ HA d _ gA := ⟨butA, hgA⟩
            have hfA := goA.lst hD8 hf8 nf8
            have nfA := goA.ne hf8 nf8
            have goHA := goH8.trans hD8 hD.nd.2.1 goA
            refine ⟨.int more, rfl, fa, _, jj, .int more, rfl, rfl, hfA, by rw [List.length_map]; exact small1000 (by omega), j0, by rw [List.length_map] at j1; omega, ?_⟩
            have ei : (fl.map V.int).take jj.toNat ++ [V.int more] ++ (fl.map V.int).drop jj.toNat = (fl.take jj.toNat ++ [more] ++ fl.drop jj.toNat).map V.int := by rw [List.map_append, List.map_append, List.map_take, List.map_drop]; rfl
            have pm : (fl.take jj.toNat ++ [more] ++ fl.drop jj.toNat).Perm (more :: fl) := by
              rw [List.perm_iff_count]
              intro a
              have ec := congrArg (List.count a) (List.take_append_drop jj.toNat fl)
              rw [List.count_append] at ec
              simp only [List.count_append, List.count_cons, List.count_nil]
              omega
            refine ⟨gA, fl.take jj.toNat ++ [more] ++ fl.drop jj.toNat, _, _, rfl, by rw [upd_same, ei], nfA, fun _ => by rw [pm.length_eq, List.length_cons]; omega, by rw [pm.length_eq, List.length_cons]; omega, pm.nodup_iff.mpr (List.nodup_cons.mpr ⟨hm, nd⟩), fun s hs => ?_, ⟨fun b o eb n1 n2 => ?_, goHA.fresh⟩, (hDA.upd ndf nfA ncf).up (by omega)⟩
            · rcases List.mem_cons.mp (pm.mem_iff.mp hs) with x | x
              · omega
              · exact rng s x
            · rw [upd_ne (nb b o eb n1 n2)]
              exact goHA.but b o eb n1 n2
          · have hl3 : ¬ fl.length < 5 := fun x => e2 (decide_eq_true (by rw [List.length_map]; omega))
            exact ⟨_, fl, _, _, rfl, hf8, nf8, fun _ => by omega, l5, nd, rng, goH8, hD8.up (by omega)⟩
        · have hm : more ∈ fl := Classical.byContradiction fun x => e (by rw [decide_eq_false x]; rfl)
          exact ⟨_, fl, _, _, rfl, hf8, nf8, fun _ => List.length_pos_of_mem hm, l5, nd, rng, goH8, hD8.up (by omega)⟩
    · obtain ⟨g3, fl, y4, y5, rfl, hf5, nf5, e1, l5, nd, rng, go5, hD5⟩ := hW
      refine ⟨.ref d, rfl, d, g3, c, _, 21, rfl, hD5, by omega, by decide, by decide, fun H6 g6 far but6 hg6 hD6 f0 f1 => ?_⟩
      have go6 : Go H5 H6 d g3 g6 := ⟨but6, hg6⟩
      have hf6 := go6.lst hD5 hf5 nf5
      have nf6 := go6.ne hf5 nf5
      have goH6 := go5.trans hD5 hD.nd.2.1 go6
      have l1 := e1 (by omega)
      have done : ∀ (H9 : Hp) (g9 : Addr) (fl9 : List Int) (x6 : Option V), H9 fa = some (.lst (fl9.map V.int)) → Go H H9 d g g9 → Draw H9 d g9 c (n + 50) → IsSc N fl9 → tRet (tTup (tCons (tVar 1) (tCons (tCB (fun xs H_1 Q => ∃ p ys, xs = [V.ref p] ∧ ((SqL K H_1 p ys ∧ ∀ (l : Addr), H_1 l = none → Q (V.ref l) (upd H_1 l (HO.tup ys))) ∨ SqT K H_1 p ys ∧ Q (V.ref p) H_1)) (tCons (tVar 3) tNil)) tNil))) { nx := fun _ H' => Q .non H', rt := Q } [some (.ref d), some (.int N), some (.int way), some (.ref fa), y4, y5, x6] H9 := fun H9 g9 fl9 x6 a1 a2 a3 a4 => by
        refine ⟨.int N, rfl, .ref fa, rfl, fa, _, rfl, .inl ⟨.inl (.inl a1), fun t nt => ⟨(by decide : 2 ≤ sizeLine), fun r nr => ?_⟩⟩⟩
        have s1 := same_upd (o := .tup (fl9.map V.int)) nt
        have s2 := same_upd (o := .tup [V.int N, V.ref t]) nr
        exact q _ g9 r t N fl9 ((a2.same s1).same s2) ((a3.same s1).same s2) a4 upd_same (s2 _ _ upd_same)
      refine ⟨.int far, rfl, .ref fa, rfl, fa, _, rfl, .inl (.inl (.inl hf6)), rfl, flat_ints fl, _, rfl, ?_⟩
      rw [in_ints]
      have keep := fun (H9 : Hp) (s9 : Same H6 H9) => done H9 g6 fl (some (.int far)) (s9 _ _ hf6) (goH6.same s9) ((hD6.same s9).up (by omega)) ⟨d2, d5, l1, l5, rng, nd⟩
      refine ite2 (fun e => ?_) (fun e => iteF (keep _ (Same.refl _)))
      have hm : far ∉ fl := fun x => by rw [decide_eq_true x] at e; cases e
      refine ⟨.ref fa, rfl, fa, _, rfl, .inl (.inl (.inl hf6)), _, 5, rfl, rfl, _, rfl, ite2 (fun e2 => ?_) (fun e2 => iteF (keep _ (Same.refl _)))⟩
      have hl3 : fl.length < 5 := by
        have z2 := of_decide_eq_true e2
        rw [List.length_map] at z2
        omega
      refine ⟨.ref d, rfl, d, g6, c, _, 3, rfl, hD6, by omega, by decide, by decide, fun H7 g7 u but7 hg7 hD7 u0 u1 => ?_⟩
      have go7 : Go H6 H7 d g6 g7 := ⟨but7, hg7⟩
      have hf7 := go7.lst hD6 hf6 nf6
      have nf7 := go7.ne hf6 nf6
      have goH7 := goH6.trans hD6 hD.nd.2.1 go7
      refine ⟨rfl, _, rfl, ite2 (fun e3 => ?_) (fun e3 => ?_)⟩
      · refine ⟨.ref fa, rfl, .inl ⟨rfl, _, .inl (.inl hf7)⟩, .int far, rfl, fa, _, _, rfl, rfl, hf7, by rw [List.length_map]; exact small1000 (by omega), ?_⟩
        have ea : fl.map V.int ++ [V.int far] = (fl ++ [far]).map V.int := by rw [List.map_append]; rfl
        rw [ea]
        refine done _ g7 (fl ++ [far]) (some (.int far)) upd_same ⟨fun b o eb n1 n2 => ?_, goH7.fresh⟩ ((hD7.upd ndf nf7 ncf).up (by omega)) ⟨d2, d5, by rw [List.length_append]; omega, by rw [List.length_append, List.length_singleton]; omega, fun s hs => ?_, ?_⟩
        · rw [upd_ne (nb b o eb n1 n2)]
          exact goH7.but b o eb n1 n2
        · rcases List.mem_append.mp hs with x | x
          · exact rng s x
          · rw [List.mem_singleton.mp x]; omega
        · refine List.nodup_append.mpr ⟨nd, by simp, fun x hx y hy => ?_⟩
          rw [List.mem_singleton.mp hy]
          exact fun z => hm (by rw [← z]; exact hx)
      · exact done H7 g7 fl (some (.int far)) hf7 goH7 (hD7.up (by omega)) ⟨d2, d5, l1, l5, rng, nd⟩
  · refine ⟨.ref d, rfl, d, g2b, c, _, 5, rfl, hD3, by omega, by decide, by decide, fun H3b g3b u butu hgu hD3b u0 u1 => ⟨1, u, rfl, rfl, ?_⟩⟩
    have gou : Go H3 H3b d g2b g3b := ⟨butu, hgu⟩
    have nfgb := gou.ne hfa nfg
    replace hfa := gou.lst hD3 hfa nfg
    replace go := go.trans hD3 hD.nd.2.1 gou
    clear nfg
    have nfg := nfgb
    replace hD3 := hD3b
    clear hD3b gou butu hgu nfgb
    obtain ⟨cn, hcn⟩ : ∃ cn : Int, 1 + u = cn := ⟨_, rfl⟩
    have c1 : 1 ≤ cn := by omega
    have c5 : cn ≤ 5 := by omega
    refine ⟨1 + u, rfl, by omega, by omega, ?_⟩
    rw [show ((1 : Int) + u).toNat = cn.toNat by rw [hcn]]
    refine for_it (walk_range (lo := 0) (n := cn.toNat)) (fun i σ H5 => ∃ (g3 : Addr) (fl : List Int) (y4 y5 : Option V), σ = [some (.ref d), some (.int N), some (.int way), some (.ref fa), y4, y5, none] ∧ H5 fa = some (.lst (fl.map V.int)) ∧ fa ≠ g3 ∧ (1 ≤ i → 1 ≤ fl.length) ∧ fl.length ≤ 5 ∧ fl.Nodup ∧ (∀ s ∈ fl, 0 ≤ s ∧ s ≤ 20) ∧ Go H H5 d g g3 ∧ Draw H5 d g3 c (n + 3 + 4 * i))
      ⟨_, [], none, none, rfl, hfa, nfg, fun h => absurd h (by decide), Nat.zero_le _, List.nodup_nil, fun _ h => (by cases h), go, hD3.up (by omega)⟩ (fun _ _ _ _ _ => trivial) (fun i x σ H5 H6 hi hW y => ?_) (fun σ H5 hW => ?_)
    · obtain ⟨g3, fl, y4, y5, rfl, hf5, nf5, e1, l5, nd, rng, go5, hD5⟩ := hW
      obtain ⟨rfl, rfl⟩ := y
      refine ⟨_, rfl, _, 1, rfl, rfl, ?_⟩
      refine ⟨.int way, rfl, way, 2, rfl, rfl, _, rfl, ite2 (fun ew => ?_) (fun ew => ?_)⟩
      · refine ⟨.ref d, rfl, _, rfl, _, 1, rfl, rfl, _, rfl, .ref d, rfl, .int N, rfl, 2, N, rfl, rfl, .inl ⟨by decide, by decide⟩, _, 2, rfl, rfl, d, g3, c, _, 2 * N + 2, rfl, hD5, by omega, by omega, by omega, fun H7 g7 v7 but7 hg7 hD7 v70 v71 => ⟨.ref d, rfl, d, g7, c, _, 21, rfl, hD7, by omega, by decide, by decide, fun H7b g7b v8 but8 hg8 hD7b v80 v81 => ⟨(by decide : 4 ≤ sizeLine), fun la nla => ?_⟩⟩⟩
        have go7 : Go H6 H7 d g3 g7 := ⟨but7, hg7⟩
        have hf7 := go7.lst hD5 hf5 nf5
        have nf7 := go7.ne hf5 nf5
        have goH7 := go5.trans hD5 hD.nd.2.1 go7
        have go7b : Go H7 H7b d g7 g7b := ⟨but8, hg8⟩
        have hf7b := go7b.lst hD7 hf7 nf7
        have nf7b := go7b.ne hf7 nf7
        have goH7b := goH7.trans hD7 hD.nd.2.1 go7b
        have sl := same_upd (o := .lst [V.int (0 + (i : Nat) + 1), V.int (0 + (i : Nat)), V.int v7, V.int v8]) nla
        have nlg : la ≠ g7b := fun x => by obtain ⟨_, ⟨xs, h1⟩, _⟩ := hD7b.nd; rw [x, h1] at nla; cases nla
        refine ⟨d, g7b, c, la, _, [V.int (0 + (i : Nat) + 1), V.int (0 + (i : Nat)), V.int v7, V.int v8], rfl, hD7b.same sl, by omega, upd_same, nlg, by simp, by simp, fun H8 g8 j o but9 hg9 hD8 hj => ?_⟩
        obtain ⟨more, rfl, m0, m20⟩ : ∃ more : Int, o = .int more ∧ 0 ≤ more ∧ more ≤ 20 := by
          match j, hj with
          | 0, hj => exact ⟨_, (Option.some.inj hj).symm, by omega, by omega⟩
          | 1, hj => exact ⟨_, (Option.some.inj hj).symm, by omega, by omega⟩
          | 2, hj => exact ⟨_, (Option.some.inj hj).symm, by omega, by omega⟩
          | 3, hj => exact ⟨_, (Option.some.inj hj).symm, by omega, by omega⟩
          | j + 4, hj => cases hj
        have go8 : Go _ H8 d g7b g8 := ⟨but9, hg9⟩
        have hf8 := go8.lst (hD7b.same sl) (sl _ _ hf7b) nf7b
        have nf8 := go8.ne (sl _ _ hf7b) nf7b
        have goH8 := (goH7b.same sl).trans (hD7b.same sl) hD.nd.2.1 go8
        refine ⟨.int more, rfl, .ref fa, rfl, fa, _, rfl, .inl (.inl (.inl hf8)), rfl, flat_ints fl, _, rfl, ?_⟩
        rw [in_ints]
        refine ite2 (fun e => ?_) (fun e => ?_)
        · have hm : more ∉ fl := fun x => by rw [decide_eq_true x] at e; cases e
          refine ⟨.ref fa, rfl, fa, _, rfl, .inl (.inl (.inl hf8)), _, 5, rfl, rfl, _, rfl, ite2 (fun e2 => ?_) (fun e2 => ?_)⟩
          · have hl3 : fl.length < 5 := by
              have z2 := of_decide_eq_true e2
              rw [List.length_map] at z2
              omega
            refine ⟨.ref fa, rfl, .inl ⟨rfl, _, .inl (.inl hf8)⟩, .ref d, rfl, .ref fa, rfl, fa, _, rfl, .inl (.inl (.inl hf8)), _, 1, rfl, rfl, d, _, c, _, _, rfl, hD8, by omega, by omega, by rw [List.length_map]; omega, fun HA gA jj butA hgA hDA j0 j1 => ?_⟩
            have goA : Go _ HA d _ gA := ⟨butA, hgA⟩
            have hfA := goA.lst hD8 hf8 nf8
            have nfA := goA.ne hf8 nf8
            have goHA := goH8.trans hD8 hD.nd.2.1 goA
            refine ⟨.int more, rfl, fa, _, jj, .int more, rfl, rfl, hfA, by rw [List.length_map]; exact small1000 (by omega), j0, by rw [List.length_map] at j1; omega, ?_⟩
            have ei : (fl.map V.int).take jj.toNat ++ [V.int more] ++ (fl.map V.int).drop jj.toNat = (fl.take jj.toNat ++ [more] ++ fl.drop jj.toNat).map V.int := by rw [List.map_append, List.map_append, List.map_take, List.map_drop]; rfl
            have pm : (fl.take jj.toNat ++ [more] ++ fl.drop jj.toNat).Perm (more :: fl) := by
              rw [List.perm_iff_count]
              intro a
              have ec := congrArg (List.count a) (List.take_append_drop jj.toNat fl)
              rw [List.count_append] at ec
              simp only [List.count_append, List.count_cons, List.count_nil]
              omega
            refine ⟨gA, fl.take jj.toNat ++ [more] ++ fl.drop jj.toNat, _, _, rfl, by rw [upd_same, ei], nfA, fun _ => by rw [pm.length_eq, List.length_cons]; omega, by rw [pm.length_eq, List.length_cons]; omega, pm.nodup_iff.mpr (List.nodup_cons.mpr ⟨hm, nd⟩), fun s hs => ?_, ⟨fun b o eb n1 n2 => ?_, goHA.fresh⟩, (hDA.upd ndf nfA ncf).up (by omega)⟩
            · rcases List.mem_cons.mp (pm.mem_iff.mp hs) with x | x
              · omega
              · exact rng s x
            · rw [upd_ne (nb b o eb n1 n2)]
              exact goHA.but b o eb n1 n2
          · have hl3 : ¬ fl.length < 5 := fun x => e2 (decide_eq_true (by rw [List.length_map]; omega))
            exact ⟨_, fl, _, _, rfl, hf8, nf8, fun _ => by omega, l5, nd, rng, goH8, hD8.up (by omega)⟩
        · have hm : more ∈ fl := Classical.byContradiction fun x => e (by rw [decide_eq_false x]; rfl)
          exact ⟨_, fl, _, _, rfl, hf8, nf8, fun _ => List.length_pos_of_mem hm, l5, nd, rng, goH8, hD8.up (by omega)⟩
      · obtain ⟨more, hmore⟩ : ∃ more : Int, (0 : Int) + (i : Nat) + 1 = more := ⟨_, rfl⟩
        dsimp only [tNext]
        rw [hmore]
        have m0 : 0 ≤ more := by omega
        have m20 : more ≤ 20 := by omega
        have hf8 := hf5
        have nf8 := nf5
        have goH8 := go5
        have hD8 := hD5
        refine ⟨.int more, rfl, .ref fa, rfl, fa, _, rfl, .inl (.inl (.inl hf8)), rfl, flat_ints fl, _, rfl, ?_⟩
        rw [in_ints]
        refine ite2 (fun e => ?_) (fun e => ?_)
        · have hm : more ∉ fl := fun x => by rw [decide_eq_true x] at e; cases e
          refine ⟨.ref fa, rfl, fa, _, rfl, .inl (.inl (.inl hf8)), _, 5, rfl, rfl, _, rfl, ite2 (fun e2 => ?_) (fun e2 => ?_)⟩
          · have hl3 : fl.length < 5 := by
              have z2 := of_decide_eq_true e2
              rw [List.length_map] at z2
              omega
            refine ⟨.ref fa, rfl, .inl ⟨rfl, _, .inl (.inl hf8)⟩, .ref d, rfl, .ref fa, rfl, fa, _, rfl, .inl (.inl (.inl hf8)), _, 1, rfl, rfl, d, _, c, _, _, rfl, hD8, by omega, by omega, by rw [List.length_map]; omega, fun HA gA jj butA hgA hDA j0 j1 => ?_⟩
            have goA : Go _ HA d _ gA := ⟨butA, hgA⟩
            have hfA := goA.lst hD8 hf8 nf8
            have nfA := goA.ne hf8 nf8
            have goHA := goH8.trans hD8 hD.nd.2.1 goA
            refine ⟨.int more, rfl, fa, _, jj, .int more, rfl, rfl, hfA, by rw [List.length_map]; exact small1000 (by omega), j0, by rw [List.length_map] at j1; omega, ?_⟩
            have ei : (fl.map V.int).take jj.toNat ++ [V.int more] ++ (fl.map V.int).drop jj.toNat = (fl.take jj.toNat ++ [more] ++ fl.drop jj.toNat).map V.int := by rw [List.map_append, List.map_append, List.map_take, List.map_drop]; rfl
            have pm : (fl.take jj.toNat ++ [more] ++ fl.drop jj.toNat).Perm (more :: fl) := by
              rw [List.perm_iff_count]
              intro a
              have ec := congrArg (List.count a) (List.take_append_drop jj.toNat fl)
              rw [List.count_append] at ec
              simp only [List.count_append, List.count_cons, List.count_nil]
              omega
            refine ⟨gA, fl.take jj.toNat ++ [more] ++ fl.drop jj.toNat, _, _, rfl, by rw [upd_same, ei], nfA, fun _ => by rw [pm.length_eq, List.length_cons]; omega, by rw [pm.length_eq, List.length_cons]; omega, pm.nodup_iff.mpr (List.nodup_cons.mpr ⟨hm, nd⟩), fun s hs => ?_, ⟨fun b o eb n1 n2 => ?_, goHA.fresh⟩, (hDA.upd ndf nfA ncf).up (by omega)⟩
            · rcases List.mem_cons.mp (pm.mem_iff.mp hs) with x | x
              · omega
              · exact rng s x
            · rw [upd_ne (nb b o eb n1 n2)]
              exact goHA.but b o eb n1 n2
          · have hl3 : ¬ fl.length < 5 := fun x => e2 (decide_eq_true (by rw [List.length_map]; omega))
            exact ⟨_, fl, _, _, rfl, hf8, nf8, fun _ => by omega, l5, nd, rng, goH8, hD8.up (by omega)⟩
        · have hm : more ∈ fl := Classical.byContradiction fun x => e (by rw [decide_eq_false x]; rfl)
          exact ⟨_, fl, _, _, rfl, hf8, nf8, fun _ => List.length_pos_of_mem hm, l5, nd, rng, goH8, hD8.up (by omega)⟩
    · obtain ⟨g3, fl, y4, y5, rfl, hf5, nf5, e1, l5, nd, rng, go5, hD5⟩ := hW
      refine ⟨.ref d, rfl, d, g3, c, _, 21, rfl, hD5, by omega, by decide, by decide, fun H6 g6 far but6 hg6 hD6 f0 f1 => ?_⟩
      have go6 : Go H5 H6 d g3 g6 := ⟨but6, hg6⟩
      have hf6 := go6.lst hD5 hf5 nf5
      have nf6 := go6.ne hf5 nf5
      have goH6 := go5.trans hD5 hD.nd.2.1 go6
      have l1 := e1 (by omega)
      have done : ∀ (H9 : Hp) (g9 : Addr) (fl9 : List Int) (x6 : Option V), H9 fa = some (.lst (fl9.map V.int)) → Go H H9 d g g9 → Draw H9 d g9 c (n + 50) → IsSc N fl9 → tRet (tTup (tCons (tVar 1) (tCons (tCB (fun xs H_1 Q => ∃ p ys, xs = [V.ref p] ∧ ((SqL K H_1 p ys ∧ ∀ (l : Addr), H_1 l = none → Q (V.ref l) (upd H_1 l (HO.tup ys))) ∨ SqT K H_1 p ys ∧ Q (V.ref p) H_1)) (tCons (tVar 3) tNil)) tNil))) { nx := fun _ H' => Q .non H', rt := Q } [some (.ref d), some (.int N), some (.int way), some (.ref fa), y4, y5, x6] H9 := fun H9 g9 fl9 x6 a1 a2 a3 a4 => by
        refine ⟨.int N, rfl, .ref fa, rfl, fa, _, rfl, .inl ⟨.inl (.inl a1), fun t nt => ⟨(by decide : 2 ≤ sizeLine), fun r nr => ?_⟩⟩⟩
        have s1 := same_upd (o := .tup (fl9.map V.int)) nt
        have s2 := same_upd (o := .tup [V.int N, V.ref t]) nr
        exact q _ g9 r t N fl9 ((a2.same s1).same s2) ((a3.same s1).same s2) a4 upd_same (s2 _ _ upd_same)
      refine ⟨.int far, rfl, .ref fa, rfl, fa, _, rfl, .inl (.inl (.inl hf6)), rfl, flat_ints fl, _, rfl, ?_⟩
      rw [in_ints]
      have keep := fun (H9 : Hp) (s9 : Same H6 H9) => done H9 g6 fl (some (.int far)) (s9 _ _ hf6) (goH6.same s9) ((hD6.same s9).up (by omega)) ⟨d2, d5, l1, l5, rng, nd⟩
      refine ite2 (fun e => ?_) (fun e => iteF (keep _ (Same.refl _)))
      have hm : far ∉ fl := fun x => by rw [decide_eq_true x] at e; cases e
      refine ⟨.ref fa, rfl, fa, _, rfl, .inl (.inl (.inl hf6)), _, 5, rfl, rfl, _, rfl, ite2 (fun e2 => ?_) (fun e2 => iteF (keep _ (Same.refl _)))⟩
      have hl3 : fl.length < 5 := by
        have z2 := of_decide_eq_true e2
        rw [List.length_map] at z2
        omega
      refine ⟨.ref d, rfl, d, g6, c, _, 3, rfl, hD6, by omega, by decide, by decide, fun H7 g7 u but7 hg7 hD7 u0 u1 => ?_⟩
      have go7 : Go H6 H7 d g6 g7 := ⟨but7, hg7⟩
      have hf7 := go7.lst hD6 hf6 nf6
      have nf7 := go7.ne hf6 nf6
      have goH7 := goH6.trans hD6 hD.nd.2.1 go7
      refine ⟨rfl, _, rfl, ite2 (fun e3 => ?_) (fun e3 => ?_)⟩
      · refine ⟨.ref fa, rfl, .inl ⟨rfl, _, .inl (.inl hf7)⟩, .int far, rfl, fa, _, _, rfl, rfl, hf7, by rw [List.length_map]; exact small1000 (by omega), ?_⟩
        have ea : fl.map V.int ++ [V.int far] = (fl ++ [far]).map V.int := by rw [List.map_append]; rfl
        rw [ea]
        refine done _ g7 (fl ++ [far]) (some (.int far)) upd_same ⟨fun b o eb n1 n2 => ?_, goH7.fresh⟩ ((hD7.upd ndf nf7 ncf).up (by omega)) ⟨d2, d5, by rw [List.length_append]; omega, by rw [List.length_append, List.length_singleton]; omega, fun s hs => ?_, ?_⟩
        · rw [upd_ne (nb b o eb n1 n2)]
          exact goH7.but b o eb n1 n2
        · rcases List.mem_append.mp hs with x | x
          · exact rng s x
          · rw [List.mem_singleton.mp x]; omega
        · refine List.nodup_append.mpr ⟨nd, by simp, fun x hx y hy => ?_⟩
          rw [List.mem_singleton.mp hy]
          exact fun z => hm (by rw [← z]; exact hx)
      · exact done H7 g7 fl (some (.int far)) hf7 goH7 (hD7.up (by omega)) ⟨d2, d5, l1, l5, rng, nd⟩
end
end LK
namespace LK
open PySem PySem.Spec PyProof.Rows L2 CD
section
variable {P : Program} {w : World} {K : PySem.W.Frag} {mg : Str → Option Value} {base : Heap}
def minW : Option Int → Int → Int
  | none, x => x
  | some m, x => min m x
theorem leastO_snoc (l : List Int) (x : Int) : leastO (l ++ [x]) = some (minW (leastO l) x) := by
  cases l with
  | nil => rfl
  | cons y r =>
    show some ((r ++ [x]).foldl min y) = some (min (r.foldl min y) x)
    rw [List.foldl_append]
    rfl
/-- what is known of those on whom G hangs -/
structure Kn (H : Hp) (kd : Addr) (N : Int) (ads : List Int) (G : Int) (es : List (Int × V)) : Prop where
  dk : H kd = some (.dK (dkV es))
  nd : (es.map (·.1)).Nodup
  val : ∀ e ∈ es, e.2 = oV (tk N ads e.1)
  zero : (0 : Int) ∈ es.map (·.1)
  near : ∀ k ∈ es.map (·.1), k = 0 ∨ Near N G k
theorem Kn.few {H : Hp} {kd : Addr} {N : Int} {ads : List Int} {G : Int} {es : List (Int × V)} (h : Kn H kd N ads G es) (S : IsSc N ads) (h0 : 0 ≤ G) (h30 : G ≤ 10 ^ 30) : es.length ≤ 2122 := by
  have z := nodup_lenT (es.map (·.1)) (0 :: nearL N G) h.nd fun k hk => by
    rcases h.near k hk with e | e
    · rw [e]; exact List.mem_cons_self
    · exact List.mem_cons_of_mem _ (near_mem S.d2 h0 h30 e)
  rw [List.length_map, List.length_cons, nearL_len] at z
  exact z
theorem Kn.keep {H H' : Hp} {kd : Addr} {N : Int} {ads : List Int} {G : Int} {es : List (Int × V)} (h : Kn H kd N ads G es) (s : Same H H') : Kn H' kd N ads G es := ⟨s _ _ h.dk, h.nd, h.val, h.zero, h.near⟩
theorem SqT_keep {H H' : Hp} {kd a : Addr} {xs : List V} {kv : List (Key × V)} (h : SqT K H a xs) (k : Keep2 H H' kd kd) (d : H kd = some (.dK kv)) : SqT K H' a xs := by
  have ne : ∀ o, H a = some o → (∀ kv, o ≠ .dK kv) → a ≠ kd := fun o e n x => by
    rw [x, d] at e
    cases e
    exact n kv rfl
  rcases h with (h | ⟨o, h⟩) | h
  · have := ne _ h (fun _ z => nomatch z)
    exact .inl (.inl (k _ _ h this this))
  · have := ne _ h (fun _ z => nomatch z)
    exact .inl (.inr ⟨o, k _ _ h this this⟩)
  · exact .inr h
theorem ScAt.kept {H H' : Hp} {kd a t : Addr} {N : Int} {ads : List Int} {kv : List (Key × V)} (h : ScAt K H a t N ads) (k : Keep2 H H' kd kd) (d : H kd = some (.dK kv)) : ScAt K H' a t N ads := ⟨SqT_keep h.sc k d, SqT_keep h.ads k d⟩
def spSA (K : PySem.W.Frag) (m : Nat) : Sp := fun vs H Q _ => ∃ (a t kd : Addr) (N goal G : Int) (ads : List Int) (es : List (Int × V)), vs = [.ref a, .int goal, .ref kd] ∧ ScAt K H a t N ads ∧ IsSc N ads ∧ 0 ≤ goal ∧ goal < 2 ^ m ∧ Near N G goal ∧ 0 ≤ G ∧ G ≤ 10 ^ 30 ∧ Kn H kd N ads G es ∧
  ∀ H' es', Keep2 H H' kd kd → Kn H' kd N ads G es' → (∀ k ∈ es.map (·.1), k ∈ es'.map (·.1)) → goal ∈ es'.map (·.1) → (goal ∉ es.map (·.1) → ∀ p ∈ callsO N ads goal, p.1 ∈ es'.map (·.1)) → (∀ k ∈ es'.map (·.1), k ∈ es.map (·.1) ∨ k ≤ goal) → Q (oV (tk N ads goal)) H'
theorem cal_spread_at (z : Z mg) (m : Nat) (sp : Sp) (hsp : ∀ m', m = m' + 1 → sp = spSA K m') (c__law_spread_at : Cal P w K mg base m "_law_spread_at" p__law_spread_at sp) (D : Def K mg "_law_spread_at" s__law_spread_at p__law_spread_at) : Cal P w K mg base (m + 1) "_law_spread_at" p__law_spread_at (spSA K m) := by
  refine D.cal sc__law_spread_at (fun vs H Q E h => by obtain ⟨_, _, _, _, _, _, _, _, rfl, _⟩ := h; rfl) fun f cdv A outer s H vs Q E hr h => ?_
  obtain ⟨a, t, kd, N, goal, G, ads, es, rfl, hS, hR, g0, gm, gN, G0, G30, kn, q⟩ := h
  have hu := hu_of hr
  have d2 := hR.d2
  have d5 := hR.d5
  refine ⟨_, (pss_cons (ps_if (pt_cmp (pc_dnotin hu (pv 1) (pv 2))) (pss_cons (ps_set (i := 3) sc__law_spread_at.nd rfl (Or.inl rfl) pe_non)
        (pss_cons (ps_for PassesOwn.never rfl (pi_enum1 (by rfl) z.«enumerate» (pa_cons (pe_ix ix_tup (pv 0) pe_int (fun _ _ => rfl)) pa_nil)) (pg_tup rfl (pgs_cons (pg_name (i := 4) sc__law_spread_at.nd rfl (Or.inl rfl)) (pgs_cons (pg_name (i := 5) sc__law_spread_at.nd rfl (Or.inl rfl)) pgs_nil))) (pss_one (ps_if (PW.pt (pw_and (pt_cmpR op_ge (pv 1) (pv 5) (nomark _)) (pw_and1 (pt_cmpR op_eq (pe_op op_modN (pe_callTy (call_int1) (by rfl) z.«int» (by decide +kernel) (pa_cons (pe_op op_sub (pv 1) (pv 5)) pa_nil)) (pe_ix ix_tup (pv 0) pe_int (fun _ _ => rfl))) pe_int (nomark _))))) (pss_cons (ps_set (i := 6) sc__law_spread_at.nd rfl (Or.inl rfl) (pe_cal c__law_spread_at (hr.mono (Nat.le_refl _)) (by rfl) (pa_cons (pv 0) (pa_cons (pe_op op_fdivN (pe_op op_sub (pv 1) (pv 5)) (pe_ix ix_tup (pv 0) pe_int (fun _ _ => rfl))) (pa_cons (pv 2) pa_nil)))))
        (pss_one (ps_if (PW.pt (pw_and (pt_cmpR op_notN (pv 6) pe_non (nomark _)) (pw_and1 (PW.pt (pw_or (pt_cmpR op_isN (pv 3) pe_non (nomark _)) (pw_or1 (pt_cmpR op_lt (pe_op op_add (pe_op op_add (pv 6) (pv 4)) pe_int) (pv 3) (nomark _)))))))) (pss_one (ps_set (i := 3) sc__law_spread_at.nd rfl (Or.inl rfl) (pe_op op_add (pe_op op_add (pv 6) (pv 4)) pe_int))) pss_nil))) pss_nil)))
        (pss_one (ps_dput hu (pv 2) (pv 1) (pv 3) rfl)))) pss_nil)
        (pss_one (ps_ret (pe_dget hu (pv 2) (pv 1) (fun _ _ => rfl))))), ?_⟩
  obtain ⟨o, dg, ho⟩ := din_of goal kn.dk
  have fin : ∀ (H9 : Hp) (es' : List (Int × V)), Keep2 H H9 kd kd → Kn H9 kd N ads G es' → (∀ k ∈ es.map (·.1), k ∈ es'.map (·.1)) → goal ∈ es'.map (·.1) → (goal ∉ es.map (·.1) → ∀ p ∈ callsO N ads goal, p.1 ∈ es'.map (·.1)) → (∀ k ∈ es'.map (·.1), k ∈ es.map (·.1) ∨ k ≤ goal) → ∃ v, DGet H9 kd (.int goal) (some v) ∧ Q v H9 := fun H9 es' k1 k2 k3 k4 k5 k6 => by
    obtain ⟨v, hv⟩ := at_key k4
    have ev := k2.val _ hv
    dsimp only at ev
    subst ev
    exact ⟨_, dget_of k2.dk k2.nd hv, q H9 es' k1 k2 k3 k4 k5 k6⟩
  refine ⟨.int goal, rfl, .ref kd, rfl, kd, o, rfl, dg, _, rfl, ite2 (fun c => ?_) (fun c => ?_)⟩
  · have gn : goal ∉ es.map (·.1) := fun x => by rw [ho.mpr x] at c; cases c
    have g1 : 1 ≤ goal := by
      have : goal ≠ 0 := fun x => gn (by rw [x]; exact kn.zero)
      omega
    obtain ⟨m', rfl⟩ : ∃ m', m = m' + 1 := by
      cases m with
      | zero => rw [show (2 : Int) ^ 0 = 1 from rfl] at gm; omega
      | succ m' => exact ⟨m', rfl⟩
    have esp := hsp m' rfl
    subst esp
    refine ⟨.ref a, rfl, a, _, 1, _, rfl, rfl, hS.sc, atI_nat (j := 1) rfl, t, ads.map V.int, rfl, hS.ads, ?_⟩
    refine for_it (walk_enumT (K := K) (a := t) (k := 0) (xs := ads.map V.int)) (fun j σ H5 => ∃ es5 y4 y5 y6, σ = [some (.ref a), some (.int goal), some (.ref kd), some (oV (leastO ((ads.zipIdx.take j).filterMap (callT N ads goal)))), y4, y5, y6] ∧ Keep2 H H5 kd kd ∧ Kn H5 kd N ads G es5 ∧ (∀ k ∈ es.map (·.1), k ∈ es5.map (·.1)) ∧ (∀ k ∈ es5.map (·.1), k ∈ es.map (·.1) ∨ k < goal) ∧ (∀ e ∈ ads.zipIdx.take j, e.1 ≤ goal ∧ (goal - e.1) % N = 0 → (goal - e.1) / N ∈ es5.map (·.1)))
      ⟨es, none, none, none, rfl, fun b o e _ _ => e, kn, fun _ h => h, fun _ h => .inl h, fun _ h => (by cases h)⟩ (fun j σ H5 _ hW => ?_) (fun j x σ H5 H6 hj hW y => ?_) (fun σ H5 hW => ?_)
    · obtain ⟨_, _, _, _, _, k5, _⟩ := hW
      exact SqT_keep hS.ads k5 kn.dk
    · obtain ⟨es5, y4, y5, y6, rfl, kp, kn5, sub, low, got⟩ := hW
      obtain ⟨T, v1, v2, rfl, nT, rfl, g1', g2'⟩ := y
      have sT : Same H5 (upd H5 T (.tup [v1, v2])) := same_upd nT
      obtain rfl := (Option.some.inj g1').symm
      rw [List.length_map] at hj
      have hsi : ads[j]? = some ads[j] := List.getElem?_eq_getElem hj
      have g3 : (ads.map V.int)[j]? = some v2 := g2'
      rw [List.getElem?_map, hsi] at g3
      obtain rfl := (Option.some.inj g3).symm
      have rg := hR.rng ads[j] (List.getElem_mem _)
      have tkj : ads.zipIdx.take (j + 1) = ads.zipIdx.take j ++ [(ads[j], j)] := by
        rw [List.take_add_one, List.getElem?_zipIdx, hsi]
        simp
      have kn7 := kn5.keep sT
      have kp7 : Keep2 H (upd H5 T (.tup [V.int (0 + (j : Nat)), V.int ads[j]])) kd kd := kp.trans sT.keep2
      have sc7 := hS.kept kp7 kn.dk
      refine ⟨T, _, rfl, .inl (.inl upd_same), rfl, _, _, rfl, _, _, rfl, rfl, ?_⟩
      show tIfS _ _ _ _ _ (upd H5 T _)
      generalize upd H5 T (.tup [V.int (0 + (j : Nat)), V.int ads[j]]) = H7 at kn7 kp7 sc7
      generalize ads[j] = st at *
      have efd : (goal - st).fdiv N = (goal - st) / N := Int.fdiv_eq_ediv_of_nonneg _ (by omega)
      have efm : (goal - st).fmod N = (goal - st) % N := Int.fmod_eq_emod_of_nonneg _ (by omega)
      have at0 : atI [V.int N, V.ref t] 0 = some (V.int N) := atI_nat (j := 0) rfl
      have inv : ∀ (H9 : Hp) (es9 : List (Int × V)) (b9 : Option Int) (u6 : Option V), Keep2 H H9 kd kd → Kn H9 kd N ads G es9 → (∀ k ∈ es5.map (·.1), k ∈ es9.map (·.1)) → (∀ k ∈ es9.map (·.1), k ∈ es.map (·.1) ∨ k < goal) → (st ≤ goal ∧ (goal - st) % N = 0 → (goal - st) / N ∈ es9.map (·.1)) → leastO ((ads.zipIdx.take (j + 1)).filterMap (callT N ads goal)) = b9 →
          ∃ es5 y4 y5 y6, ([some (.ref a), some (.int goal), some (.ref kd), some (oV b9), some (.int (0 + (j : Nat))), some (.int st), u6] : L2.St) = [some (.ref a), some (.int goal), some (.ref kd), some (oV (leastO ((ads.zipIdx.take (j + 1)).filterMap (callT N ads goal)))), y4, y5, y6] ∧ Keep2 H H9 kd kd ∧ Kn H9 kd N ads G es5 ∧ (∀ k ∈ es.map (·.1), k ∈ es5.map (·.1)) ∧ (∀ k ∈ es5.map (·.1), k ∈ es.map (·.1) ∨ k < goal) ∧ (∀ e ∈ ads.zipIdx.take (j + 1), e.1 ≤ goal ∧ (goal - e.1) % N = 0 → (goal - e.1) / N ∈ es5.map (·.1)) := fun H9 es9 b9 u6 a1 a2 a3 a4 a5 a6 => by
        refine ⟨es9, _, _, _, by rw [a6], a1, a2, fun k hk => a3 k (sub k hk), a4, fun e he he2 => ?_⟩
        rw [tkj] at he
        rcases List.mem_append.mp he with x | x
        · exact a3 _ (got e x he2)
        · rw [List.mem_singleton.mp x] at he2 ⊢
          exact a5 he2
      have etk : leastO ((ads.zipIdx.take (j + 1)).filterMap (callT N ads goal)) = leastO ((ads.zipIdx.take j).filterMap (callT N ads goal) ++ [(st, j)].filterMap (callT N ads goal)) := by rw [tkj, List.filterMap_append]
      clear tkj
      generalize hb : leastO ((ads.zipIdx.take j).filterMap (callT N ads goal)) = bo at *
      refine ⟨.int goal, rfl, .int st, rfl, goal, st, rfl, rfl, _, rfl, ite2 (fun c1 => ?_) (fun c1 => ?_)⟩
      · have c1' : st ≤ goal := of_decide_eq_true c1
        refine ⟨.int goal, rfl, .int st, rfl, goal, st, rfl, rfl, .inl ⟨_, rfl, .ref a, rfl, a, _, 0, _, rfl, rfl, sc7.sc, at0, _, N, rfl, rfl, (by omega : N ≠ 0), rfl, _, rfl, ite2 (fun c2 => ?_) (fun c2 => ?_)⟩⟩
        · have c2' : (goal - st) % N = 0 := by
            have z3 : V.int ((goal - st).fmod N) = V.int 0 := of_decide_eq_true c2
            injection z3 with z3
            rw [← efm]
            exact z3
          have dl := div_lt d2 d5 goal st g1 rg.1
          have q0 : 0 ≤ (goal - st) / N := Int.ediv_nonneg (by omega) (by omega)
          have qm : (goal - st) / N < 2 ^ m' := by
            have e2 : (2 : Int) ^ (m' + 1) = 2 * 2 ^ m' := by rw [Int.pow_succ]; omega
            have hN : N = 2 ∨ N = 3 ∨ N = 4 ∨ N = 5 := by omega
            rcases hN with h | h | h | h <;> subst h <;> omega
          have hc : callT N ads goal (st, j) = (tk N ads ((goal - st) / N)).map (· + (1 + (j : Int))) := by
            unfold callT
            rw [if_pos (show st ≤ goal ∧ (goal - st) % N = 0 from ⟨c1', c2'⟩)]
          refine ⟨.ref a, rfl, .int goal, rfl, .int st, rfl, goal, st, rfl, rfl, .ref a, rfl, a, _, 0, _, rfl, rfl, sc7.sc, at0, _, N, rfl, rfl, ⟨by omega, by omega⟩, .ref kd, rfl, a, t, kd, N, (goal - st).fdiv N, G, ads, es5, rfl, sc7, hR, by rw [efd]; exact q0, by rw [efd]; exact qm, by rw [efd]; exact gN.step d2 rg.1 rg.2 c1', G0, G30, kn7, fun H8 es8 k8 kn8 sub8 in8 cl8 low8 => ?_⟩
          rw [efd] at in8 low8 ⊢
          have kp8 := kp7.trans k8
          have lw : ∀ k ∈ es8.map (·.1), k ∈ es.map (·.1) ∨ k < goal := fun k hk => by
            rcases low8 k hk with x | x
            · exact low k x
            · exact .inr (by omega)
          replace inv := fun (b9 : Option Int) (u6 : Option V) => inv H8 es8 b9 u6 kp8 kn8 sub8 lw (fun _ => in8)
          have ecall : [(st, j)].filterMap (callT N ads goal) = (callT N ads goal (st, j)).toList := by
            cases e : callT N ads goal (st, j) <;> simp [e]
          rw [ecall, hc] at etk
          cases et : tk N ads ((goal - st) / N) with
          | none =>
            rw [et] at etk
            refine ⟨_, rfl, rfl, false, rfl, iteF (inv bo _ (etk.trans ?_))⟩
            show leastO (_ ++ []) = bo
            rw [List.append_nil]
            exact hb
          | some u =>
            rw [et] at etk
            have e5 : leastO ((ads.zipIdx.take (j + 1)).filterMap (callT N ads goal)) = some (minW bo (u + (1 + (j : Int)))) := by
              rw [etk]
              show leastO (_ ++ [u + (1 + (j : Int))]) = _
              rw [leastO_snoc, hb]
            have ej : u + ((0 : Int) + (j : Nat)) + 1 = u + (1 + (j : Int)) := by omega
            refine ⟨_, rfl, rfl, true, rfl, iteT ?_⟩
            cases bo with
            | none =>
              refine ⟨_, rfl, rfl, true, rfl, iteT ⟨.int u, rfl, .int (0 + (j : Nat)), rfl, u, _, rfl, rfl, _, 1, rfl, rfl, ?_⟩⟩
              have z := inv (some (u + ((0 : Int) + (j : Nat)) + 1)) (some (.int u)) (by rw [e5, ej]; rfl)
              exact z
            | some b =>
              refine ⟨_, rfl, rfl, false, rfl, iteF ⟨.int u, rfl, .int (0 + (j : Nat)), rfl, u, _, rfl, rfl, _, 1, rfl, rfl, .int b, rfl, _, b, rfl, rfl, _, rfl, ite2 (fun c3 => ?_) (fun c3 => ?_)⟩⟩
              · have c3' : u + ((0 : Int) + (j : Nat)) + 1 < b := of_decide_eq_true c3
                refine ⟨.int u, rfl, .int (0 + (j : Nat)), rfl, u, _, rfl, rfl, _, 1, rfl, rfl, ?_⟩
                exact inv (some (u + ((0 : Int) + (j : Nat)) + 1)) (some (.int u)) (by rw [e5, ej]; show some (min b _) = _; rw [show min b (u + (1 + (j : Int))) = u + (1 + (j : Int)) by omega])
              · have c3' : ¬ u + ((0 : Int) + (j : Nat)) + 1 < b := fun x => c3 (decide_eq_true x)
                exact inv (some b) (some (.int u)) (by rw [e5]; show some (min b _) = _; rw [show min b (u + (1 + (j : Int))) = b by omega])
        · have c2' : ¬ (goal - st) % N = 0 := fun x => c2 (decide_eq_true (show V.int ((goal - st).fmod N) = V.int 0 by rw [efm, x]))
          refine inv H7 es5 bo _ kp7 kn7 (fun _ h => h) low (fun x => absurd x.2 c2') ?_
          have hc : callT N ads goal (st, j) = none := by
            unfold callT
            rw [if_neg (show ¬ (st ≤ goal ∧ (goal - st) % N = 0) from fun x => c2' x.2)]
          rw [etk, show [(st, j)].filterMap (callT N ads goal) = [] by simp [hc], List.append_nil]
          exact hb
      · have c1' : ¬ st ≤ goal := fun x => c1 (decide_eq_true x)
        refine inv H7 es5 bo _ kp7 kn7 (fun _ h => h) low (fun x => absurd x.1 c1') ?_
        have hc : callT N ads goal (st, j) = none := by
          unfold callT
          rw [if_neg (show ¬ (st ≤ goal ∧ (goal - st) % N = 0) from fun x => c1' x.1)]
        rw [etk, show [(st, j)].filterMap (callT N ads goal) = [] by simp [hc], List.append_nil]
        exact hb
    · obtain ⟨es5, y4, y5, y6, rfl, kp, kn5, sub, low, got⟩ := hW
      rw [List.length_map, List.take_of_length_le (Nat.le_of_eq List.length_zipIdx)] at *
      have gn5 : goal ∉ es5.map (·.1) := fun x => by
        rcases low goal x with y | y
        · exact gn y
        · omega
      have few := kn5.few hR G0 G30
      have nd9 : ((es5 ++ [(goal, oV (tk N ads goal))]).map (·.1)).Nodup := by
        rw [List.map_append]
        refine List.nodup_append.mpr ⟨kn5.nd, by simp, fun x hx y hy => ?_⟩
        rw [List.mem_singleton.mp hy]
        exact fun z => gn5 (by have z2 : x = goal := z; rw [← z2]; exact hx)
      have et := tk_calls hR g1
      refine ⟨_, rfl, .ref kd, rfl, .int goal, rfl, kd, _, rfl, dput_of (v := oV (leastO (ads.zipIdx.filterMap (callT N ads goal)))) kn5.dk gn5 (by rw [sizeLine_eq]; omega), ?_⟩
      rw [← et]
      suffices hh : ∃ v, DGet (upd H5 kd (.dK (dkV (es5 ++ [(goal, oV (tk N ads goal))])))) kd (.int goal) (some v) ∧ Q v (upd H5 kd (.dK (dkV (es5 ++ [(goal, oV (tk N ads goal))])))) by
        obtain ⟨v, dg2, hq⟩ := hh
        exact ⟨.ref kd, rfl, .int goal, rfl, kd, v, rfl, dg2, hq⟩
      refine fin _ (es5 ++ [(goal, oV (tk N ads goal))]) (kp.trans keep2_c) ⟨upd_same, nd9, fun e he => ?_, ?_, fun k hk => ?_⟩ (fun k hk => ?_) ?_ (fun _ p hp => ?_) (fun k hk => ?_)
      · rcases List.mem_append.mp he with x | x
        · exact kn5.val e x
        · rw [List.mem_singleton.mp x]
      · rw [List.map_append]; exact List.mem_append_left _ kn5.zero
      · rw [List.map_append] at hk
        rcases List.mem_append.mp hk with x | x
        · exact kn5.near k x
        · rw [List.mem_singleton.mp x]; exact .inr gN
      · rw [List.map_append]; exact List.mem_append_left _ (sub k hk)
      · rw [List.map_append]; exact List.mem_append_right _ List.mem_cons_self
      · rw [List.map_append]
        refine List.mem_append_left _ ?_
        rw [calls_hits hR g1] at hp
        obtain ⟨e, he, rfl⟩ := List.mem_map.mp hp
        obtain ⟨h1, h2⟩ := List.mem_filter.mp he
        exact got e h1 (of_decide_eq_true h2)
      · rw [List.map_append] at hk
        rcases List.mem_append.mp hk with x | x
        · rcases low k x with y | y
          · exact .inl y
          · exact .inr (by omega)
        · rw [List.mem_singleton.mp x]; exact .inr (Int.le_refl _)
  · have gk : goal ∈ es.map (·.1) := by
      refine ho.mp ?_
      cases x : o.isSome with
      | true => rfl
      | false => rw [x] at c; exact absurd rfl c
    obtain ⟨v, dg2, hq⟩ := fin H es (fun b o e _ _ => e) kn (fun _ h => h) gk (fun x => absurd gk x) (fun _ h => .inl h)
    exact ⟨.ref kd, rfl, .int goal, rfl, kd, v, rfl, dg2, hq⟩
end
end LK
namespace LK
open PySem PySem.Spec PyProof.Rows L2 CD
section
variable {P : Program} {w : World} {K : PySem.W.Frag} {mg : Str → Option Value} {base : Heap}
/-- the calls that come to n: when, and from whom -/
def heardL (N : Int) (ads : List Int) (n : Int) : List (Int × Int) := (callsO N ads n).filterMap fun p => (tk N ads p.1).map fun t => (t + p.2, p.1)
def callerO (N : Int) (ads : List Int) (n : Int) : Option Int :=
  match heardL N ads n with
  | [] => none
  | p :: r => some (minP p r).2
def spCallerOf (K : PySem.W.Frag) : Sp := fun vs H Q _ => ∃ (a t : Addr) (N n : Int) (ads : List Int), vs = [.ref a, .int n] ∧ ScAt K H a t N ads ∧ IsSc N ads ∧ 0 ≤ n ∧ n ≤ 10 ^ 30 ∧ ∀ H', Same H H' → Q (oV (callerO N ads n)) H'
theorem cal_caller_of (z : Z mg) (c_need_scaled : Cal P w K mg base 3 "need_scaled" p_need_scaled (spNeedSc K)) (c_need_person : Cal P w K mg base 3 "need_person" p_need_person (spNeedNum 0))
    (c_callers_of : Cal P w K mg base 2 "callers_of" p_callers_of (spCallersOf K)) (c_ticks_of : Cal P w K mg base 3 "ticks_of" p_ticks_of (spTicksOf K)) (D : Def K mg "caller_of" s_caller_of p_caller_of) : Cal P w K mg base 4 "caller_of" p_caller_of (spCallerOf K) := by
  refine D.cal sc_caller_of (fun vs H Q E h => by obtain ⟨_, _, _, _, _, rfl, _⟩ := h; rfl) fun f cdv A outer s H vs Q E hr h => ?_
  obtain ⟨a, t, N, n, ads, rfl, hS, hR, n0, n30, q⟩ := h
  have hu := hu_of hr
  have hu2 : (A.deeper (envOfC "caller_of" (defScope s_caller_of) s.heap.objs.size f cdv)).units + 2 < cLine := by have := hr.un; omega
  refine ⟨_, (pss_cons (ps_expr (pe_cal c_need_scaled (hr.mono (by decide)) (by rfl) (pa_cons (pv 0) pa_nil)))
        (pss_cons (ps_expr (pe_cal c_need_person (hr.mono (by decide)) (by rfl) (pa_cons (pv 1) pa_nil)))
        (pss_cons (ps_set (i := 2) sc_caller_of.nd rfl (Or.inr rfl) (pe_cal c_ticks_of (hr.mono (by decide)) (by rfl) (pa_cons (pv 0) (pa_cons (pe_lst (pa_cons (pv 1) pa_nil)) pa_nil))))
        (pss_cons (ps_setLc (i := 3) (own := [("caller", 4), ("place", 5)]) (g := (gTup K 2 (gCons (gName 4) (gCons (gName 5) gNil)))) rfl sc_caller_of.nd rfl rfl (sw_true rfl rfl rfl (by decide +kernel)) (pi_list (pe_cal c_callers_of (hr.mono (by decide)) (by rfl) (pa_cons (pv 0) (pa_cons (pv 1) pa_nil)))) (blkOk_by (N := n_caller_of) (sc := defScope s_caller_of) (by decide +kernel)) (fun _ _ _ _ _ => (pg_tup rfl (pgs_cons (pg_name (i := 4) sc_caller_of.nd rfl (Or.inl rfl)) (pgs_cons (pg_name (i := 5) sc_caller_of.nd rfl (Or.inl rfl)) pgs_nil)))) (fun _ _ _ _ _ => (pts_one (pt_cmpR op_notN (pe_dget hu (pv 2) (pv 4) (fun _ _ => rfl)) pe_non (nomark _)))) (fun _ _ _ _ _ => (pe_tup (pa_cons (pe_op op_add (pe_dget hu (pv 2) (pv 4) (fun _ _ => rfl)) (pv 5)) (pa_cons (pv 4) pa_nil)))))
        (pss_one (ps_ret (pe_ifExp (pt_truth (pv 3) (by intro _; rfl)) (pe_ix ix_tup (pe_callB (cr_minP rfl hu2) (by rfl) z.«min» (by decide +kernel) (pa_cons (pv 3) pa_nil)) pe_int (fun _ _ => rfl)) pe_non))))))), ?_⟩
  refine ⟨.ref a, rfl, a, t, N, ads, rfl, hS, hR, fun H1 s1 => ?_⟩
  refine ⟨.int n, rfl, n, rfl, n0, n30, ?_⟩
  refine ⟨.ref a, rfl, .int n, rfl, (by decide : 1 ≤ sizeLine), fun l nl => ?_⟩
  have s2 := same_upd (o := .lst [V.int n]) nl
  refine ⟨a, t, l, N, ads, [n], rfl, (hS.same s1).same s2, hR, .inl (.inl upd_same), (by decide : 1 ≤ 200), fun m hm => by rw [List.mem_singleton.mp hm]; exact ⟨n0, n30⟩, fun H3 d es s3 nd hd ndk het hcl hin => ?_⟩
  have sA := s1.trans (s2.trans s3)
  refine ⟨.ref a, rfl, .int n, rfl, a, t, N, n, ads, rfl, hS.same sA, hR, n0, fun H4 L s4 nL rL => ?_⟩
  obtain ⟨rs, hrs, lrs, ars⟩ := rL.refs
  rw [List.length_map] at lrs
  have l5 := callsO_len5 hR n
  obtain ⟨v0, hv0⟩ := at_key (hin n List.mem_cons_self)
  have val : ∀ p ∈ callsO N ads n, (p.1, oV (tk N ads p.1)) ∈ es := fun p hp => by
    obtain ⟨v, hv⟩ := at_key (hcl _ hv0 p hp)
    have ev := het _ hv
    dsimp only at ev
    rw [← ev]
    exact hv
  refine ⟨L, rfl, ⟨_, .inl (.inl hrs)⟩, fun B nB => ?_⟩
  refine lc_tups (walk_list (K := K) (a := L) (xs := rs.map V.ref)) (callsO N ads n) (fun p => (tk N ads p.1).map fun u => pV (u + p.2, p.1)) (by rw [List.length_map, lrs]) (small1000 (by rw [List.length_map]; omega)) nB (fun H5 s5 => .inl (.inl (s5 _ _ hrs))) (fun i x H5 H6 p R hp s5 y hN hT => ?_) (fun H5 es5 s5 eB em et => ?_)
  · obtain ⟨rfl, g⟩ := y
    rw [List.getElem?_map] at g
    cases er : rs[i]? with
    | none => rw [er] at g; cases g
    | some r =>
      rw [er] at g
      cases g
      have tr := s5 _ _ (ars i r (pV p) er (by rw [List.getElem?_map, hp]; rfl))
      have dg := dget_of (s5 _ _ (s4 _ _ hd)) ndk (val p (List.mem_of_getElem? hp))
      refine ⟨r, _, rfl, .inl (.inl tr), rfl, _, _, rfl, _, _, rfl, rfl, rfl, ?_⟩
      refine ⟨.ref d, rfl, .int p.1, rfl, d, _, rfl, dg, rfl, ?_⟩
      cases eu : tk N ads p.1 with
      | none =>
        rw [eu] at hN
        exact ⟨false, rfl, iteF (hN rfl _ (Same.refl _))⟩
      | some u =>
        rw [eu] at hT dg
        refine ⟨true, rfl, iteT ⟨.ref d, rfl, .int p.1, rfl, d, _, rfl, dg, .int p.2, rfl, u, _, rfl, rfl, .int p.1, rfl, (by decide : 2 ≤ sizeLine), fun T nT => ?_⟩⟩
        exact hT (pV (u + p.2, p.1)) rfl _ T (same_upd nT) upd_same
  · have em2 : es5.map (·.1) = (heardL N ads n).map pV := by
      rw [em]
      unfold heardL
      rw [List.map_filterMap]
      refine fm_congr fun p _ => ?_
      rw [Option.map_map]
      rfl
    have fin : ∀ v, v = oV (callerO N ads n) → Q v H5 := fun v e => by rw [e]; exact q H5 (sA.trans (s4.trans s5))
    refine ⟨.ref B, rfl, _, .inl ⟨_, .inl (.inl eB), rfl⟩, ite2 (fun c => ?_) (fun c => ?_)⟩
    · cases hh : heardL N ads n with
      | nil =>
        rw [hh] at em2
        have : es5 = [] := List.map_eq_nil_iff.mp em2
        rw [this] at c
        cases c
      | cons p0 ps =>
        rw [hh] at em2
        have le : (es5.map (·.2)).length = (p0 :: ps).length := by
          have z := congrArg List.length em2
          rw [List.length_map, List.length_map] at z
          rw [List.length_map]
          exact z
        have row : ∀ (i : Nat) (r : Addr) (p : Int × Int), (es5.map (·.2))[i]? = some r → (p0 :: ps)[i]? = some p → SqT K H5 r [.int p.1, .int p.2] := fun i r p h1 h2 => by
          rw [List.getElem?_map] at h1
          cases ee : es5[i]? with
          | none => rw [ee] at h1; cases h1
          | some e =>
            rw [ee] at h1
            cases h1
            have z : (es5.map (·.1))[i]? = some (pV p) := by rw [em2, List.getElem?_map, h2]; rfl
            rw [List.getElem?_map, ee] at z
            have z2 : e.1 = pV p := Option.some.inj z
            have w := et e (List.mem_of_getElem? ee)
            rw [z2] at w
            exact .inl (.inl w)
        refine ⟨.ref B, rfl, B, es5.map (·.2), p0, ps, rfl, .inl (.inl (by rw [eB, List.map_map]; rfl)), le, row, fun i r p h1 h2 h3 => ?_⟩
        refine ⟨r, _, 1, _, rfl, rfl, row i r p h1 h2, atI_nat (j := 1) rfl, fin _ ?_⟩
        unfold callerO
        rw [hh, minP_is (List.mem_of_getElem? h2) h3]
        rfl
    · refine fin _ ?_
      cases hh : heardL N ads n with
      | nil => unfold callerO; rw [hh]; rfl
      | cons p0 ps =>
        rw [hh] at em2
        refine absurd ?_ c
        cases es5 with
        | nil => cases em2
        | cons e r => rfl
end
end LK
namespace LK
open PySem PySem.Spec PyProof.Rows L2 CD
theorem leastO_isA {ns : List Int} {m : Int} (h1 : m ∈ ns) (h2 : ∀ k ∈ ns, m ≤ k) : leastO ns = some m := by
  cases e : leastO ns with
  | none => rw [leastO_none e] at h1; cases h1
  | some k =>
    obtain ⟨k1, k2⟩ := leastO_spec e
    have a := h2 k k1
    have b := k2 m h1
    rw [show k = m by omega]
/-- who calls n first -/
def firstL (N : Int) (ads : List Int) (n : Int) : List Int := (callsO N ads n).filterMap fun p => if (tk N ads p.1).isSome = true ∧ (tk N ads p.1).map (· + p.2) = tk N ads n then some p.1 else none
theorem callsO_zero {N : Int} {ads : List Int} (S : IsSc N ads) : callsO N ads 0 = [] := by
  cases e : callsO N ads 0 with
  | nil => rfl
  | cons p r =>
    have z := callsO_mem S (Int.le_refl 0) (p := p) (by rw [e]; exact List.mem_cons_self)
    omega
theorem heard_mem {N : Int} {ads : List Int} {n : Int} {x : Int × Int} : x ∈ heardL N ads n ↔ ∃ p ∈ callsO N ads n, (tk N ads p.1).map (· + p.2) = some x.1 ∧ x.2 = p.1 := by
  unfold heardL
  rw [List.mem_filterMap]
  constructor
  · rintro ⟨p, hp, e⟩
    cases et : tk N ads p.1 with
    | none => rw [et] at e; cases e
    | some t =>
      rw [et] at e
      have e2 : (t + p.2, p.1) = x := Option.some.inj e
      exact ⟨p, hp, by rw [et, ← e2]; rfl, by rw [← e2]⟩
  · rintro ⟨p, hp, e1, e2⟩
    refine ⟨p, hp, ?_⟩
    cases et : tk N ads p.1 with
    | none => rw [et] at e1; cases e1
    | some t =>
      rw [et] at e1
      have e3 : t + p.2 = x.1 := Option.some.inj e1
      show some (t + p.2, p.1) = some x
      rw [e3, ← e2]
theorem first_least {N : Int} {ads : List Int} (S : IsSc N ads) {n : Int} (h0 : 0 ≤ n) : leastO (firstL N ads n) = callerO N ads n := by
  by_cases c0 : n = 0
  · subst c0
    unfold firstL callerO heardL
    rw [callsO_zero S]
    rfl
  · have et : tk N ads n = leastO ((heardL N ads n).map (·.1)) := by
      rw [tk_eq S (by omega)]
      unfold heardL
      rw [List.map_filterMap]
      congr 1
      refine fm_congr fun p _ => ?_
      rw [Option.map_map]
      rfl
    unfold callerO
    cases hh : heardL N ads n with
    | nil =>
      rw [hh] at et
      have e1 : firstL N ads n = [] := by
        cases e : firstL N ads n with
        | nil => rfl
        | cons x r =>
          have hx : x ∈ firstL N ads n := by rw [e]; exact List.mem_cons_self
          obtain ⟨p, hp, ep⟩ := List.mem_filterMap.mp hx
          split at ep
          · rename_i c
            obtain ⟨t, ht⟩ := Option.isSome_iff_exists.mp c.1
            have : (t + p.2, p.1) ∈ heardL N ads n := heard_mem.mpr ⟨p, hp, by rw [ht]; rfl, rfl⟩
            rw [hh] at this
            cases this
          · cases ep
      rw [e1]
      rfl
    | cons p0 ps =>
      have mm : minP p0 ps ∈ heardL N ads n := by rw [hh]; exact minP_mem ps p0
      have ml : ∀ q ∈ heardL N ads n, pLt q (minP p0 ps) = false := by rw [hh]; exact minP_le ps p0
      have em : tk N ads n = some (minP p0 ps).1 := by
        rw [et]
        refine leastO_isA (List.mem_map.mpr ⟨_, mm, rfl⟩) fun x hx => ?_
        obtain ⟨q, hq, rfl⟩ := List.mem_map.mp hx
        have := of_decide_eq_false (ml q hq)
        omega
      refine leastO_isA ?_ fun x hx => ?_
      · obtain ⟨p, hp, e1, e2⟩ := heard_mem.mp mm
        refine List.mem_filterMap.mpr ⟨p, hp, ?_⟩
        have hs : (tk N ads p.1).isSome = true := by
          cases t : tk N ads p.1 with
          | none => rw [t] at e1; cases e1
          | some u => rfl
        rw [if_pos ⟨hs, by rw [e1, em]⟩, e2]
      · obtain ⟨p, hp, ep⟩ := List.mem_filterMap.mp hx
        split at ep
        · rename_i c
          have ex : p.1 = x := Option.some.inj ep
          have hq : ((minP p0 ps).1, p.1) ∈ heardL N ads n := heard_mem.mpr ⟨p, hp, by rw [c.2, em], rfl⟩
          have := of_decide_eq_false (ml _ hq)
          dsimp only at this
          omega
        · cases ep
end LK
namespace LK
open PySem PySem.Spec PyProof.Rows L2 CD
section
variable {P : Program} {w : World} {K : PySem.W.Frag} {mg : Str → Option Value} {base : Heap}
theorem cut_to (xs : List V) (j : Nat) : cutV xs none (some (j : Int)) = xs.take j := by
  unfold cutV
  rw [HT.sIx_none, HT.sIx_nat, List.drop_zero, Nat.sub_zero]
  by_cases h : j ≤ xs.length
  · rw [Nat.min_eq_left h]
  · rw [Nat.min_eq_right (by omega), List.take_length, List.take_of_length_le (by omega)]
/-! ### texts of small data -/
def oD : Option Int → PyData
  | none => .none
  | some i => .int i
theorem dp_opts {H : Hp} : ∀ os : List (Option Int), DpAll K H (os.map oV) (os.map oD)
  | [] => .nil
  | none :: r => .cons .non (dp_opts r)
  | some i :: r => .cons (.int i) (dp_opts r)
theorem dp_tup {H : Hp} {p : Addr} {ns : List Int} (h : SqT K H p (ns.map V.int)) : Dp K H (.ref p) (.tuple (ns.map PyData.int)) := .tup h (dp_ints ns)
structure RepOk (d : PyData) : Prop where
  s : d.showable = true
  n : d.hasDict = false
  p : d.depth ≤ 60
  z : d.shown.length ≤ sizeLine
theorem small_log {i : Int} (h : i.natAbs < 10 ^ 40) : i.natAbs.log2 < 133 := by
  by_cases h0 : i.natAbs = 0
  · rw [h0]; decide
  · exact (Nat.log2_lt h0).mpr (Nat.lt_trans h (by decide))
theorem small_shown {i : Int} (h : i.natAbs < 10 ^ 40) : (PyData.shown (.int i)).length ≤ 41 := by
  have e := int_text_length_le10 (k := 40) (by decide) h
  show (Str.ofString (toString i)).length ≤ 41
  rw [PySem.ofString_length]
  exact e
theorem opts_ok : ∀ (os : List (Option Int)), (∀ i, some i ∈ os → i.natAbs < 10 ^ 40) → PyData.showableAll (os.map oD) = true ∧ PyData.hasDictAll (os.map oD) = false ∧ PyData.depthAll (os.map oD) = 0 ∧ PyData.leavesShortAll 41 (os.map oD) = true ∧ PyData.weightAll (os.map oD) ≤ 135 * os.length
  | [], _ => ⟨by rw [List.map_nil, PyData.showableAll], by rw [List.map_nil, PyData.hasDictAll], by rw [List.map_nil, PyData.depthAll], by rw [List.map_nil, PyData.leavesShortAll], by rw [List.map_nil, PyData.weightAll]; exact Nat.zero_le _⟩
  | none :: r, h => by
    obtain ⟨h1, h2, h3, h4, h5⟩ := opts_ok r fun i hi => h i (List.mem_cons_of_mem _ hi)
    rw [List.map_cons, List.length_cons]
    refine ⟨?_, ?_, ?_, ?_, ?_⟩
    · rw [PyData.showableAll, h1]; simp [oD, PyData.showable]
    · rw [PyData.hasDictAll, h2]; simp [oD, PyData.hasDict]
    · rw [PyData.depthAll, h3]; simp [oD, PyData.depth]
    · rw [PyData.leavesShortAll, h4]; simp [oD, PyData.leavesShort]
    · rw [PyData.weightAll]
      have : PyData.weight (oD none) = 0 := by simp [oD, PyData.weight]
      omega
  | some i :: r, h => by
    obtain ⟨h1, h2, h3, h4, h5⟩ := opts_ok r fun i hi => h i (List.mem_cons_of_mem _ hi)
    have hi := h i List.mem_cons_self
    have hl := small_log hi
    rw [List.map_cons, List.length_cons]
    refine ⟨?_, ?_, ?_, ?_, ?_⟩
    · rw [PyData.showableAll, h1]; simp [oD, PyData.showable]; omega
    · rw [PyData.hasDictAll, h2]; simp [oD, PyData.hasDict]
    · rw [PyData.depthAll, h3]; simp [oD, PyData.depth]
    · rw [PyData.leavesShortAll, h4]; simp [oD, PyData.leavesShort, small_shown hi]
    · rw [PyData.weightAll]
      have : PyData.weight (oD (some i)) ≤ 134 := by
        simp only [oD, PyData.weight]
        split <;> omega
      omega
theorem ints_opts (ns : List Int) : ns.map PyData.int = (ns.map some).map oD := by
  rw [List.map_map]
  rfl
theorem rep_list {os : List (Option Int)} (h : ∀ i, some i ∈ os → i.natAbs < 10 ^ 40) (hz : os.length ≤ 1000) : RepOk (.list (os.map oD)) := by
  obtain ⟨h1, h2, h3, h4, h5⟩ := opts_ok os h
  refine ⟨by rw [PyData.showable, h1], by rw [PyData.hasDict, h2], by rw [PyData.depth, h3]; decide, ?_⟩
  have := PyData.shown_le 41 (by decide) (.list (os.map oD)) (by rw [PyData.leavesShort, h4])
  rw [PyData.weight] at this
  have e : sizeLine = 16777216 := by decide
  omega
theorem shaped_tup (ns : List Int) : SeqAt.shaped (.tuple (ns.map PyData.int)) = true := by
  unfold SeqAt.shaped
  rw [PyData.canLay0, can_ints, PyData.depth, depth_ints]
  decide
theorem eqv_ints : ∀ ns : List Int, PyData.eqvAll (ns.map PyData.int) (ns.map PyData.int) = true
  | [] => by rw [List.map_nil, PyData.eqvAll]
  | n :: r => by rw [List.map_cons, PyData.eqvAll, eqv_ints r, PyData.eqv]; simp
theorem eqv_tup (ns : List Int) : PyData.eqv (.tuple (ns.map PyData.int)) (.tuple (ns.map PyData.int)) = true := by rw [PyData.eqv, eqv_ints]
theorem rep_int {m : Int} (h : m.natAbs < 10 ^ 40) : RepOk (.int m) := by
  have hl := small_log h
  refine ⟨by rw [PyData.showable]; exact decide_eq_true (by omega), by rw [PyData.hasDict], by rw [PyData.depth]; decide, ?_⟩
  have := small_shown h
  have e : sizeLine = 16777216 := by decide
  omega
theorem rep_opt {o : Option Int} (h : ∀ i, o = some i → i.natAbs < 10 ^ 40) : RepOk (oD o) := by
  cases o with
  | none => exact ⟨by simp [oD, PyData.showable], by simp [oD, PyData.hasDict], by simp [oD, PyData.depth], by decide⟩
  | some i => exact rep_int (h i rfl)
theorem dp_opt {K : PySem.W.Frag} {H : Hp} (o : Option Int) : Dp K H (oV o) (oD o) := by
  cases o with
  | none => exact .non
  | some i => exact .int i
theorem some_calls {N : Int} {ads : List Int} (S : IsSc N ads) (k : Nat) : (ads.zipIdx.filterMap fun e => if e.1 ≤ (k : Int) ∧ ((k : Int) - e.1) % N = 0 ∧ 0 < k then some [V.int (((k : Int) - e.1) / N), V.int (e.2 : Int)] else none) = (callsO N ads k).map fun p => [V.int p.1, V.int (p.2 - 1)] := by
  by_cases k0 : 0 < k
  · rw [calls_hits S (by omega), List.map_map]
    unfold hits
    rw [← fm_if (fun e : Int × Nat => e.1 ≤ (k : Int) ∧ ((k : Int) - e.1) % N = 0)]
    refine fm_congr fun e _ => ?_
    by_cases c : e.1 ≤ (k : Int) ∧ ((k : Int) - e.1) % N = 0
    · rw [if_pos ⟨c.1, c.2, k0⟩, if_pos c]
      show some [V.int _, V.int (e.2 : Int)] = some [V.int _, V.int (1 + (e.2 : Int) - 1)]
      rw [show (1 : Int) + (e.2 : Int) - 1 = e.2 by omega]
    · rw [if_neg (fun x => c ⟨x.1, x.2.1⟩), if_neg c]
  · have : k = 0 := by omega
    subst this
    show _ = (callsO N ads 0).map _
    rw [callsO_zero S]
    rw [List.map_nil]
    refine List.filterMap_eq_nil_iff.mpr fun e _ => ?_
    rw [if_neg (fun x => by omega)]
/-- as many unlike rests as there are -/
theorem plain_len {N : Int} {ads ks : List Int} (nd : ks.Nodup) (hm : ∀ x, x ∈ ks ↔ x ∈ ads.map (· % N)) : decide (V.int (ks.length : Nat) = V.int (ads.length : Nat)) = decide (Plain N ads) := by
  refine decide_eq_decide.mpr ⟨fun e => ?_, fun e => ?_⟩
  · injection e with e
    have el : ks.length = (ads.map (· % N)).length := by rw [List.length_map]; omega
    unfold Plain
    refine Decidable.by_contra fun nn => ?_
    have key : ∀ l : List Int, ¬ l.Nodup → ∃ D : List Int, D.length < l.length ∧ ∀ x ∈ l, x ∈ D := by
      intro l
      induction l with
      | nil => intro h; exact absurd List.nodup_nil h
      | cons x r ih =>
        intro h
        by_cases c : x ∈ r
        · exact ⟨r, by simp, fun y hy => by
            rcases List.mem_cons.mp hy with e | m
            · rw [e]; exact c
            · exact m⟩
        · obtain ⟨D, h1, h2⟩ := ih fun z => h (List.nodup_cons.mpr ⟨c, z⟩)
          exact ⟨x :: D, by simpa using h1, fun y hy => by
            rcases List.mem_cons.mp hy with e | m
            · rw [e]; exact List.mem_cons_self
            · exact List.mem_cons_of_mem _ (h2 y m)⟩
    obtain ⟨D, h1, h2⟩ := key _ nn
    have := nodup_lenT ks D nd fun x hx => h2 x ((hm x).mp hx)
    omega
  · have h1 := nodup_lenT ks (ads.map (· % N)) nd fun x hx => (hm x).mp hx
    have h2 := nodup_lenT (ads.map (· % N)) ks e fun x hx => (hm x).mpr hx
    rw [List.length_map] at h1 h2
    have : ks.length = ads.length := by omega
    rw [this]
/-- of a call, as the law keeps it: who makes it, if it is the first -/
def gF (N : Int) (ads : List Int) (n : Int) : List V → Option Int
  | [.int a, .int s] => if (tk N ads a).isSome = true ∧ (tk N ads a).map (· + (s + 1)) = tk N ads n then some a else none
  | _ => none
theorem gF_eq (N : Int) (ads : List Int) (n a s : Int) : gF N ads n [.int a, .int s] = if (tk N ads a).isSome = true ∧ (tk N ads a).map (· + (s + 1)) = tk N ads n then some a else none := rfl
theorem rep_bool (b : Bool) : RepOk (.bool b) := by
  cases b
  · exact ⟨by simp [PyData.showable], by simp [PyData.hasDict], by simp [PyData.depth], by decide⟩
  · exact ⟨by simp [PyData.showable], by simp [PyData.hasDict], by simp [PyData.depth], by decide⟩
def cF (N : Int) (k : Nat) (e : Int × Nat) : Option (List V) := if e.1 ≤ (k : Int) ∧ ((k : Int) - e.1) % N = 0 ∧ 0 < k then some [V.int (((k : Int) - e.1) / N), V.int (e.2 : Int)] else none
theorem far_first {N : Int} {ads : List Int} (S : IsSc N ads) (k : Nat) : (ads.zipIdx.filterMap (cF N k)).filterMap (gF N ads k) = firstL N ads k := by
  rw [show ads.zipIdx.filterMap (cF N k) = (callsO N ads k).map fun p => [V.int p.1, V.int (p.2 - 1)] from some_calls S k, List.filterMap_map]
  unfold firstL
  refine fm_congr fun p _ => ?_
  show (if (tk N ads p.1).isSome = true ∧ (tk N ads p.1).map (· + (p.2 - 1 + 1)) = tk N ads k then some p.1 else none) = _
  rw [show p.2 - 1 + 1 = p.2 by omega]
theorem cF_call {N : Int} {ads : List Int} (S : IsSc N ads) {k : Nat} {q : Nat} {st : Int} (h : ads[q]? = some st) (c : st ≤ (k : Int) ∧ ((k : Int) - st) % N = 0 ∧ 0 < k) : (((k : Int) - st) / N, (q : Int) + 1) ∈ callsO N ads k := by
  have e := some_calls S k
  have hm : [V.int (((k : Int) - st) / N), V.int (q : Int)] ∈ ads.zipIdx.filterMap (cF N k) := by
    refine List.mem_filterMap.mpr ⟨(st, q), ?_, if_pos c⟩
    rw [List.mem_zipIdx_iff_getElem?]
    exact h
  rw [show ads.zipIdx.filterMap (cF N k) = (callsO N ads k).map fun p => [V.int p.1, V.int (p.2 - 1)] from e] at hm
  obtain ⟨p, hp, ep⟩ := List.mem_map.mp hm
  injection ep with e1 e2
  injection e1 with e1
  injection e2 with e2 _
  injection e2 with e2
  have : p = (((k : Int) - st) / N, (q : Int) + 1) := Prod.ext e1 (by show p.2 = (q : Int) + 1; omega)
  rw [← this]
  exact hp
theorem cal_none {x : Str} {st : Stmt} {ps : List Str} (D : Def K mg x st ps) : Cal P w K mg base 0 x ps (fun _ _ _ _ => False) := by
  obtain ⟨f, fd, F, m, b⟩ := D
  refine ⟨f, fd, ?_, m, F.kp, b⟩
  constructor <;> intros <;> exact False.elim ‹False›
theorem spread_all (z : Z mg) (D : Def K mg "_law_spread_at" s__law_spread_at p__law_spread_at) : ∀ m : Nat, Cal P w K mg base (m + 1) "_law_spread_at" p__law_spread_at (spSA K m)
  | 0 => cal_spread_at z 0 (fun _ _ _ _ => False) (fun m' h => by cases h) (cal_none D) D
  | m + 1 => cal_spread_at z (m + 1) (spSA K m) (fun m' h => by cases h; rfl) (spread_all z D m) D
def spLaw (K : PySem.W.Frag) : Sp := fun vs H Q _ => ∃ (a : Addr) (ns : List Int), vs = [.ref a] ∧ SqL K H a (ns.map V.int) ∧ ns.length ≤ 63 ∧ ∀ H', Q (.bl true) H'
theorem cal_law (z : Z mg) (c__law_begun : Cal P w K mg base 2 "_law_begun" p__law_begun (spBegun K)) (c__law_next : Cal P w K mg base 2 "_law_next" p__law_next spNext) (c__law_of : Cal P w K mg base 3 "_law_of" p__law_of spOf)
    (c__law_spread : Cal P w K mg base 2 "_law_spread" p__law_spread (spSpread K)) (c__law_scale : Cal P w K mg base 4 "_law_scale" p__law_scale (spScale K)) (c__law_spread_at : Cal P w K mg base 102 "_law_spread_at" p__law_spread_at (spSA K 100))
    (c_need_scaled : Cal P w K mg base 3 "need_scaled" p_need_scaled (spNeedSc K)) (c_is_plain : Cal P w K mg base 4 "is_plain" p_is_plain (spIsPlain K))
    (c_tick_at : Cal P w K mg base 4 "tick_at" p_tick_at (spTickAt K)) (c_caller_of : Cal P w K mg base 4 "caller_of" p_caller_of (spCallerOf K))
    {f : Addr} {fd : FuncData} (F : Fun K "law" "law" s_law f fd) : GOk P w K mg base 103 f fd p_law (spLaw K) := by
  refine g_ok F sc_law (fun vs H Q E h => by obtain ⟨_, _, rfl, _⟩ := h; rfl) fun cdv A outer s H vs Q E hgd hr h => ?_
  obtain ⟨a, ns, rfl, hS, hl, q⟩ := h
  have hu := hu_of hr
  refine ⟨_, (pss_cons (ps_set (i := 1) sc_law.nd rfl (Or.inl rfl) (pe_cal c__law_begun (hr.mono (by decide)) (by rfl) (pa_cons (pv 0) pa_nil)))
        (pss_cons (ps_for PassesOwn.never rfl (pi_range1 (by rfl) z.«range» (pa_cons (pe_op op_add pe_int (pe_callB (call_min2 rfl) (by rfl) z.«min» (by decide +kernel) (pa_cons (pe_callB (call_len_seq) (by rfl) z.«len» (by decide +kernel) (pa_cons (pv 0) pa_nil)) (pa_cons pe_int pa_nil)))) pa_nil)) (pg_name (i := 2) sc_law.nd rfl (Or.inl rfl)) (pss_cons (ps_set (i := 3) sc_law.nd rfl (Or.inl rfl) (pe_cal c__law_scale (hr.mono (by decide)) (by rfl) (pa_cons (pv 1) pa_nil)))
        (pss_cons (ps_asg (pv 3) (pg_tup rfl (pgs_cons (pg_name (i := 4) sc_law.nd rfl (Or.inr rfl)) (pgs_cons (pg_name (i := 5) sc_law.nd rfl (Or.inl rfl)) pgs_nil))))
        (pss_cons (ps_if (pt_cmpR (op_neD hr.units) (pe_cal c_need_scaled (hr.mono (by decide)) (by rfl) (pa_cons (pv 3) pa_nil)) (pv 3) (nomark _)) (pss_one (ps_ret pe_bl)) pss_nil)
        (pss_cons (ps_set (i := 6) sc_law.nd rfl (Or.inl rfl) (pe_cal c__law_spread (hr.mono (by decide)) (by rfl) (pa_cons (pv 3) (pa_cons pe_int pa_nil))))
        (pss_cons (ps_for PassesOwn.never rfl (pi_range1 (by rfl) z.«range» (pa_cons pe_int pa_nil)) (pg_name (i := 7) sc_law.nd rfl (Or.inl rfl)) (pss_cons (ps_set (i := 8) sc_law.nd rfl (Or.inl rfl) (pe_cal c__law_next (hr.mono (by decide)) (by rfl) (pa_cons (pv 1) (pa_cons (pe_cal c__law_of (hr.mono (by decide)) (by rfl) (pa_cons (pv 1) (pa_cons (pe_lst (pa_cons pe_int (pa_cons pe_int (pa_cons pe_int pa_nil)))) pa_nil))) pa_nil))))
        (pss_cons (ps_set (i := 9) sc_law.nd rfl (Or.inl rfl) (pe_lst pa_nil))
        (pss_cons (ps_for PassesOwn.never rfl (pi_enum1 (by rfl) z.«enumerate» (pa_cons (pv 5) pa_nil)) (pg_tup rfl (pgs_cons (pg_name (i := 10) sc_law.nd rfl (Or.inl rfl)) (pgs_cons (pg_name (i := 11) sc_law.nd rfl (Or.inl rfl)) pgs_nil))) (pss_one (ps_if (PW.pt (pw_and (pt_cmpR op_gt (pv 8) pe_int (nomark _)) (pw_and (pt_cmpR op_ge (pv 8) (pv 11) (nomark _)) (pw_and1 (pt_cmpR op_eq (pe_op op_modN (pe_callTy (call_int1) (by rfl) z.«int» (by decide +kernel) (pa_cons (pe_op op_sub (pv 8) (pv 11)) pa_nil)) (pv 4)) pe_int (nomark _)))))) (pss_one (ps_expr (pe_bm PySem.F.plainAttrs_list PySem.F.slot_list_append PySem.F.type_list_append mt_append (pv 9) (pa_cons (pe_tup (pa_cons (pe_op op_fdivN (pe_op op_sub (pv 8) (pv 11)) (pv 4)) (pa_cons (pv 10) pa_nil))) pa_nil)))) pss_nil)))
        (pss_cons (ps_set (i := 12) sc_law.nd rfl (Or.inl rfl) (pe_lst pa_nil))
        (pss_cons (ps_for PassesOwn.never rfl (pi_list (pv 9)) (pg_tup rfl (pgs_cons (pg_name (i := 13) sc_law.nd rfl (Or.inl rfl)) (pgs_cons (pg_name (i := 10) sc_law.nd rfl (Or.inl rfl)) pgs_nil))) (pss_one (ps_if (PW.pt (pw_and (pt_cmpR op_notN (pe_ix ix_list (pv 6) (pv 13) (fun _ _ => rfl)) pe_non (nomark _)) (pw_and1 (pt_cmpR op_eq (pe_op op_add (pe_op op_add (pe_ix ix_list (pv 6) (pv 13) (fun _ _ => rfl)) (pv 10)) pe_int) (pe_ix ix_list (pv 6) (pv 8) (fun _ _ => rfl)) (nomark _))))) (pss_one (ps_expr (pe_bm PySem.F.plainAttrs_list PySem.F.slot_list_append PySem.F.type_list_append mt_append (pv 12) (pa_cons (pv 13) pa_nil)))) pss_nil)))
        (pss_cons (ps_set (i := 14) sc_law.nd rfl (Or.inl rfl) (pe_lst (pa_cons (pe_cal c_tick_at (hr.mono (by decide)) (by rfl) (pa_cons (pv 3) (pa_cons (pv 8) pa_nil))) (pa_cons (pe_cal c_tick_at (hr.mono (by decide)) (by rfl) (pa_cons (pv 3) (pa_cons (pv 8) pa_nil))) pa_nil))))
        (pss_cons (ps_if (pt_cmpR op_ne (pe_callB (call_reprD hgd hr.units) (by rfl) z.«repr» (by decide +kernel) (pa_cons (pv 14) pa_nil)) (pe_callB (call_reprD hgd hr.units) (by rfl) z.«repr» (by decide +kernel) (pa_cons (pe_lst (pa_cons (pe_ix ix_list (pv 6) (pv 8) (fun _ _ => rfl)) (pa_cons (pe_ix ix_list (pv 6) (pv 8) (fun _ _ => rfl)) pa_nil))) pa_nil)) (nomark _)) (pss_one (ps_ret pe_bl)) pss_nil)
        (pss_one (ps_if (pt_cmpR op_ne (pe_callB (call_reprD hgd hr.units) (by rfl) z.«repr» (by decide +kernel) (pa_cons (pe_cal c_caller_of (hr.mono (by decide)) (by rfl) (pa_cons (pv 3) (pa_cons (pv 8) pa_nil))) pa_nil)) (pe_callB (call_reprD hgd hr.units) (by rfl) z.«repr» (by decide +kernel) (pa_cons (pe_ifExp (pt_cmpR (op_neD hr.units) (pv 12) (pe_lst pa_nil) (nomark _)) (pe_callB (cr_min rfl) (by rfl) z.«min» (by decide +kernel) (pa_cons (pv 12) pa_nil)) pe_non) pa_nil)) (nomark _)) (pss_one (ps_ret pe_bl)) pss_nil))))))))))
        (pss_cons (ps_set (i := 15) sc_law.nd rfl (Or.inl rfl) (pe_cal c__law_next (hr.mono (by decide)) (by rfl) (pa_cons (pv 1) (pa_cons (pe_cal c__law_of (hr.mono (by decide)) (by rfl) (pa_cons (pv 1) (pa_cons (pe_lst (pa_cons (pe_op op_pow pe_int pe_int) (pa_cons (pe_op op_pow pe_int pe_int) pa_nil))) pa_nil))) pa_nil))))
        (pss_cons (ps_set (i := 16) sc_law.nd rfl (Or.inl rfl) (pe_disp (pps_cons pe_int pe_int pps_nil) (by rfl) (by rfl) (fun z => by cases z) (by decide)))
        (pss_cons (ps_par (i := 17) (j := 9) rfl sc_law.nd rfl rfl (by decide) rfl rfl (pa_cons (pe_cal c__law_spread_at (hr.mono (by decide)) (by rfl) (pa_cons (pv 3) (pa_cons (pv 15) (pa_cons (pv 16) pa_nil)))) (pa_cons (pe_lst pa_nil) pa_nil)) (by rfl))
        (pss_cons (ps_for PassesOwn.never rfl (pi_enum1 (by rfl) z.«enumerate» (pa_cons (pv 5) pa_nil)) (pg_tup rfl (pgs_cons (pg_name (i := 10) sc_law.nd rfl (Or.inl rfl)) (pgs_cons (pg_name (i := 11) sc_law.nd rfl (Or.inl rfl)) pgs_nil))) (pss_cons (ps_set (i := 13) sc_law.nd rfl (Or.inl rfl) (pe_op op_fdivN (pe_op op_sub (pv 15) (pv 11)) (pv 4)))
        (pss_one (ps_if (PW.pt (pw_and (pt_cmpR op_gt (pv 15) pe_int (nomark _)) (pw_and (pt_cmpR op_ge (pv 13) pe_int (nomark _)) (pw_and (pt_cmpR op_eq (pv 15) (pe_op op_add (pe_op op_mul (pv 13) (pv 4)) (pv 11)) (nomark _)) (pw_and1 (pt_cmpR op_notN (pe_dget hu (pv 16) (pv 13) (fun _ _ => rfl)) pe_non (nomark _))))))) (pss_one (ps_set (i := 9) sc_law.nd rfl (Or.inl rfl) (pe_op op_cat (pv 9) (pe_op op_rep (pe_lst (pa_cons (pv 13) pa_nil)) (pe_callTy (call_int1) (by rfl) z.«int» (by decide +kernel) (pa_cons (pe_cmpR op_eq (pe_op op_add (pe_op op_add (pe_dget hu (pv 16) (pv 13) (fun _ _ => rfl)) (pv 10)) pe_int) (pv 17) (nomark _)) pa_nil)))))) pss_nil))))
        (pss_cons (ps_if (pt_cmpR op_ne (pe_callB (call_reprD hgd hr.units) (by rfl) z.«repr» (by decide +kernel) (pa_cons (pe_cal c_tick_at (hr.mono (by decide)) (by rfl) (pa_cons (pv 3) (pa_cons (pv 15) pa_nil))) pa_nil)) (pe_callB (call_reprD hgd hr.units) (by rfl) z.«repr» (by decide +kernel) (pa_cons (pv 17) pa_nil)) (nomark _)) (pss_one (ps_ret pe_bl)) pss_nil)
        (pss_cons (ps_if (pt_cmpR op_ne (pe_callB (call_reprD hgd hr.units) (by rfl) z.«repr» (by decide +kernel) (pa_cons (pe_cal c_caller_of (hr.mono (by decide)) (by rfl) (pa_cons (pv 3) (pa_cons (pv 15) pa_nil))) pa_nil)) (pe_callB (call_reprD hgd hr.units) (by rfl) z.«repr» (by decide +kernel) (pa_cons (pe_ifExp (pt_cmpR (op_neD hr.units) (pv 9) (pe_lst pa_nil) (nomark _)) (pe_callB (cr_min rfl) (by rfl) z.«min» (by decide +kernel) (pa_cons (pv 9) pa_nil)) pe_non) pa_nil)) (nomark _)) (pss_one (ps_ret pe_bl)) pss_nil)
        (pss_cons (ps_setLc (i := 18) (own := [("more", 11)]) (g := (gName 11)) (tt := tYes) rfl sc_law.nd rfl rfl (sw_true rfl rfl rfl (by decide +kernel)) (pi_tup (pv 5)) (blkOk_by (N := n_law) (sc := defScope s_law) (by decide +kernel)) (fun _ _ _ _ _ => (pg_name (i := 11) sc_law.nd rfl (Or.inl rfl))) (fun _ _ _ _ _ => pts_nil) (fun _ _ _ _ _ => (pe_op op_modN (pe_callTy (call_int1) (by rfl) z.«int» (by decide +kernel) (pa_cons (pv 11) pa_nil)) (pv 4))))
        (pss_one (ps_if (pt_cmpR op_ne (pe_callB (call_reprD hgd hr.units) (by rfl) z.«repr» (by decide +kernel) (pa_cons (pe_cal c_is_plain (hr.mono (by decide)) (by rfl) (pa_cons (pv 3) pa_nil)) pa_nil)) (pe_callB (call_reprD hgd hr.units) (by rfl) z.«repr» (by decide +kernel) (pa_cons (pe_cmpR op_eq (pe_lenSetGL (by rfl) z.«len» (by rfl) z.«set» (pv 18)) (pe_callB (call_len_seq) (by rfl) z.«len» (by decide +kernel) (pa_cons (pv 18) pa_nil)) (nomark _)) pa_nil)) (nomark _)) (pss_one (ps_ret pe_bl)) pss_nil)))))))))))))))
        (pss_one (ps_ret (pe_cmpR op_eq (pe_cal c_tick_at (hr.mono (by decide)) (by rfl) (pa_cons (pe_tup (pa_cons pe_int (pa_cons (pe_tup (pa_cons pe_int (pa_cons pe_int pa_nil))) pa_nil))) (pa_cons (pe_op op_pow pe_int pe_int) pa_nil))) (pe_cal c__law_spread_at (hr.mono (by decide)) (by rfl) (pa_cons (pe_tup (pa_cons pe_int (pa_cons (pe_tup (pa_cons pe_int (pa_cons pe_int pa_nil))) pa_nil))) (pa_cons (pe_op op_pow pe_int pe_int) (pa_cons (pe_disp (pps_cons pe_int pe_int pps_nil) (by rfl) (by rfl) (fun z => by cases z) (by decide)) pa_nil)))) (nomark _)))))), ?_⟩
  refine ⟨.ref a, rfl, a, ns, rfl, hS, hl, fun H1 d g c s1 nd ng nc hD => ?_⟩
  refine ⟨.ref a, rfl, a, _, rfl, .inl (s1.seq hS), _, _, rfl, 4, _, rfl, rfl, _, rfl, ?_⟩
  have emin : (4 : Int) + (if (8 : Int) < ((ns.map V.int).length : Int) then 8 else ((ns.map V.int).length : Int)) = ((4 + min ns.length 8 : Nat) : Int) := by
    rw [List.length_map]
    split <;> omega
  generalize (4 : Int) + (if (8 : Int) < ((ns.map V.int).length : Int) then 8 else ((ns.map V.int).length : Int)) = laps at emin
  refine ⟨by omega, by omega, ?_⟩
  refine for_it (walk_range (lo := 0) (n := laps.toNat)) (fun i σ H4 => ∃ y2 y3 y4 y5 y6 y7 y8 y9 y10 y11 y12 y13 y14 y15 y16 y17 y18 g2, σ = [some (.ref a), some (.ref d), y2, y3, y4, y5, y6, y7, y8, y9, y10, y11, y12, y13, y14, y15, y16, y17, y18] ∧ Draw H4 d g2 c (90 * i))
    ⟨_, _, _, _, _, _, _, _, _, _, _, _, _, _, _, _, _, g, rfl, hD⟩ (fun _ _ _ _ _ => trivial) (fun i x σ H4 H5 hi hW y => ?_) (fun σ H4 hW => ?_)
  · obtain ⟨y2, y3, y4, y5, y6, y7, y8, y9, y10, y11, y12, y13, y14, y15, y16, y17, y18, g2, rfl, hD4⟩ := hW
    obtain ⟨rfl, rfl⟩ := y
    refine ⟨.ref d, rfl, d, g2, c, _, rfl, hD4, by omega, fun H6 g6 r t N ads go6 hD6 R hr6 ht6 => ?_⟩
    have sc6 : ScAt K H6 r t N ads := ⟨.inl (.inl hr6), .inl (.inl ht6)⟩
    refine ⟨.ref r, rfl, r, _, rfl, sc6.sc, rfl, _, _, rfl, _, _, rfl, rfl, ?_⟩
    have dpr : ∀ H9, H9 r = some (.tup [.int N, .ref t]) → H9 t = some (.tup (ads.map V.int)) → Dp K H9 (.ref r) (.tuple [.int N, .tuple (ads.map .int)]) := fun H9 a1 a2 => .tup (.inl (.inl a1)) (.cons (.int _) (.cons (dp_tup (.inl (.inl a2))) .nil))
    have shp : SeqAt.shaped (.tuple [.int N, .tuple (ads.map PyData.int)]) = true := by
      unfold SeqAt.shaped
      simp [PyData.canLay0, PyData.canLayAll0, can_ints, PyData.depth, PyData.depthAll, depth_ints]
    have eqv : PyData.eqv (.tuple [.int N, .tuple (ads.map PyData.int)]) (.tuple [.int N, .tuple (ads.map PyData.int)]) = true := by
      simp [PyData.eqv, PyData.eqvAll, eqv_ints]
    refine ⟨.ref r, rfl, r, t, N, ads, rfl, sc6, R, fun H7 s7 => ⟨.ref r, rfl, _, _, dpr H7 (s7 _ _ hr6) (s7 _ _ ht6), dpr H7 (s7 _ _ hr6) (s7 _ _ ht6), shp, shp, ?_⟩⟩
    rw [eqv]
    refine ⟨false, rfl, iteF ?_⟩
    have hr7 := s7 _ _ hr6
    have ht7 := s7 _ _ ht6
    have hD7 := hD6.same s7
    refine ⟨.ref r, rfl, r, t, N, ads, 299, rfl, sc6.same s7, R, by decide, fun H8 fm s8 nfm hfm => ?_⟩
    have nfg : fm ≠ g6 := fun x => by obtain ⟨_, ⟨_, h⟩, _⟩ := hD7.nd; rw [x, h] at nfm; cases nfm
    have hr8 := s8 _ _ hr7
    have ht8 := s8 _ _ ht7
    have hD8 := hD7.same s8
    clear sc6 hr6 ht6 hr7 ht7 hD6 hD7 go6 s7 s8 nfm hD4
    refine ⟨12, rfl, by decide, by decide, ?_⟩
    refine for_it (walk_range (lo := 0) (n := 12)) (fun j σ H5 => ∃ y2 y7 y8 y9 y10 y11 y12 y13 y14 y15 y16 y17 y18 g4, σ = [some (.ref a), some (.ref d), y2, some (.ref r), some (.int N), some (.ref t), some (.ref fm), y7, y8, y9, y10, y11, y12, y13, y14, y15, y16, y17, y18] ∧ H5 r = some (.tup [.int N, .ref t]) ∧ H5 t = some (.tup (ads.map V.int)) ∧ H5 fm = some (.lst ((filmT N ads 299).map oV)) ∧ fm ≠ g4 ∧ Draw H5 d g4 c (90 * i + 50 + 2 * j))
      ⟨_, _, _, _, _, _, _, _, _, _, _, _, _, g6, rfl, hr8, ht8, hfm, nfg, hD8.up (by omega)⟩ (fun _ _ _ _ _ => trivial) (fun j x σ H5 H6 hj hW y => ?_) (fun σ H5 hW => ?_)
    · clear hr8 ht8 hfm nfg hD8
      obtain ⟨y2, y7, y8, y9, y10, y11, y12, y13, y14, y15, y16, y17, y18, g4, rfl, tr, tt, hfm, nfg, hD5⟩ := hW
      obtain ⟨rfl, rfl⟩ := y
      refine ⟨.ref d, rfl, .ref d, rfl, (by decide : 3 ≤ sizeLine), fun l5 nl5 => ?_⟩
      have s5 := same_upd (o := .lst [.int 12, .int 60, .int 300]) nl5
      have nl5g : l5 ≠ g4 := fun x => by obtain ⟨_, ⟨_, hg⟩, _⟩ := hD5.nd; rw [x, hg] at nl5; cases nl5
      refine ⟨d, g4, c, l5, _, [.int 12, .int 60, .int 300], rfl, hD5.same s5, by omega, upd_same, nl5g, List.cons_ne_nil _ _, (by decide : 3 ≤ 1000), fun H12 g12 j2 x but12 hg12 hD12 hx => ?_⟩
      obtain ⟨b, rfl, b1, b2⟩ : ∃ b : Int, x = .int b ∧ 1 ≤ b ∧ b ≤ 300 := by
        have hm := List.mem_of_getElem? hx
        simp only [List.mem_cons, List.not_mem_nil, or_false] at hm
        rcases hm with rfl | rfl | rfl
        · exact ⟨_, rfl, by decide, by decide⟩
        · exact ⟨_, rfl, by decide, by decide⟩
        · exact ⟨_, rfl, by decide, by decide⟩
      have go12 : Go _ H12 d g4 g12 := ⟨but12, hg12⟩
      have tr12 := go12.tup (hD5.same s5) (s5 _ _ tr)
      have tt12 := go12.tup (hD5.same s5) (s5 _ _ tt)
      have hp12 := go12.lst (hD5.same s5) (s5 _ _ hfm) nfg
      have np12 := go12.ne (s5 _ _ hfm) nfg
      refine ⟨d, g12, c, _, b, rfl, hD12, by omega, b1, by omega, fun H13 g13 kk but13 hg13 hD13 k0 k1 => ?_⟩
      have go13 : Go H12 H13 d g12 g13 := ⟨but13, hg13⟩
      have tr8 := go13.tup hD12 tr12
      have tt8 := go13.tup hD12 tt12
      have hp4 := go13.lst hD12 hp12 np12
      have npg4 := go13.ne hp12 np12
      obtain ⟨k, rfl⟩ : ∃ k : Nat, kk = k := ⟨_, (Int.toNat_of_nonneg k0).symm⟩
      have hkN : k ≤ 299 := by omega
      clear tr12 tt12 hp12 np12 go12 go13 but12 hg12 hD12 but13 hg13 hx s5 nl5 nl5g tr tt hfm nfg hD5
      -- some
      refine ⟨(by decide : 0 ≤ sizeLine), fun sa nsa => ?_⟩
      have s6 := same_upd (o := .lst ([] : List V)) nsa
      have tt6 : SqT K (upd H13 sa (.lst [])) t (ads.map V.int) := .inl (.inl (s6 _ _ tt8))
      refine ⟨.ref t, rfl, t, ads.map V.int, rfl, tt6, ?_⟩
      refine for_it (walk_enumT (K := K) (a := t) (k := 0) (xs := ads.map V.int)) (fun q σ H7 => ∃ (z10 z11 : Option V) (es : List EntT), σ = [some (.ref a), some (.ref d), y2, some (.ref r), some (.int N), some (.ref t), some (.ref fm), some (.int (0 + (j : Nat))), some (.int k), some (.ref sa), z10, z11, y12, y13, y14, y15, y16, y17, y18] ∧ H7 sa = some (.lst (es.map fun e => V.ref e.2)) ∧ es.map (·.1) = ((ads.zipIdx.take q).filterMap fun e => if e.1 ≤ (k : Int) ∧ ((k : Int) - e.1) % N = 0 ∧ 0 < k then some [V.int (((k : Int) - e.1) / N), V.int (e.2 : Int)] else none) ∧ (∀ e ∈ es, H7 e.2 = some (.tup e.1)) ∧ Same H13 H7)
        ⟨_, _, [], rfl, upd_same, rfl, fun _ h => (by cases h), s6⟩ (fun q σ H7 _ hW => ?_) (fun q x σ H7 H8 hq hW y => ?_) (fun σ H7 hW => ?_)
      · obtain ⟨_, _, _, _, _, _, _, sm⟩ := hW
        exact .inl (.inl (sm _ _ tt8))
      · obtain ⟨z10, z11, es, rfl, hsa, em, et, sm⟩ := hW
        obtain ⟨T, v1, v2, rfl, nT, rfl, g1, g2⟩ := y
        have sT : Same H7 (upd H7 T (.tup [v1, v2])) := same_upd nT
        obtain rfl := (Option.some.inj g1).symm
        rw [List.length_map] at hq
        have hsi : ads[q]? = some ads[q] := List.getElem?_eq_getElem hq
        have g3 : (ads.map V.int)[q]? = some v2 := g2
        rw [List.getElem?_map, hsi] at g3
        obtain rfl := (Option.some.inj g3).symm
        have rg := R.rng ads[q] (List.getElem_mem _)
        have d2 := R.d2
        have d5 := R.d5
        have tkq : ads.zipIdx.take (q + 1) = ads.zipIdx.take q ++ [(ads[q], q)] := by
          rw [List.take_add_one, List.getElem?_zipIdx, hsi]
          simp
        have lz : es.length ≤ 10 := by
          have z := congrArg List.length em
          rw [List.length_map] at z
          have z2 := List.length_filterMap_le (fun e : Int × Nat => if e.1 ≤ (k : Int) ∧ ((k : Int) - e.1) % N = 0 ∧ 0 < k then some [V.int (((k : Int) - e.1) / N), V.int (e.2 : Int)] else none) (ads.zipIdx.take q)
          rw [List.length_take, List.length_zipIdx] at z2
          have := R.most
          omega
        have hsa7 := sT _ _ hsa
        have et7 : ∀ e ∈ es, (upd H7 T (.tup [V.int (0 + (q : Nat)), V.int ads[q]])) e.2 = some (.tup e.1) := fun e he => sT _ _ (et e he)
        have s8 := sm.trans sT
        refine ⟨T, _, rfl, .inl (.inl upd_same), rfl, _, _, rfl, _, _, rfl, rfl, ?_⟩
        show tIfS _ _ _ _ _ (upd H7 T _)
        generalize upd H7 T (.tup [V.int (0 + (q : Nat)), V.int ads[q]]) = H8 at hsa7 et7 s8
        generalize ads[q] = st at *
        have efm : ((k : Int) - st).fmod N = ((k : Int) - st) % N := Int.fmod_eq_emod_of_nonneg _ (by omega)
        have efd : ((k : Int) - st).fdiv N = ((k : Int) - st) / N := Int.fdiv_eq_ediv_of_nonneg _ (by omega)
        have skip : ¬ (st ≤ (k : Int) ∧ ((k : Int) - st) % N = 0 ∧ 0 < k) → ∃ (u10 u11 : Option V) (es9 : List EntT), ([some (.ref a), some (.ref d), y2, some (.ref r), some (.int N), some (.ref t), some (.ref fm), some (.int (0 + (j : Nat))), some (.int k), some (.ref sa), some (.int (0 + (q : Nat))), some (.int st), y12, y13, y14, y15, y16, y17, y18] : L2.St) = [some (.ref a), some (.ref d), y2, some (.ref r), some (.int N), some (.ref t), some (.ref fm), some (.int (0 + (j : Nat))), some (.int k), some (.ref sa), u10, u11, y12, y13, y14, y15, y16, y17, y18] ∧ H8 sa = some (.lst (es9.map fun e => V.ref e.2)) ∧ es9.map (·.1) = ((ads.zipIdx.take (q + 1)).filterMap fun e => if e.1 ≤ (k : Int) ∧ ((k : Int) - e.1) % N = 0 ∧ 0 < k then some [V.int (((k : Int) - e.1) / N), V.int (e.2 : Int)] else none) ∧ (∀ e ∈ es9, H8 e.2 = some (.tup e.1)) ∧ Same H13 H8 := fun hn => by
          refine ⟨_, _, es, rfl, hsa7, ?_, et7, s8⟩
          rw [tkq, List.filterMap_append, ← em]
          simp [hn]
        refine ⟨.int k, rfl, k, 0, rfl, rfl, _, rfl, ite2 (fun c1 => ?_) (fun c1 => ?_)⟩
        · have c1' : (0 : Int) < (k : Int) := of_decide_eq_true c1
          refine ⟨.int k, rfl, .int st, rfl, k, st, rfl, rfl, _, rfl, ite2 (fun c2 => ?_) (fun c2 => ?_)⟩
          · have c2' : st ≤ (k : Int) := of_decide_eq_true c2
            refine ⟨.int k, rfl, .int st, rfl, k, st, rfl, rfl, .inl ⟨_, rfl, .int N, rfl, _, N, rfl, rfl, (by omega : N ≠ 0), rfl, _, rfl, ite2 (fun c3 => ?_) (fun c3 => ?_)⟩⟩
            · have c3' : ((k : Int) - st) % N = 0 := by
                have z3 : V.int (((k : Int) - st).fmod N) = V.int 0 := of_decide_eq_true c3
                injection z3 with z3
                rw [← efm]
                exact z3
              refine ⟨.ref sa, rfl, .inl ⟨rfl, _, .inl (.inl hsa7)⟩, .int k, rfl, .int st, rfl, k, st, rfl, rfl, .int N, rfl, _, N, rfl, rfl, ⟨by omega, by omega⟩, .int (0 + (q : Nat)), rfl, (by decide : 2 ≤ sizeLine), fun r9 nr => ?_⟩
              have sr := same_upd (o := .tup [V.int (((k : Int) - st).fdiv N), V.int (0 + (q : Nat))]) nr
              have r9s : r9 ≠ sa := fun x => by rw [x, hsa7] at nr; cases nr
              refine ⟨sa, _, _, rfl, rfl, sr _ _ hsa7, by rw [List.length_map]; exact small1000 (by omega), ?_⟩
              refine ⟨_, _, es ++ [([V.int (((k : Int) - st) / N), V.int (q : Int)], r9)], rfl, by rw [upd_same, List.map_append]; rfl, ?_, fun e he => ?_, fun b o e => ?_⟩
              · rw [tkq, List.filterMap_append, List.map_append, em]
                have k9 : 0 < k := by omega
                simp [c2', c3', k9]
              · rcases List.mem_append.mp he with m | m
                · have ne : e.2 ≠ sa := fun x => by
                    have w := et7 e m
                    rw [x, hsa7] at w
                    cases w
                  rw [upd_ne ne]
                  exact sr _ _ (et7 e m)
                · rw [List.mem_singleton.mp m, upd_ne r9s]
                  show (upd H8 r9 _) r9 = _
                  rw [upd_same]
                  show some (HO.tup [V.int (((k : Int) - st).fdiv N), V.int (0 + (q : Nat))]) = _
                  rw [efd, Int.zero_add]
              · rw [upd_ne (ne_of_none e nsa)]
                exact sr _ _ (s8 _ _ e)
            · exact skip fun x => c3 (decide_eq_true (show V.int (((k : Int) - st).fmod N) = V.int 0 by rw [efm, x.2.1]))
          · exact skip fun x => c2 (decide_eq_true x.1)
        · exact skip fun x => c1 (decide_eq_true (by have := x.2.2; omega))
      · obtain ⟨z10, z11, es, rfl, hsa, em, et, sm⟩ := hW
        rw [List.length_map, List.take_of_length_le (Nat.le_of_eq List.length_zipIdx), some_calls R] at em
        have les : es.length = (callsO N ads k).length := by
          have z := congrArg List.length em
          rw [List.length_map, List.length_map] at z
          exact z
        have l5 := callsO_len5 R (k : Int)
        -- first
        refine ⟨(by decide : 0 ≤ sizeLine), fun fb nfb => ?_⟩
        have s9 := same_upd (o := .lst ([] : List V)) nfb
        have sfb : sa ≠ fb := fun x => by rw [← x, hsa] at nfb; cases nfb
        have hsa9 : (upd H7 fb (.lst [])) sa = some (.lst (es.map fun e => V.ref e.2)) := s9 _ _ hsa
        have hpF : (upd H7 fb (.lst [])) fm = some (.lst ((filmT N ads 299).map oV)) := s9 _ _ (sm _ _ hp4)
        have et9 : ∀ e ∈ es, (upd H7 fb (.lst [])) e.2 = some (.tup e.1) := fun e he => s9 _ _ (et e he)
        have hfb : (upd H7 fb (.lst [])) fb = some (.lst (([] : List Int).map V.int)) := upd_same
        have sB := sm.trans s9
        have nfb13 : H13 fb = none := Same.free sm nfb
        show tSeq _ _ _ _ (upd H7 fb (.lst []))
        generalize upd H7 fb (.lst []) = H9 at hsa9 hpF et9 hfb sB
        clear s9 hsa et sm
        refine ⟨.ref sa, rfl, sa, rfl, ⟨_, .inl (.inl hsa9)⟩, ?_⟩
        refine for_it (walk_list (K := K) (a := sa) (xs := es.map fun e => V.ref e.2)) (fun q σ H7 => ∃ (z10 z13 : Option V), σ = [some (.ref a), some (.ref d), y2, some (.ref r), some (.int N), some (.ref t), some (.ref fm), some (.int (0 + (j : Nat))), some (.int k), some (.ref sa), z10, z11, some (.ref fb), z13, y14, y15, y16, y17, y18] ∧ H7 fb = some (.lst ((((callsO N ads k).take q).filterMap fun p => if (tk N ads p.1).isSome = true ∧ (tk N ads p.1).map (· + p.2) = tk N ads k then some p.1 else none).map V.int)) ∧ ∀ b o, H9 b = some o → b ≠ fb → H7 b = some o)
          ⟨_, _, rfl, hfb, fun b o e _ => e⟩ (fun q σ H7 _ hW => ?_) (fun q x σ H7 H8 hq hW y => ?_) (fun σ H7 hW => ?_)
        · obtain ⟨_, _, _, _, kp⟩ := hW
          exact .inl (.inl (kp _ _ hsa9 sfb))
        · obtain ⟨z10, z13, rfl, hb, kp⟩ := hW
          obtain ⟨rfl, gg⟩ := y
          rw [List.length_map] at hq
          rw [List.getElem?_map] at gg
          cases ee : es[q]? with
          | none => rw [ee] at gg; cases gg
          | some e =>
            rw [ee] at gg
            cases gg
            obtain ⟨p, hp, ep⟩ : ∃ p, (callsO N ads k)[q]? = some p ∧ e.1 = [V.int p.1, V.int (p.2 - 1)] := by
              have z : (es.map (·.1))[q]? = some e.1 := by rw [List.getElem?_map, ee]; rfl
              rw [em, List.getElem?_map] at z
              cases w : (callsO N ads k)[q]? with
              | none => rw [w] at z; cases z
              | some p =>
                rw [w] at z
                exact ⟨p, rfl, (Option.some.inj z).symm⟩
            have hm := List.mem_of_getElem? hp
            have bd := callsO_mem R (Int.natCast_nonneg k) hm
            have te := et9 e (List.mem_of_getElem? ee)
            rw [ep] at te
            have nfe : e.2 ≠ fb := fun x => by rw [x, hfb] at te; cases te
            have fmb : fm ≠ fb := fun x => by rw [x] at hp4; rw [hp4] at nfb13; cases nfb13
            have te8 := kp _ _ te nfe
            have hp8 := kp _ _ hpF fmb
            have tkq : (callsO N ads k).take (q + 1) = (callsO N ads k).take q ++ [p] := by rw [List.take_add_one, hp]; rfl
            have hat : atI ((filmT N ads 299).map oV) p.1 = some (oV (tk N ads p.1)) := by
              obtain ⟨m, hmm⟩ : ∃ m : Nat, p.1 = m := ⟨p.1.toNat, by omega⟩
              rw [hmm]
              exact atI_nat (by rw [List.getElem?_map, filmT_at (by omega)]; rfl)
            have hatk : atI ((filmT N ads 299).map oV) (k : Int) = some (oV (tk N ads k)) := atI_nat (by rw [List.getElem?_map, filmT_at (by omega)]; rfl)
            refine ⟨e.2, _, rfl, .inl (.inl te8), rfl, _, _, rfl, _, _, rfl, rfl, ?_⟩
            refine ⟨.ref fm, rfl, .int p.1, rfl, fm, _, _, _, rfl, rfl, .inl (.inl hp8), hat, rfl, ?_⟩
            have lz : (((callsO N ads k).take q).filterMap fun p => if (tk N ads p.1).isSome = true ∧ (tk N ads p.1).map (· + p.2) = tk N ads k then some p.1 else none).length ≤ 10 := by
              have z2 := List.length_filterMap_le (fun p : Int × Int => if (tk N ads p.1).isSome = true ∧ (tk N ads p.1).map (· + p.2) = tk N ads k then some p.1 else none) ((callsO N ads k).take q)
              rw [List.length_take] at z2
              omega
            have stay : ¬ ((tk N ads p.1).isSome = true ∧ (tk N ads p.1).map (· + p.2) = tk N ads k) → ∃ (z10 z13 : Option V), ([some (.ref a), some (.ref d), y2, some (.ref r), some (.int N), some (.ref t), some (.ref fm), some (.int (0 + (j : Nat))), some (.int k), some (.ref sa), some (.int (p.2 - 1)), z11, some (.ref fb), some (.int p.1), y14, y15, y16, y17, y18] : L2.St) = [some (.ref a), some (.ref d), y2, some (.ref r), some (.int N), some (.ref t), some (.ref fm), some (.int (0 + (j : Nat))), some (.int k), some (.ref sa), z10, z11, some (.ref fb), z13, y14, y15, y16, y17, y18] ∧ H8 fb = some (.lst ((((callsO N ads k).take (q + 1)).filterMap fun p => if (tk N ads p.1).isSome = true ∧ (tk N ads p.1).map (· + p.2) = tk N ads k then some p.1 else none).map V.int)) ∧ ∀ b o, H9 b = some o → b ≠ fb → H8 b = some o := fun hn => by
              refine ⟨_, _, rfl, ?_, kp⟩
              rw [tkq, List.filterMap_append, show [p].filterMap (fun p => if (tk N ads p.1).isSome = true ∧ (tk N ads p.1).map (· + p.2) = tk N ads k then some p.1 else none) = [] by rw [List.filterMap_cons, if_neg hn]; rfl, List.append_nil]
              exact hb
            have ej : ∀ u : Int, u + (p.2 - 1) + 1 = u + p.2 := fun u => by omega
            cases eu : tk N ads p.1 with
            | none =>
              rw [eu] at stay
              exact ⟨false, rfl, stay fun x => by cases x.1⟩
            | some u =>
              rw [eu] at hat stay
              refine ⟨true, rfl, iteT ?_⟩
              refine ⟨.ref fm, rfl, .int p.1, rfl, fm, _, _, _, rfl, rfl, .inl (.inl hp8), hat, .int (p.2 - 1), rfl, u, _, rfl, rfl, _, 1, rfl, rfl, .ref fm, rfl, .int k, rfl, fm, _, _, _, rfl, rfl, .inl (.inl hp8), hatk, ?_⟩
              cases ek : tk N ads k with
              | none =>
                rw [ek] at stay
                exact ⟨rfl, false, rfl, stay fun x => by cases x.2⟩
              | some w =>
                rw [ek] at stay hb lz
                refine ⟨rfl, _, rfl, ite2 (fun c => ?_) (fun c => ?_)⟩
                · have c' : u + p.2 = w := by
                    have z3 : V.int (u + (p.2 - 1) + 1) = V.int w := of_decide_eq_true c
                    injection z3 with z3
                    omega
                  refine ⟨.ref fb, rfl, .inl ⟨rfl, _, .inl (.inl hb)⟩, .int p.1, rfl, fb, _, _, rfl, rfl, hb, by rw [List.length_map]; exact small1000 (by omega), ?_⟩
                  refine ⟨_, _, rfl, ?_, fun b o eb nb => by rw [upd_ne nb]; exact kp b o eb nb⟩
                  rw [upd_same, tkq, List.filterMap_append, List.map_append, show [p].filterMap (fun p => if (tk N ads p.1).isSome = true ∧ (tk N ads p.1).map (· + p.2) = some w then some p.1 else none) = [p.1] by rw [List.filterMap_cons, if_pos ⟨by rw [eu]; rfl, by rw [eu, ← c']; rfl⟩]; rfl]
                  rfl
                · have c' : ¬ u + p.2 = w := fun x => c (decide_eq_true (show V.int (u + (p.2 - 1) + 1) = V.int w by rw [ej, x]))
                  exact stay fun x => c' (Option.some.inj x.2)
        · obtain ⟨z10', z13, rfl, hb, kp⟩ := hW
          rw [List.length_map, les, List.take_length] at hb
          replace hb : H7 fb = some (.lst ((firstL N ads k).map V.int)) := hb
          have sC : Same H13 H7 := fun b o e => kp b o (sB b o e) (ne_of_none e nfb13)
          have scC : ScAt K H7 r t N ads := ⟨.inl (.inl (sC _ _ tr8)), .inl (.inl (sC _ _ tt8))⟩
          have hatk : atI ((filmT N ads 299).map oV) (k : Int) = some (oV (tk N ads k)) := atI_nat (by rw [List.getElem?_map, filmT_at (by omega)]; rfl)
          have k30 : (k : Int) ≤ 10 ^ 30 := by
            have : (300 : Int) ≤ 10 ^ 30 := by decide
            omega
          refine ⟨.ref r, rfl, .int k, rfl, r, t, N, k, ads, rfl, scC, R, by omega, k30, fun HA sA => ?_⟩
          refine ⟨.ref r, rfl, .int k, rfl, r, t, N, k, ads, rfl, scC.same sA, R, by omega, k30, fun HB sB2 => ⟨(by decide : 2 ≤ sizeLine), fun l6 nl6 => ?_⟩⟩
          have bnd : ∀ i, tk N ads k = some i → i.natAbs < 10 ^ 40 := fun i ei => by
            have u1 := tk_up R k (k : Int) i (by omega) (by omega) ei
            have u2 := (tk_low R k (k : Int) i (by omega) (by omega) ei).1
            omega
          have okr : RepOk (.list ([tk N ads k, tk N ads k].map oD)) := rep_list (fun i hi => by
            rcases List.mem_cons.mp hi with e | m
            · exact bnd i e.symm
            · exact bnd i (List.mem_singleton.mp m).symm) (by simp)
          have s6' := same_upd (o := .lst [oV (tk N ads k), oV (tk N ads k)]) nl6
          have sD := sC.trans (sA.trans (sB2.trans s6'))
          have hfD := sD _ _ hp4
          refine ⟨.ref l6, rfl, .ref l6, .list ([tk N ads k, tk N ads k].map oD), rfl, .lst (.inl (.inl upd_same)) (dp_opts [_, _]), okr.s, okr.n, okr.p, okr.z, ?_⟩
          refine ⟨.ref fm, rfl, .int k, rfl, fm, _, _, _, rfl, rfl, .inl (.inl hfD), hatk, .ref fm, rfl, .int k, rfl, fm, _, _, _, rfl, rfl, .inl (.inl hfD), hatk, (by decide : 2 ≤ sizeLine), fun l7 nl7 => ?_⟩
          have s7' := same_upd (o := .lst [oV (tk N ads k), oV (tk N ads k)]) nl7
          refine ⟨.ref l7, .list ([tk N ads k, tk N ads k].map oD), rfl, .lst (.inl (.inl upd_same)) (dp_opts [_, _]), okr.s, okr.n, okr.p, okr.z, rfl, false, by rw [decide_eq_true rfl]; rfl, iteF ?_⟩
          have sE := sD.trans s7'
          have hbE := s7' _ _ (s6' _ _ (sB2 _ _ (sA _ _ hb)))
          have scE : ScAt K _ r t N ads := (((scC.same sA).same sB2).same s6').same s7'
          clear hb sA sB2 s6' nl6 nl7
          dsimp only [tNext]
          generalize upd (upd HB l6 (.lst [oV (tk N ads k), oV (tk N ads k)])) l7 (.lst [oV (tk N ads k), oV (tk N ads k)]) = HE at *
          have okc : RepOk (oD (callerO N ads k)) := rep_opt fun i hi => by
            rw [← first_least R (by omega)] at hi
            obtain ⟨p, hp, ep⟩ := List.mem_filterMap.mp (leastO_spec hi).1
            have z := callsO_mem R (Int.natCast_nonneg k) hp
            split at ep
            · have := Option.some.inj ep
              omega
            · cases ep
          refine ⟨.ref r, rfl, .int k, rfl, r, t, N, k, ads, rfl, scE, R, by omega, k30, fun HF sF => ⟨_, oD (callerO N ads k), rfl, dp_opt _, okc.s, okc.n, okc.p, okc.z, ?_⟩⟩
          have hbF := sF _ _ hbE
          refine ⟨.ref fb, rfl, by decide, fun pp npp => ?_⟩
          have sp := same_upd (o := .lst []) npp
          have fl := first_least R (n := (k : Int)) (by omega)
          have sG := sE.trans (sF.trans sp)
          refine ne_nil (.inl (.inl (sp _ _ hbF))) upd_same ⟨_, rfl, ?_⟩
          have hbG := sp _ _ hbF
          rw [← fl] at okc ⊢
          cases hfl : firstL N ads k with
          | nil =>
            rw [hfl] at okc
            refine iteF ⟨.non, .none, rfl, .non, okc.s, okc.n, okc.p, okc.z, rfl, false, by rw [show oD (leastO []) = PyData.none from rfl, decide_eq_true rfl]; rfl, iteF ?_⟩
            exact ⟨_, _, _, _, _, _, _, _, _, _, _, _, _, g13, rfl, sG _ _ tr8, sG _ _ tt8, sG _ _ hp4, npg4, (hD13.same sG).up (by omega)⟩
          | cons x0 xr =>
            rw [hfl] at okc hbG
            refine iteT ⟨.ref fb, rfl, fb, _, rfl, .inl (.inl hbG), Nat.succ_pos _, fun m h1 h2 => ?_⟩
            have em : leastO (x0 :: xr) = some m := leastO_isA h1 h2
            rw [em] at okc ⊢
            refine ⟨.int m, .int m, rfl, .int m, okc.s, okc.n, okc.p, okc.z, rfl, false, by rw [show oD (some m) = PyData.int m from rfl, decide_eq_true rfl]; rfl, iteF ?_⟩
            exact ⟨_, _, _, _, _, _, _, _, _, _, _, _, _, g13, rfl, sG _ _ tr8, sG _ _ tt8, sG _ _ hp4, npg4, (hD13.same sG).up (by omega)⟩
    · clear hr8 ht8 hfm nfg hD8
      obtain ⟨y2, y7, y8, y9, y10, y11, y12, y13, y14, y15, y16, y17, y18, g4, rfl, tr, tt, hfm, nfg, hD5⟩ := hW
      refine ⟨.ref d, rfl, .ref d, rfl, 10, 6, rfl, rfl, ⟨by decide, by decide, by decide⟩, 10, 30, rfl, rfl, ⟨by decide, by decide, by decide⟩, (by decide : 2 ≤ sizeLine), fun l5 nl5 => ?_⟩
      have s5 := same_upd (o := .lst [.int (10 ^ 6), .int (10 ^ 30)]) nl5
      have nl5g : l5 ≠ g4 := fun x => by obtain ⟨_, ⟨_, hg⟩, _⟩ := hD5.nd; rw [x, hg] at nl5; cases nl5
      refine ⟨d, g4, c, l5, _, [.int (10 ^ 6), .int (10 ^ 30)], rfl, hD5.same s5, by omega, upd_same, nl5g, List.cons_ne_nil _ _, (by decide : 2 ≤ 1000), fun H12 g12 j2 x but12 hg12 hD12 hx => ?_⟩
      obtain ⟨b, rfl, b1, b2⟩ : ∃ b : Int, x = .int b ∧ 1 ≤ b ∧ b ≤ 10 ^ 30 := by
        have hm := List.mem_of_getElem? hx
        simp only [List.mem_cons, List.not_mem_nil, or_false] at hm
        rcases hm with rfl | rfl
        · exact ⟨_, rfl, by decide, by decide⟩
        · exact ⟨_, rfl, by decide, by decide⟩
      have go12 : Go _ H12 d g4 g12 := ⟨but12, hg12⟩
      have tr12 := go12.tup (hD5.same s5) (s5 _ _ tr)
      have tt12 := go12.tup (hD5.same s5) (s5 _ _ tt)
      refine ⟨d, g12, c, _, b, rfl, hD12, by omega, b1, b2, fun H13 g13 gl but13 hg13 hD13 k0 k1 => ?_⟩
      have go13 : Go H12 H13 d g12 g13 := ⟨but13, hg13⟩
      have tr8 := go13.tup hD12 tr12
      have tt8 := go13.tup hD12 tt12
      clear go12 go13 but12 hg12 hD12 but13 hg13 hx s5 nl5 nl5g tr tt hfm nfg hD5 tr12 tt12
      have g30 : gl ≤ 10 ^ 30 := by omega
      have g100 : gl < 2 ^ 100 := by
        have : (10 : Int) ^ 30 < 2 ^ 100 := by decide
        omega
      refine fun kd nkd => ⟨upd_same, [(Sum.inl 0, V.int 0)], rfl, (by decide : 1 ≤ 15), ?_⟩
      have uu : ∀ b o, H13 b = some o → (upd (upd H13 kd (.dK [])) kd (.dK (mergeK [] [((Sum.inl 0 : Key), V.int 0)]))) b = some o := fun b o e => by
        have nb := ne_of_none e nkd
        rw [upd_ne nb, upd_ne nb]
        exact e
      have hkd : (upd (upd H13 kd (.dK [])) kd (.dK (mergeK [] [((Sum.inl 0 : Key), V.int 0)]))) kd = some (.dK (dkV [(0, V.int 0)])) := by rw [upd_same]; rfl
      generalize (upd (upd H13 kd (.dK [])) kd (.dK (mergeK [] [((Sum.inl 0 : Key), V.int 0)]))) = HK at uu hkd
      have sK : Same H13 HK := uu
      have scK : ScAt K HK r t N ads := ⟨.inl (.inl (sK _ _ tr8)), .inl (.inl (sK _ _ tt8))⟩
      have kn0 : Kn HK kd N ads gl [(0, V.int 0)] := ⟨hkd, by simp, fun e he => by rw [List.mem_singleton.mp he]; rfl, by simp, fun k hk => .inl (by simpa using hk)⟩
      refine ⟨.ref r, rfl, .int gl, rfl, .ref kd, rfl, r, t, kd, N, gl, gl, ads, [(0, V.int 0)], rfl, scK, R, k0, g100, Near.self k0, k0, g30, kn0, fun HL es kl knl sub inn cl low => ?_⟩
      obtain ⟨k, rfl⟩ : ∃ k : Nat, gl = k := ⟨_, (Int.toNat_of_nonneg k0).symm⟩
      have hk0 : HK kd = some (.dK (dkV [(0, V.int 0)])) := kn0.dk
      -- what stood ahead stands, but the dict
      have keep : ∀ b o, H13 b = some o → HL b = some o := fun b o e => kl _ _ (sK _ _ e) (ne_of_none e nkd) (ne_of_none e nkd)
      have trL := keep _ _ tr8
      have ttL := keep _ _ tt8
      have dL : Draw HL d g13 c (90 * i + 50 + 2 * 12 + 1 + 1) := hD13.same keep
      have low2 : ∀ p ∈ callsO N ads k, 0 < k → p.1 ∈ es.map (·.1) := fun p hp h => cl (fun z => by
        have e : (k : Int) = 0 := by simpa using z
        omega) p hp
      clear uu hkd sK scK kn0 nkd kl sub inn cl low tr8 tt8 hD13 keep hk0
      have hkd := knl.dk
      have knd := knl.nd
      have kval := knl.val
      have kfew := knl.few R k0 g30
      refine ⟨(by decide : 0 ≤ sizeLine), fun sb nsb => ?_⟩
      have s9 := same_upd (o := .lst ([] : List V)) nsb
      refine ⟨_, _, rfl, ?_⟩
      show tSeq _ _ _ _ (upd HL sb (.lst []))
      have hsb : (upd HL sb (.lst [])) sb = some (.lst (([] : List Int).map V.int)) := upd_same
      have trM := s9 _ _ trL
      have ttM := s9 _ _ ttL
      have dM := dL.same s9
      have hkM := s9 _ _ hkd
      generalize upd HL sb (.lst []) = HM at hsb trM ttM dM hkM
      clear s9 trL ttL dL hkd
      have ttS : SqT K HM t (ads.map V.int) := .inl (.inl ttM)
      refine ⟨.ref t, rfl, t, ads.map V.int, rfl, ttS, ?_⟩
      refine for_it (walk_enumT (K := K) (a := t) (k := 0) (xs := ads.map V.int)) (fun q σ H7 => ∃ (z10 z11 z13 : Option V) (sq : Addr), σ = [some (.ref a), some (.ref d), y2, some (.ref r), some (.int N), some (.ref t), some (.ref fm), y7, y8, some (.ref sq), z10, z11, y12, z13, y14, some (.int k), some (.ref kd), some (oV (tk N ads k)), y18] ∧ H7 sq = some (.lst ((((ads.zipIdx.take q).filterMap (cF N k)).filterMap (gF N ads k)).map V.int)) ∧ Same HM H7)
        ⟨_, _, _, sb, rfl, hsb, Same.refl _⟩ (fun q σ H7 _ hW => ?_) (fun q x σ H7 H8 hq hW y => ?_) (fun σ H7 hW => ?_)
      · obtain ⟨_, _, _, _, _, _, sm⟩ := hW
        exact .inl (.inl (sm _ _ ttM))
      · obtain ⟨z10, z11, z13, sq, rfl, hsq, sm⟩ := hW
        obtain ⟨T, v1, v2, rfl, nT, rfl, g1, g2⟩ := y
        have sT : Same H7 (upd H7 T (.tup [v1, v2])) := same_upd nT
        obtain rfl := (Option.some.inj g1).symm
        rw [List.length_map] at hq
        have hsi : ads[q]? = some ads[q] := List.getElem?_eq_getElem hq
        have g3 : (ads.map V.int)[q]? = some v2 := g2
        rw [List.getElem?_map, hsi] at g3
        obtain rfl := (Option.some.inj g3).symm
        have tkq : ads.zipIdx.take (q + 1) = ads.zipIdx.take q ++ [(ads[q], q)] := by
          rw [List.take_add_one, List.getElem?_zipIdx, hsi]
          simp
        have st0 := (R.rng _ (List.getElem_mem hq)).1
        have hmem := List.getElem_mem hq
        have st20 := (R.rng _ hmem).2
        have sm8 := sm.trans sT
        have hsq8 := sT _ _ hsq
        refine ⟨T, _, rfl, .inl (.inl upd_same), rfl, _, _, rfl, _, _, rfl, rfl, ?_⟩
        show tSeq _ _ _ _ (upd H7 T _)
        generalize upd H7 T (.tup [V.int (0 + (q : Nat)), V.int ads[q]]) = H8 at hsq8 sm8
        clear hsq sm sT nT
        have hcall := fun c => cF_call R (k := k) hsi c
        generalize ads[q] = st at *
        have d2 := R.d2
        have d5 := R.d5
        have efd : ((k : Int) - st).fdiv N = ((k : Int) - st) / N := Int.fdiv_eq_ediv_of_nonneg _ (by omega)
        refine ⟨.int k, rfl, .int st, rfl, k, st, rfl, rfl, .int N, rfl, _, N, rfl, rfl, ⟨by omega, by omega⟩, ?_⟩
        dsimp only
        rw [efd]
        have skip : (cF N k (st, q)).bind (gF N ads k) = none → ∃ (z10 z11 z13 : Option V) (s9 : Addr), ([some (.ref a), some (.ref d), y2, some (.ref r), some (.int N), some (.ref t), some (.ref fm), y7, y8, some (.ref sq), some (.int (0 + (q : Nat))), some (.int st), y12, some (.int (((k : Int) - st) / N)), y14, some (.int k), some (.ref kd), some (oV (tk N ads k)), y18] : L2.St) = [some (.ref a), some (.ref d), y2, some (.ref r), some (.int N), some (.ref t), some (.ref fm), y7, y8, some (.ref s9), z10, z11, y12, z13, y14, some (.int k), some (.ref kd), some (oV (tk N ads k)), y18] ∧ H8 s9 = some (.lst ((((ads.zipIdx.take (q + 1)).filterMap (cF N k)).filterMap (gF N ads k)).map V.int)) ∧ Same HM H8 := fun hn => by
          refine ⟨_, _, _, sq, rfl, ?_, sm8⟩
          rw [tkq, List.filterMap_append, List.filterMap_append]
          have : ([(st, q)].filterMap (cF N k)).filterMap (gF N ads k) = [] := by
            rw [List.filterMap_filterMap]
            simp [hn]
          rw [this, List.append_nil]
          exact hsq8
        have cFn : ¬ (st ≤ (k : Int) ∧ ((k : Int) - st) % N = 0 ∧ 0 < k) → (cF N k (st, q)).bind (gF N ads k) = none := fun h => by
          unfold cF
          rw [if_neg h]
          rfl
        refine ⟨.int k, rfl, k, 0, rfl, rfl, _, rfl, ite2 (fun c1 => ?_) (fun c1 => ?_)⟩
        · have c1' : (0 : Int) < (k : Int) := of_decide_eq_true c1
          refine ⟨_, rfl, _, 0, rfl, rfl, _, rfl, ite2 (fun c2 => ?_) (fun c2 => ?_)⟩
          · have c2' : 0 ≤ ((k : Int) - st) / N := of_decide_eq_true c2
            have hst : st ≤ (k : Int) := by
              refine Decidable.by_contra fun x => ?_
              have : ((k : Int) - st) / N < 0 := Int.ediv_neg_of_neg_of_pos (by omega) (by omega)
              omega
            refine ⟨.int k, rfl, _, rfl, .int N, rfl, _, N, rfl, rfl, .inr ⟨by omega, by omega⟩, .int st, rfl, _, st, rfl, rfl, rfl, _, rfl, ite2 (fun c3 => ?_) (fun c3 => ?_)⟩
            · have c3' : (k : Int) = ((k : Int) - st) / N * N + st := by
                have z3 : V.int (k : Int) = V.int (((k : Int) - st) / N * N + st) := of_decide_eq_true c3
                injection z3
              have hmod : ((k : Int) - st) % N = 0 := by
                have := Int.mul_ediv_add_emod ((k : Int) - st) N
                have e2 : N * (((k : Int) - st) / N) = ((k : Int) - st) / N * N := Int.mul_comm _ _
                omega
              have hc : st ≤ (k : Int) ∧ ((k : Int) - st) % N = 0 ∧ 0 < k := ⟨hst, hmod, by omega⟩
              have hp := hcall hc
              obtain ⟨v, hv⟩ := at_key (low2 _ hp (by omega))
              have ev := kval _ hv
              dsimp only at ev
              subst ev
              have dg8 := dget_of (sm8 _ _ hkM) knd hv
              have cFs : cF N k (st, q) = some [V.int (((k : Int) - st) / N), V.int (q : Int)] := if_pos hc
              refine ⟨.ref kd, rfl, _, rfl, kd, _, rfl, dg8, rfl, ?_⟩
              cases eu : tk N ads (((k : Int) - st) / N) with
              | none => exact ⟨false, rfl, skip (by rw [cFs]; show gF N ads k [V.int _, V.int _] = none; rw [gF_eq, eu]; simp)⟩
              | some u =>
                rw [eu] at dg8
                refine ⟨true, rfl, iteT ?_⟩
                have eg : gF N ads k [V.int (((k : Int) - st) / N), V.int (q : Int)] = if some (u + ((q : Int) + 1)) = tk N ads k then some (((k : Int) - st) / N) else none := by
                  rw [gF_eq, eu]
                  simp
                refine ⟨.ref sq, rfl, .int (((k : Int) - st) / N), rfl, (by decide : 1 ≤ sizeLine), fun lf nlf => ?_⟩
                have s10 := same_upd (o := .lst [V.int (((k : Int) - st) / N)]) nlf
                have hlf : (upd H8 lf (.lst [V.int (((k : Int) - st) / N)])) lf = some (.lst [V.int (((k : Int) - st) / N)]) := upd_same
                have hsq9 := s10 _ _ hsq8
                have dg9 := dget_of (s10 _ _ (sm8 _ _ hkM)) knd hv
                rw [eu] at dg9
                have sm9 := sm8.trans s10
                generalize upd H8 lf (.lst [V.int (((k : Int) - st) / N)]) = H9 at hlf hsq9 dg9 sm9
                refine ⟨.ref kd, rfl, _, rfl, kd, _, rfl, dg9, .int (0 + (q : Nat)), rfl, u, _, rfl, rfl, _, 1, rfl, rfl, oV (tk N ads k), rfl, ?_⟩
                have hsc : scal (V.int (u + (0 + (q : Nat)) + 1)) (oV (tk N ads k)) = true := by cases tk N ads k <;> rfl
                refine ⟨hsc, .inr ⟨_, rfl, ?_⟩⟩
                have lz : (((ads.zipIdx.take q).filterMap (cF N k)).filterMap (gF N ads k)).length ≤ 5 := by
                  have z1 := List.length_filterMap_le (gF N ads k) ((ads.zipIdx.take q).filterMap (cF N k))
                  have z2 := List.length_filterMap_le (cF N k) (ads.zipIdx.take q)
                  rw [List.length_take] at z2
                  have := R.most
                  omega
                by_cases hd : some (u + ((q : Int) + 1)) = tk N ads k
                · have hdec : decide (V.int (u + (0 + (q : Nat)) + 1) = oV (tk N ads k)) = true := by
                    rw [← hd]
                    exact decide_eq_true (congrArg V.int (by omega))
                  rw [hdec]
                  refine ⟨lf, 1, _, rfl, rfl, hlf, by decide, by decide, by simp; decide, fun lr nlr => ?_⟩
                  have s11 := same_upd (o := .lst (List.replicate (1 : Int).toNat [V.int (((k : Int) - st) / N)]).flatten) nlr
                  refine ⟨sq, lr, _, _, rfl, rfl, s11 _ _ hsq9, upd_same, ?_, fun ln nln => ?_⟩
                  · rw [List.length_map]
                    have e : (List.replicate (1 : Int).toNat [V.int (((k : Int) - st) / N)]).flatten.length = 1 := rfl
                    rw [e]
                    exact Nat.le_of_lt (small1000 (by omega))
                  · have s12 := same_upd (o := .lst ((((ads.zipIdx.take q).filterMap (cF N k)).filterMap (gF N ads k)).map V.int ++ (List.replicate (1 : Int).toNat [V.int (((k : Int) - st) / N)]).flatten)) nln
                    refine ⟨_, _, _, ln, rfl, ?_, sm9.trans (s11.trans s12)⟩
                    rw [upd_same, tkq, List.filterMap_append, List.filterMap_append, List.map_append]
                    have : ([(st, q)].filterMap (cF N k)).filterMap (gF N ads k) = [((k : Int) - st) / N] := by
                      rw [List.filterMap_filterMap]
                      simp [cFs, eg, hd]
                    rw [this]
                    rfl
                · have hdec : decide (V.int (u + (0 + (q : Nat)) + 1) = oV (tk N ads k)) = false := by
                    refine decide_eq_false fun e => hd ?_
                    cases ek : tk N ads k with
                    | none => rw [ek] at e; cases e
                    | some w =>
                      rw [ek] at e
                      have e : V.int (u + (0 + (q : Nat)) + 1) = V.int w := e
                      injection e with e
                      congr 1
                      omega
                  rw [hdec]
                  refine ⟨lf, 0, _, rfl, rfl, hlf, by decide, by decide, by simp, fun lr nlr => ?_⟩
                  have s11 := same_upd (o := .lst (List.replicate (0 : Int).toNat [V.int (((k : Int) - st) / N)]).flatten) nlr
                  refine ⟨sq, lr, _, _, rfl, rfl, s11 _ _ hsq9, upd_same, ?_, fun ln nln => ?_⟩
                  · rw [List.length_map]
                    have e : (List.replicate (0 : Int).toNat [V.int (((k : Int) - st) / N)]).flatten.length = 0 := rfl
                    rw [e]
                    exact Nat.le_of_lt (small1000 (by omega))
                  · have s12 := same_upd (o := .lst ((((ads.zipIdx.take q).filterMap (cF N k)).filterMap (gF N ads k)).map V.int ++ (List.replicate (0 : Int).toNat [V.int (((k : Int) - st) / N)]).flatten)) nln
                    refine ⟨_, _, _, ln, rfl, ?_, sm9.trans (s11.trans s12)⟩
                    rw [upd_same, tkq, List.filterMap_append, List.filterMap_append]
                    have : ([(st, q)].filterMap (cF N k)).filterMap (gF N ads k) = [] := by
                      rw [List.filterMap_filterMap]
                      simp [cFs, eg, hd]
                    rw [this, List.append_nil]
                    show some (HO.lst (_ ++ [])) = _
                    rw [List.append_nil]
            · refine skip (cFn fun x => c3 (decide_eq_true ?_))
              show V.int (k : Int) = V.int (((k : Int) - st) / N * N + st)
              have := Int.mul_ediv_add_emod ((k : Int) - st) N
              have e2 : N * (((k : Int) - st) / N) = ((k : Int) - st) / N * N := Int.mul_comm _ _
              have := x.2.1
              congr 1
              omega
          · refine skip (cFn fun x => c2 (decide_eq_true ?_))
            show 0 ≤ ((k : Int) - st) / N
            exact Int.ediv_nonneg (by omega) (by omega)
        · exact skip (cFn fun x => c1 (decide_eq_true (by have := x.2.2; omega)))
      · obtain ⟨z10, z11, z13, sq, rfl, hsq, sm⟩ := hW
        rw [List.length_map, List.take_of_length_le (Nat.le_of_eq List.length_zipIdx), far_first R] at hsq
        have trC := sm _ _ trM
        have ttC := sm _ _ ttM
        have dC := dM.same sm
        clear trM ttM dM hkM ttS sm hsb low2 kval
        have scC : ScAt K H7 r t N ads := ⟨.inl (.inl trC), .inl (.inl ttC)⟩
        have okd : RepOk (oD (tk N ads k)) := rep_opt fun i hi => by
          have u1 := tk_up R k (k : Int) i (by omega) (by omega) hi
          have u2 := (tk_low R k (k : Int) i (by omega) (by omega) hi).1
          have : (10 : Int) ^ 40 = 10 ^ 30 * 10 ^ 10 := by decide
          omega
        refine ⟨.ref r, rfl, .int k, rfl, r, t, N, k, ads, rfl, scC, R, by omega, g30, fun HA sA => ?_⟩
        refine ⟨_, oD (tk N ads k), rfl, dp_opt _, okd.s, okd.n, okd.p, okd.z, ?_⟩
        refine ⟨_, rfl, _, oD (tk N ads k), rfl, dp_opt _, okd.s, okd.n, okd.p, okd.z, rfl, false, by rw [decide_eq_true rfl]; rfl, iteF ?_⟩
        have okc : RepOk (oD (callerO N ads k)) := rep_opt fun i hi => by
          rw [← first_least R (by omega)] at hi
          obtain ⟨p, hp, ep⟩ := List.mem_filterMap.mp (leastO_spec hi).1
          have z := callsO_mem R (Int.natCast_nonneg k) hp
          have : (10 : Int) ^ 40 = 10 ^ 30 * 10 ^ 10 := by decide
          split at ep
          · have := Option.some.inj ep
            omega
          · cases ep
        refine ⟨.ref r, rfl, .int k, rfl, r, t, N, k, ads, rfl, scC.same sA, R, by omega, g30, fun HF sF => ⟨_, oD (callerO N ads k), rfl, dp_opt _, okc.s, okc.n, okc.p, okc.z, ?_⟩⟩
        have sAF := sA.trans sF
        have hbF := sAF _ _ hsq
        refine ⟨.ref sq, rfl, by decide, fun pp npp => ?_⟩
        have sp := same_upd (o := .lst []) npp
        have fl := first_least R (n := (k : Int)) (by omega)
        have sG := sAF.trans sp
        refine ne_nil (.inl (.inl (sp _ _ hbF))) upd_same ⟨_, rfl, ?_⟩
        have hbG := sp _ _ hbF
        have trG := sG _ _ trC
        have ttG := sG _ _ ttC
        have dG := dC.same sG
        rw [← fl] at okc ⊢
        cases hfl : firstL N ads k with
        | nil =>
          rw [hfl] at okc
          refine iteF ⟨.non, .none, rfl, .non, okc.s, okc.n, okc.p, okc.z, rfl, false, by rw [show oD (leastO []) = PyData.none from rfl, decide_eq_true rfl]; rfl, iteF ?_⟩
          refine ⟨.ref t, rfl, t, rfl, ⟨_, .inl (.inl ttG)⟩, fun L nL => ?_⟩
          refine lc_std (walk_tup (K := K) (a := t) (xs := ads.map V.int)) ads (fun n => some (.int (n % N))) (by rw [List.length_map]) (small1000 (by rw [List.length_map]; have := R.most; omega)) nL (fun H2 s2 => .inl (.inl (s2 _ _ ttG))) (fun i x H2 H3 n RR hn s2 y hR => ?_) (fun H2 s2 e3 => ?_)
          · obtain ⟨rfl, g⟩ := y
            obtain rfl := map_at hn g
            have d2 := R.d2
            refine ⟨rfl, .int n, rfl, .inl ⟨n, rfl, .int N, rfl, n, N, rfl, rfl, (by omega : N ≠ 0), ?_⟩⟩
            have ef : n.fmod N = n % N := Int.fmod_eq_emod_of_nonneg _ (by omega : 0 ≤ N)
            show RR (some (.int (n.fmod N))) H3
            rw [ef]
            exact hR _ (Same.refl _)
          · rw [filterMap_some] at e3
            have e4 : ads.map (fun n => V.int (n % N)) = (ads.map (· % N)).map V.int := by rw [List.map_map]; rfl
            rw [e4] at e3
            have dX := dG.same s2
            have scX : ScAt K H2 r t N ads := ⟨.inl (.inl (s2 _ _ trG)), .inl (.inl (s2 _ _ ttG))⟩
            have okb := rep_bool (decide (Plain N ads))
            refine ⟨.ref r, rfl, r, t, N, ads, rfl, scX, R, fun HX sX => ⟨_, .bool (decide (Plain N ads)), rfl, .bl _, okb.s, okb.n, okb.p, okb.z, ?_⟩⟩
            refine ⟨.ref L, rfl, L, _, rfl, .inl (.inl (sX _ _ e3)), by rw [List.length_map]; have := R.most; omega, fun ks nd hm => ?_⟩
            refine ⟨.ref L, rfl, L, _, rfl, .inl (.inl (.inl (sX _ _ e3))), rfl, ?_⟩
            rw [List.length_map, List.length_map, plain_len nd hm]
            refine ⟨_, .bool (decide (Plain N ads)), rfl, .bl _, okb.s, okb.n, okb.p, okb.z, rfl, false, by rw [decide_eq_true rfl]; rfl, iteF ?_⟩
            exact ⟨_, _, _, _, _, _, _, _, _, _, _, _, _, _, _, _, _, g13, rfl, (dX.same sX).up (by omega)⟩
        | cons x0 xr =>
          rw [hfl] at okc hbG
          refine iteT ⟨.ref sq, rfl, sq, _, rfl, .inl (.inl hbG), Nat.succ_pos _, fun m h1 h2 => ?_⟩
          have em : leastO (x0 :: xr) = some m := leastO_isA h1 h2
          rw [em] at okc ⊢
          refine ⟨.int m, .int m, rfl, .int m, okc.s, okc.n, okc.p, okc.z, rfl, false, by rw [show oD (some m) = PyData.int m from rfl, decide_eq_true rfl]; rfl, iteF ?_⟩
          refine ⟨.ref t, rfl, t, rfl, ⟨_, .inl (.inl ttG)⟩, fun L nL => ?_⟩
          refine lc_std (walk_tup (K := K) (a := t) (xs := ads.map V.int)) ads (fun n => some (.int (n % N))) (by rw [List.length_map]) (small1000 (by rw [List.length_map]; have := R.most; omega)) nL (fun H2 s2 => .inl (.inl (s2 _ _ ttG))) (fun i x H2 H3 n RR hn s2 y hR => ?_) (fun H2 s2 e3 => ?_)
          · obtain ⟨rfl, g⟩ := y
            obtain rfl := map_at hn g
            have d2 := R.d2
            refine ⟨rfl, .int n, rfl, .inl ⟨n, rfl, .int N, rfl, n, N, rfl, rfl, (by omega : N ≠ 0), ?_⟩⟩
            have ef : n.fmod N = n % N := Int.fmod_eq_emod_of_nonneg _ (by omega : 0 ≤ N)
            show RR (some (.int (n.fmod N))) H3
            rw [ef]
            exact hR _ (Same.refl _)
          · rw [filterMap_some] at e3
            have e4 : ads.map (fun n => V.int (n % N)) = (ads.map (· % N)).map V.int := by rw [List.map_map]; rfl
            rw [e4] at e3
            have dX := dG.same s2
            have scX : ScAt K H2 r t N ads := ⟨.inl (.inl (s2 _ _ trG)), .inl (.inl (s2 _ _ ttG))⟩
            have okb := rep_bool (decide (Plain N ads))
            refine ⟨.ref r, rfl, r, t, N, ads, rfl, scX, R, fun HX sX => ⟨_, .bool (decide (Plain N ads)), rfl, .bl _, okb.s, okb.n, okb.p, okb.z, ?_⟩⟩
            refine ⟨.ref L, rfl, L, _, rfl, .inl (.inl (sX _ _ e3)), by rw [List.length_map]; have := R.most; omega, fun ks nd hm => ?_⟩
            refine ⟨.ref L, rfl, L, _, rfl, .inl (.inl (.inl (sX _ _ e3))), rfl, ?_⟩
            rw [List.length_map, List.length_map, plain_len nd hm]
            refine ⟨_, .bool (decide (Plain N ads)), rfl, .bl _, okb.s, okb.n, okb.p, okb.z, rfl, false, by rw [decide_eq_true rfl]; rfl, iteF ?_⟩
            exact ⟨_, _, _, _, _, _, _, _, _, _, _, _, _, _, _, _, _, g13, rfl, (dX.same sX).up (by omega)⟩
  · obtain ⟨y2, y3, y4, y5, y6, y7, y8, y9, y10, y11, y12, y13, y14, y15, y16, y17, y18, g2, rfl, hD4⟩ := hW
    have S12 : IsSc 2 [1, 2] := ⟨by decide, by decide, by decide, by decide, by decide, by decide⟩
    refine ⟨(by decide : 2 ≤ sizeLine), fun t1 nt1 => ⟨(by decide : 2 ≤ sizeLine), fun r1 nr1 => ?_⟩⟩
    have z1 := same_upd (o := .tup [.int 1, .int 2]) nt1
    have z2 := same_upd (o := .tup [.int 2, .ref t1]) nr1
    have sc1 : ScAt K (upd (upd H4 t1 (.tup [.int 1, .int 2])) r1 (.tup [.int 2, .ref t1])) r1 t1 2 [1, 2] := ⟨.inl (.inl upd_same), .inl (.inl (z2 _ _ upd_same))⟩
    refine ⟨10, 30, rfl, rfl, ⟨by decide, by decide, by decide⟩, r1, t1, 2, 10 ^ 30, [1, 2], rfl, sc1, S12, by decide, Int.le_refl _, fun HA sA => ?_⟩
    refine ⟨(by decide : 2 ≤ sizeLine), fun t2 nt2 => ⟨(by decide : 2 ≤ sizeLine), fun r2 nr2 => ?_⟩⟩
    have z3 := same_upd (o := .tup [.int 1, .int 2]) nt2
    have z4 := same_upd (o := .tup [.int 2, .ref t2]) nr2
    have hr2 : (upd (upd HA t2 (.tup [.int 1, .int 2])) r2 (.tup [.int 2, .ref t2])) r2 = some (.tup [.int 2, .ref t2]) := upd_same
    have ht2 : (upd (upd HA t2 (.tup [.int 1, .int 2])) r2 (.tup [.int 2, .ref t2])) t2 = some (.tup [.int 1, .int 2]) := z4 _ _ upd_same
    generalize upd (upd HA t2 (.tup [.int 1, .int 2])) r2 (.tup [.int 2, .ref t2]) = HB at hr2 ht2
    refine ⟨10, 30, rfl, rfl, ⟨by decide, by decide, by decide⟩, fun kd nkd => ⟨upd_same, [(Sum.inl 0, V.int 0)], rfl, (by decide : 1 ≤ 15), ?_⟩⟩
    have uu : ∀ b o, HB b = some o → (upd (upd HB kd (.dK [])) kd (.dK (mergeK [] [((Sum.inl 0 : Key), V.int 0)]))) b = some o := fun b o e => by
      have nb := ne_of_none e nkd
      rw [upd_ne nb, upd_ne nb]
      exact e
    have hkd : (upd (upd HB kd (.dK [])) kd (.dK (mergeK [] [((Sum.inl 0 : Key), V.int 0)]))) kd = some (.dK (dkV [(0, V.int 0)])) := by rw [upd_same]; rfl
    generalize (upd (upd HB kd (.dK [])) kd (.dK (mergeK [] [((Sum.inl 0 : Key), V.int 0)]))) = HK at uu hkd
    have scK : ScAt K HK r2 t2 2 [1, 2] := ⟨.inl (.inl (uu _ _ hr2)), .inl (.inl (uu _ _ ht2))⟩
    obtain ⟨G, hG, hG0⟩ : ∃ G : Int, G = 10 ^ 30 ∧ 0 ≤ G := ⟨_, rfl, by decide⟩
    have kn0 : Kn HK kd 2 [1, 2] G [(0, V.int 0)] := ⟨hkd, by simp, fun e he => by rw [List.mem_singleton.mp he]; rfl, by simp, fun k hk => .inl (by simpa using hk)⟩
    have g100 : G < 2 ^ 100 := by rw [hG]; decide
    refine ⟨r2, t2, kd, 2, 10 ^ 30, G, [1, 2], [(0, V.int 0)], rfl, scK, S12, by decide, by rw [← hG]; exact g100, by rw [← hG]; exact Near.self hG0, hG0, by rw [hG]; exact Int.le_refl _, kn0, fun HL es kl knl sub inn cl low => ?_⟩
    rw [← hG]
    have sc0 : scal (oV (tk 2 [1, 2] G)) (oV (tk 2 [1, 2] G)) = true := by cases tk 2 [1, 2] G <;> rfl
    refine ⟨sc0, ?_⟩
    rw [decide_eq_true rfl]
    exact q _
end
end LK
namespace LK
open PySem PySem.Spec PyProof.Rows L2 CD
section
variable {P : Program} {w : World} {K : PySem.W.Frag} {mg : Str → Option Value} {base : Heap}
/-! ### what the top has written; the law's own head -/
theorem mg_int {K : PySem.W.Frag} {h : Heap} {mg : Str → Option Value} (X : K.In h) (G : h.Ns mainGlobals mg) {x : Str} {i j : Int} {t : Tok} (a : PySem.W.nsIn K mainGlobals x = some (some (.int i t))) (e : i = j) : ∃ t, mg x = some (.int j t) := ⟨t, e ▸ PySem.W.mg_of X G a⟩
def TupIs (o : Obj) (xs : List V) : Prop := o.cls = .type "tuple" ∧ ∃ its n, o.data = .seq its n ∧ its.size ≤ sizeLine ∧ Vals xs its.toList
theorem mg_tup {K : PySem.W.Frag} {h : Heap} {mg : Str → Option Value} (X : K.In h) (G : h.Ns mainGlobals mg) {x : Str} {a : Addr} {o : Obj} {xs : List V} (m : PySem.W.nsIn K mainGlobals x = some (some (.ref a))) (l : K.lookup a = some o) (t : TupIs o xs) : ∃ a, mg x = some (.ref a) ∧ ∀ H, SqT K H a xs :=
  ⟨a, PySem.W.mg_of X G m, fun _ => .inr (let ⟨h1, its, n, h2, h3, h4⟩ := t; ⟨o, its, n, l, h1, h2, h3, h4⟩)⟩
theorem def_mk {K : PySem.W.Frag} {h : Heap} {mg : Str → Option Value} (X : K.In h) (G : h.Ns mainGlobals mg) {x : Str} {st : Stmt} {ps : List Str} {f : Addr} {od an : Option Addr} {sl : Array (Option Value)} {oc kV dc pm cd ct : Value}
    (a : PySem.W.nsIn K mainGlobals x = some (some (.ref f))) (l : K.lookup f = some ⟨oc, od, .func (PySem.W.fnOf x x (defArgs st) (defBody st) (defScope st) .none kV dc pm an cd ct), sl⟩) (c : PySem.W.codeIn K cd x = true) (k : PySem.W.keepIn K (.ref f) = true)
    (hb : ∀ (kV doc pm : Value) (an : Option Addr) (cdv ct : Value) (us : List Value), us.length = ps.length → bindArgs (PySem.W.fnOf x x (defArgs st) (defBody st) (defScope st) .none kV doc pm an cdv ct) ⟨us, []⟩ = pure (ps.zip us)) : Def K mg x st ps :=
  ⟨f, _, fun_mk (st := st) l c k, PySem.W.mg_of X G a, (fun_mk (st := st) l c k).binds (ps := ps) hb⟩
theorem all_mk {P : Program} {w : World} {K : PySem.W.Frag} {h : Heap} {mg : Str → Option Value} {fa : Addr} (X : K.In h) (G : h.Ns mainGlobals mg) (hfa : mg "law" = some (.ref fa))
    {f0 : Addr} {od0 an0 : Option Addr} {sl0 : Array (Option Value)} {oc0 kV0 dc0 pm0 cd0 ct0 : Value}
    (a0 : PySem.W.nsIn K mainGlobals "is_integer" = some (some (.ref f0))) (l0 : K.lookup f0 = some ⟨oc0, od0, .func (PySem.W.fnOf "is_integer" "is_integer" (defArgs s_is_integer) (defBody s_is_integer) (defScope s_is_integer) .none kV0 dc0 pm0 an0 cd0 ct0), sl0⟩) (c0 : PySem.W.codeIn K cd0 "is_integer" = true) (k0 : PySem.W.keepIn K (.ref f0) = true)
    {f1 : Addr} {od1 an1 : Option Addr} {sl1 : Array (Option Value)} {oc1 kV1 dc1 pm1 cd1 ct1 : Value}
    (a1 : PySem.W.nsIn K mainGlobals "is_number" = some (some (.ref f1))) (l1 : K.lookup f1 = some ⟨oc1, od1, .func (PySem.W.fnOf "is_number" "is_number" (defArgs s_is_number) (defBody s_is_number) (defScope s_is_number) .none kV1 dc1 pm1 an1 cd1 ct1), sl1⟩) (c1 : PySem.W.codeIn K cd1 "is_number" = true) (k1 : PySem.W.keepIn K (.ref f1) = true)
    {f2 : Addr} {od2 an2 : Option Addr} {sl2 : Array (Option Value)} {oc2 kV2 dc2 pm2 cd2 ct2 : Value}
    (a2 : PySem.W.nsIn K mainGlobals "need_person" = some (some (.ref f2))) (l2 : K.lookup f2 = some ⟨oc2, od2, .func (PySem.W.fnOf "need_person" "need_person" (defArgs s_need_person) (defBody s_need_person) (defScope s_need_person) .none kV2 dc2 pm2 an2 cd2 ct2), sl2⟩) (c2 : PySem.W.codeIn K cd2 "need_person" = true) (k2 : PySem.W.keepIn K (.ref f2) = true)
    {f3 : Addr} {od3 an3 : Option Addr} {sl3 : Array (Option Value)} {oc3 kV3 dc3 pm3 cd3 ct3 : Value}
    (a3 : PySem.W.nsIn K mainGlobals "callers_of" = some (some (.ref f3))) (l3 : K.lookup f3 = some ⟨oc3, od3, .func (PySem.W.fnOf "callers_of" "callers_of" (defArgs s_callers_of) (defBody s_callers_of) (defScope s_callers_of) .none kV3 dc3 pm3 an3 cd3 ct3), sl3⟩) (c3 : PySem.W.codeIn K cd3 "callers_of" = true) (k3 : PySem.W.keepIn K (.ref f3) = true)
    {f4 : Addr} {od4 an4 : Option Addr} {sl4 : Array (Option Value)} {oc4 kV4 dc4 pm4 cd4 ct4 : Value}
    (a4 : PySem.W.nsIn K mainGlobals "ticks_of" = some (some (.ref f4))) (l4 : K.lookup f4 = some ⟨oc4, od4, .func (PySem.W.fnOf "ticks_of" "ticks_of" (defArgs s_ticks_of) (defBody s_ticks_of) (defScope s_ticks_of) .none kV4 dc4 pm4 an4 cd4 ct4), sl4⟩) (c4 : PySem.W.codeIn K cd4 "ticks_of" = true) (k4 : PySem.W.keepIn K (.ref f4) = true)
    {f5 : Addr} {od5 an5 : Option Addr} {sl5 : Array (Option Value)} {oc5 kV5 dc5 pm5 cd5 ct5 : Value}
    (a5 : PySem.W.nsIn K mainGlobals "need_scaled" = some (some (.ref f5))) (l5 : K.lookup f5 = some ⟨oc5, od5, .func (PySem.W.fnOf "need_scaled" "need_scaled" (defArgs s_need_scaled) (defBody s_need_scaled) (defScope s_need_scaled) .none kV5 dc5 pm5 an5 cd5 ct5), sl5⟩) (c5 : PySem.W.codeIn K cd5 "need_scaled" = true) (k5 : PySem.W.keepIn K (.ref f5) = true)
    {f6 : Addr} {od6 an6 : Option Addr} {sl6 : Array (Option Value)} {oc6 kV6 dc6 pm6 cd6 ct6 : Value}
    (a6 : PySem.W.nsIn K mainGlobals "tick_at" = some (some (.ref f6))) (l6 : K.lookup f6 = some ⟨oc6, od6, .func (PySem.W.fnOf "tick_at" "tick_at" (defArgs s_tick_at) (defBody s_tick_at) (defScope s_tick_at) .none kV6 dc6 pm6 an6 cd6 ct6), sl6⟩) (c6 : PySem.W.codeIn K cd6 "tick_at" = true) (k6 : PySem.W.keepIn K (.ref f6) = true)
    {f7 : Addr} {od7 an7 : Option Addr} {sl7 : Array (Option Value)} {oc7 kV7 dc7 pm7 cd7 ct7 : Value}
    (a7 : PySem.W.nsIn K mainGlobals "caller_of" = some (some (.ref f7))) (l7 : K.lookup f7 = some ⟨oc7, od7, .func (PySem.W.fnOf "caller_of" "caller_of" (defArgs s_caller_of) (defBody s_caller_of) (defScope s_caller_of) .none kV7 dc7 pm7 an7 cd7 ct7), sl7⟩) (c7 : PySem.W.codeIn K cd7 "caller_of" = true) (k7 : PySem.W.keepIn K (.ref f7) = true)
    {f8 : Addr} {od8 an8 : Option Addr} {sl8 : Array (Option Value)} {oc8 kV8 dc8 pm8 cd8 ct8 : Value}
    (a8 : PySem.W.nsIn K mainGlobals "is_plain" = some (some (.ref f8))) (l8 : K.lookup f8 = some ⟨oc8, od8, .func (PySem.W.fnOf "is_plain" "is_plain" (defArgs s_is_plain) (defBody s_is_plain) (defScope s_is_plain) .none kV8 dc8 pm8 an8 cd8 ct8), sl8⟩) (c8 : PySem.W.codeIn K cd8 "is_plain" = true) (k8 : PySem.W.keepIn K (.ref f8) = true)
    {f9 : Addr} {od9 an9 : Option Addr} {sl9 : Array (Option Value)} {oc9 kV9 dc9 pm9 cd9 ct9 : Value}
    (a9 : PySem.W.nsIn K mainGlobals "_law_begun" = some (some (.ref f9))) (l9 : K.lookup f9 = some ⟨oc9, od9, .func (PySem.W.fnOf "_law_begun" "_law_begun" (defArgs s__law_begun) (defBody s__law_begun) (defScope s__law_begun) .none kV9 dc9 pm9 an9 cd9 ct9), sl9⟩) (c9 : PySem.W.codeIn K cd9 "_law_begun" = true) (k9 : PySem.W.keepIn K (.ref f9) = true)
    {f10 : Addr} {od10 an10 : Option Addr} {sl10 : Array (Option Value)} {oc10 kV10 dc10 pm10 cd10 ct10 : Value}
    (a10 : PySem.W.nsIn K mainGlobals "_law_next" = some (some (.ref f10))) (l10 : K.lookup f10 = some ⟨oc10, od10, .func (PySem.W.fnOf "_law_next" "_law_next" (defArgs s__law_next) (defBody s__law_next) (defScope s__law_next) .none kV10 dc10 pm10 an10 cd10 ct10), sl10⟩) (c10 : PySem.W.codeIn K cd10 "_law_next" = true) (k10 : PySem.W.keepIn K (.ref f10) = true)
    {f11 : Addr} {od11 an11 : Option Addr} {sl11 : Array (Option Value)} {oc11 kV11 dc11 pm11 cd11 ct11 : Value}
    (a11 : PySem.W.nsIn K mainGlobals "_law_of" = some (some (.ref f11))) (l11 : K.lookup f11 = some ⟨oc11, od11, .func (PySem.W.fnOf "_law_of" "_law_of" (defArgs s__law_of) (defBody s__law_of) (defScope s__law_of) .none kV11 dc11 pm11 an11 cd11 ct11), sl11⟩) (c11 : PySem.W.codeIn K cd11 "_law_of" = true) (k11 : PySem.W.keepIn K (.ref f11) = true)
    {f12 : Addr} {od12 an12 : Option Addr} {sl12 : Array (Option Value)} {oc12 kV12 dc12 pm12 cd12 ct12 : Value}
    (a12 : PySem.W.nsIn K mainGlobals "_law_scale" = some (some (.ref f12))) (l12 : K.lookup f12 = some ⟨oc12, od12, .func (PySem.W.fnOf "_law_scale" "_law_scale" (defArgs s__law_scale) (defBody s__law_scale) (defScope s__law_scale) .none kV12 dc12 pm12 an12 cd12 ct12), sl12⟩) (c12 : PySem.W.codeIn K cd12 "_law_scale" = true) (k12 : PySem.W.keepIn K (.ref f12) = true)
    {f13 : Addr} {od13 an13 : Option Addr} {sl13 : Array (Option Value)} {oc13 kV13 dc13 pm13 cd13 ct13 : Value}
    (a13 : PySem.W.nsIn K mainGlobals "_law_spread" = some (some (.ref f13))) (l13 : K.lookup f13 = some ⟨oc13, od13, .func (PySem.W.fnOf "_law_spread" "_law_spread" (defArgs s__law_spread) (defBody s__law_spread) (defScope s__law_spread) .none kV13 dc13 pm13 an13 cd13 ct13), sl13⟩) (c13 : PySem.W.codeIn K cd13 "_law_spread" = true) (k13 : PySem.W.keepIn K (.ref f13) = true)
    {f14 : Addr} {od14 an14 : Option Addr} {sl14 : Array (Option Value)} {oc14 kV14 dc14 pm14 cd14 ct14 : Value}
    (a14 : PySem.W.nsIn K mainGlobals "_law_spread_at" = some (some (.ref f14))) (l14 : K.lookup f14 = some ⟨oc14, od14, .func (PySem.W.fnOf "_law_spread_at" "_law_spread_at" (defArgs s__law_spread_at) (defBody s__law_spread_at) (defScope s__law_spread_at) .none kV14 dc14 pm14 an14 cd14 ct14), sl14⟩) (c14 : PySem.W.codeIn K cd14 "_law_spread_at" = true) (k14 : PySem.W.keepIn K (.ref f14) = true)
    {f15 : Addr} {od15 an15 : Option Addr} {sl15 : Array (Option Value)} {oc15 kV15 dc15 pm15 cd15 ct15 : Value}
    (a15 : PySem.W.nsIn K mainGlobals "law" = some (some (.ref f15))) (l15 : K.lookup f15 = some ⟨oc15, od15, .func (PySem.W.fnOf "law" "law" (defArgs s_law) (defBody s_law) (defScope s_law) .none kV15 dc15 pm15 an15 cd15 ct15), sl15⟩) (c15 : PySem.W.codeIn K cd15 "law" = true) (k15 : PySem.W.keepIn K (.ref f15) = true)
    (z0 : PySem.W.nsIn K mainGlobals "all" = some none)
    (z1 : PySem.W.nsIn K mainGlobals "any" = some none)
    (z2 : PySem.W.nsIn K mainGlobals "bool" = some none)
    (z3 : PySem.W.nsIn K mainGlobals "divmod" = some none)
    (z4 : PySem.W.nsIn K mainGlobals "enumerate" = some none)
    (z5 : PySem.W.nsIn K mainGlobals "int" = some none)
    (z6 : PySem.W.nsIn K mainGlobals "isinstance" = some none)
    (z7 : PySem.W.nsIn K mainGlobals "len" = some none)
    (z8 : PySem.W.nsIn K mainGlobals "list" = some none)
    (z9 : PySem.W.nsIn K mainGlobals "max" = some none)
    (z10 : PySem.W.nsIn K mainGlobals "min" = some none)
    (z11 : PySem.W.nsIn K mainGlobals "range" = some none)
    (z12 : PySem.W.nsIn K mainGlobals "repr" = some none)
    (z13 : PySem.W.nsIn K mainGlobals "reversed" = some none)
    (z14 : PySem.W.nsIn K mainGlobals "set" = some none)
    (z15 : PySem.W.nsIn K mainGlobals "sorted" = some none)
    (z16 : PySem.W.nsIn K mainGlobals "str" = some none)
    (z17 : PySem.W.nsIn K mainGlobals "sum" = some none)
    (z18 : PySem.W.nsIn K mainGlobals "tuple" = some none)
    (z19 : PySem.W.nsIn K mainGlobals "zip" = some none)
    {i0 : Int} {t0 : Tok} (m0 : PySem.W.nsIn K mainGlobals "MOST_NUMBER" = some (some (.int i0 t0))) (e0 : i0 = 10 ^ 30)
    {i1 : Int} {t1 : Tok} (m1 : PySem.W.nsIn K mainGlobals "LEAST_SCALE" = some (some (.int i1 t1))) (e1 : i1 = 2)
    {i2 : Int} {t2 : Tok} (m2 : PySem.W.nsIn K mainGlobals "GREATEST_SCALE" = some (some (.int i2 t2))) (e2 : i2 = 5)
    {i3 : Int} {t3 : Tok} (m3 : PySem.W.nsIn K mainGlobals "MOST_ADDS" = some (some (.int i3 t3))) (e3 : i3 = 5)
    {i4 : Int} {t4 : Tok} (m4 : PySem.W.nsIn K mainGlobals "GREATEST_ADD" = some (some (.int i4 t4))) (e4 : i4 = 20) :
    ∃ fd : FuncData, (∀ (s : Shared) (v : Value), BindsTo s fd ⟨[v], []⟩ [("script", v)]) ∧ ∀ base : Heap, K.In base → base.Ns mainGlobals mg → GOk P w K mg base 103 fa fd ["script"] (spLaw K) := by
  have e := hfa.symm.trans (PySem.W.mg_of X G a15)
  cases e
  have z : Z mg := ⟨PySem.W.mg_none_of X G z0, PySem.W.mg_none_of X G z1, PySem.W.mg_none_of X G z2, PySem.W.mg_none_of X G z3, PySem.W.mg_none_of X G z4, PySem.W.mg_none_of X G z5, PySem.W.mg_none_of X G z6, PySem.W.mg_none_of X G z7, PySem.W.mg_none_of X G z8, PySem.W.mg_none_of X G z9, PySem.W.mg_none_of X G z10, PySem.W.mg_none_of X G z11, PySem.W.mg_none_of X G z12, PySem.W.mg_none_of X G z13, PySem.W.mg_none_of X G z14, PySem.W.mg_none_of X G z15, PySem.W.mg_none_of X G z16, PySem.W.mg_none_of X G z17, PySem.W.mg_none_of X G z18, PySem.W.mg_none_of X G z19⟩
  have v_MOST_NUMBER := mg_int X G m0 e0
  have v_LEAST_SCALE := mg_int X G m1 e1
  have v_GREATEST_SCALE := mg_int X G m2 e2
  have v_MOST_ADDS := mg_int X G m3 e3
  have v_GREATEST_ADD := mg_int X G m4 e4
  have D_is_integer := def_mk (st := s_is_integer) (ps := p_is_integer) X G a0 l0 c0 k0 fun _ _ _ _ _ _ us hl => match us, hl with | [_], _ => rfl
  have D_is_number := def_mk (st := s_is_number) (ps := p_is_number) X G a1 l1 c1 k1 fun _ _ _ _ _ _ us hl => match us, hl with | [_, _, _], _ => rfl
  have D_need_person := def_mk (st := s_need_person) (ps := p_need_person) X G a2 l2 c2 k2 fun _ _ _ _ _ _ us hl => match us, hl with | [_], _ => rfl
  have D_callers_of := def_mk (st := s_callers_of) (ps := p_callers_of) X G a3 l3 c3 k3 fun _ _ _ _ _ _ us hl => match us, hl with | [_, _], _ => rfl
  have D_ticks_of := def_mk (st := s_ticks_of) (ps := p_ticks_of) X G a4 l4 c4 k4 fun _ _ _ _ _ _ us hl => match us, hl with | [_, _], _ => rfl
  have D_need_scaled := def_mk (st := s_need_scaled) (ps := p_need_scaled) X G a5 l5 c5 k5 fun _ _ _ _ _ _ us hl => match us, hl with | [_], _ => rfl
  have D_tick_at := def_mk (st := s_tick_at) (ps := p_tick_at) X G a6 l6 c6 k6 fun _ _ _ _ _ _ us hl => match us, hl with | [_, _], _ => rfl
  have D_caller_of := def_mk (st := s_caller_of) (ps := p_caller_of) X G a7 l7 c7 k7 fun _ _ _ _ _ _ us hl => match us, hl with | [_, _], _ => rfl
  have D_is_plain := def_mk (st := s_is_plain) (ps := p_is_plain) X G a8 l8 c8 k8 fun _ _ _ _ _ _ us hl => match us, hl with | [_], _ => rfl
  have D__law_begun := def_mk (st := s__law_begun) (ps := p__law_begun) X G a9 l9 c9 k9 fun _ _ _ _ _ _ us hl => match us, hl with | [_], _ => rfl
  have D__law_next := def_mk (st := s__law_next) (ps := p__law_next) X G a10 l10 c10 k10 fun _ _ _ _ _ _ us hl => match us, hl with | [_, _], _ => rfl
  have D__law_of := def_mk (st := s__law_of) (ps := p__law_of) X G a11 l11 c11 k11 fun _ _ _ _ _ _ us hl => match us, hl with | [_, _], _ => rfl
  have D__law_scale := def_mk (st := s__law_scale) (ps := p__law_scale) X G a12 l12 c12 k12 fun _ _ _ _ _ _ us hl => match us, hl with | [_], _ => rfl
  have D__law_spread := def_mk (st := s__law_spread) (ps := p__law_spread) X G a13 l13 c13 k13 fun _ _ _ _ _ _ us hl => match us, hl with | [_, _], _ => rfl
  have D__law_spread_at := def_mk (st := s__law_spread_at) (ps := p__law_spread_at) X G a14 l14 c14 k14 fun _ _ _ _ _ _ us hl => match us, hl with | [_, _, _], _ => rfl
  refine ⟨PySem.W.fnOf "law" "law" (defArgs s_law) (defBody s_law) (defScope s_law) .none kV15 dc15 pm15 an15 cd15 ct15, fun s v => .of_eq rfl, fun base _ _ => ?_⟩
  have c_is_integer := cal_is_integer (P := P) (w := w) (base := base) z  D_is_integer
  have c_is_number := cal_is_number (P := P) (w := w) (base := base) z c_is_integer D_is_number
  have c_need_person := cal_need_person (P := P) (w := w) (base := base) z v_MOST_NUMBER c_is_number D_need_person
  have c_need_scaled := cal_need_scaled (P := P) (w := w) (base := base) z v_LEAST_SCALE v_GREATEST_SCALE v_MOST_ADDS v_GREATEST_ADD c_is_number D_need_scaled
  have c_callers_of := cal_callers_of (P := P) (w := w) (base := base) z  D_callers_of
  have c_ticks_of := cal_ticks_of (P := P) (w := w) (base := base) z c_callers_of D_ticks_of
  have c_tick_at := cal_tick_at (P := P) (w := w) (base := base) z c_need_scaled c_need_person c_ticks_of D_tick_at
  have c_is_plain := cal_is_plain (P := P) (w := w) (base := base) z c_need_scaled D_is_plain
  have c_caller_of := cal_caller_of (P := P) (w := w) (base := base) z c_need_scaled c_need_person c_callers_of c_ticks_of D_caller_of
  have c__law_begun := cal_law_begun (P := P) (w := w) (base := base) z  D__law_begun
  have c__law_next := cal_law_next (P := P) (w := w) (base := base) z  D__law_next
  have c__law_of := cal_law_of (P := P) (w := w) (base := base) z c__law_next D__law_of
  have c__law_spread := cal_law_spread (P := P) (w := w) (base := base) z  D__law_spread
  have c__law_scale := cal_law_scale (P := P) (w := w) (base := base) z c__law_next c__law_of D__law_scale
  have c__law_spread_at := (spread_all (P := P) (w := w) (base := base) z D__law_spread_at 100).mono (by decide : 101 ≤ 102)
  exact cal_law z c__law_begun c__law_next c__law_of c__law_spread c__law_scale c__law_spread_at c_need_scaled c_is_plain c_tick_at c_caller_of (fun_mk (st := s_law) l15 c15 k15)
end
end LK
open PySem PySem.W PyProof.Rows
set_option maxHeartbeats 0 in
theorem PySem.Challenge.cw_callsdown_k50_whole_scaled_rules_holds : PySem.Challenge.rw_callsdown_k50_whole_scaled_rules.Holds := by
  w_on
  o_law
  k_head
  (case hw => w_witness2)
  k_fill
  refine CD.walk_g (l := PySem.Challenge.rw_callsdown_k50_whole_scaled_rules) (n := 63) (k := 103) (x := "script") (sp := fun w => LK.spLaw _) rfl (by decide) rfl ⟨rfl, by decide, by decide⟩ (fun w h Y => PySem.W.kIn_of Y) ?F (fun w H a ns hl hS => ⟨a, ns, rfl, hS, hl, fun _ => rfl⟩)
  case F =>
    intro w mg fa h KX G hmg
    refine' LK.all_mk KX G hmg ?a0 ?l0 ?c0 ?k0 ?a1 ?l1 ?c1 ?k1 ?a2 ?l2 ?c2 ?k2 ?a3 ?l3 ?c3 ?k3 ?a4 ?l4 ?c4 ?k4 ?a5 ?l5 ?c5 ?k5 ?a6 ?l6 ?c6 ?k6 ?a7 ?l7 ?c7 ?k7 ?a8 ?l8 ?c8 ?k8 ?a9 ?l9 ?c9 ?k9 ?a10 ?l10 ?c10 ?k10 ?a11 ?l11 ?c11 ?k11 ?a12 ?l12 ?c12 ?k12 ?a13 ?l13 ?c13 ?k13 ?a14 ?l14 ?c14 ?k14 ?a15 ?l15 ?c15 ?k15 ?z0 ?z1 ?z2 ?z3 ?z4 ?z5 ?z6 ?z7 ?z8 ?z9 ?z10 ?z11 ?z12 ?z13 ?z14 ?z15 ?z16 ?z17 ?z18 ?z19 ?m0 ?e0 ?m1 ?e1 ?m2 ?e2 ?m3 ?e3 ?m4 ?e4
    (case a0 => k_is)
    (case l0 => k_is)
    (case c0 => k_is)
    (case k0 => k_is)
    (case a1 => k_is)
    (case l1 => k_is)
    (case c1 => k_is)
    (case k1 => k_is)
    (case a2 => k_is)
    (case l2 => k_is)
    (case c2 => k_is)
    (case k2 => k_is)
    (case a3 => k_is)
    (case l3 => k_is)
    (case c3 => k_is)
    (case k3 => k_is)
    (case a4 => k_is)
    (case l4 => k_is)
    (case c4 => k_is)
    (case k4 => k_is)
    (case a5 => k_is)
    (case l5 => k_is)
    (case c5 => k_is)
    (case k5 => k_is)
    (case a6 => k_is)
    (case l6 => k_is)
    (case c6 => k_is)
    (case k6 => k_is)
    (case a7 => k_is)
    (case l7 => k_is)
    (case c7 => k_is)
    (case k7 => k_is)
    (case a8 => k_is)
    (case l8 => k_is)
    (case c8 => k_is)
    (case k8 => k_is)
    (case a9 => k_is)
    (case l9 => k_is)
    (case c9 => k_is)
    (case k9 => k_is)
    (case a10 => k_is)
    (case l10 => k_is)
    (case c10 => k_is)
    (case k10 => k_is)
    (case a11 => k_is)
    (case l11 => k_is)
    (case c11 => k_is)
    (case k11 => k_is)
    (case a12 => k_is)
    (case l12 => k_is)
    (case c12 => k_is)
    (case k12 => k_is)
    (case a13 => k_is)
    (case l13 => k_is)
    (case c13 => k_is)
    (case k13 => k_is)
    (case a14 => k_is)
    (case l14 => k_is)
    (case c14 => k_is)
    (case k14 => k_is)
    (case a15 => k_is)
    (case l15 => k_is)
    (case c15 => k_is)
    (case k15 => k_is)
    (case z0 => k_is)
    (case z1 => k_is)
    (case z2 => k_is)
    (case z3 => k_is)
    (case z4 => k_is)
    (case z5 => k_is)
    (case z6 => k_is)
    (case z7 => k_is)
    (case z8 => k_is)
    (case z9 => k_is)
    (case z10 => k_is)
    (case z11 => k_is)
    (case z12 => k_is)
    (case z13 => k_is)
    (case z14 => k_is)
    (case z15 => k_is)
    (case z16 => k_is)
    (case z17 => k_is)
    (case z18 => k_is)
    (case z19 => k_is)
    (case m0 => k_is)
    (case m1 => k_is)
    (case m2 => k_is)
    (case m3 => k_is)
    (case m4 => k_is)
    (case e0 => decide)
    (case e1 => decide)
    (case e2 => decide)
    (case e3 => decide)
    (case e4 => decide)
