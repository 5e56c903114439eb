import PyProof.Rows.All
import Wide.All
import OpenK.AllK
import Wide.FinOn
import KE.DatumOrd
import KE.GoesEnumKw
import HandS.ForMost
import HandS.Walk
import HandS.Zip
import HandS.SortKw
import HandS.TupAny
import HandS.TupMul
import HandS.IsInst
import HandS.SetFor
import HandS.RaiseMore
import PyProof.ReprRoads
import HandS.Style
import HandS.Rev
import HandS.Wide
import PyProof.P3Eq
import PySem.Challenge.RW_callsdown_k01_whole_shapes
set_option Elab.async false
set_option linter.all false
set_option maxRecDepth 100000
/-! the mathematics of line rules: the walk from person to person, rounds that come again -/
namespace CD
abbrev Win := List (Option Int)
def leastO : List Int → Option Int
  | [] => none
  | n :: ns => some (ns.foldl min n)
/-- window[-step] -/
def back (ws : Win) (s : Int) : Option Int := ws.getD (ws.length - s.toNat) none
def callAt (ws : Win) (p : Int × Nat) : Option Int := (back ws p.1).map (· + (p.2 : Int))
def calls (rule : List Int) (ws : Win) : List Int := (rule.zipIdx 1).filterMap (callAt ws)
def calledAt (rule : List Int) (ws : Win) : Option Int := leastO (calls rule ws)
abbrev LState := Win × Int
def lastOf (tick : Option Int) (last : Int) : Int := match tick with | some t => if last < t then t else last | none => last
def behindP (st : LState) (tick : Option Int) : LState := (st.1.tail ++ [tick], lastOf tick st.2)
def few (rule : List Int) : Nat → LState → LState
  | 0, st => st
  | n + 1, st => few rule n (behindP st (calledAt rule st.1))
def laterW (ws : Win) (m : Int) : Win := ws.map (·.map (· + m))
def told (ws : Win) : List Int := ws.filterMap id
def baseOf (ws : Win) : Int := (leastO (told ws)).getD 0
def shapeOf (ws : Win) : Win := laterW ws (-(baseOf ws))
/-- a LINE RULE -/
structure IsRule (rule : List Int) : Prop where
  pos : 1 ≤ rule.length
  most : rule.length ≤ 4
  step : ∀ s ∈ rule, 1 ≤ s ∧ s ≤ 6
  nodup : rule.Nodup
def reach (rule : List Int) : Nat := (rule.foldl max 0).toNat
def ascB (ns : List Int) : Bool := (ns.zip ns.tail).all fun p => decide (p.1 < p.2)
theorem zip_at {α β : Type} {xs : List α} {ys : List β} {i : Nat} {p : α × β} (h : (xs.zip ys)[i]? = some p) : xs[i]? = some p.1 ∧ ys[i]? = some p.2 := by
  have z := List.getElem?_zip_eq_some.mp h
  exact z
end CD
namespace CD
/-! few -/
theorem few_succ (rule : List Int) : ∀ (n : Nat) (st : LState), few rule (n + 1) st = behindP (few rule n st) (calledAt rule (few rule n st).1)
  | 0, _ => rfl
  | n + 1, st => by
    show few rule (n + 1) (behindP st (calledAt rule st.1)) = _
    rw [few_succ rule n]
    rfl
theorem few_add (rule : List Int) : ∀ (a b : Nat) (st : LState), few rule (a + b) st = few rule b (few rule a st)
  | 0, b, st => by rw [Nat.zero_add]; rfl
  | a + 1, b, st => by
    rw [Nat.add_right_comm]
    show few rule (a + b) (behindP st _) = few rule b (few rule a (behindP st _))
    exact few_add rule a b _
theorem behindP_len (st : LState) (t : Option Int) (h : 1 ≤ st.1.length) : (behindP st t).1.length = st.1.length := by
  show (st.1.tail ++ [t]).length = _
  rw [List.length_append, List.length_tail, List.length_singleton]
  omega
theorem few_len (rule : List Int) : ∀ (n : Nat) (st : LState), 1 ≤ st.1.length → (few rule n st).1.length = st.1.length
  | 0, _, _ => rfl
  | n + 1, st, h => by
    show (few rule n (behindP st _)).1.length = _
    rw [few_len rule n _ (by rw [behindP_len st _ h]; exact h), behindP_len st _ h]
/-! later -/
theorem laterW_len (ws : Win) (m : Int) : (laterW ws m).length = ws.length := List.length_map ..
theorem laterW_add (ws : Win) (a b : Int) : laterW (laterW ws a) b = laterW ws (a + b) := by
  unfold laterW
  rw [List.map_map]
  refine List.map_congr_left fun o _ => ?_
  cases o with
  | none => rfl
  | some t => show some (t + a + b) = some (t + (a + b)); rw [Int.add_assoc]
theorem laterW_zero (ws : Win) : laterW ws 0 = ws := by
  unfold laterW
  conv => rhs; rw [← List.map_id ws]
  refine List.map_congr_left fun o _ => ?_
  cases o with
  | none => rfl
  | some t => show some (t + 0) = some t; rw [Int.add_zero]
theorem back_later (ws : Win) (s m : Int) : back (laterW ws m) s = (back ws s).map (· + m) := by
  unfold back
  rw [laterW_len]
  unfold laterW
  rw [List.getD_eq_getElem?_getD, List.getD_eq_getElem?_getD, List.getElem?_map]
  cases ws[ws.length - s.toNat]? <;> rfl
theorem foldmin_add (m : Int) : ∀ (ns : List Int) (n : Int), (ns.map (· + m)).foldl min (n + m) = ns.foldl min n + m
  | [], _ => rfl
  | k :: r, n => by
    rw [List.map_cons, List.foldl_cons, List.foldl_cons, ← foldmin_add m r]
    congr 1
    omega
theorem leastO_add (m : Int) (ns : List Int) : leastO (ns.map (· + m)) = (leastO ns).map (· + m) := by
  cases ns with
  | nil => rfl
  | cons n r => show some ((r.map (· + m)).foldl min (n + m)) = some (r.foldl min n + m); rw [foldmin_add]
theorem calls_later (rule : List Int) (ws : Win) (m : Int) : calls rule (laterW ws m) = (calls rule ws).map (· + m) := by
  unfold calls
  rw [List.map_filterMap]
  congr 1
  funext p
  unfold callAt
  rw [back_later]
  cases back ws p.1 with
  | none => rfl
  | some t => show some (t + m + _) = some (t + _ + m); rw [Int.add_right_comm]
theorem called_later (rule : List Int) (ws : Win) (m : Int) : calledAt rule (laterW ws m) = (calledAt rule ws).map (· + m) := by
  unfold calledAt
  rw [calls_later, leastO_add]
/-! ticks -/
def nextW (rule : List Int) (ws : Win) : Win := ws.tail ++ [calledAt rule ws]
def winN (rule : List Int) : Nat → Win → Win
  | 0, ws => ws
  | n + 1, ws => winN rule n (nextW rule ws)
def ticks (rule : List Int) : Nat → Win → List (Option Int)
  | 0, _ => []
  | n + 1, ws => calledAt rule ws :: ticks rule n (nextW rule ws)
def lastL (l : Int) (ts : List (Option Int)) : Int := ts.foldl (fun l t => lastOf t l) l
theorem few_eq (rule : List Int) : ∀ (n : Nat) (st : LState), few rule n st = (winN rule n st.1, lastL st.2 (ticks rule n st.1))
  | 0, _ => rfl
  | n + 1, st => by
    show few rule n (behindP st (calledAt rule st.1)) = _
    rw [few_eq rule n]
    rfl
theorem nextW_later (rule : List Int) (ws : Win) (m : Int) : nextW rule (laterW ws m) = laterW (nextW rule ws) m := by
  unfold nextW
  rw [called_later]
  unfold laterW
  rw [List.map_append, List.map_tail]
  rfl
theorem winN_later (rule : List Int) (m : Int) : ∀ (n : Nat) (ws : Win), winN rule n (laterW ws m) = laterW (winN rule n ws) m
  | 0, _ => rfl
  | n + 1, ws => by
    show winN rule n (nextW rule (laterW ws m)) = laterW (winN rule n (nextW rule ws)) m
    rw [nextW_later, winN_later rule m n]
theorem ticks_later (rule : List Int) (m : Int) : ∀ (n : Nat) (ws : Win), ticks rule n (laterW ws m) = (ticks rule n ws).map (·.map (· + m))
  | 0, _ => rfl
  | n + 1, ws => by
    show calledAt rule (laterW ws m) :: ticks rule n (nextW rule (laterW ws m)) = _
    rw [called_later, nextW_later, ticks_later rule m n]
    rfl
theorem winN_add (rule : List Int) : ∀ (a b : Nat) (ws : Win), winN rule (a + b) ws = winN rule b (winN rule a ws)
  | 0, b, ws => by rw [Nat.zero_add]; rfl
  | a + 1, b, ws => by
    rw [Nat.add_right_comm]
    exact winN_add rule a b _
theorem ticks_add (rule : List Int) : ∀ (a b : Nat) (ws : Win), ticks rule (a + b) ws = ticks rule a ws ++ ticks rule b (winN rule a ws)
  | 0, b, ws => by rw [Nat.zero_add]; rfl
  | a + 1, b, ws => by
    rw [Nat.add_right_comm]
    show calledAt rule ws :: ticks rule (a + b) (nextW rule ws) = calledAt rule ws :: (ticks rule a (nextW rule ws) ++ _)
    rw [ticks_add rule a b]
    rfl
/-! the greatest -/
theorem lastOf_ge (t : Option Int) (l : Int) : l ≤ lastOf t l := by
  cases t with
  | none => exact Int.le_refl _
  | some t => show l ≤ if l < t then t else l; split <;> omega
theorem lastL_ge : ∀ (ts : List (Option Int)) (l : Int), l ≤ lastL l ts
  | [], _ => Int.le_refl _
  | t :: r, l => Int.le_trans (lastOf_ge t l) (lastL_ge r (lastOf t l))
theorem lastL_mem : ∀ (ts : List (Option Int)) (l x : Int), some x ∈ ts → x ≤ lastL l ts
  | t :: r, l, x, h => by
    rcases List.mem_cons.mp h with e | h
    · subst e
      refine Int.le_trans ?_ (lastL_ge r (lastOf (some x) l))
      show x ≤ if l < x then x else l
      split <;> omega
    · exact lastL_mem r _ x h
theorem lastL_is : ∀ (ts : List (Option Int)) (l : Int), lastL l ts = l ∨ some (lastL l ts) ∈ ts
  | [], _ => .inl rfl
  | t :: r, l => by
    show lastL (lastOf t l) r = l ∨ _
    rcases lastL_is r (lastOf t l) with e | e
    · cases t with
      | none => exact .inl e
      | some x =>
        by_cases h : l < x
        · have e2 : lastOf (some x) l = x := if_pos h
          rw [e2] at e
          refine .inr ?_
          show some (lastL (lastOf (some x) l) r) ∈ _
          rw [e2, e]
          exact List.mem_cons_self
        · have e2 : lastOf (some x) l = l := if_neg h
          rw [e2] at e
          exact .inl (by rw [e2]; exact e)
    · exact .inr (List.mem_cons_of_mem _ e)
theorem lastL_append (a b : List (Option Int)) (l : Int) : lastL l (a ++ b) = lastL (lastL l a) b := List.foldl_append ..
/-- what comes ahead does not matter where something as great comes behind -/
theorem lastL_absorb {a b : List (Option Int)} (l : Int) (h : ∀ x, some x ∈ a → ∃ y, some y ∈ b ∧ x ≤ y) : lastL l (a ++ b) = lastL l b := by
  rw [lastL_append]
  refine Int.le_antisymm ?_ ?_
  · rcases lastL_is b (lastL l a) with e | e
    · rw [e]
      rcases lastL_is a l with e2 | e2
      · rw [e2]; exact lastL_ge b l
      · obtain ⟨y, hy, le⟩ := h _ e2
        exact Int.le_trans le (lastL_mem b l y hy)
    · exact lastL_mem b l _ e
  · rcases lastL_is b l with e | e
    · rw [e]
      exact Int.le_trans (lastL_ge a l) (lastL_ge b _)
    · exact lastL_mem b _ _ e
/-! rounds -/
theorem winN_rounds (rule : List Int) {ws : Win} {z : Nat} {m : Int} (h : winN rule z ws = laterW ws m) : ∀ r : Nat, winN rule (r * z) ws = laterW ws (r * m)
  | 0 => by rw [Nat.zero_mul]; show ws = laterW ws _; rw [show ((0 : Nat) : Int) * m = 0 by simp, laterW_zero]
  | r + 1 => by
    rw [Nat.add_mul, Nat.one_mul, winN_add, winN_rounds rule h r, winN_later, h, laterW_add]
    congr 1
    rw [show ((r + 1 : Nat) : Int) = (r : Int) + 1 by omega, Int.add_mul, Int.one_mul, Int.add_comm]
/-- the ticks of whole rounds are those of the first one, later -/
theorem ticks_rounds (rule : List Int) {ws : Win} {z : Nat} {m : Int} (h : winN rule z ws = laterW ws m) : ∀ (r : Nat) (x : Int), some x ∈ ticks rule (r * z) ws → ∃ (a : Nat) (y : Int), a < r ∧ some y ∈ ticks rule z ws ∧ x = y + a * m
  | 0, x, hx => by rw [Nat.zero_mul] at hx; cases hx
  | r + 1, x, hx => by
    rw [Nat.add_mul, Nat.one_mul, ticks_add, List.mem_append] at hx
    rcases hx with hx | hx
    · obtain ⟨a, y, ha, hy, e⟩ := ticks_rounds rule h r x hx
      exact ⟨a, y, by omega, hy, e⟩
    · rw [winN_rounds rule h r, ticks_later, List.mem_map] at hx
      obtain ⟨o, ho, e⟩ := hx
      cases o with
      | none => cases e
      | some y =>
        have e2 : some (y + r * m) = some x := e
        exact ⟨r, y, by omega, ho, (Option.some.inj e2).symm⟩
/-- THE ROUNDS: whole rounds may be left out -/
theorem few_rounds (rule : List Int) {ws : Win} {z : Nat} {m : Int} (hz : 1 ≤ z) (hm : 0 ≤ m) (h : winN rule z ws = laterW ws m) (L : Nat) (last : Int) :
    few rule L (ws, last) = few rule (L - (L / z - 1) * z) (laterW ws (((L / z - 1 : Nat) : Int) * m), last) := by
  generalize hr : L / z - 1 = r
  by_cases r0 : r = 0
  · subst r0
    rw [Nat.zero_mul, Nat.sub_zero, show ((0 : Nat) : Int) * m = 0 by simp, laterW_zero]
  have hdiv : z * (L / z) ≤ L := Nat.mul_div_le L z
  have hq : L / z = r + 1 := by omega
  have hL : r * z + z ≤ L := by
    have e : z * (r + 1) = r * z + z := by rw [Nat.mul_comm, Nat.add_mul, Nat.one_mul]
    rw [hq, e] at hdiv
    exact hdiv
  generalize hn : L - r * z = n
  have eL : L = r * z + n := by omega
  have hzn : z ≤ n := by omega
  rw [eL, few_eq, few_eq]
  have hw := winN_rounds rule h r
  refine Prod.ext ?_ ?_
  · show winN rule (r * z + n) ws = winN rule n (laterW ws (r * m))
    rw [winN_add, hw]
  · show lastL last (ticks rule (r * z + n) ws) = lastL last (ticks rule n (laterW ws (r * m)))
    rw [ticks_add, hw]
    refine lastL_absorb last fun x hx => ?_
    obtain ⟨a, y, ha, hy, rfl⟩ := ticks_rounds rule h r x hx
    refine ⟨y + r * m, ?_, ?_⟩
    · obtain ⟨k, rfl⟩ : ∃ k, n = z + k := ⟨n - z, by omega⟩
      rw [ticks_later, ticks_add]
      refine List.mem_map.mpr ⟨some y, List.mem_append_left _ hy, rfl⟩
    · have : (a : Int) * m ≤ r * m := Int.mul_le_mul_of_nonneg_right (by omega) hm
      omega
end CD
/-! shapes: parts of kinds, in numbers alone -/
namespace CDS
/-! ### how many are told at most -/
def lastC : Option Nat → List Nat → List Nat
  | none, l => l
  | some c, l => l.drop (l.length - c)
def mostL (c : Option Nat) : Nat → List Nat
  | 0 => [1]
  | n + 1 => mostL c n ++ [1 + (lastC c (mostL c n)).sum]
def mostN (c : Option Nat) (n : Nat) : Nat := (mostL c n).getD n 0
theorem mostL_len (c : Option Nat) : ∀ n, (mostL c n).length = n + 1
  | 0 => rfl
  | n + 1 => by
    show (mostL c n ++ [_]).length = _
    rw [List.length_append, mostL_len c n]
    rfl
theorem mostL_pre (c : Option Nat) (n : Nat) : ∀ k, (mostL c (n + k)).take (n + 1) = mostL c n
  | 0 => List.take_of_length_le (by rw [Nat.add_zero, mostL_len]; exact Nat.le_refl _)
  | k + 1 => by
    show (mostL c (n + k) ++ [_]).take (n + 1) = _
    rw [List.take_append_of_le_length (by rw [mostL_len]; omega), mostL_pre c n k]
theorem mostL_at (c : Option Nat) {n i : Nat} (h : i ≤ n) : (mostL c n)[i]? = some (mostN c i) := by
  obtain ⟨k, rfl⟩ : ∃ k, n = i + k := ⟨n - i, by omega⟩
  have e := mostL_pre c i k
  have h2 : (mostL c i)[i]? = some (mostN c i) := by
    unfold mostN
    rw [List.getD_eq_getElem?_getD]
    have hl : i < (mostL c i).length := by rw [mostL_len]; omega
    rw [List.getElem?_eq_getElem hl]
    rfl
  rw [← e, List.getElem?_take] at h2
  split at h2
  · exact h2
  · cases h2
theorem mostL_last (c : Option Nat) (n : Nat) : (mostL c n).getLast? = some (mostN c n) := by
  rw [List.getLast?_eq_getElem?, mostL_len, Nat.add_sub_cancel]
  exact mostL_at c (Nat.le_refl n)
theorem mostN_succ (c : Option Nat) (n : Nat) : mostN c (n + 1) = 1 + (lastC c (mostL c n)).sum := by
  have h : (mostL c (n + 1))[n + 1]? = some (1 + (lastC c (mostL c n)).sum) := by
    show (mostL c n ++ [_])[n + 1]? = _
    rw [List.getElem?_append_right (by rw [mostL_len]; omega), mostL_len, Nat.sub_self]
    rfl
  rw [mostL_at c (Nat.le_refl _)] at h
  exact Option.some.inj h
theorem mostL_step (c : Option Nat) (n : Nat) : mostL c (n + 1) = mostL c n ++ [mostN c (n + 1)] := by
  rw [mostN_succ]
  rfl
/-- calls are at least two, or without bound -/
def Two : Option Nat → Prop
  | none => True
  | some c => 2 ≤ c
theorem mem_le_sum : ∀ {l : List Nat} {a : Nat}, a ∈ l → a ≤ l.sum
  | b :: r, a, h => by
    rw [List.sum_cons]
    rcases List.mem_cons.mp h with e | h
    · omega
    · have := mem_le_sum h
      omega
theorem drop_one (l : List Nat) (k x : Nat) (h : l[k]? = some x) : l.drop k = x :: l.drop (k + 1) := by
  obtain ⟨hk, e⟩ := List.getElem?_eq_some_iff.mp h
  rw [List.drop_eq_getElem_cons hk, e]
theorem sum_last_ge {c : Option Nat} (h : Two c) (n : Nat) : mostN c n ≤ (lastC c (mostL c n)).sum := by
  have hl := mostL_len c n
  have hm : mostN c n ∈ lastC c (mostL c n) := by
    cases c with
    | none => exact List.mem_of_getElem? (mostL_at none (Nat.le_refl n))
    | some c =>
      have h2 : 2 ≤ c := h
      show mostN (some c) n ∈ (mostL (some c) n).drop ((mostL (some c) n).length - c)
      refine List.mem_of_getElem? (i := n - ((mostL (some c) n).length - c)) ?_
      rw [List.getElem?_drop, hl, show n + 1 - c + (n - (n + 1 - c)) = n by omega]
      exact mostL_at _ (Nat.le_refl n)
  exact mem_le_sum hm
theorem sum_last_ge2 {c : Option Nat} (h : Two c) (n : Nat) : mostN c n + mostN c (n + 1) ≤ (lastC c (mostL c (n + 1))).sum := by
  have hl := mostL_len c (n + 1)
  have key : ∀ (l : List Nat) (k : Nat), l[k]? = some (mostN c n) → l[k + 1]? = some (mostN c (n + 1)) → ∀ j, j ≤ k → mostN c n + mostN c (n + 1) ≤ (l.drop j).sum := fun l k h1 h2 => by
    have e : l.drop k = mostN c n :: mostN c (n + 1) :: l.drop (k + 2) := by rw [drop_one l k _ h1, drop_one l (k + 1) _ h2]
    intro j hj
    obtain ⟨d, rfl⟩ : ∃ d, k = j + d := ⟨k - j, by omega⟩
    have e2 : (l.drop j).sum = ((l.drop j).take d).sum + ((l.drop j).drop d).sum := by rw [← List.sum_append, List.take_append_drop]
    rw [e2, List.drop_drop, e, List.sum_cons, List.sum_cons]
    omega
  cases c with
  | none =>
    have := key (mostL none (n + 1)) n (mostL_at none (by omega)) (mostL_at none (Nat.le_refl _)) 0 (by omega)
    rw [List.drop_zero] at this
    exact this
  | some c =>
    have h2 : 2 ≤ c := h
    exact key (mostL (some c) (n + 1)) n (mostL_at _ (by omega)) (mostL_at _ (Nat.le_refl _)) _ (by rw [hl]; omega)
theorem mostN_lt {c : Option Nat} (h : Two c) (n : Nat) : mostN c n < mostN c (n + 1) := by
  have := sum_last_ge h n
  rw [mostN_succ]
  omega
theorem mostN_mono {c : Option Nat} (h : Two c) (n : Nat) : ∀ k, mostN c n ≤ mostN c (n + k)
  | 0 => Nat.le_refl _
  | k + 1 => Nat.le_trans (mostN_mono h n k) (Nat.le_of_lt (mostN_lt h (n + k)))
theorem mostN_twice {c : Option Nat} (h : Two c) (n : Nat) : 2 * mostN c n ≤ mostN c (n + 2) := by
  have a := sum_last_ge2 h n
  have b := mostN_lt h n
  rw [mostN_succ c (n + 1)]
  omega
theorem mostN_pow {c : Option Nat} (h : Two c) : ∀ k, 2 ^ k ≤ mostN c (2 * k)
  | 0 => by
    show 1 ≤ mostN c 0
    exact Nat.le_refl 1
  | k + 1 => by
    have := mostN_pow h k
    have t := mostN_twice h (2 * k)
    rw [Nat.pow_succ]
    show 2 ^ k * 2 ≤ mostN c (2 * k + 2)
    omega
theorem mostN_pos {c : Option Nat} (h : Two c) (n : Nat) : 1 ≤ mostN c n := by
  have := mostN_mono h 0 n
  rw [Nat.zero_add] at this
  exact this
/-- the row up to the first number that is enough -/
theorem row_short {c : Option Nat} (h : Two c) {n t : Nat} (ht : t ≤ 2 ^ 100) (hn : ∀ i, i < n → mostN c i < t) : n ≤ 200 := by
  refine Classical.byContradiction fun hc => ?_
  have h1 := hn 200 (by omega)
  have h2 := mostN_pow h 100
  have e : 2 * 100 = 200 := rfl
  rw [e] at h2
  omega
/-! ### greedy parts -/
def greedy : List Nat → Nat → List Nat
  | [], _ => []
  | m :: r, left => if left > 0 then min m left :: greedy r (left - min m left) else []
theorem greedy_zero : ∀ l : List Nat, greedy l 0 = []
  | [] => rfl
  | _ :: _ => rfl
theorem greedy_sum : ∀ (l : List Nat) (left : Nat), left ≤ l.sum → (greedy l left).sum = left
  | [], left, h => by
    have : left ≤ 0 := h
    show (0 : Nat) = left
    omega
  | m :: r, left, h => by
    rw [List.sum_cons] at h
    unfold greedy
    by_cases c : left > 0
    · rw [if_pos c, List.sum_cons, greedy_sum r _ (by omega)]
      omega
    · rw [if_neg c]
      show (0 : Nat) = left
      omega
theorem greedy_len : ∀ (l : List Nat) (left : Nat), (greedy l left).length ≤ l.length
  | [], _ => Nat.le_refl _
  | m :: r, left => by
    unfold greedy
    split
    · have := greedy_len r (left - min m left)
      rw [List.length_cons, List.length_cons]
      omega
    · exact Nat.zero_le _
/-- step by step: what comes of the first ones, and what is left -/
def leftG : List Nat → Nat → Nat
  | [], left => left
  | m :: r, left => leftG r (left - min m left)
theorem greedy_snoc : ∀ (l : List Nat) (m left : Nat), greedy (l ++ [m]) left = greedy l left ++ (if leftG l left > 0 then [min m (leftG l left)] else [])
  | [], m, left => by
    show greedy [m] left = [] ++ (if left > 0 then [min m left] else [])
    unfold greedy
    split
    · show _ :: greedy [] _ = _
      rfl
    · rfl
  | a :: l, m, left => by
    show greedy (a :: (l ++ [m])) left = _
    unfold greedy
    by_cases c : left > 0
    · rw [if_pos c, if_pos c, greedy_snoc l m]
      rfl
    · have e : left = 0 := by omega
      subst e
      have z : ∀ l : List Nat, leftG l 0 = 0 := fun l => by
        induction l with
        | nil => rfl
        | cons x r ih =>
          show leftG r (0 - min x 0) = 0
          rw [Nat.zero_sub]
          exact ih
      rw [if_neg c, if_neg c]
      have : leftG (a :: l) 0 = 0 := z _
      rw [this]
      rfl
theorem leftG_snoc : ∀ (l : List Nat) (m left : Nat), leftG (l ++ [m]) left = leftG l left - min m (leftG l left)
  | [], _, _ => rfl
  | a :: l, m, left => leftG_snoc l m _
def bestL (c : Option Nat) (n count : Nat) : List Nat := greedy ((mostL c n).dropLast.reverse) count
theorem dropLast_most (c : Option Nat) (n : Nat) : (mostL c (n + 1)).dropLast = mostL c n := by
  show (mostL c n ++ [_]).dropLast = _
  rw [List.dropLast_concat]
theorem best_sum {c : Option Nat} {n count : Nat} (h : count + 1 ≤ mostN c n) : (bestL c n count).sum = count := by
  refine greedy_sum _ _ ?_
  cases n with
  | zero =>
    have : count + 1 ≤ 1 := h
    omega
  | succ n =>
    rw [dropLast_most, List.sum_reverse]
    rw [mostN_succ] at h
    have : (lastC c (mostL c n)).sum ≤ (mostL c n).sum := by
      cases c with
      | none => exact Nat.le_refl _
      | some c =>
        show ((mostL (some c) n).drop _).sum ≤ _
        have e : (mostL (some c) n).sum = ((mostL (some c) n).take ((mostL (some c) n).length - c)).sum + ((mostL (some c) n).drop ((mostL (some c) n).length - c)).sum := by rw [← List.sum_append, List.take_append_drop]
        omega
    omega
/-! ### parts as like as can be -/
def likeL (most count : Nat) : List Nat := List.replicate (count % min most count) (count / min most count + 1) ++ List.replicate (min most count - count % min most count) (count / min most count)
theorem ceil_like {q s r : Nat} (hq : 0 < q) (hr : r ≤ q) : 0 - ((0 : Int) - ((q * s + r : Nat) : Int)).fdiv (q : Int) = ((s + (if r = 0 then 0 else 1) : Nat) : Int) := by
  rw [Int.fdiv_eq_ediv_of_nonneg _ (by omega)]
  have e : (0 : Int) - ((q * s + r : Nat) : Int) = (-(r : Int)) + (q : Int) * (-(s : Int)) := by
    rw [Int.mul_neg]
    omega
  rw [e, Int.add_mul_ediv_left _ _ (by omega)]
  by_cases c : r = 0
  · subst c
    simp
  · rw [if_neg c]
    have h1 : -1 ≤ (-(r : Int)) / (q : Int) := Int.le_ediv_of_mul_le (by omega) (by omega)
    have h2 : (-(r : Int)) / (q : Int) < 0 := Int.ediv_neg_of_neg_of_pos (by omega) (by omega)
    omega
/-- what is left behind k parts -/
def leftK (most count k : Nat) : Nat := (min most count - k) * (count / min most count) + (count % min most count - k)
theorem leftK_zero {most count : Nat} : leftK most count 0 = count := by
  unfold leftK
  rw [Nat.sub_zero, Nat.sub_zero]
  exact Nat.div_add_mod count (min most count)
/-- the part number k, from 0 on -/
def likeN (most count k : Nat) : Nat := count / min most count + (if count % min most count ≤ k then 0 else 1)
theorem like_part {most count k : Nat} (hk : k < min most count) : 0 - ((0 : Int) - (leftK most count k : Int)).fdiv (((min most count : Nat) : Int) - (k : Int)) = (likeN most count k : Int) := by
  have hm := Nat.mod_lt count (show min most count > 0 by omega)
  have e1 : ((min most count : Nat) : Int) - (k : Int) = ((min most count - k : Nat) : Int) := by omega
  rw [e1]
  unfold leftK
  rw [ceil_like (by omega) (by omega)]
  unfold likeN
  congr 1
  by_cases c : count % min most count ≤ k
  · rw [if_pos c, if_pos (by omega)]
  · rw [if_neg c, if_neg (by omega)]
theorem leftK_succ {most count k : Nat} (hk : k < min most count) : leftK most count (k + 1) = leftK most count k - likeN most count k ∧ likeN most count k ≤ leftK most count k := by
  unfold leftK likeN
  obtain ⟨d, hd⟩ : ∃ d, min most count - k = d + 1 := ⟨min most count - k - 1, by omega⟩
  rw [hd, show min most count - (k + 1) = d by omega, Nat.succ_mul]
  split <;> omega
theorem likeL_at {most : Nat} (count : Nat) (hm1 : 1 ≤ most) : likeL most count = (List.range (min most count)).map (likeN most count) := by
  unfold likeL
  refine List.ext_getElem ?_ fun i h1 h2 => ?_
  · rw [List.length_append, List.length_replicate, List.length_replicate, List.length_map, List.length_range]
    by_cases c : min most count = 0
    · rw [c, Nat.mod_zero]
      omega
    · have := Nat.mod_lt count (show min most count > 0 by omega)
      omega
  · rw [List.getElem_map, List.getElem_range]
    unfold likeN
    by_cases c : i < count % min most count
    · rw [List.getElem_append_left (by rw [List.length_replicate]; exact c), List.getElem_replicate, if_neg (by omega)]
    · rw [List.getElem_append_right (by rw [List.length_replicate]; omega), List.getElem_replicate, if_pos (by omega)]
      rfl
theorem like_sum {most : Nat} (count : Nat) (hm1 : 1 ≤ most) : (likeL most count).sum = count := by
  unfold likeL
  rw [List.sum_append, List.sum_replicate_nat, List.sum_replicate_nat]
  by_cases c : min most count = 0
  · rw [c, Nat.mod_zero, Nat.div_zero]
    omega
  · have hm := Nat.mod_lt count (show min most count > 0 by omega)
    have e := Nat.div_add_mod count (min most count)
    obtain ⟨d, hd⟩ : ∃ d, min most count = count % min most count + d := ⟨min most count - count % min most count, by omega⟩
    have e2 : min most count * (count / min most count) = count % min most count * (count / min most count) + d * (count / min most count) := by
      rw [← Nat.add_mul, ← hd]
    rw [show min most count - count % min most count = d by omega, Nat.mul_add]
    omega
/-! ### halves -/
def halfL (n : Nat) : List Nat := if h : n = 0 then [] else (n + 1) / 2 :: halfL (n / 2)
termination_by n
decreasing_by omega
theorem halfL_zero : halfL 0 = [] := by rw [halfL]; rfl
theorem halfL_pos {n : Nat} (h : 0 < n) : halfL n = (n + 1) / 2 :: halfL (n / 2) := by rw [halfL, dif_neg (by omega)]
theorem half_sum (n : Nat) : (halfL n).sum = n := by
  induction n using Nat.strongRecOn with
  | ind n ih =>
    by_cases h : n = 0
    · subst h; rw [halfL_zero]; rfl
    · rw [halfL_pos (by omega), List.sum_cons, ih (n / 2) (by omega)]
      omega
theorem half_len : ∀ (k n : Nat), n < 2 ^ k → (halfL n).length ≤ k
  | 0, n, h => by
    have : n = 0 := by
      have e : 2 ^ 0 = 1 := rfl
      omega
    subst this
    rw [halfL_zero]
    exact Nat.le_refl 0
  | k + 1, n, h => by
    by_cases c : n = 0
    · subst c; rw [halfL_zero]; exact Nat.zero_le _
    · rw [Nat.pow_succ] at h
      rw [halfL_pos (by omega), List.length_cons]
      have := half_len k (n / 2) (by omega)
      omega
/-! ### below one of a heap -/
def lvS (c : Nat) : Nat → Nat
  | 0 => 0
  | i + 1 => lvS c i + c ^ (i + 1)
theorem lvS_succ (c : Nat) : ∀ i, lvS c (i + 1) = c + c * lvS c i
  | 0 => by
    show 0 + c ^ 1 = c + c * 0
    rw [Nat.pow_one]
    omega
  | i + 1 => by
    have ih := lvS_succ c i
    show lvS c (i + 1) + c ^ (i + 2) = c + c * (lvS c i + c ^ (i + 1))
    rw [ih, Nat.mul_add, Nat.pow_succ c (i + 1), Nat.mul_comm (c ^ (i + 1)) c]
    omega
theorem lvS_ge {c : Nat} (h : 1 ≤ c) : ∀ i, i ≤ lvS c i
  | 0 => Nat.le_refl _
  | i + 1 => by
    have := lvS_ge h i
    have p : 1 ≤ c ^ (i + 1) := Nat.one_le_pow _ _ h
    show i + 1 ≤ lvS c i + c ^ (i + 1)
    omega
def amt (c count i k : Nat) : Nat := min (c ^ i) (count - lvS c i - k * c ^ i)
def foundN (c count : Nat) : Nat → Nat → Nat
  | 0, _ => 0
  | j + 1, k => foundN c count j k + amt c count j k
def belowN (c count k : Nat) : Nat := foundN c count count k
theorem lv_mono {c : Nat} (h : 1 ≤ c) (i k : Nat) : lvS c i + k * c ^ i ≤ lvS c (i + 1) + k * c ^ (i + 1) := by
  have p : c ^ i ≤ c ^ (i + 1) := Nat.pow_le_pow_right h (Nat.le_succ i)
  have := Nat.mul_le_mul_left k p
  show _ ≤ lvS c i + c ^ (i + 1) + k * c ^ (i + 1)
  omega
theorem found_still {c count j k : Nat} (h : 1 ≤ c) (hj : count ≤ lvS c j + k * c ^ j) : ∀ d, foundN c count (j + d) k = foundN c count j k ∧ count ≤ lvS c (j + d) + k * c ^ (j + d)
  | 0 => ⟨rfl, hj⟩
  | d + 1 => by
    obtain ⟨i1, i2⟩ := found_still h hj d
    refine ⟨?_, Nat.le_trans i2 (lv_mono h (j + d) k)⟩
    show foundN c count (j + d) k + amt c count (j + d) k = _
    have : amt c count (j + d) k = 0 := by unfold amt; omega
    omega
theorem found_below {c count j k : Nat} (h : 1 ≤ c) (hj : count ≤ lvS c j + k * c ^ j) : foundN c count j k = belowN c count k := by
  unfold belowN
  rcases Nat.le_total j count with q | q
  · obtain ⟨d, rfl⟩ : ∃ d, count = j + d := ⟨count - j, by omega⟩
    exact ((found_still h hj d).1).symm
  · obtain ⟨d, rfl⟩ : ∃ d, j = count + d := ⟨j - count, by omega⟩
    have := lvS_ge h count
    exact (found_still h (j := count) (by omega) d).1
theorem foundN_zero {c count k : Nat} (h : 1 ≤ c) (hk : count ≤ k) : ∀ j, foundN c count j k = 0
  | 0 => rfl
  | j + 1 => by
    have ih := foundN_zero h hk j
    have p : 1 ≤ c ^ j := Nat.one_le_pow _ _ h
    have := Nat.mul_le_mul_left k p
    show foundN c count j k + amt c count j k = 0
    unfold amt
    omega
theorem foundN_pos {c count k : Nat} (h : 1 ≤ c) (hk : k < count) : 1 ≤ belowN c count k := by
  unfold belowN
  have : ∀ j, 1 ≤ foundN c count (j + 1) k := fun j => by
    induction j with
    | zero =>
      show 1 ≤ 0 + min (c ^ 0) (count - 0 - k * c ^ 0)
      rw [Nat.pow_zero]
      omega
    | succ j ih =>
      show 1 ≤ foundN c count (j + 1) k + _
      omega
  obtain ⟨j, rfl⟩ : ∃ j, count = j + 1 := ⟨count - 1, by omega⟩
  exact this j
def rowH (c count j : Nat) : List Nat := (List.range c).map (foundN c count j)
/-- a level: the first k of it -/
theorem level_sum (c count j : Nat) : ∀ k, ((List.range k).map (amt c count j)).sum + (count - lvS c j - k * c ^ j) = count - lvS c j
  | 0 => by
    rw [Nat.zero_mul]
    show 0 + _ = _
    omega
  | k + 1 => by
    have ih := level_sum c count j k
    rw [List.range_succ, List.map_append, List.sum_append, List.map_singleton, List.sum_singleton, Nat.succ_mul]
    unfold amt at ih ⊢
    omega
theorem sum_map_add (f g : Nat → Nat) : ∀ l : List Nat, (l.map fun k => f k + g k).sum = (l.map f).sum + (l.map g).sum
  | [] => rfl
  | a :: r => by
    rw [List.map_cons, List.map_cons, List.map_cons, List.sum_cons, List.sum_cons, List.sum_cons, sum_map_add f g r]
    omega
theorem rowH_sum (c count : Nat) : ∀ j, (rowH c count j).sum + (count - lvS c j) = count
  | 0 => by
    have : (rowH c count 0).sum = 0 := by
      unfold rowH
      show ((List.range c).map fun _ => 0).sum = 0
      rw [List.map_const', List.sum_replicate_nat, Nat.mul_zero]
    rw [this]
    show 0 + (count - 0) = count
    omega
  | j + 1 => by
    have ih := rowH_sum c count j
    have lv := level_sum c count j c
    have e : (rowH c count (j + 1)).sum = (rowH c count j).sum + ((List.range c).map (amt c count j)).sum := sum_map_add _ _ _
    rw [e]
    have e2 : c * c ^ j = c ^ (j + 1) := by rw [Nat.pow_succ, Nat.mul_comm]
    have e3 : lvS c (j + 1) = lvS c j + c ^ (j + 1) := rfl
    rw [e3]
    rw [e2] at lv
    omega
def heapL (c count : Nat) : List Nat := (List.range (min c count)).map (belowN c count)
/-- what the law has in the end -/
theorem heap_filter {c count j : Nat} (h : 1 ≤ c) (hj : count ≤ lvS c j) : (rowH c count j).filter (fun n => decide (0 < n)) = heapL c count ∧ (heapL c count).sum = count := by
  have e : rowH c count j = (List.range c).map (belowN c count) := by
    unfold rowH
    refine List.map_congr_left fun k _ => found_below h (by omega)
  have hsplit : List.range c = List.range (min c count) ++ (List.range (c - min c count)).map (fun k => min c count + k) := by
    rw [← List.range_add]
    congr 1
    omega
  have hz : ((List.range (c - min c count)).map (fun k => min c count + k)).map (belowN c count) = List.replicate (c - min c count) 0 := by
    rw [List.map_map, List.eq_replicate_iff]
    refine ⟨by rw [List.length_map, List.length_range], fun b hb => ?_⟩
    obtain ⟨k, hk, rfl⟩ := List.mem_map.mp hb
    have := List.mem_range.mp hk
    show belowN c count (min c count + k) = 0
    exact foundN_zero h (by omega) _
  have e2 : (List.range c).map (belowN c count) = heapL c count ++ List.replicate (c - min c count) 0 := by
    rw [hsplit, List.map_append, hz]
    rfl
  rw [e, e2]
  have es := rowH_sum c count j
  rw [e, e2, List.sum_append, List.sum_replicate_nat] at es
  refine ⟨?_, by omega⟩
  rw [List.filter_append, List.filter_replicate]
  have hp : (heapL c count).filter (fun n => decide (0 < n)) = heapL c count := by
    refine List.filter_eq_self.mpr fun n hn => ?_
    obtain ⟨k, hk, rfl⟩ := List.mem_map.mp hn
    have := List.mem_range.mp hk
    exact decide_eq_true (foundN_pos h (by omega))
  rw [hp]
  simp
end CDS
set_option maxHeartbeats 4000000
/-! own rules: a dict with tuple keys of None and ints -/
namespace CD
open PySem PySem.Spec PyProof.Rows L2

/-! ### keys: None or an int -/
def oIs : Option Int → Value → Bool
  | none, .none => true
  | none, _ => false
  | some i, v => Value.isInt i v
def oH : Option Int → Int
  | none => 0xFCA86420
  | some i => hashInt i
def oV : Option Int → V
  | none => .non
  | some i => .int i
theorem oIs_shape : ∀ {k : Option Int} {v : Value}, oIs k v = true → (k = none ∧ v = Value.none) ∨ (∃ i t, k = some i ∧ v = Value.int i t)
  | none, v, h => by
    cases v <;> first | exact .inl ⟨rfl, rfl⟩ | exact absurd h (by simp [oIs])
  | some i, v, h => by
    obtain ⟨t, e⟩ := Value.isInt_shape (k := i) (v := v) h
    exact .inr ⟨i, t, rfl, e⟩
theorem oIs_none : oIs none .none = true := rfl
theorem oIs_int (i : Int) (t : Tok) : oIs (some i) (.int i t) = true := by simp [oIs, Value.isInt]
theorem wpAny_pyHash_none {prog : Program} {w : World} {A : Around} {E : Value → Shared → Prop} {s : Shared} {Q : Int → Shared → Prop} (h : Q 0xFCA86420 { s with toks := s.toks + 1 }) :
    wpAny (model prog w) A (pyHash .none) Q E s := by
  unfold pyHash
  have hT : s.TypeIs Value.none "NoneType" := rfl
  have hv : [Value.none].any Value.onHeap = false := rfl
  refine wpAny_bind ?_
  rw [cRoomFor, if_neg (by rw [hv]; exact Bool.false_ne_true)]; refine wpAny_pure ?_
  refine wpAny_bind (wpAny_specialOf hT F.slot_NoneType_hash.lookup ?_)
  show wpAny _ _ (if (some (Value.builtin "NoneType.__hash__") == some Value.none) = true then _ else _) Q E s
  rw [if_neg (by rw [beq_builtin_none]; exact Bool.false_ne_true)]
  refine wpAny_bind (wpAny_specialOf hT F.slot_NoneType_hash.lookup ?_)
  show wpAny _ _ (callSpecialIfBoundUnlessNone? .none "__hash__" _ >>= _) Q E s
  refine wpAny_bind (wpAny_callSpecialIfBoundUnlessNone?_slot hT F.slot_NoneType_hash
    (wpAny_call_entry F.slot_NoneType_hash hT F.entry_NoneType_hash
      (show wpAny _ _ (do ret (← mkInt 0xFCA86420)) _ _ s from wpAny_ret_mkInt ?_) (F.args_NoneType_hash_1 _)))
  show wpAny _ _ (if (decide (-(2 : Int) ^ 63 ≤ 0xFCA86420) && decide ((0xFCA86420 : Int) < 2 ^ 63)) = true then _ else _) Q E _
  rw [if_pos (by decide)]
  exact wpAny_pure h
theorem okey_ss (a b : Int) : decide (some a = some b) = (a == b) := by
  by_cases e : a = b
  · subst e; simp
  · have h : ¬ some a = some b := fun q => e (Option.some.inj q)
    rw [decide_eq_false h]
    exact (beq_eq_false_iff_ne.mpr e).symm
theorem wpAny_eqBool_none {prog : Program} {w : World} {A : Around} {E : Value → Shared → Prop} {s : Shared} {Q : Bool → Shared → Prop} (h : Q true s) :
    wpAny (model prog w) A (eqBool .none .none) Q E s := by
  unfold eqBool
  try with_reducible refine wpAny_holding ?_
  show wpAny _ _ (if (Value.none == Value.none) = true then _ else _) Q E s
  rw [if_pos (by rfl)]
  exact wpAny_bind (wpAny_rule (wpAny_pure h))
def optKind (prog : Program) (w : World) : PySem.KeyKind prog w (Option Int) where
  is := oIs
  hash := oH
  inj := fun v a b ha hb => by
    rcases oIs_shape ha with ⟨rfl, rfl⟩ | ⟨i, t, rfl, rfl⟩
    · rcases oIs_shape hb with ⟨rfl, _⟩ | ⟨j, u, rfl, e⟩
      · rfl
      · exact nomatch e
    · rcases oIs_shape hb with ⟨rfl, e⟩ | ⟨j, u, rfl, e⟩
      · exact nomatch e
      · injection e with e1 _; rw [e1]
  byValue := fun k v h => by
    rcases oIs_shape h with ⟨rfl, rfl⟩ | ⟨i, t, rfl, rfl⟩ <;> rfl
  pyHash := fun hv h => by
    rcases oIs_shape hv with ⟨rfl, rfl⟩ | ⟨i, t, rfl, rfl⟩
    · exact wpAny_pyHash_none h
    · exact wpAny_pyHash_int h
  eqBool := fun hu hv h => by
    rcases oIs_shape hu with ⟨rfl, rfl⟩ | ⟨i, t, rfl, rfl⟩
    · rcases oIs_shape hv with ⟨rfl, rfl⟩ | ⟨j, u, rfl, rfl⟩
      · rw [decide_eq_true rfl] at h; exact wpAny_eqBool_none h
      · rw [decide_eq_false (fun q => nomatch q)] at h; exact SeqAt.EqAt.none_int j u _ _ _ _ h
    · rcases oIs_shape hv with ⟨rfl, rfl⟩ | ⟨j, u, rfl, rfl⟩
      · rw [decide_eq_false (fun q => nomatch q)] at h; exact SeqAt.EqAt.int_none i t _ _ _ _ h
      · rw [okey_ss] at h; exact wpAny_eqBool_int h
  «strs» := fun k x t v h => by
    rcases oIs_shape h with ⟨rfl, e⟩ | ⟨i, u, rfl, e⟩ <;> exact nomatch e
theorem oV_is {P : Program} {w : World} {k : Option Int} {u : Value} (r : RelV (oV k) u) : (optKind P w).is k u = true := by
  cases k with
  | none => cases (show u = Value.none from r); rfl
  | some i => obtain ⟨t, e⟩ := (show ∃ t, u = Value.int i t from r); subst e; exact oIs_int i t
theorem oV_inj {a b : Option Int} (e : oV a = oV b) : a = b := by
  cases a <;> cases b
  · rfl
  · exact nomatch (show V.non = V.int _ from e)
  · exact nomatch (show V.int _ = V.non from e)
  · have e' : V.int _ = V.int _ := e; injection e' with e'; rw [e']
theorem oitems_are {P : Program} {w : World} : ∀ {ks : List (Option Int)} {us : List Value}, Vals (ks.map oV) us → ItemsAre (optKind P w) ks us
  | [], _, r => by rw [List.map_nil] at r; cases r; exact .nil
  | k :: ks, _, r => by
    rw [List.map_cons] at r
    cases r with
    | cons h t => exact .cons (oV_is h) (oitems_are t)

/-! ### the dict -/
abbrev OKey := List (Option Int)
/-- the raw dict object at a: xs its entries (key, where the key's tuple lies, value) -/
def RawO (P : Program) (w : World) (a : Addr) (xs : List (OKey × Addr × Value)) (h : Heap) : Prop :=
  ∃ o es ep, h.get? a = some o ∧ o.ExactDict ∧ o.data = .dict es ep ∧ es.toList = xs.map (entryOfKey (tupleKind (optKind P w))) ∧ (xs.map (·.1)).Nodup
/-- a dict with keys of None and ints: its entries, where each key lies -/
def DO (P : Program) (w : World) (a : Addr) (ds : List (OKey × Addr × V)) : HO :=
  .ext fun h => ∃ xs : List (OKey × Addr × Value), Paired (fun (p : OKey × Addr × V) (q : OKey × Addr × Value) => p.1 = q.1 ∧ p.2.1 = q.2.1 ∧ RelV p.2.2 q.2.2) ds xs ∧ (a == sysModules) = false ∧ RawO P w a xs h
/-- the keys lie where they are said to lie -/
def KeysO (H : Hp) (ds : List (OKey × Addr × V)) : Prop := ∀ p ∈ ds, H p.2.1 = some (.tup (p.1.map oV))
def valO (ds : List (OKey × Addr × V)) (k : OKey) : Option V := (ds.find? fun p => decide (p.1 = k)).map (·.2.2)

section
variable {P : Program} {w : World} {H : Hp} {h : Heap} {a : Addr}
theorem okey_of {ks : OKey} (ok : HOk P w H h) (e : H a = some (.tup (ks.map oV))) : (tupleKind (optKind P w)).is h ks a := by
  obtain ⟨_, its, r, o, h1, h2, n, h3⟩ := (show ObjOk P w H h a (.tup (ks.map oV)) from ok a _ e)
  exact ⟨o, its.toArray, n, h1, h2, h3, by simpa using oitems_are r⟩
abbrev OP := Paired (fun (p : OKey × Addr × V) (q : OKey × Addr × Value) => p.1 = q.1 ∧ p.2.1 = q.2.1 ∧ RelV p.2.2 q.2.2)
theorem OP.val {ds : List (OKey × Addr × V)} {xs : List (OKey × Addr × Value)} (r : OP ds xs) (k : OKey) : RelO (valO ds k) ((atKey xs k).map (·.2)) := by
  induction r with
  | nil => exact True.intro
  | @cons p q ps qs h t ih =>
    obtain ⟨h1, _, h2⟩ := h
    by_cases e : p.1 = k
    · have e' : q.1 = k := h1.symm.trans e
      have b : atKey (q :: qs) k = some q.2 := by simp [atKey, List.find?_cons, e']
      have c : valO (p :: ps) k = some p.2.2 := by simp [valO, List.find?_cons, e]
      rw [c, b]; exact h2
    · have e' : ¬ q.1 = k := fun z => e (h1.trans z)
      have b : atKey (q :: qs) k = atKey qs k := by simp [atKey, List.find?_cons, e']
      have c : valO (p :: ps) k = valO ps k := by simp [valO, List.find?_cons, e]
      rw [c, b]; exact ih
theorem do_of {ds : List (OKey × Addr × V)} (ok : HOk P w H h) (e : H a = some (DO P w a ds)) (ks : KeysO H ds) : (a == sysModules) = false ∧ ∃ xs, OP ds xs ∧ h.DictOfH (tupleKind (optKind P w)) a xs := by
  obtain ⟨⟨xs, r, y, o, es, ep, h1, h2, h3, h4, h5⟩, _, _⟩ := (show ObjOk P w H h a (DO P w a ds) from ok a _ e)
  refine ⟨y, xs, r, o, es, ep, h1, h2, h3, h4, fun x hx => ?_, h5⟩
  have all : ∀ {l : List (OKey × Addr × V)} {m : List (OKey × Addr × Value)}, OP l m → KeysO H l → ∀ x ∈ m, (tupleKind (optKind P w)).is h x.1 x.2.1 := by
    intro l m q
    induction q with
    | nil => intro _ x hx; exact nomatch hx
    | @cons p q ps qs hq t ih =>
      intro kk x hx
      rcases List.mem_cons.mp hx with e | hx
      · subst e
        have z := kk p List.mem_cons_self
        rw [hq.2.1] at z
        exact okey_of ok (by rw [← hq.1]; exact z)
      · exact ih (fun p hp => kk p (List.mem_cons_of_mem _ hp)) x hx
  exact all r ks x hx
theorem do_ok {ds : List (OKey × Addr × V)} {xs : List (OKey × Addr × Value)} {H' : Hp} {h' : Heap} (y : (a == sysModules) = false) (r : OP ds xs) (d : h'.DictOfH (tupleKind (optKind P w)) a xs) : ObjOk P w H' h' a (DO P w a ds) := by
  obtain ⟨o, es, ep, h1, h2, h3, h4, h5, h6⟩ := d
  refine ⟨⟨xs, r, y, o, es, ep, h1, h2, h3, h4, h6⟩, ⟨o, h1⟩, fun g1 g2 hg k => ?_⟩
  obtain ⟨xs', r', y', o', es', ep', e1, e2, e3, e4, e5⟩ := hg
  exact ⟨xs', r', y', o', es', ep', k _ e1, e2, e3, e4, e5⟩
end

section
variable {X : Cx} {pins : List (Addr × Obj)} {σ : L2.St} {H : Hp} {s : Shared} {a b : Addr} {v : V} {r : Value} {A : Around} {E : Value → Shared → Prop} {ds : List (OKey × Addr × V)} {k : OKey}
theorem o_getItem {Q : Value → Shared → Prop} (hu : A.units + 1 < cLine) (I : Inv X pins σ H s) (e : H a = some (DO X.prog X.w a ds)) (ks : KeysO H ds) (eb : H b = some (.tup (k.map oV))) (l : valO ds k = some v) (h : ∀ w' s', Inv X pins σ H s' → RelV v w' → Q w' s') :
    wpAny (model X.prog X.w) A (getItem (.ref a) (.ref b)) Q E s := by
  obtain ⟨hd, xs, rel, dd⟩ := do_of I.hok e ks
  obtain ⟨w', hw, rw'⟩ := RelO.some_of (v := v) (o := (atKey xs k).map (·.2)) (by rw [← l]; exact rel.val k)
  obtain ⟨p, hp, hp2⟩ := Option.map_eq_some_iff.mp hw
  refine wpAny_getItem_heap (tupleKind_room_in1 hu) (okey_of I.hok eb) dd hp ?_
  rw [hp2]
  exact h w' _ (I.tok _) rw'
theorem o_in {Q : Value → Shared → Prop} (hu : A.units + 1 < cLine) (I : Inv X pins σ H s) (e : H a = some (DO X.prog X.w a ds)) (ks : KeysO H ds) (eb : H b = some (.tup (k.map oV))) (h : ∀ s', Inv X pins σ H s' → Q (.bool (valO ds k).isSome) s') :
    wpAny (model X.prog X.w) A (compareOp .In (.ref b) (.ref a)) Q E s := by
  obtain ⟨hd, xs, rel, dd⟩ := do_of I.hok e ks
  refine wpAny_in_heap (tupleKind_room_in1 hu) (okey_of I.hok eb) hd dd ?_
  have q := (rel.val k).isSome_eq
  rw [Option.isSome_map] at q
  rw [← q]
  exact h _ (I.tok _)
theorem o_setItem {Q : Unit → Shared → Prop} (hu : A.units + 1 < cLine) (I : Inv X pins σ H s) (e : H a = some (DO X.prog X.w a ds)) (ks : KeysO H ds) (eb : H b = some (.tup (k.map oV))) (hn : valO ds k = none) (hl : ds.length < sizeLine) (rv : RelV v r)
    (h : ∀ s', Inv X pins σ (upd H a (DO X.prog X.w a (ds ++ [(k, b, v)]))) s' → Q () s') :
    wpAny (model X.prog X.w) A (setItem (.ref a) (.ref b) r) Q E s := by
  obtain ⟨hd, xs, rel, dd⟩ := do_of I.hok e ks
  have hz : xs.length ≤ sizeLine := by rw [← Paired.length rel]; exact Nat.le_of_lt hl
  refine wpAny_setItem_heap (hsz := hz) (tupleKind_room_in1 hu) (okey_of I.hok eb) dd fun h' dd' hs => h _ ?_
  have q := (rel.val k).isSome_eq
  rw [Option.isSome_map, hn] at q
  have es : storedH xs k b r = xs ++ [(k, b, r)] := by
    unfold storedH
    rw [← q]
    rfl
  rw [es] at dd'
  have he : ∃ q, h'.get? a = some q := let ⟨q, _, _, hq, _⟩ := dd'; ⟨q, hq⟩
  exact d_write I (by rw [e]; exact True.intro) hs he (do_ok hd (Paired.snoc (b := (k, b, r)) (a := (k, b, v)) rel ⟨rfl, rfl, rv⟩) dd')
end
/-- d[t], t in d, d[t] = v (t new) -/
def tOGet (P : Program) (w : World) (td ty : TE) : TE := fun σ H Q => td σ H fun x H1 => ty σ H1 fun y H2 => ∃ a b ds k v, x = .ref a ∧ y = .ref b ∧ H2 a = some (DO P w a ds) ∧ KeysO H2 ds ∧ H2 b = some (.tup (k.map oV)) ∧ valO ds k = some v ∧ Q v H2
def tOIn (P : Program) (w : World) (ty td : TE) : TE := fun σ H Q => ty σ H fun y H1 => td σ H1 fun x H2 => ∃ a b ds k, x = .ref a ∧ y = .ref b ∧ H2 a = some (DO P w a ds) ∧ KeysO H2 ds ∧ H2 b = some (.tup (k.map oV)) ∧ Q (.bl (valO ds k).isSome) H2
def sOPut (P : Program) (w : World) (td ty tv : TE) : TS := fun D σ H => tv σ H fun v H1 => td σ H1 fun x H2 => ty σ H2 fun y H3 => ∃ a b ds k, x = .ref a ∧ y = .ref b ∧ H3 a = some (DO P w a ds) ∧ KeysO H3 ds ∧ H3 b = some (.tup (k.map oV)) ∧ valO ds k = none ∧ ds.length < sizeLine ∧ D.nx σ (upd H3 a (DO P w a (ds ++ [(k, b, v)])))
section
variable {X : Cx} {o i e value : Expr} {pos pos' tpos : Pos} {td ty tv : TE}
theorem pe_oget (hu : X.A.units + 1 < cLine) (ho : PE X o td) (hi : PE X i ty) (hs : NoSl i) : PE X (.Subscript o i pos) (tOGet X.prog X.w td ty) := by
  refine ⟨fun pins s σ H Q I h => ?_⟩
  refine subD_of PySem.F.slot_dict_getitem.lookup hs (thn (ho.run pins s σ H _ I h) fun u s1 ⟨x, H1, I1, rx, q1⟩ => thn (hi.run pins s1 σ H1 _ I1 q1) fun iv s2 ⟨y, H2, I2, ry, a, b, ds, k, v, ex, ey, e1, e2, e3, e4, q2⟩ => ?_)
  subst ex ey
  obtain rfl : u = Value.ref a := rx
  obtain rfl : iv = Value.ref b := ry
  obtain ⟨_, xs, _, dd⟩ := do_of I2.hok e1 e2
  exact ⟨dd.typeIs, o_getItem hu I2 e1 e2 e3 e4 fun w' s3 I3 rw' => ⟨v, H2, I3, rw', q2⟩⟩
theorem pc_oin (hu : X.A.units + 1 < cLine) (hi : PE X i ty) (ho : PE X o td) : PC X .In i o (tOIn X.prog X.w ty td) := by
  refine ⟨fun pins s σ H Q I h => ?_⟩
  refine thn (hi.run pins s σ H _ I h) fun iv s1 ⟨y, H1, I1, ry, q1⟩ => thn (ho.run pins s1 σ H1 _ I1 q1) fun u s2 ⟨x, H2, I2, rx, a, b, ds, k, ex, ey, e1, e2, e3, q2⟩ => ?_
  subst ex ey
  obtain rfl : u = Value.ref a := rx
  obtain rfl : iv = Value.ref b := ry
  exact o_in hu I2 e1 e2 e3 fun s3 I3 => ⟨.bl _, H2, I3, rfl, q2⟩
theorem ps_oput (hu : X.A.units + 1 < cLine) (ho : PE X o td) (hi : PE X i ty) (hv : PE X value tv) (hs : swapsWith value (some (.Subscript o i pos')) pos.line X.env = pure false) :
    PS X (.Assign [.Subscript o i pos'] value pos) (sOPut X.prog X.w td ty tv) := by
  refine ⟨fun pins s σ H D I h => ?_⟩
  refine wpAny_Assign_Subscript (thn (hv.run pins s σ H _ I h) fun r s1 ⟨v, H1, I1, rv, q1⟩ => thn (ho.run pins s1 σ H1 _ I1 q1) fun u s2 ⟨x, H2, I2, rx, q2⟩ => thn (hi.run pins s2 σ H2 _ I2 q2) fun iv s3 ⟨y, H3, I3, ry, a, b, ds, k, ex, ey, e1, e2, e3, e4, e5, q3⟩ => ?_) hs
  subst ex ey
  obtain rfl : u = Value.ref a := rx
  obtain rfl : iv = Value.ref b := ry
  exact o_setItem hu I3 e1 e2 e3 e4 e5 rv fun s4 I4 => ⟨σ, _, I4, q3⟩
/-- {}: to be such a dict -/
def tDNewO (P : Program) (w : World) : TE := fun _ H Q => ∀ p, H p = none → Q (.ref p) (upd H p (DO P w p []))
theorem do_empty {P : Program} {w : World} {H : Hp} (h : Heap) (hb : sysModules < h.objs.size) : ObjOk P w H (h.push { cls := .type "dict", data := .dict #[] }) h.objs.size (DO P w h.objs.size []) := by
  have e := Heap.get?_push_size h (o := { cls := .type "dict", data := .dict #[] }) rfl
  refine ⟨⟨[], .nil, beq_eq_false_iff_ne.mpr (Ne.symm (Nat.ne_of_lt hb)), _, #[], 0, e, ⟨rfl, rfl, rfl⟩, rfl, rfl, List.nodup_nil⟩, ⟨_, e⟩, fun g1 g2 hg k => ?_⟩
  obtain ⟨xs', r', y', o', es', ep', e1, e2, e3, e4, e5⟩ := hg
  exact ⟨xs', r', y', o', es', ep', k _ e1, e2, e3, e4, e5⟩
theorem pe_dnewO : PE X (.Dict [] [] pos) (tDNewO X.prog X.w) := ⟨fun pins s σ H Q I h =>
  wpAny_Dict_empty ⟨.ref s.heap.objs.size, _, I.laid (a := s.heap.objs.size) (o := DO X.prog X.w s.heap.objs.size []) (t' := s.toks) (fun _ _ q => Heap.get?_push_of_some _ q) (Nat.le_refl _) (do_empty s.heap I.big), rfl, h _ (I.hok.fresh (Nat.le_refl _))⟩⟩
end
end CD
set_option maxHeartbeats 400000
/-! own rules 2: min(default=), max of a tuple, (x,) * k, enumerate(t, start=), sorted(t, reverse=True), len(set(t)), repr -/
namespace CD
open PySem PySem.Spec PyProof.Rows L2
section
variable {X : Cx}

/-! ### min(xs, default=d), max(t) -/
theorem alike_ints (ns : List Int)   : PySem.W.AlikeAll (ns.map PyData.int) := by
  refine ⟨fun x hx y hy => ?_, fun x hx e => ?_⟩
  · obtain ⟨i, _, rfl⟩ := List.mem_map.mp hx
    obtain ⟨j, _, rfl⟩ := List.mem_map.mp hy
    simp only [PySem.W.alike]
  · obtain ⟨i, _, rfl⟩ := List.mem_map.mp hx
    cases e
theorem reads_ints {h : Heap} : ∀ {us : List Value} {ns : List Int}, IntsAre us ns → ReadsAll h us (ns.map PyData.int) []
  | _, _, .nil => .nil
  | _, _, .cons n t r => ReadsAll.cons (as := []) (bs := []) (.int n t) (reads_ints r)
theorem depth_ints : ∀ ns : List Int, PyData.depthAll (ns.map PyData.int) = 0
  | [] => rfl
  | n :: ns => by
    rw [List.map_cons, PyData.depthAll, depth_ints ns]
    rfl
def orD (d : V) : Option Int → V
  | none => d
  | some m => .int m
def rMinD (K : PySem.W.Frag) : List V → List V → Hp → VK → Prop := fun vs zs H Q => ∃ (a : Addr) (ns : List Int) (d : V), vs = [V.ref a] ∧ zs = [d] ∧ SqL K H a (ns.map V.int) ∧ Q (orD d (leastO ns)) H
theorem cr_minDef (hc : X.calm = true) (hu : X.A.units + 1 < cLine) : CallRK X (.builtin "min") [Str.ofString "default"] (rMinD X.K) := by
  intro pins s σ H vs zs us ws Q I r rz h
  obtain ⟨a, ns, d, rfl, rfl, hs, q⟩ := h
  obtain rfl := Vals.ref1 r
  obtain ⟨w1, rfl, e1⟩ := vals1 rz
  obtain ⟨its, rv, hl, _⟩ := I.list hs
  have hi := rv.ints
  refine PySem.W.min_list_default (I.ok.hd hc) hl.isList (xs := ns.map PyData.int) (as := []) (by simpa using reads_ints hi) (alike_ints ns) (by rw [depth_ints]; exact hu) (fun e h' tk hk => ?_) fun y ys i v h' tk bs e hv hr hk => ?_
  · have e2 : ns = [] := List.map_eq_nil_iff.mp e
    subst e2
    exact ⟨d, H, I.kept hk, e1, q⟩
  · cases ns with
    | nil => cases e
    | cons n ns =>
      rw [List.map_cons] at e
      injection e with e2 e3
      subst e2 e3
      rw [PySem.W.minD_ints] at hr
      cases hr with
      | int i t => exact ⟨.int _, H, I.kept hk, ⟨t, rfl⟩, q⟩
def rMaxT (K : PySem.W.Frag) : List V → Hp → VK → Prop := fun vs H Q => ∃ (a : Addr) (n : Int) (ns : List Int), vs = [V.ref a] ∧ SqT K H a ((n :: ns).map V.int) ∧ Q (.int (ns.foldl max n)) H
theorem cr_maxT (hc : X.calm = true) (hu : X.A.units + 1 < cLine) : CallR X (.builtin "max") (rMaxT X.K) := by
  intro pins s σ H vs us Q I r h
  obtain ⟨a, n, ns, rfl, hs, q⟩ := h
  obtain rfl := Vals.ref1 r
  obtain ⟨its, rv, hl, _⟩ := I.tuple hs
  have hi := rv.ints
  refine PySem.W.max_tuple_data (I.ok.hd hc) (show s.heap.IsTuple a its.toArray from hl) (x := .int n) (xs := ns.map PyData.int) (as := []) (by simpa using reads_ints hi) (alike_ints (n :: ns)) (by
    have := depth_ints (n :: ns)
    rw [List.map_cons] at this
    rw [this]
    exact hu) fun i v h' tk bs hv hr hk => ?_
  rw [PySem.W.maxD_ints] at hr
  cases hr with
  | int i t => exact ⟨.int _, H, I.kept hk, ⟨t, rfl⟩, q⟩

/-! ### t * k, k at most 1 -/
theorem tuple_mul1 (l : Addr) (items : Array Value) (n : Nat) (dd : Option Addr) (sl : Array (Option Value)) (u : Tok) :
    Meets (Builtin.«tuple.__mul__» ⟨[.ref l, .int 1 u], []⟩) (fun _ R s => s.heap.get? l = some { cls := .type "tuple", dict := dd, data := .seq items n, slots := sl } ∧ R (.ok (.ret (Value.ref l))) s) :=
  .of_wp fun prog w A R s h => by
    obtain ⟨hp, g, d, tk, os⟩ := s
    obtain ⟨hl, h⟩ := h
    have f1 := AutoSeq1.idx_int
    wp_walk using wpAny_loadPart' hl
    repeat (first
      | (refine wpAny_ite_false (by decide) ?_; wp_walk using wpAny_loadPart' hl)
      | (refine wpAny_ite_true (by simp) ?_; wp_walk using wpAny_loadPart' hl))
    exact ⟨_, rfl, h⟩
theorem tuple_mul0 (l : Addr) (items : Array Value) (n : Nat) (dd : Option Addr) (sl : Array (Option Value)) (u : Tok) (c1 : items.isEmpty = false) :
    Meets (Builtin.«tuple.__mul__» ⟨[.ref l, .int 0 u], []⟩) (fun _ R s => s.heap.get? l = some { cls := .type "tuple", dict := dd, data := .seq items n, slots := sl } ∧
      R (.ok (.ret (Value.ref s.heap.objs.size))) { s with heap := s.heap.push { cls := Value.type "tuple", data := Data.seq #[] }, toks := s.toks }) :=
  .of_wp fun prog w A R s h => by
    obtain ⟨hp, g, d, tk, os⟩ := s
    obtain ⟨hl, h⟩ := h
    have f1 := AutoSeq1.idx_int
    wp_walk using wpAny_loadPart' hl
    repeat (first
      | (refine wpAny_ite_false (by rw [c1]; decide) ?_; wp_walk using wpAny_loadPart' hl)
      | (refine wpAny_ite_false (by decide) ?_; wp_walk using wpAny_loadPart' hl)
      | (refine wpAny_ite_true (by simp) ?_; wp_walk using wpAny_loadPart' hl))
    exact ⟨_, rfl, h⟩
/-- t * k for k = 0, 1 and more -/
def rRepA (K : PySem.W.Frag) : R2 := fun x y H Q => ∃ l xs, ∃ k : Nat, x = .ref l ∧ y = .int k ∧ SqT K H l xs ∧ xs ≠ [] ∧ k ≤ 1000 ∧ xs.length ≤ 1000 ∧
  (k = 1 → Q (.ref l) H) ∧ (k ≠ 1 → ∀ p, H p = none → Q (.ref p) (upd H p (.tup (List.replicate k xs).flatten)))
theorem op_repA : OpR X (binaryOp .Mult) (rRepA X.K) := by
  intro pins s σ H x y v u Q I rx ry h
  obtain ⟨l, xs, k, rfl, rfl, hT, hne, h2, hz, q1, q2⟩ := h
  by_cases k2 : 2 ≤ k
  · refine op_repT pins s σ H _ _ v u Q I rx ry ⟨l, (k : Int), xs, rfl, rfl, hT, hne, by omega, by omega, hz, ?_⟩
    rw [Int.toNat_natCast]
    exact q2 (by omega)
  · cases rx
    obtain ⟨t, rfl⟩ := ry
    obtain ⟨its, r, ⟨⟨cls, dd, data, sl⟩, ho, hc, n, hd⟩, hs⟩ := I.tuple hT
    simp only at hc hd
    subst hc hd
    have hi : its.toArray.isEmpty = false := by
      cases its with
      | nil =>
        have e := r.length
        cases xs with
        | nil => exact absurd rfl hne
        | cons a b => simp at e
      | cons a b => rfl
    have road : ∀ {Q' : Value → Shared → Prop} (kk : Int), wpAny (model X.prog X.w) X.A (call (.builtin "tuple.__mul__") [.ref l, .int kk t]) Q' X.xe s → wpAny (model X.prog X.w) X.A (binaryOp .Mult (.ref l) (.int kk t)) Q' X.xe s := fun {Q'} kk hq =>
      wpAny_binaryOp_repeat_ref (T := "tuple") (U := "int") (by decide) ⟨_, ho, rfl⟩ (fun s' => typeIs_int s' kk t) noFill_tuple_mul F.fills_int_mul F.slot_int_rmul repeat_tuple F.slot_int_index.lookup
        (call_meets F.slot_int_rmul (typeIs_int s kk t) F.entry_int_rmul (F.args_int_rmul_2 _ _) (int_rmul_tuple kk t l its.toArray n dd sl) ⟨ho, rfl, ⟨_, ho, rfl⟩, hq⟩)
    by_cases k1 : k = 1
    · subst k1
      refine road 1 (call_meets F.slot_tuple_mul ⟨_, ho, rfl⟩ F.entry_tuple_mul (F.args_tuple_mul_2 _ _) (tuple_mul1 l its.toArray n dd sl t) ⟨ho, ?_⟩)
      exact ⟨.ref l, H, I, rfl, q1 rfl⟩
    · obtain rfl : k = 0 := by omega
      refine road 0 (call_meets F.slot_tuple_mul ⟨_, ho, rfl⟩ F.entry_tuple_mul (F.args_tuple_mul_2 _ _) (tuple_mul0 l its.toArray n dd sl t hi) ⟨ho, ?_⟩)
      exact ⟨.ref s.heap.objs.size, _, I.laid (t' := s.toks) (o := .tup []) (fun b ob q => Heap.get?_push_of_some _ q) (Nat.le_refl _) ⟨Nat.zero_le _, [], .nil, IsTup.new _ _⟩, rfl, q2 (by omega) _ (I.hok.fresh (Nat.le_refl _))⟩

/-! ### for i, x in enumerate(t, start=k), t a tuple -/
def IteT (K : PySem.W.Frag) (a : Addr) (k : Int) : It :=
  ⟨fun i H => ∃ (xs : List V) (x : V), SqT K H a xs ∧ xs[i]? = some x,
    fun i H v H' => ∃ T x, v = .ref T ∧ H T = none ∧ H' = upd H T (.tup [.int (k + (i : Nat)), x]) ∧ ∀ xs, SqT K H a xs → xs[i]? = some x,
    fun i H => ∃ xs : List V, SqT K H a xs ∧ xs.length = i⟩
theorem turn_enumT {P : Program} {w : World} {K : PySem.W.Frag} {elts : List Expr} {kk : Nat} {tpos : Pos} (a e it : Addr) (k : Int) :
    Turn P w K (.Tuple elts kk tpos) (IteT K a k) [e, it] e (fun i h => (∃ old, IsEnum h e it (k + (i : Nat)) old) ∧ h.IsTupleIter it a i ∧ e ≠ it) where
  mem := by simp
  obj := fun i h st b hb => by
    obtain ⟨⟨old, he⟩, ⟨o, ho, hc, hd⟩, _⟩ := st
    rcases (by simpa using hb : b = e ∨ b = it) with rfl | rfl
    · exact ⟨_, he, fun v q => nomatch q⟩
    · exact ⟨o, ho, fun v q => by rw [hd] at q; cases q⟩
  keep := fun i h h' st q => ⟨⟨st.1.choose, q e (by simp) _ st.1.choose_spec⟩, st.2.1.at fun o z => q it (by simp) o z, st.2.2⟩
  item := by
    intro X hP hw hK hc i pins s σ H E I hf st hg
    subst hP hw hK
    obtain ⟨⟨old, he⟩, hit, hne⟩ := st
    obtain ⟨xs, x, hq, hx⟩ := hg
    obtain ⟨its, rv, p, hz⟩ := I.tuple hq
    obtain ⟨u, hu, ru⟩ := rv.get hx
    have hel : e < s.heap.objs.size := Heap.lt_size he
    have hil : it < s.heap.objs.size := by obtain ⟨_, q, _⟩ := hit; exact Heap.lt_size q
    have hai : a ≠ it := by
      intro z
      obtain ⟨o1, h1, c1, _⟩ := p
      obtain ⟨o2, h2, c2, _⟩ := hit
      rw [z, h2] at h1
      cases h1
      rw [c1] at c2
      exact absurd c2 (by decide)
    have hae : e ≠ a := by
      intro z
      obtain ⟨o1, h1, c1, _⟩ := p
      rw [← z, he] at h1
      cases h1
      have c2 : Value.type "enumerate" = Value.type "tuple" := c1
      exact absurd c2 (by decide)
    have hlen : its.toArray.size = xs.length := by rw [List.size_toArray]; exact rv.length.symm
    have hi : i < its.toArray.size := by
      rw [hlen]
      exact (List.getElem?_eq_some_iff.mp hx).1
    refine PySem.wpAny_pyNext_enum_itemC (Draws.tuple (A := X.A.in1) (I.ok.hd hc) it a hai its.toArray) he ⟨hit, show s.heap.IsTuple a its.toArray from p⟩ hi hne (by simp [hne, hae]) fun y h' tk hy ho hst' hT hsz hk => ?_
    obtain rfl : u = y := by
      have z : its.toArray[i]? = some u := by simpa using hu
      exact Option.some.inj (z.symm.trans hy)
    refine ⟨_, rfl, wpAny_letOwnedTupleGo_enum (s := { s with heap := h', toks := tk + 1 }) ho fun h'' he' sb => ?_⟩
    have hT2 := (sb.2 _ (Nat.ne_of_gt hel)).trans hT
    have new : ObjOk X.prog X.w (upd H s.heap.objs.size (.tup [.int (k + (i : Nat)), x])) h'' s.heap.objs.size (.tup [.int (k + (i : Nat)), x]) :=
      ⟨(by decide : 2 ≤ sizeLine), _, .cons ⟨tk, rfl⟩ (.cons ru .nil), ⟨_, hT2, rfl, _, rfl⟩⟩
    have ap : ∀ b, b ∉ [e, it] → b ≠ e ∧ b ≠ it := fun b hb => by simpa using hb
    have I1 := I.turnedNew (t' := tk + 1) (ch := [e, it]) (fun b ob hb q => (sb.2 b (ap b hb).1).trans (hk b ob (ap b hb).1 (ap b hb).2 q)) hf (Nat.le_refl _) new
    refine ⟨.ref s.heap.objs.size, _, I1, rfl, ⟨_, x, rfl, I.hok.fresh (Nat.le_refl _), rfl, fun ys hy => by rw [I.tuple_inj hy hq]; exact hx⟩, ⟨⟨u, ?_⟩, hst'.1.at fun o q => (sb.2 it (Ne.symm hne)).trans q, hne⟩, fun b hb => ?_⟩
    · have e1 : k + ((i + 1 : Nat) : Int) = k + (i : Nat) + 1 := by omega
      rw [e1]; exact he'
    · have hb' : b < s.heap.objs.size := by
        rcases (by simpa using hb : b = e ∨ b = it) with rfl | rfl
        · exact hel
        · exact hil
      rw [upd_ne (Nat.ne_of_lt hb')]
      exact (hf b hb).1
  done := by
    intro X hP hw hK hc i pins s σ H E I hf st hg
    subst hP hw hK
    obtain ⟨⟨old, he⟩, hit, hne⟩ := st
    obtain ⟨xs, hq, hx⟩ := hg
    obtain ⟨its, rv, p, hz⟩ := I.tuple hq
    obtain ⟨f0, f1, f2, f3, f4, f5⟩ := hf it (by simp)
    have hl := rv.length
    have hai : a ≠ it := by
      intro z
      obtain ⟨o1, h1, c1, _⟩ := p
      obtain ⟨o2, h2, c2, _⟩ := hit
      rw [z, h2] at h1
      cases h1
      rw [c1] at c2
      exact absurd c2 (by decide)
    have hsz : i = its.toArray.size := by rw [List.size_toArray]; omega
    subst hsz
    refine PySem.wpAny_pyNext_enum_endD (Draws.tuple (A := X.A.in1) (I.ok.hd hc) it a hai its.toArray) he ⟨hit, show s.heap.IsTuple a its.toArray from p⟩ fun h' eb => ?_
    exact ⟨rfl, I.turned (t' := s.toks) (fun b o hb q => eb b o hb q) f0 f1 f3 f4 f5⟩
  self := fun A i s Q E st h => wpAny_pyIter_enum st.1.choose_spec h
theorem walk_enumT {K : PySem.W.Frag} {a : Addr} {k : Int} {xs : List V} : Walk (IteT K a k) xs.length (fun H => SqT K H a xs) (YPair (fun i => some (.int (k + (i : Nat)))) (fun i => xs[i]?)) := by
  refine ⟨fun i _ hi q => ⟨xs, xs[i], q, by simp [hi]⟩, fun _ q => ⟨xs, q, rfl⟩, fun i H v H' _ q y => ?_⟩
  obtain ⟨T, x, h1, h2, h3, h4⟩ := y
  exact ⟨T, .int (k + (i : Nat)), x, h1, h2, h3, rfl, h4 xs q⟩
theorem callWith_tyK {M : Model} {A : Around} {E : Value → Shared → Prop} {s : Shared} {env : Env} {pos : Pos} {T : String} {e : Expr} {kws : List Keyword} {Q : Value → Shared → Prop}
    (h : wpAny M A (spliced (backTo pos (starEach [e] env))) (fun vs s₁ => wpAny M A (evalAll ((backToKw pos (keywordEach kws env)).map (·.2)))
      (fun kvs s₂ => wpAny M A (call (.type T) vs (((backToKw pos (keywordEach kws env)).filterMap (·.1)).zip kvs)) Q E s₂) E s₁) E s)
    (he : backTo pos (starEach [e] env) = [(false, eval e env)])
    (hall : (backToKw pos (keywordEach kws env)).all (·.1.isSome) = true)
    (hkw : (backToKw pos (keywordEach kws env)).any (·.1.isNone) = false) :
    wpAny M A (callWith pos (.type T) [] (backTo pos (starEach [e] env)) (backToKw pos (keywordEach kws env))) Q E s := by
  rw [he] at h ⊢
  have h2 := PyProof.Rows.evalArgs_kwB (f := .type T) (Q := fun a s₁ => wpAny M A (call (.type T) ([] ++ a.pos) a.kw) Q E s₁) hall h
  unfold callWith
  refine wpAny_bind (wpAny_holding (wpAny_mono h2 (fun a s₁ h₁ => wpAny_bind (wpAny_standAt ?_)) fun _ _ z => z))
  simp only [List.any_cons, List.any_nil, hkw, Bool.or_false]
  refine wpAny_bind (wpAny_pure ?_)
  refine wpAny_bind (wpAny_mono h₁ (fun r s₂ hr => ?_) fun _ _ z => z)
  exact wpAny_bind (wpAny_holding (wpAny_point (wpAny_pure hr)))
def iEnumT (K : PySem.W.Frag) (ta tk : TA) : TI := fun σ H R => ta σ H fun vs H1 => tk σ H1 fun zs H2 => ∃ a xs k, vs = [.ref a] ∧ zs = [.int k] ∧ -(2 ^ 63) ≤ k ∧ k < 2 ^ 63 ∧ SqT K H2 a xs ∧ R (IteT K a k) H2
theorem pi_enumT {e e2 : Expr} {ta tk : TA} {p pos tpos kpos : Pos} {elts : List Expr} {kk : Nat} (hg : Gl X "enumerate") (hm : X.mg "enumerate" = none) (ha : PA X [e] ta) (hk : PK X [⟨some (Str.ofString "start"), e2, kpos⟩] tk)
    (hs : backTo pos (starEach [e] X.env) = [(false, eval e X.env)] := by rfl)
    (hall : (backToKw pos (keywordEach [⟨some (Str.ofString "start"), e2, kpos⟩] X.env)).all (·.1.isSome) = true := by rfl) (hnone : (backToKw pos (keywordEach [⟨some (Str.ofString "start"), e2, kpos⟩] X.env)).any (·.1.isNone) = false := by rfl)
    (hks : (backToKw pos (keywordEach [⟨some (Str.ofString "start"), e2, kpos⟩] X.env)).filterMap (·.1) = [Str.ofString "start"] := by rfl) :
    PI X (.Tuple elts kk tpos) (.Call (.Name "enumerate" p) [e] [⟨some (Str.ofString "start"), e2, kpos⟩] pos) (iEnumT X.K ta tk) := by
  refine ⟨fun pins s σ H R I h => ?_⟩
  refine wpAny_Call_Name_kw (ld_blt I hg hm boot_enumerate ?_)
  refine callWith_tyK (thn (ha.run pos pins s σ H _ I h) fun us s1 ⟨vs, H1, I1, r1, q1⟩ => thn (hk.run pos pins s1 σ H1 _ I1 q1) fun ws s2 ⟨zs, H2, I2, r2, q2⟩ => ?_) hs hall hnone
  obtain ⟨a, xs, k, rfl, rfl, k0, k1, hq, q⟩ := q2
  obtain rfl := Vals.ref1 r1
  obtain ⟨w1, rfl, tk1, rfl⟩ := vals1 r2
  rw [hks]
  obtain ⟨its, rv, pt, hz⟩ := I2.tuple hq
  refine PySem.enum_begins_start (PySem.begins_tuple a its.toArray) (show s2.heap.IsTuple a its.toArray from pt) k0 k1 fun h' he hit hsz hkeep => wpAny_pyIter_enum he ?_
  have I3 : Inv X pins σ H2 { s2 with heap := h' } := I2.kept (t' := s2.toks) hkeep
  have he0 : IsEnum h' (s2.heap.objs.size + 1) s2.heap.objs.size (k + ((0 : Nat) : Int)) .none := by
    rw [show k + ((0 : Nat) : Int) = k by omega]
    exact he
  have hit0 : h'.IsTupleIter s2.heap.objs.size a 0 := ⟨_, hit, rfl, rfl⟩
  refine ⟨s2.heap.objs.size + 1, [s2.heap.objs.size + 1, s2.heap.objs.size], _, _, H2, rfl, I3, turn_enumT a (s2.heap.objs.size + 1) s2.heap.objs.size k, ?_, fun b hb => ?_, q⟩
  · exact ⟨⟨.none, he0⟩, hit0, Nat.succ_ne_self _⟩
  · have hle : s2.heap.objs.size ≤ b := by
      rcases (by simpa using hb : b = s2.heap.objs.size + 1 ∨ b = s2.heap.objs.size) with z | z
      · rw [z]; exact Nat.le_succ _
      · rw [z]; exact Nat.le_refl _
    exact I2.fpOk hle (I2.hok.fresh hle)
end
end CD
/-! own rules 3: len(set(t)), repr of data, sorted(t, reverse=True) -/
namespace CD
open PySem PySem.Spec PyProof.Rows L2
section
variable {X : Cx}
/-! ### len(set(t)), t a tuple of unlike ints -/
def tLenSetT (K : PySem.W.Frag) (ta : TE) : TE := fun σ H Q => ta σ H fun x H1 => ∃ (l : Addr) (ns : List Int), x = .ref l ∧ SqT K H1 l (ns.map V.int) ∧ ns.Nodup ∧ ns.length ≤ 1000 ∧ Q (.int (ns.length : Nat)) H1
theorem pe_lenSetT {a : Expr} {ta : TE} {p p2 q pos : Pos} (hg : Gl X "len") (hm : X.mg "len" = none) (hg2 : Gl X "set") (hm2 : X.mg "set" = none) (ha : PE X a ta) (hc : X.calm = true := by rfl)
    (na : starEach [a] X.env = (false, eval a X.env) :: starEach [] X.env := by rfl) : PE X (.Call (.Name "len" p) [.Call (.Name "set" p2) [a] [] q] [] pos) (tLenSetT X.K ta) := by
  refine ⟨fun pins s σ H Q I h => ?_⟩
  refine Call_ (ld_blt I hg hm boot_len (PyProof.Rows.callWith_builtin1 (PyProof.Rows.args_cons ?_ rfl) rfl rfl))
  refine Call_ (ld_blt I hg2 hm2 boot_set (PyProof.Rows.callWith_type1 (PyProof.Rows.args_cons (thn (ha.run pins s σ H _ I h) fun v s1 ⟨x, H1, I1, r1, l, ns, ex, hq, hnd, hl, q1⟩ => PyProof.Rows.args_nil ?_) na) na rfl))
  subst ex
  cases r1
  obtain ⟨its, r, pl, hz⟩ := I1.tuple hq
  refine call_set_tupI ns (I1.ok.hd hc) (show s1.heap.IsTuple l its.toArray from pl) (by simpa using ints_of_vals r) (by unfold scanBound; omega) fun h' tk c hS hcl hk => PyProof.Rows.args_nil ?_
  obtain ⟨o, es, ep, t, ho, hex, hdt, g, nd, hm3, hb, hf, hn, _, _⟩ := hS
  have hlen : es.size = ns.length := by
    have e1 : (es.toList.map keyOf).Perm ns := (List.perm_ext_iff_of_nodup nd hnd).mpr fun j => by
      have z : decide (j ∈ ns) = true ↔ j ∈ es.toList.map keyOf := hm3 j
      rw [decide_eq_true_eq] at z
      exact z.symm
    have := e1.length_eq
    simpa using this
  have I2 : Inv X pins σ H1 { s1 with heap := h', toks := tk } := I1.kept hk
  exact call_len_set ho hex hdt hf (by omega) ⟨.int ns.length, H1, I2.tok _, ⟨_, by rw [hlen]⟩, q1⟩

/-! ### repr of data -/
def rRepr (K : PySem.W.Frag) : List V → Hp → VK → Prop := fun vs H Q => ∃ (x : V) (d : PyData), vs = [x] ∧ Dp K H x d ∧ d.showable = true ∧ d.hasDict = false ∧ d.depth ≤ 60 ∧ d.shown.length ≤ sizeLine ∧ Q (.str d.shown) H
theorem call_reprD (hg : X.A.guards = some []) (hu : X.A.units + 64 < cLine) : CallR X (.builtin "repr") (rRepr X.K) := by
  intro pins s σ H xs us Q I r h
  obtain ⟨x, d, rfl, hd, hs, hn, hp, hz, q⟩ := h
  obtain ⟨u, rfl, ru⟩ := vals1 r
  obtain ⟨as, rd⟩ := Dp.reads I d x u hd ru
  have nd : d.hasDict = true → sysModules ∉ as := fun e => by rw [hn] at e; cases e
  cases rd with
  | list h1 h2 h3 h4 => exact repr_of_reads' (.list h1 h2 h3 h4) hs nd hg (by omega) (fun _ _ e => e) (fun h' u tk hk => ⟨.str _, H, I.kept hk, ⟨_, rfl⟩, q⟩) hz
  | tuple h1 h2 h3 h4 => exact repr_of_reads' (.tuple h1 h2 h3 h4) hs nd hg (by omega) (fun _ _ e => e) (fun h' u tk hk => ⟨.str _, H, I.kept hk, ⟨_, rfl⟩, q⟩) hz
  | dict h1 h2 h3 h4 h5 => exact repr_of_reads' (.dict h1 h2 h3 h4 h5) hs nd hg (by omega) (fun _ _ e => e) (fun h' u tk hk => ⟨.str _, H, I.kept hk, ⟨_, rfl⟩, q⟩) hz
  | int i t => exact PySem.P.repr_of_int (by simpa [PyData.showable] using hs) ⟨.str _, H, I.tok _, ⟨_, rfl⟩, q⟩
  | none => exact PySem.P.repr_of_none ⟨.str _, H, I.tok _, ⟨_, rfl⟩, q⟩
  | bool b => exact PySem.P.repr_of_bool ⟨.str _, H, I.tok _, ⟨_, rfl⟩, q⟩
  | str y t => exact PySem.P.repr_of_str ⟨.str _, H, I.tok _, ⟨_, rfl⟩, q⟩ hz

/-! ### sorted(t, reverse=True), t a tuple of ints -/
theorem collect_tup {prog : Program} {w : World} {A : Around} {E : Value → Shared → Prop} {s : Shared} {l : Addr} {vs : List Value} {Q : List Value → Shared → Prop} (hl : IsTup s.heap l vs.toArray) (hsz : vs.length ≤ sizeLine)
    (h : Q vs { s with heap := (s.heap.push (seqObj "list" #[] 0)).update s.heap.objs.size (Obj.mapSeq (· ++ vs.toArray)) }) : wpAny (model prog w) A (collect (.ref l)) Q E s := by
  obtain ⟨o, ho, hc, n, hd⟩ := id hl
  have e0 : (s.heap.push (seqObj "list" #[] 0)).get? s.heap.objs.size = some (seqObj "list" #[] 0) := Heap.get?_push_size _ rfl
  have e1 : (s.heap.push (seqObj "list" #[] 0)).get? l = some o := Heap.get?_push_of_some _ ho
  unfold collect
  refine wpAny_bind (wpAny_runValue (codeAny_builtin entry_proto_collect' (wpAny_bind (wpAny_newList (wpAny_pure ⟨Code.quiet_builtin _ (by decide +kernel), codeAny_builtin entry_list_iadd' ?_⟩)))))
  show wpAny _ _ (Builtin.List.listExtendWith (.ref s.heap.objs.size) (.ref l) (.ref s.heap.objs.size)) _ _ { s with heap := s.heap.push (seqObj "list" #[] 0) }
  unfold Builtin.List.listExtendWith
  refine wpAny_bind (wpAny_typeOf (T := "tuple") ⟨o, e1, hc⟩ ?_)
  rw [if_pos (by rw [show (Value.type "tuple" == Value.type "tuple") = true by rfl]; simp)]
  refine wpAny_bind (listItems_at e1 hd (wpAny_bind (listItems_at (xs := #[]) (n := 0) e0 rfl ?_)))
  rw [if_neg (by simp)]
  refine wpAny_bind (listUpdate_at (xs := #[]) (n := 0) e0 rfl (wpAny_pure ?_) (Nat.zero_le _) (by show (#[] ++ vs.toArray).size ≤ sizeLine + 1; simp only [Array.size_append, List.size_toArray, List.length_nil]; omega))
  refine wpAny_bind (wpAny_load (get?_update_seq e0 _) ?_)
  show wpAny _ _ (pure ((#[] : Array Value) ++ vs.toArray).toList) Q E _
  have e3 : ((#[] : Array Value) ++ vs.toArray).toList = vs := by simp
  rw [e3]
  exact wpAny_pure h
theorem sorted_tup {prog : Program} {w : World} {A : Around} {E : Value → Shared → Prop} {s : Shared} {l : Addr} {vs : List Value} {ns : List Int} {b : Bool} {Q : Value → Shared → Prop} (hl : IsTup s.heap l vs.toArray) (hz : vs.length ≤ sizeLine) (hi : IntsAre vs ns)
    (h : ∀ (out : Array Value) (ns' : List Int), IntsAre out.toList ns' → ns'.Perm ns → OrdB b ns' → Q (.ref (s.heap.objs.size + 1)) { s with heap := sortedAll s.heap vs out }) :
    wpAny (model prog w) A (call (.builtin "sorted") [.ref l] [(Str.ofString "reverse", .bool b)]) Q E s := by
  refine call_function_entry_kw kind_sorted plain_sorted entry_sorted (PyProof.Rows.args_sorted_rev _ _) ?_
  unfold Builtin.«sorted»
  refine wpAny_bind (m := checkCount "sorted" 1 1 _) (wpAny_pure (wpAny_bind (collect_tup hl hz (wpAny_bind (wpAny_newList ?_ hz)))))
  have z0 : (s.heap.push (seqObj "list" #[] 0)).objs.size = s.heap.objs.size + 1 := Heap.size_push ..
  generalize hg1 : (s.heap.push (seqObj "list" #[] 0)).update s.heap.objs.size (Obj.mapSeq (· ++ vs.toArray)) = h1
  have z1 : h1.objs.size = s.heap.objs.size + 1 := by rw [← hg1, Heap.size_update, z0]
  have k1 : ∀ c u, s.heap.get? c = some u → h1.get? c = some u := fun c u q => by
    have lt := Heap.lt_size q
    rw [← hg1, Heap.get?_update_ne _ _ _ _ (Nat.ne_of_lt lt)]
    exact Heap.get?_push_of_some _ q
  have o1 : (h1.push (seqObj "list" vs.toArray 0)).get? (s.heap.objs.size + 1) = some (seqObj "list" vs.toArray 0) := by
    rw [← z1]; exact Heap.get?_push_size _ rfl
  show wpAny _ _ _ _ _ { s with heap := h1.push (seqObj "list" vs.toArray 0) }
  rw [z1]
  refine wpAny_bind (wpAny_holding (wpAny_call_entry_kw slot_list_sort ⟨_, o1, rfl⟩ entry_list_sort ?_ (PyProof.Rows.args_list_sort_rev _ _)))
  refine SrtR.list_sort_ordR (b := b) SrtO.swo_int o1 hz (fun h2 => SrtO.ints_sortable hi h2) fun out hs hb => ⟨_, rfl, wpAny_pure ⟨_, rfl, ?_⟩⟩
  obtain ⟨ns', k1, k2, k3⟩ := SrtR.ints_outR hi hs hb
  have := h _ ns' k1 k2 k3
  rw [← hg1]
  exact this
/-- sorted(t, reverse=b) -/
def rSortedT (K : PySem.W.Frag) (b : Bool) : List V → List V → Hp → VK → Prop := fun vs zs H Q => ∃ (a : Addr) (ns : List Int), vs = [V.ref a] ∧ zs = [.bl b] ∧ SqT K H a (ns.map V.int) ∧
  ∀ (ns' : List Int) (p : Addr), ns'.Perm ns → OrdB b ns' → H p = none → Q (.ref p) (upd H p (.lst (ns'.map V.int)))
theorem cr_sortedTRev {b : Bool} : CallRK X (.builtin "sorted") [Str.ofString "reverse"] (rSortedT X.K b) := by
  intro pins s σ H vs zs us ws Q I r rz h
  obtain ⟨a, ns, rfl, rfl, hs, q⟩ := h
  obtain rfl := Vals.ref1 r
  obtain ⟨w1, rfl, e1⟩ := vals1 rz
  obtain rfl : w1 = Value.bool b := e1
  obtain ⟨its, rv, hl, hz⟩ := I.tuple hs
  refine sorted_tup hl (by rw [← rv.length]; exact hz) rv.ints fun out ns' k1 k2 k3 => ?_
  obtain ⟨ep, he'⟩ := PyProof.Rows.sortedAll_at s.heap its out
  have hlen : (ns'.map V.int).length ≤ sizeLine := by
    rw [List.length_map, k2.length_eq]
    rw [List.length_map] at hz
    exact hz
  have e0 : out.toList.toArray = out := Array.toArray_toList
  exact ⟨.ref _, upd H (s.heap.objs.size + 1) (.lst (ns'.map V.int)), I.laid (t' := s.toks) (fun _ _ => PyProof.Rows.sortedAll_old) (Nat.le_succ _) ⟨hlen, _, ep, vals_of_ints k1, by rw [e0]; exact he'⟩, rfl, q _ _ k2 k3 (I.hok.fresh (Nat.le_succ _))⟩
end

/-! ### a def that asks that nothing is under repr -/
structure GOk (P : Program) (w : World) (K : PySem.W.Frag) (mg : Str → Option Value) (base : Heap) (k : Nat) (f : Addr) (fd : FuncData) (ps : List Str) (sp : Sp) : Prop where
  len : ∀ vs H Q E, sp vs H Q E → vs.length = ps.length
  run : ∀ (A : Around) (outer : List Env) (s : Shared) (H : Hp) (args : Args) (us : List Value) (vs : List V) (Q : VK) (E : XK), A.guards = some [] → Room k A → Env0 P w K mg base A outer s H → BindsTo s fd args (ps.zip us) → Vals vs us → sp vs H Q E →
    codeAny (model P w) A (.call (.ref f) args) (CR CX0 outer P w H s Q E) s
end CD
/-! own rules 4: defs that call repr, the law's end over such -/
namespace CD
open PySem PySem.Spec PyProof.Rows L2
section
variable {P : Program} {w : World} {K : PySem.W.Frag} {mg : Str → Option Value} {base : Heap}
theorem g_ok {x qual : Str} {st : Stmt} {f : Addr} {fd : FuncData} {N ps : List Str} {k : Nat} {sp : Sp} (F : Fun K x qual st f fd) (S : FnScope N ps (defScope st)) (len : ∀ vs H Q E, sp vs H Q E → vs.length = ps.length)
    (body : ∀ (cdv : Value) (A : Around) (outer : List Env) (s : Shared) (H : Hp) (vs : List V) (Q : VK) (E : XK), A.guards = some [] → Room k (A.deeper (envOfC qual (defScope st) s.heap.objs.size f cdv)) → sp vs H Q E →
      ∃ t, PSs (cxOf CX0 P w K mg base N qual (defScope st) f cdv A outer s H E).nox (defBody st) t ∧ t { nx := fun _ H' => Q .non H', rt := Q } (start N vs) H) : GOk P w K mg base (k + 1) f fd ps sp := by
  obtain ⟨oc, od, kV, doc, pm, an, cdv, ct, osl, rfl, lk, hcd⟩ := F.ex
  refine ⟨len, fun A outer s H args us vs Q E hg hr e0 hb r hsp => ?_⟩
  -- the promise at this one A, as if there were no other
  have one : FnOk P w K mg base CX0 (k + 1) f (PySem.W.fnOf x qual (defArgs st) (defBody st) (defScope st) .none kV doc pm an cdv ct) ps
      (fun vs' H' Q' E' => sp vs' H' Q' E') → codeAny (model P w) A (.call (.ref f) args) (CR CX0 outer P w H s Q E) s := fun G => G.run A outer s H args us vs Q E hr e0 hb r hsp
  have keepB : ∀ b o, base.get? b = some o → s.heap.get? b = some o := fun b o e => (e0.bs b o e).1
  refine codeAny_call_function hr.depth ((e0.mod.kin.keeps keepB) _ _ lk) rfl S.co S.gen rfl (PySem.W.codeRec_of (e0.mod.kin.keeps keepB) hcd) (hb _ _ _ _ ?_)
  refine wpAny_newFunctionEnv_cells S.kind (fun y hy => ?_) fun env he s1 x1 => ?_
  · rcases S.par y.1 (List.of_mem_zip hy).1 with q | q
    · exact .inl q
    · exact .inr ⟨q, PySem.W.cellsFrom_some _ _ _ (.inl q)⟩
  subst he
  refine ⟨(e0.mod.nolimit.keeps keepB).keeps x1.toInCall.keep, codeAny_func ?_⟩
  obtain ⟨t, ht, hq⟩ := body cdv A outer s H vs Q E hg (hr.deeper _) hsp
  refine wpAny_mono (ht.nox.run [] s1 (start N vs) H _ (inv_start S hr.hd e0 (len _ _ _ _ hsp) r x1) hq) (fun fl s' hs => ?_) fun e s' hs => hs
  match fl, hs with
  | .ret u, ⟨v, σ', H', J, rv, q⟩ => exact ⟨v, H', J.os, J.bare, J.base, J.hok, rv, q⟩
  | .next, ⟨σ', H', J, q⟩ => exact ⟨V.non, H', J.os, J.bare, J.base, J.hok, rfl, q⟩
  | .brk, ⟨_, _, _, q⟩ => exact False.elim q
  | .cont, ⟨_, _, _, q⟩ => exact False.elim q
end
section
variable {X : Cx} {k : Nat} {f : Addr} {fd : FuncData} {ps : List Str} {sp : Sp} {x : Str} {p pos : Pos} {e : Expr} {es : List Expr} {t : TA}
theorem pe_callG (G : GOk X.prog X.w X.K X.mg X.base k f fd ps sp) (hgd : X.A.guards = some []) (hr : Room k X.A) (hg : Gl X x) (hm : X.mg x = some (.ref f)) (hk : PySem.W.keepIn X.K (.ref f) = true) (hb : Binds X.K fd ps [])
    (ha : PA X (e :: es) t) (hdb : (x == ("__debug__" : Str)) = false := by decide) (he : starEach (e :: es) X.env = (false, eval e X.env) :: starEach es X.env := by rfl) (hpl : (backTo pos (starEach es X.env)).any (·.1) = false := by rfl) :
    PE X (.Call (.Name x p) (e :: es) [] pos) (tCall sp [] E0 t) := by
  refine ⟨fun pins s σ H Q I h => wpAny_Call_Name_kw (ld_glob I hg hm ?_ hdb)⟩
  refine PySem.W.callWith_K (h₀ := X.base) I.ok.mod.kin hk (thn (ha.run pos pins s σ H _ I h) fun us s1 ⟨vs, H1, I1, r, q⟩ => ⟨I1.kIn, ?_⟩) he hpl
  have q' : sp vs H1 Q E0 := by
    have z : sp (vs ++ []) H1 Q E0 := q
    rwa [List.append_nil] at z
  have hl : (us ++ []).length = ps.length := by rw [List.append_nil, ← r.length]; exact G.len _ _ _ _ q'
  have hbb := hb s1 us I1.kIn hl
  rw [List.append_nil] at hbb
  refine wpAny_call (codeAny_mono (G.run X.A X.stack s1 H1 ⟨us, []⟩ us vs Q E0 hgd hr I1.env0 hbb r q') fun r s' hq => ?_)
  match r, hq with
  | .error _, hq => exact False.elim hq
  | .ok (.ret u), hq => exact I1.after hq
  | .ok .next, hq => exact False.elim hq
  | .ok .brk, hq => exact False.elim hq
  | .ok .cont, hq => exact False.elim hq
end
/-! ### the law's end -/
/-- the abstract heap at the law's entry: the script alone, if it is none of the module's own objects -/
def H00 (K : PySem.W.Frag) (a : Addr) (o : Obj) (ns : List Int) : Hp := fun b => if b = a ∧ K.lookup a = none then some (.frz o (.lst (ns.map V.int))) else none
theorem law_g {P : Program} {w : World} {K : PySem.W.Frag} {mg mb : Str → Option Value} {k : Nat} {fa a : Addr} {fd : FuncData} {x : Str} {sp : Sp} {s₁ : Shared} {vs : List Value} {ns : List Int}
    (KX : K.In s₁.heap) (hns : s₁.heap.Ns mainGlobals mg) (hb : s₁.heap.Ns builtinsNs mb) (hbb : ∀ x : Str, x ≠ "__name__" → mb x = bootBuiltins x) (hlim : s₁.heap.NoLimit) (hg : s₁.gens = #[])
    (ha : s₁.heap.get? a = some { cls := .type "list", data := .seq vs.toArray }) (hi : IntsAre vs ns) (hl : ns.length ≤ sizeLine) (hr : Room k callerA)
    (F : ∀ base : Heap, K.In base → base.Ns mainGlobals mg → GOk P w K mg base k fa fd [x] sp) (hbind : ∀ (s : Shared) (u : Value), BindsTo s fd ⟨[u], []⟩ [(x, u)])
    (hsp : ∀ H : Hp, SqL K H a (ns.map V.int) → sp [.ref a] H (fun v _ => v = .bl true) fun _ _ _ => False) :
    codeAny (model P w) callerA (.call (.ref fa) ⟨[.ref a], []⟩) (fun r s' => r = .ok (.ret (.bool true)) ∧ OldK s₁.heap s'.heap ∧ s'.os = s₁.os ∧ AllBare s'.gens) s₁ := by
  have rv := vals_ints hi
  generalize hO : ({ cls := .type "list", data := .seq vs.toArray } : Obj) = o at ha
  generalize hH : H00 K a o ns = H
  have tr : ∀ b u, H b = some u → b = a ∧ K.lookup a = none ∧ u = .frz o (.lst (ns.map V.int)) := fun b u e => by
    rw [← hH] at e
    unfold H00 at e
    by_cases c : b = a ∧ K.lookup a = none
    · rw [if_pos c] at e; exact ⟨c.1, c.2, (Option.some.inj e).symm⟩
    · rw [if_neg c] at e; cases e
  have own : s₁.heap.get? a = some { cls := .type "list", data := .seq vs.toArray } := by rw [hO]; exact ha
  have okF : HOk P w H s₁.heap := fun b u e => by
    obtain ⟨rfl, _, rfl⟩ := tr b u e
    exact ⟨ha, by rw [List.length_map]; exact hl, vs, _, rv, own⟩
  have free : ∀ {b : Addr} {u : Obj}, s₁.heap.get? b = some u → (∀ es ep, o.data = .dict es ep → False) → (b = a → False) → H b = none := fun {b u} _ _ n => by
    cases q : H b with
    | none => rfl
    | some z => exact absurd (tr b z q).1 n
  have ndata : ∀ es ep, o.data = Data.dict es ep → False := fun es ep e => by rw [← hO] at e; cases e
  have hidn : ∀ {b : Addr} {m : Str → Option Value}, s₁.heap.Ns b m → (hidT s₁.heap H).Ns b m := fun {b m} ⟨u, es, ep, e, d, r⟩ => ⟨u, es, ep, hidT_get e (free e ndata fun z => by
    subst z
    rw [ha] at e
    cases e
    exact ndata _ _ d), d, r⟩
  have kin : K.In (hidT s₁.heap H) := fun b u e => hidT_get (KX b u e) (by
    cases q : H b with
    | none => rfl
    | some z =>
      obtain ⟨rfl, n, _⟩ := tr b z q
      rw [n] at e; cases e)
  have sq : SqL K H a (ns.map V.int) := by
    cases hk : K.lookup a with
    | none => exact .inl (.inr ⟨o, by rw [← hH]; unfold H00; rw [if_pos ⟨rfl, hk⟩]⟩)
    | some u =>
      have e := KX a u hk
      rw [own] at e
      cases e
      exact .inr ⟨_, vs.toArray, _, hk, rfl, rfl, rfl, by rw [List.size_toArray, hi.length]; exact hl, by simpa using rv⟩
  have hM : Mod K mg (hidT s₁.heap H) := ⟨kin, hidn hns, ⟨mb, hidn hb, hbb⟩, let ⟨mc, h1, h2⟩ := hlim; ⟨mc, hidn h1, h2⟩⟩
  have e0 : Env0 P w K mg (hidT s₁.heap H) callerA [] s₁ H := ⟨rfl, hM, fun b u e => of_hidT e, Nat.le_of_eq (hidT_size _ _), trivial, fun b hm => (by cases hm), okF, .of_eq hg⟩
  refine codeAny_mono ((F _ kin (hidn hns)).run callerA [] s₁ H ⟨[.ref a], []⟩ [.ref a] [.ref a] _ _ rfl hr e0 (hbind s₁ (.ref a)) (.cons rfl .nil) (hsp H sq)) fun r s' h => ?_
  match r, h with
  | .error _, h => exact False.elim h
  | .ok .next, h => exact False.elim h
  | .ok .brk, h => exact False.elim h
  | .ok .cont, h => exact False.elim h
  | .ok (.ret u), ⟨v, H', os, bare, un, ok', r', q⟩ =>
    obtain rfl : v = .bl true := q
    obtain rfl : u = Value.bool true := r'
    refine ⟨rfl, OldK.of_keep fun b u e => ?_, os, bare⟩
    cases q : H b with
    | none => exact un.keep b u e q (fun z => by cases z) (fun z => by cases z)
    | some z =>
      obtain ⟨rfl, _, rfl⟩ := tr b z q
      obtain ⟨e1, _⟩ := okF b _ q
      obtain ⟨e2, _⟩ := ok' b _ (un.frzs b o _ q)
      rw [e] at e1; cases e1
      exact e2
theorem walk_g {l : PySem.W.OpenLaw} {n k : Nat} {q : Program} {loose : List Str} {XP : (Str → Option Value) → Heap → Prop} {YP : World → Heap → Prop} {d : DefRec} {K : Params → PySem.W.Frag} {sp : World → Sp} {x : Str}
    (hn : l.most = some n) (hn2 : n ≤ sizeLine) (hdf : d.params.defaults = []) (hr : Room k callerA)
    (hY : ∀ (w : World) (h : Heap), YP w h → (K w.params).In h)
    (F : ∀ (w : World) (mg : Str → Option Value) (fa : Addr) (h : Heap), (K w.params).In h → h.Ns mainGlobals mg → mg d.name = some (.ref fa) →
      ∃ fd : FuncData, (∀ (s : Shared) (u : Value), BindsTo s fd ⟨[u], []⟩ [(x, u)]) ∧
        ∀ base : Heap, (K w.params).In base → base.Ns mainGlobals mg → GOk l.prog w (K w.params) mg base k fa fd [x] (sp w))
    (hsp : ∀ (w : World) (H : Hp) (a : Addr) (ns : List Int), ns.length ≤ n → SqL (K w.params) H a (ns.map V.int) → sp w [.ref a] H (fun v _ => v = .bl true) fun _ _ _ => False) :
    PySem.W.WalkO q loose XP YP l.row.toRowW d [] (fun f vs => PySem.call f vs) := by
  refine Att.attach_call hn hdf fun w s₀ s₁ mg mb fa o pm cd doc a vs ns G Y ho hd hcd hmg hobj hints hlen hg => ?_
  obtain ⟨fd, hb, hF⟩ := F w mg fa _ (hY w _ Y) G.T.g hmg
  exact law_g (hY w _ Y) G.T.g G.T.b G.T.builtins G.T.nolimit hg hobj hints (Nat.le_trans hlen hn2) hr hF hb fun H hS => hsp w H a ns hlen hS
end CD
/-! own words 5: a def of the text and its promise, by name -/
namespace CD
open PySem PySem.Spec PyProof.Rows L2
/-- no built-in's name is the text's own -/
structure Z (mg : Str → Option Value) : Prop where
  «all» : mg "all" = none
  «any» : mg "any" = none
  «bool» : mg "bool" = none
  «divmod» : mg "divmod" = none
  «enumerate» : mg "enumerate" = none
  «int» : mg "int" = none
  «isinstance» : mg "isinstance" = none
  «len» : mg "len" = none
  «list» : mg "list" = none
  «max» : mg "max" = none
  «min» : mg "min" = none
  «range» : mg "range" = none
  «repr» : mg "repr" = none
  «reversed» : mg "reversed" = none
  «set» : mg "set" = none
  «sorted» : mg "sorted" = none
  «str» : mg "str" = none
  «sum» : mg "sum" = none
  «tuple» : mg "tuple" = none
  «zip» : mg "zip" = none
/-- a def of the text, where it stands -/
def Def (K : PySem.W.Frag) (mg : Str → Option Value) (x : Str) (st : Stmt) (ps : List Str) : Prop :=
  ∃ f fd, Fun K x x st f fd ∧ mg x = some (.ref f) ∧ Binds K fd ps []
/-- what is known of a def by its name -/
def Cal (P : Program) (w : World) (K : PySem.W.Frag) (mg : Str → Option Value) (base : Heap) (k : Nat) (x : Str) (ps : List Str) (sp : Sp) : Prop :=
  ∃ f fd, FnOk P w K mg base CX0 k f fd ps sp ∧ mg x = some (.ref f) ∧ PySem.W.keepIn K (.ref f) = true ∧ Binds K fd ps []
def CalG (P : Program) (w : World) (K : PySem.W.Frag) (mg : Str → Option Value) (base : Heap) (k : Nat) (x : Str) (ps : List Str) (sp : Sp) : Prop :=
  ∃ f fd, GOk P w K mg base k f fd ps sp ∧ mg x = some (.ref f) ∧ PySem.W.keepIn K (.ref f) = true ∧ Binds K fd ps []
section
variable {P : Program} {w : World} {K : PySem.W.Frag} {mg : Str → Option Value} {base : Heap} {x : Str} {st : Stmt} {N ps : List Str} {k : Nat} {sp : Sp}
theorem Def.cal (D : Def K mg x st ps) (S : FnScope N ps (defScope st)) (len : ∀ vs H Q E, sp vs H Q E → vs.length = ps.length)
    (body : ∀ (f : Addr) (cdv : Value) (A : Around) (outer : List Env) (s : Shared) (H : Hp) (vs : List V) (Q : VK) (E : XK), Room k (A.deeper (envOfC x (defScope st) s.heap.objs.size f cdv)) → sp vs H Q E →
      ∃ t, PSs (cxOf CX0 P w K mg base N x (defScope st) f cdv A outer s H E).nox (defBody st) t ∧ t { nx := fun _ H' => Q .non H', rt := Q } (start N vs) H) : Cal P w K mg base (k + 1) x ps sp := by
  obtain ⟨f, fd, F, m, b⟩ := D
  exact ⟨f, fd, F.ok S len fun cdv A outer s H vs Q E => body f cdv A outer s H vs Q E, m, F.kp, b⟩
theorem Def.calG (D : Def K mg x st ps) (S : FnScope N ps (defScope st)) (len : ∀ vs H Q E, sp vs H Q E → vs.length = ps.length)
    (body : ∀ (f : Addr) (cdv : Value) (A : Around) (outer : List Env) (s : Shared) (H : Hp) (vs : List V) (Q : VK) (E : XK), A.guards = some [] → Room k (A.deeper (envOfC x (defScope st) s.heap.objs.size f cdv)) → sp vs H Q E →
      ∃ t, PSs (cxOf CX0 P w K mg base N x (defScope st) f cdv A outer s H E).nox (defBody st) t ∧ t { nx := fun _ H' => Q .non H', rt := Q } (start N vs) H) : CalG P w K mg base (k + 1) x ps sp := by
  obtain ⟨f, fd, F, m, b⟩ := D
  exact ⟨f, fd, g_ok F S len fun cdv A outer s H vs Q E => body f cdv A outer s H vs Q E, m, F.kp, b⟩
theorem Cal.mono {j : Nat} (C : Cal P w K mg base j x ps sp) (h : j ≤ k) : Cal P w K mg base k x ps sp := by
  obtain ⟨f, fd, F, r⟩ := C
  exact ⟨f, fd, F.mono h, r⟩
theorem Cal.imp {sp' : Sp} (C : Cal P w K mg base k x ps sp) (h : ∀ vs H Q E, sp' vs H Q E → sp vs H Q E) : Cal P w K mg base k x ps sp' := by
  obtain ⟨f, fd, F, r⟩ := C
  exact ⟨f, fd, F.imp h, r⟩
end
section
variable {X : Cx} {k : Nat} {ps : List Str} {sp : Sp} {x : Str} {p pos : Pos} {e : Expr} {es : List Expr} {t : TA}
theorem pe_cal (C : Cal X.prog X.w X.K X.mg X.base k x ps sp) (hr : Room k X.A) (hg : Gl X x) (ha : PA X (e :: es) t) (hdb : (x == ("__debug__" : Str)) = false := by decide)
    (he : starEach (e :: es) X.env = (false, eval e X.env) :: starEach es X.env := by rfl) (hpl : (backTo pos (starEach es X.env)).any (·.1) = false := by rfl) : PE X (.Call (.Name x p) (e :: es) [] pos) (tCall sp [] E0 t) := by
  obtain ⟨f, fd, F, m, kp, b⟩ := C
  exact pe_call F hr hg m kp b .nil pass0 ha hdb he hpl
theorem pe_cal0 (C : Cal X.prog X.w X.K X.mg X.base k x ps sp) (hr : Room k X.A) (hg : Gl X x) (hdb : (x == ("__debug__" : Str)) = false := by decide) : PE X (.Call (.Name x p) [] [] pos) (tCall sp [] E0 tNil) := by
  obtain ⟨f, fd, F, m, kp, b⟩ := C
  exact pe_call0 F hr hg m kp b .nil pass0 hdb
theorem pe_calG (C : CalG X.prog X.w X.K X.mg X.base k x ps sp) (hgd : X.A.guards = some []) (hr : Room k X.A) (hg : Gl X x) (ha : PA X (e :: es) t) (hdb : (x == ("__debug__" : Str)) = false := by decide)
    (he : starEach (e :: es) X.env = (false, eval e X.env) :: starEach es X.env := by rfl) (hpl : (backTo pos (starEach es X.env)).any (·.1) = false := by rfl) : PE X (.Call (.Name x p) (e :: es) [] pos) (tCall sp [] E0 t) := by
  obtain ⟨f, fd, F, m, kp, b⟩ := C
  exact pe_callG F hgd hr hg m kp b ha hdb he hpl
end
/-- what was tracked stays; a new object besides -/
theorem same_upd {H : Hp} {p : Addr} {o : HO} (h : H p = none) : Same H (upd H p o) := fun b x e => by
  rw [upd_ne (ne_of_none e h)]
  exact e
theorem _root_.L2.Same.tup {K : PySem.W.Frag} {H H' : Hp} {a : Addr} {xs : List V} (e : Same H H') (h : SqT K H a xs) : SqT K H' a xs := by
  rcases h with (h | ⟨o, h⟩) | h
  · exact .inl (.inl (e _ _ h))
  · exact .inl (.inr ⟨o, e _ _ h⟩)
  · exact .inr h
/-- a comprehension in which each turn gives what h says of the item, and changes nothing that was tracked -/
theorem lc_std {J : It} {n : Nat} {G : Hp → Prop} {Y : Nat → Hp → V → Hp → Prop} {α : Type} (w : Walk J n G Y) {g : TG} {tt : TT} {te : TE} {vs : List Nat} {σ : L2.St} {H1 : Hp} {D : Addr} {Qd : Hp → Prop}
    (ys : List α) (h : α → Option V) (hn : ys.length = n) (hz : n < sizeLine) (hD : H1 D = none) (hG : ∀ H, Same H1 H → G H)
    (hs : ∀ i x H H' a (R : Option V → Hp → Prop), ys[i]? = some a → Same H1 H → Y i H x H' → (∀ H4, Same H H4 → R (h a) H4) →
      g x (wipe σ vs) H' fun σ2 H2 => wipe σ2 vs = wipe σ vs ∧ tt σ2 H2 fun b H3 => if b = true then te σ2 H3 fun y H4 => R (some y) H4 else R none H3)
    (hd : ∀ H, Same H1 H → H D = some (.lst (ys.filterMap h)) → Qd H) :
    ∃ W : Nat → Nat → Hp → Prop, (∃ m, W 0 m (upd H1 D (.lst []))) ∧ ∀ i m H, W i m H →
      (J.stop i H ∧ Qd H) ∨ (J.go i H ∧ ∃ Nx : Hp → Prop, (∀ H', Nx H' → ∃ m', m' < m ∧ W (i + 1) m' H') ∧ ∀ x H', J.yld i H x H' → g x (wipe σ vs) H' fun σ2 H2 => wipe σ2 vs = wipe σ vs ∧ tt σ2 H2 fun b H3 =>
        if b = true then te σ2 H3 fun y H4 => ∃ acc, H4 D = some (.lst acc) ∧ acc.length < sizeLine ∧ Nx (upd H4 D (.lst (acc ++ [y]))) else Nx H3) := by
  refine lc_it w (fun i H => Same H1 H ∧ H D = some (.lst ((ys.take i).filterMap h))) ⟨same_upd hD, by rw [upd_same]; rfl⟩ (fun i H _ q => hG H q.1) (fun i x H H' hi q y => ?_) fun H q => hd H q.1 (by rw [q.2, ← hn, List.take_length])
  obtain ⟨sm, eD⟩ := q
  have hi' : i < ys.length := by omega
  have ha : ys[i]? = some ys[i] := List.getElem?_eq_getElem hi'
  have tk : (ys.take (i + 1)).filterMap h = (ys.take i).filterMap h ++ (h ys[i]).toList := by
    rw [List.take_add_one, ha, List.filterMap_append]
    cases e : h ys[i] <;> simp [e]
  have ln : ((ys.take i).filterMap h).length < sizeLine := by
    have z := List.length_filterMap_le h (ys.take i)
    rw [List.length_take] at z
    omega
  have go := hs i x H H' ys[i] (fun o H4 => match o with
    | some y => ∃ acc, H4 D = some (.lst acc) ∧ acc.length < sizeLine ∧ (Same H1 (upd H4 D (.lst (acc ++ [y]))) ∧ (upd H4 D (.lst (acc ++ [y]))) D = some (.lst ((ys.take (i + 1)).filterMap h)))
    | none => Same H1 H4 ∧ H4 D = some (.lst ((ys.take (i + 1)).filterMap h))) ha sm y (fun H4 s4 => by
      have e4 : H4 D = some (.lst ((ys.take i).filterMap h)) := s4 _ _ eD
      cases e : h ys[i] with
      | none =>
        rw [e] at tk
        exact ⟨sm.trans s4, by rw [e4, tk]; simp⟩
      | some y =>
        rw [e] at tk
        refine ⟨_, e4, ln, fun b o eb => ?_, ?_⟩
        · have nb : b ≠ D := ne_of_none eb hD
          rw [upd_ne nb]
          exact s4 _ _ (sm _ _ eb)
        · rw [upd_same, tk]
          simp)
  exact go
/-! ### tuples -/
theorem tyx_tup {K : PySem.W.Frag} {H : Hp} {a : Addr} {xs : List V} (h : SqT K H a xs) : TyX K H (.ref a) (.type "tuple") := by
  rcases h with (h | ⟨o, h⟩) | ⟨o, its, n, h, c, _⟩
  · exact .base (.tup h)
  · exact .fTuple h
  · exact .kTuple h c
theorem cut_tail (xs : List V) : cutV xs (some 1) none = xs.tail := by
  unfold cutV
  rw [show HT.sIx xs.length 0 (some 1) = min 1 xs.length from HT.sIx_nat xs.length 0 1, HT.sIx_none]
  cases xs with
  | nil => rfl
  | cons x r =>
    have e : min 1 (x :: r).length = 1 := by rw [List.length_cons]; omega
    rw [e]
    show List.take ((x :: r).length - 1) r = r
    rw [List.length_cons, Nat.add_sub_cancel, List.take_length]
/-- t[1:] -/
theorem sl_tail {K : PySem.W.Frag} {H : Hp} {a : Addr} {xs : List V} {R : VK} (hS : SqT K H a xs) (h : ∀ c Hc, Same H Hc → SqT K Hc c xs.tail → R (.ref c) Hc) : rSlA K (.ref a) (some 1) none H R := by
  refine ⟨a, xs, rfl, hS, fun e => ?_, fun _ p hp => ?_⟩
  · have e1 : HT.sIx xs.length 0 (some 1) = min 1 xs.length := HT.sIx_nat xs.length 0 1
    have e2 : xs = [] := by
      cases xs with
      | nil => rfl
      | cons x r =>
        have z := e.1
        rw [e1, List.length_cons] at z
        omega
    subst e2
    exact h a H (Same.refl H) hS
  · exact h p _ (same_upd hp) (.inl (.inl (by rw [upd_same, cut_tail])))
/-- t + u, u new -/
theorem cat_new {K : PySem.W.Frag} {H : Hp} {a b : Addr} {xs ys : List V} {R : VK} (hS : SqT K H a xs) (hb : H b = some (.tup ys)) (hy : ys ≠ []) (hz : xs.length + ys.length ≤ 1000)
    (h : ∀ c Hc, Same H Hc → Hc c = some (.tup (xs ++ ys)) → R (.ref c) Hc) : rCatA K (.ref a) (.ref b) H R := by
  refine ⟨a, b, xs, ys, rfl, rfl, hS, .inl (.inl hb), Nat.le_of_lt (small1000 hz), fun e => ?_, fun _ e => absurd e hy, fun _ _ p hp => h p _ (same_upd hp) upd_same⟩
  subst e
  exact h b H (Same.refl H) hb
/-- t[-i], i from 1 to the length -/
theorem at_neg {α : Type} {xs : List α} {i : Nat} {v : α} (h1 : 1 ≤ i) (h2 : i ≤ xs.length) (h : xs[xs.length - i]? = some v) : atI xs (-(i : Int)) = some v := by
  have e : ixN xs.length (-(i : Int)) = some (xs.length - i) := by
    unfold ixN
    rw [if_neg (by omega)]
    rw [if_pos (by omega)]
    congr 1
    omega
  unfold atI
  rw [e]
  exact h
theorem walk_zipT {K : PySem.W.Frag} {a b : Addr} {xs ys : List V} {n : Nat} (hn : n = min xs.length ys.length) : Walk (RZ.ItzT K a b) n (fun H => SqT K H a xs ∧ SqT K H b ys) (YPair (fun i => xs[i]?) (fun i => ys[i]?)) := by
  subst hn
  refine ⟨fun i _ hi q => ?_, fun _ q => ⟨xs, ys, q.1, q.2, by omega⟩, fun i H v H' _ q y => ?_⟩
  · have h1 : i < xs.length := by omega
    have h2 : i < ys.length := by omega
    exact ⟨xs, ys, xs[i], ys[i], q.1, q.2, by simp [h1], by simp [h2]⟩
  · obtain ⟨T, x, y', h1, h2, h3, h4, h5⟩ := y
    exact ⟨T, x, y', h1, h2, h3, h4 _ q.1, h5 _ q.2⟩
theorem map_at {α β : Type} {f : α → β} {xs : List α} {i : Nat} {a : α} {b : β} (h : xs[i]? = some a) (g : (xs.map f)[i]? = some b) : b = f a := by
  rw [List.getElem?_map, h] at g
  exact (Option.some.inj g).symm
theorem filterMap_some {α β : Type} (f : α → β) : ∀ xs : List α, xs.filterMap (fun x => some (f x)) = xs.map f
  | [] => rfl
  | x :: r => by rw [List.filterMap_cons, List.map_cons, filterMap_some f r]
theorem pe_globI {X : Cx} {x : Str} {pos : Pos} {n : Int} {t : Tok} (hg : Gl X x) (hm : X.mg x = some (.int n t)) (hd : (x == ("__debug__" : Str)) = false := by decide) : PE X (.Name x pos) (tC (.int n)) := by
  first
    | exact pe_glob hg hm ⟨t, rfl⟩ hd
    | exact pe_glob hg hm ⟨t, rfl⟩
theorem ix_tupK {X : Cx} {K : PySem.W.Frag} (h : X.K = K) : IxR X (rIxT K) := h ▸ ix_tup
theorem ix_listK {X : Cx} {K : PySem.W.Frag} (h : X.K = K) : IxR X (rIxL K) := h ▸ ix_list
/-- t * k -/
theorem rep_any {K : PySem.W.Frag} {H : Hp} {l : Addr} {xs : List V} {k : Nat} {v : V} {R : VK} (e : v = .int k) (hS : SqT K H l xs) (hx : xs ≠ []) (hk : k ≤ 1000) (hl : xs.length ≤ 1000)
    (h : ∀ c Hc, Same H Hc → SqT K Hc c (List.replicate k xs).flatten → R (.ref c) Hc) : rRepA K (.ref l) v H R := by
  refine ⟨l, xs, k, rfl, e, hS, hx, hk, hl, fun e1 => ?_, fun _ p np => h p _ (same_upd np) (.inl (.inl upd_same))⟩
  subst e1
  refine h l H (Same.refl H) ?_
  have z : (List.replicate 1 xs).flatten = xs := by simp
  rw [z]
  exact hS
theorem flat_one {α : Type} (x : α) : ∀ n : Nat, (List.replicate n [x]).flatten = List.replicate n x
  | 0 => rfl
  | n + 1 => by rw [List.replicate_succ, List.flatten_cons, flat_one x n]; rfl
theorem in_ints (n : Int) : ∀ ns : List Int, inV (.int n) (ns.map V.int) = decide (n ∈ ns)
  | [] => rfl
  | k :: r => by
    have ih := in_ints n r
    unfold inV at ih ⊢
    rw [List.map_cons, List.any_cons, ih]
    show (k == n || decide (n ∈ r)) = _
    by_cases c : n = k
    · subst c; simp
    · have c2 : (k == n) = false := by simpa using fun e => c e.symm
      rw [c2, Bool.false_or]
      exact decide_eq_decide.mpr ⟨fun h => List.mem_cons_of_mem _ h, fun h => (List.mem_cons.mp h).resolve_left c⟩
theorem flat_ints : ∀ ns : List Int, (ns.map V.int).all flatV = true
  | [] => rfl
  | _ :: r => flat_ints r
/-! ### data of ints -/
theorem dp_ints {K : PySem.W.Frag} {H : Hp} : ∀ ns : List Int, DpAll K H (ns.map V.int) (ns.map PyData.int)
  | [] => .nil
  | n :: r => .cons (.int n) (dp_ints r)
theorem can_ints : ∀ ns : List Int, PyData.canLayAll0 (ns.map PyData.int) = true
  | [] => by rw [List.map_nil, PyData.canLayAll0]
  | n :: r => by rw [List.map_cons, PyData.canLayAll0, can_ints r, PyData.canLay0]; rfl
theorem shaped_ints (ns : List Int) : SeqAt.shaped (.list (ns.map PyData.int)) = true := by
  unfold SeqAt.shaped
  rw [PyData.canLay0, can_ints, PyData.depth, depth_ints]
  decide
theorem eqv_nil (ns : List Int) : PyData.eqv (.list (ns.map PyData.int)) (.list []) = ns.isEmpty := by
  cases ns with
  | nil => rw [List.map_nil, PyData.eqv, PyData.eqvAll]; rfl
  | cons n r => rw [List.map_cons, PyData.eqv, PyData.eqvAll]; rfl
/-- xs != [] of a list of ints, the other one new -/
theorem ne_nil {K : PySem.W.Frag} {H : Hp} {g p : Addr} {ns : List Int} {R : VK} (hg : SqL K H g (ns.map V.int)) (hp : H p = some (.lst [])) (h : R (.bl (!ns.isEmpty)) H) : rNeD K (.ref g) (.ref p) H R := by
  refine ⟨.list (ns.map .int), .list [], .lst hg (dp_ints ns), .lst (.inl (.inl hp)) .nil, shaped_ints ns, shaped_ints [], ?_⟩
  rw [eqv_nil]
  exact h
/-! ### a step into a reading -/
theorem seq_go {t u : TS} {D : Ends} {σ : L2.St} {H : Hp} (h : t { D with nx := fun σ1 H1 => u D σ1 H1 } σ H) : tSeq t u D σ H := h
theorem asg_go {te : TE} {g : TG} {D : Ends} {σ : L2.St} {H : Hp} (h : te σ H fun v H1 => g v σ H1 D.nx) : tAsg te g D σ H := h
theorem drop_go {te : TE} {D : Ends} {σ : L2.St} {H : Hp} (h : te σ H fun _ H1 => D.nx σ H1) : tDrop te D σ H := h
theorem ret_go {te : TE} {D : Ends} {σ : L2.St} {H : Hp} (h : te σ H D.rt) : tRet te D σ H := h
theorem lst_go {t : TA} {σ : L2.St} {H : Hp} {Q : VK} (h : t σ H fun xs H1 => xs.length ≤ sizeLine ∧ ∀ p, H1 p = none → Q (.ref p) (upd H1 p (.lst xs))) : tLst t σ H Q := h
theorem tup_go {t : TA} {σ : L2.St} {H : Hp} {Q : VK} (h : t σ H fun xs H1 => xs.length ≤ sizeLine ∧ ∀ p, H1 p = none → Q (.ref p) (upd H1 p (.tup xs))) : tTup t σ H Q := h
theorem cons_go {ta : TE} {tr : TA} {σ : L2.St} {H : Hp} {Q : List V → Hp → Prop} (h : ta σ H fun x H1 => tr σ H1 fun xs H2 => Q (x :: xs) H2) : tCons ta tr σ H Q := h
theorem op_go {r : R2} {ta tb : TE} {σ : L2.St} {H : Hp} {Q : VK} (h : ta σ H fun x H1 => tb σ H1 fun y H2 => r x y H2 Q) : tOp r ta tb σ H Q := h
theorem cb_go {r : List V → Hp → VK → Prop} {t : TA} {σ : L2.St} {H : Hp} {Q : VK} (h : t σ H fun vs H1 => r vs H1 Q) : tCB r t σ H Q := h
theorem call_go {sp : Sp} {dvs : List V} {E : XK} {t : TA} {σ : L2.St} {H : Hp} {Q : VK} (h : t σ H fun vs H1 => sp (vs ++ dvs) H1 Q E) : tCall sp dvs E t σ H Q := h
end CD
set_option maxHeartbeats 1000000
namespace LK
open PySem PySem.Spec PyProof.Rows L2 CD CDS
def topS (i : Nat) : Stmt := PySem.Challenge.pw_callsdown_k01_whole_shapes.main.body.getD i (.Pass ⟨0, 0, 0, 0⟩)
abbrev s_is_integer : Stmt := topS 6
abbrev n_is_integer : List Str := ["thing"]
abbrev p_is_integer : List Str := ["thing"]
theorem sc_is_integer : FnScope n_is_integer p_is_integer (defScope s_is_integer) := ⟨rfl, rfl, rfl, by decide +kernel, rfl, by decide +kernel, by decide +kernel⟩
abbrev s_is_number : Stmt := topS 7
abbrev n_is_number : List Str := ["thing", "low", "high"]
abbrev p_is_number : List Str := ["thing", "low", "high"]
theorem sc_is_number : FnScope n_is_number p_is_number (defScope s_is_number) := ⟨rfl, rfl, rfl, by decide +kernel, rfl, by decide +kernel, by decide +kernel⟩
abbrev s_is_ascending : Stmt := topS 8
abbrev n_is_ascending : List Str := ["things", "one", "behind"]
abbrev p_is_ascending : List Str := ["things"]
theorem sc_is_ascending : FnScope n_is_ascending p_is_ascending (defScope s_is_ascending) := ⟨rfl, rfl, rfl, by decide +kernel, rfl, by decide +kernel, by decide +kernel⟩
abbrev s_is_row : Stmt := topS 9
abbrev n_is_row : List Str := ["thing", "most", "low", "high", "one"]
abbrev p_is_row : List Str := ["thing", "most", "low", "high"]
theorem sc_is_row : FnScope n_is_row p_is_row (defScope s_is_row) := ⟨rfl, rfl, rfl, by decide +kernel, rfl, by decide +kernel, by decide +kernel⟩
abbrev s_need_people : Stmt := topS 10
abbrev n_need_people : List Str := ["people"]
abbrev p_need_people : List Str := ["people"]
theorem sc_need_people : FnScope n_need_people p_need_people (defScope s_need_people) := ⟨rfl, rfl, rfl, by decide +kernel, rfl, by decide +kernel, by decide +kernel⟩
abbrev s_need_kind : Stmt := topS 16
abbrev n_need_kind : List Str := ["thing", "fits"]
abbrev p_need_kind : List Str := ["thing"]
theorem sc_need_kind : FnScope n_need_kind p_need_kind (defScope s_need_kind) := ⟨rfl, rfl, rfl, by decide +kernel, rfl, by decide +kernel, by decide +kernel⟩
abbrev s_is_lot : Stmt := topS 17
abbrev n_is_lot : List Str := ["people", "value"]
abbrev p_is_lot : List Str := ["people", "value"]
theorem sc_is_lot : FnScope n_is_lot p_is_lot (defScope s_is_lot) := ⟨rfl, rfl, rfl, by decide +kernel, rfl, by decide +kernel, by decide +kernel⟩
abbrev s_most_told : Stmt := topS 18
abbrev n_most_told : List Str := ["calls", "ticks", "mosts", "_"]
abbrev p_most_told : List Str := ["calls", "ticks"]
theorem sc_most_told : FnScope n_most_told p_most_told (defScope s_most_told) := ⟨rfl, rfl, rfl, by decide +kernel, rfl, by decide +kernel, by decide +kernel⟩
abbrev s_need_calls : Stmt := topS 19
abbrev n_need_calls : List Str := ["calls"]
abbrev p_need_calls : List Str := ["calls"]
theorem sc_need_calls : FnScope n_need_calls p_need_calls (defScope s_need_calls) := ⟨rfl, rfl, rfl, by decide +kernel, rfl, by decide +kernel, by decide +kernel⟩
abbrev s_mosts_to : Stmt := topS 20
abbrev n_mosts_to : List Str := ["calls", "people", "mosts"]
abbrev p_mosts_to : List Str := ["calls", "people"]
theorem sc_mosts_to : FnScope n_mosts_to p_mosts_to (defScope s_mosts_to) := ⟨rfl, rfl, rfl, by decide +kernel, rfl, by decide +kernel, by decide +kernel⟩
abbrev s_sizes : Stmt := topS 21
abbrev n_sizes : List Str := ["kind", "count", "first"]
abbrev p_sizes : List Str := ["kind", "count"]
theorem sc_sizes : FnScope n_sizes p_sizes (defScope s_sizes) := ⟨rfl, rfl, rfl, by decide +kernel, rfl, by decide +kernel, by decide +kernel⟩
abbrev s__most_behind : Stmt := topS 22
abbrev n__most_behind : List Str := ["calls", "mosts"]
abbrev p__most_behind : List Str := ["calls", "mosts"]
theorem sc__most_behind : FnScope n__most_behind p__most_behind (defScope s__most_behind) := ⟨rfl, rfl, rfl, by decide +kernel, rfl, by decide +kernel, by decide +kernel⟩
abbrev s__like_parts : Stmt := topS 23
abbrev n__like_parts : List Str := ["most", "count", "many", "size", "more"]
abbrev p__like_parts : List Str := ["most", "count"]
theorem sc__like_parts : FnScope n__like_parts p__like_parts (defScope s__like_parts) := ⟨rfl, rfl, rfl, by decide +kernel, rfl, by decide +kernel, by decide +kernel⟩
abbrev s__half_parts : Stmt := topS 24
abbrev n__half_parts : List Str := ["count", "parts", "left"]
abbrev p__half_parts : List Str := ["count"]
theorem sc__half_parts : FnScope n__half_parts p__half_parts (defScope s__half_parts) := ⟨rfl, rfl, rfl, by decide +kernel, rfl, by decide +kernel, by decide +kernel⟩
abbrev s__best_parts : Stmt := topS 25
abbrev n__best_parts : List Str := ["calls", "count", "mosts", "parts", "left", "most"]
abbrev p__best_parts : List Str := ["calls", "count"]
theorem sc__best_parts : FnScope n__best_parts p__best_parts (defScope s__best_parts) := ⟨rfl, rfl, rfl, by decide +kernel, rfl, by decide +kernel, by decide +kernel⟩
abbrev s__below : Stmt := topS 26
abbrev n__below : List Str := ["calls", "person", "people", "first", "last", "many"]
abbrev p__below : List Str := ["calls", "person", "people"]
theorem sc__below : FnScope n__below p__below (defScope s__below) := ⟨rfl, rfl, rfl, by decide +kernel, rfl, by decide +kernel, by decide +kernel⟩
abbrev s__law_begun : Stmt := topS 28
abbrev n__law_begun : List Str := ["script", "cell"]
abbrev p__law_begun : List Str := ["script"]
theorem sc__law_begun : FnScope n__law_begun p__law_begun (defScope s__law_begun) := ⟨rfl, rfl, rfl, by decide +kernel, rfl, by decide +kernel, by decide +kernel⟩
abbrev s__law_next : Stmt := topS 29
abbrev n__law_next : List Str := ["m", "total", "rest", "k", "cell", "mixed"]
abbrev p__law_next : List Str := ["m", "total"]
theorem sc__law_next : FnScope n__law_next p__law_next (defScope s__law_next) := ⟨rfl, rfl, rfl, by decide +kernel, rfl, by decide +kernel, by decide +kernel⟩
abbrev s__law_kind : Stmt := topS 30
abbrev n__law_kind : List Str := ["m", "word"]
abbrev p__law_kind : List Str := ["m"]
theorem sc__law_kind : FnScope n__law_kind p__law_kind (defScope s__law_kind) := ⟨rfl, rfl, rfl, by decide +kernel, rfl, by decide +kernel, by decide +kernel⟩
abbrev s__law_most_row : Stmt := topS 31
abbrev n__law_most_row : List Str := ["calls", "total", "row"]
abbrev p__law_most_row : List Str := ["calls", "total"]
theorem sc__law_most_row : FnScope n__law_most_row p__law_most_row (defScope s__law_most_row) := ⟨rfl, rfl, rfl, by decide +kernel, rfl, by decide +kernel, by decide +kernel⟩
abbrev s__law_below : Stmt := topS 32
abbrev n__law_below : List Str := ["number", "count", "level", "rest", "found", "k", "more", "one"]
abbrev p__law_below : List Str := ["number", "count"]
theorem sc__law_below : FnScope n__law_below p__law_below (defScope s__law_below) := ⟨rfl, rfl, rfl, by decide +kernel, rfl, by decide +kernel, by decide +kernel⟩
abbrev s__law_sizes : Stmt := topS 33
abbrev n__law_sizes : List Str := ["kind", "count", "found", "left", "k", "size", "told"]
abbrev p__law_sizes : List Str := ["kind", "count"]
theorem sc__law_sizes : FnScope n__law_sizes p__law_sizes (defScope s__law_sizes) := ⟨rfl, rfl, rfl, by decide +kernel, rfl, by decide +kernel, by decide +kernel⟩
abbrev s__law_right : Stmt := topS 34
abbrev n__law_right : List Str := ["m", "kind", "counts", "count", "due"]
abbrev p__law_right : List Str := ["m", "kind"]
theorem sc__law_right : FnScope n__law_right p__law_right (defScope s__law_right) := ⟨rfl, rfl, rfl, by decide +kernel, rfl, by decide +kernel, by decide +kernel⟩
abbrev s__law_most_right : Stmt := topS 35
abbrev n__law_most_right : List Str := ["m", "calls", "row", "ticks", "long"]
abbrev p__law_most_right : List Str := ["m", "calls"]
theorem sc__law_most_right : FnScope n__law_most_right p__law_most_right (defScope s__law_most_right) := ⟨rfl, rfl, rfl, by decide +kernel, rfl, by decide +kernel, by decide +kernel⟩
abbrev s_law : Stmt := topS 36
abbrev n_law : List Str := ["script", "m", "turn", "kind"]
abbrev p_law : List Str := ["script"]
theorem sc_law : FnScope n_law p_law (defScope s_law) := ⟨rfl, rfl, rfl, by decide +kernel, rfl, by decide +kernel, by decide +kernel⟩
section
variable {P : Program} {w : World} {K : PySem.W.Frag} {mg : Str → Option Value} {base : Heap}
/-! ### checks -/
def spNum : Sp := fun vs H Q _ => ∃ n lo hi : Int, vs = [.int n, .int lo, .int hi] ∧ Q (.bl (decide (lo ≤ n ∧ n ≤ hi))) H
def spInt1 : Sp := fun vs H Q _ => ∃ n : Int, vs = [.int n] ∧ Q (.bl true) H
theorem cal_is_integer (z : Z mg) (D : Def K mg "is_integer" s_is_integer p_is_integer) : Cal P w K mg base 1 "is_integer" p_is_integer spInt1 := by
  refine D.cal sc_is_integer (fun vs H Q E h => by obtain ⟨_, rfl, _⟩ := h; rfl) fun f cdv A outer s H vs Q E hr h => ?_
  obtain ⟨n, rfl, q⟩ := h
  refine ⟨_, (pss_one (ps_ret (pe_and (pe_callB (call_isi) (by rfl) z.«isinstance» (by decide +kernel) (pa_cons (pv 0) (pa_cons (pe_bltn (v := .ty "int") (by rfl) z.«int» (by decide +kernel) rfl) pa_nil))) (pe_one (pe_not (pe_callB (call_isi) (by rfl) z.«isinstance» (by decide +kernel) (pa_cons (pv 0) (pa_cons (pe_bltn (v := .ty "bool") (by rfl) z.«bool» (by decide +kernel) rfl) pa_nil)))))))), ?_⟩
  refine ⟨.int n, rfl, .int n, .ty "int", .type "int", .type "int", true, rfl, .ty _, .base (.int n), kit_ty (by decide +kernel), true, rfl, iteT ?_⟩
  exact ⟨.int n, rfl, .int n, .ty "bool", .type "int", .type "bool", false, rfl, .ty _, .base (.int n), kit_ty (by decide +kernel), false, rfl, q⟩
theorem cal_is_number (z : Z mg) (c_is_integer : Cal P w K mg base 1 "is_integer" p_is_integer spInt1) (D : Def K mg "is_number" s_is_number p_is_number) : Cal P w K mg base 2 "is_number" p_is_number spNum := by
  refine D.cal sc_is_number (fun vs H Q E h => by obtain ⟨_, _, _, rfl, _⟩ := h; rfl) fun f cdv A outer s H vs Q E hr h => ?_
  obtain ⟨n, lo, hi, rfl, q⟩ := h
  refine ⟨_, (pss_one (ps_ret (pe_and (pe_cal c_is_integer (hr.mono (by decide)) (by rfl) (pa_cons (pv 0) pa_nil)) (pe_one (pe_chain op_le op_le (pv 1) (pv 0) (pv 2)))))), ?_⟩
  refine ⟨.int n, rfl, n, rfl, true, rfl, iteT ?_⟩
  refine ⟨.int lo, rfl, .int n, rfl, lo, n, rfl, rfl, _, rfl, ite2 (fun e => ?_) (fun e => ?_)⟩
  · have e' : lo ≤ n := of_decide_eq_true e
    refine ⟨.int hi, rfl, n, hi, rfl, rfl, ?_⟩
    show Q (.bl (decide (n ≤ hi))) H
    rw [show decide (n ≤ hi) = decide (lo ≤ n ∧ n ≤ hi) from decide_eq_decide.mpr ⟨fun x => ⟨e', x⟩, fun x => x.2⟩]
    exact q
  · have e' : ¬ lo ≤ n := fun x => e (decide_eq_true x)
    show Q (.bl false) H
    rw [show false = decide (lo ≤ n ∧ n ≤ hi) from (decide_eq_false fun x => e' x.1).symm]
    exact q
def spAsc (K : PySem.W.Frag) : Sp := fun vs H Q _ => ∃ (a : Addr) (ns : List Int), vs = [.ref a] ∧ SqT K H a (ns.map V.int) ∧ ns.length ≤ 1000 ∧ ∀ H', Same H H' → Q (.bl (ascB ns)) H'
theorem cal_is_ascending (z : Z mg) (D : Def K mg "is_ascending" s_is_ascending p_is_ascending) : Cal P w K mg base 2 "is_ascending" p_is_ascending (spAsc K) := by
  refine D.cal sc_is_ascending (fun vs H Q E h => by obtain ⟨_, _, rfl, _⟩ := h; rfl) fun f cdv A outer s H vs Q E hr h => ?_
  obtain ⟨a, ns, rfl, hS, hl, q⟩ := h
  refine ⟨_, (pss_one (ps_ret (pe_callB (cr_all rfl) (by rfl) z.«all» (by decide +kernel) (pa_cons (pe_lc (own := [("one", 1), ("behind", 2)]) (g := (gTup K 2 (gCons (gName 1) (gCons (gName 2) gNil)))) (tt := tYes) rfl sc_is_ascending.nd (RZ.pi_zipA (by rfl) z.«zip» (pa_cons (pv 0) (pa_cons (pe_slice sl_tupA (pv 0) (po_some pe_int) po_none) pa_nil))) (blkOk_by (N := n_is_ascending) (sc := defScope s_is_ascending) (by decide +kernel)) (fun _ _ _ _ _ => (pg_tup rfl (pgs_cons (pg_name (i := 1) sc_is_ascending.nd rfl (Or.inl rfl)) (pgs_cons (pg_name (i := 2) sc_is_ascending.nd rfl (Or.inl rfl)) pgs_nil)))) (fun _ _ _ _ _ => pts_nil) (fun _ _ _ _ _ => (pe_cmpR op_lt (pv 1) (pv 2) (nomark _)))) pa_nil)))), ?_⟩
  refine ⟨.ref a, rfl, .ref a, rfl, 1, rfl, ?_⟩
  dsimp only [tNoPart]
  refine sl_tail hS fun c Hc sm hc => ?_
  refine ⟨a, c, _, _, rfl, .inr ⟨sm.tup hS, hc, fun L nL => ?_⟩⟩
  refine lc_std (walk_zipT (K := K) (a := a) (b := c) (xs := ns.map V.int) (ys := (ns.map V.int).tail) rfl) (ns.zip ns.tail) (fun p => some (.bl (decide (p.1 < p.2)))) ?_ (small1000 ?_) nL (fun H2 s2 => ⟨s2.tup (sm.tup hS), s2.tup hc⟩) (fun i x H2 H3 p R hp s2 y hR => ?_) (fun H2 s2 e => ?_)
  · simp only [List.length_zip, List.length_tail, List.length_map]
  · simp only [List.length_tail, List.length_map]; omega
  · obtain ⟨T, v1, v2, rfl, nT, rfl, g1, g2⟩ := y
    have sT : Same H2 (upd H2 T (.tup [v1, v2])) := same_upd nT
    obtain ⟨k1, k2⟩ := zip_at hp
    obtain rfl := map_at k1 g1
    rw [← List.map_tail] at g2
    obtain rfl := map_at k2 g2
    refine ⟨T, _, rfl, .inl (.inl upd_same), rfl, _, _, rfl, _, _, rfl, rfl, rfl, ?_⟩
    exact ⟨_, rfl, _, rfl, p.1, p.2, rfl, rfl, hR _ sT⟩
  · refine ⟨L, (ns.zip ns.tail).map fun p => decide (p.1 < p.2), rfl, .inl (.inl ?_), ?_⟩
    · rw [e, filterMap_some, List.map_map]
      rfl
    · have e2 : ((ns.zip ns.tail).map fun p => decide (p.1 < p.2)).all id = ascB ns := by
        unfold ascB
        rw [List.all_map]
        rfl
      rw [e2]
      exact q _ (sm.trans s2)
/-- thing, most, low, high: a tuple of ints -/
def rowB (ns : List Int) (most lo hi : Int) : Bool := decide ((ns.length : Int) ≤ most) && (ns.all fun n => decide (lo ≤ n ∧ n ≤ hi)) && ascB ns
def spRow (K : PySem.W.Frag) : Sp := fun vs H Q _ => ∃ (a : Addr) (ns : List Int) (most lo hi : Int), vs = [.ref a, .int most, .int lo, .int hi] ∧ SqT K H a (ns.map V.int) ∧ ns.length ≤ 1000 ∧ ∀ H', Same H H' → Q (.bl (rowB ns most lo hi)) H'
theorem cal_is_row (z : Z mg) (c_is_number : Cal P w K mg base 2 "is_number" p_is_number spNum) (c_is_ascending : Cal P w K mg base 2 "is_ascending" p_is_ascending (spAsc K)) (D : Def K mg "is_row" s_is_row p_is_row) :
    Cal P w K mg base 3 "is_row" p_is_row (spRow K) := by
  refine D.cal sc_is_row (fun vs H Q E h => by obtain ⟨_, _, _, _, _, rfl, _⟩ := h; rfl) fun f cdv A outer s H vs Q E hr h => ?_
  obtain ⟨a, ns, most, lo, hi, rfl, hS, hl, q⟩ := h
  refine ⟨_, (pss_cons (ps_if (PW.pt (pw_or (pt_not (pt_val (pe_callB (call_isi) (by rfl) z.«isinstance» (by decide +kernel) (pa_cons (pv 0) (pa_cons (pe_bltn (v := .ty "tuple") (by rfl) z.«tuple» (by decide +kernel) rfl) pa_nil))))) (pw_or1 (pt_cmpR op_gt (pe_callB (call_len_seq) (by rfl) z.«len» (by decide +kernel) (pa_cons (pv 0) pa_nil)) (pv 1) (nomark _))))) (pss_one (ps_ret pe_bl)) pss_nil)
        (pss_one (ps_ret (pe_and (pe_callB (cr_all rfl) (by rfl) z.«all» (by decide +kernel) (pa_cons (pe_lc (own := [("one", 4)]) (g := (gName 4)) (tt := tYes) rfl sc_is_row.nd (pi_tup (pv 0)) (blkOk_by (N := n_is_row) (sc := defScope s_is_row) (by decide +kernel)) (fun _ _ _ _ _ => (pg_name (i := 4) sc_is_row.nd rfl (Or.inl rfl))) (fun _ _ _ _ _ => pts_nil) (fun _ _ _ _ _ => (pe_cal c_is_number (hr.mono (by decide)) (by rfl) (pa_cons (pv 4) (pa_cons (pv 2) (pa_cons (pv 3) pa_nil)))))) pa_nil)) (pe_one (pe_cal c_is_ascending (hr.mono (by decide)) (by rfl) (pa_cons (pv 0) pa_nil))))))), ?_⟩
  refine ⟨.ref a, rfl, .ref a, .ty "tuple", .type "tuple", .type "tuple", true, rfl, .ty _, tyx_tup hS, kit_ty (by decide +kernel), true, rfl, iteF ?_⟩
  refine ⟨.ref a, rfl, a, _, rfl, .inr hS, .int most, rfl, _, most, rfl, rfl, _, rfl, ite2 (fun e => ?_) (fun e => ?_)⟩
  · have e1 : most < ((ns.map V.int).length : Int) := of_decide_eq_true e
    rw [List.length_map] at e1
    have e2 : rowB ns most lo hi = false := by
      unfold rowB
      rw [decide_eq_false (by omega)]
      rfl
    have z2 := q H (Same.refl H)
    rw [e2] at z2
    exact z2
  · have e1 : ¬ most < ((ns.map V.int).length : Int) := fun x => e (decide_eq_true x)
    rw [List.length_map] at e1
    refine ⟨.ref a, rfl, a, rfl, ⟨_, hS⟩, fun L nL => ?_⟩
    refine lc_std (walk_tup (K := K) (a := a) (xs := ns.map V.int)) ns (fun n => some (.bl (decide (lo ≤ n ∧ n ≤ hi)))) (by rw [List.length_map]) (small1000 (by rw [List.length_map]; exact hl)) nL (fun H2 s2 => s2.tup hS) (fun i x H2 H3 n R hn s2 y hR => ?_) (fun H2 s2 e3 => ?_)
    · obtain ⟨rfl, g⟩ := y
      obtain rfl := map_at hn g
      refine ⟨rfl, ?_⟩
      exact ⟨_, rfl, .int lo, rfl, .int hi, rfl, n, lo, hi, rfl, hR _ (Same.refl _)⟩
    · refine ⟨L, ns.map fun n => decide (lo ≤ n ∧ n ≤ hi), rfl, .inl (.inl ?_), ?_⟩
      · rw [e3, filterMap_some, List.map_map]
        rfl
      · have e4 : (ns.map fun n => decide (lo ≤ n ∧ n ≤ hi)).all id = ns.all fun n => decide (lo ≤ n ∧ n ≤ hi) := by
          rw [List.all_map]
          rfl
        rw [e4]
        refine ⟨_, rfl, ite2 (fun e5 => ?_) (fun e5 => ?_)⟩
        · refine ⟨.ref a, rfl, a, ns, rfl, s2.tup hS, hl, fun H4 s4 => ?_⟩
          have z2 := q H4 (s2.trans s4)
          unfold rowB at z2
          rw [decide_eq_true (by omega), e5] at z2
          exact z2
        · have z2 := q H2 s2
          unfold rowB at z2
          rw [Bool.not_eq_true] at e5
          rw [decide_eq_true (by omega), e5] at z2
          exact z2
def spNeedNum (lo : Int) : Sp := fun vs H Q _ => ∃ n : Int, vs = [.int n] ∧ lo ≤ n ∧ n ≤ 10 ^ 30 ∧ Q .non H
theorem cal_need_people (z : Z mg) (m_MOST_NUMBER : ∃ t, mg "MOST_NUMBER" = some (.int (10 ^ 30) t)) (c_is_number : Cal P w K mg base 2 "is_number" p_is_number spNum) (D : Def K mg "need_people" s_need_people p_need_people) :
    Cal P w K mg base 3 "need_people" p_need_people (spNeedNum 1) := by
  obtain ⟨tt, m_MOST_NUMBER⟩ := m_MOST_NUMBER
  refine D.cal sc_need_people (fun vs H Q E h => by obtain ⟨_, rfl, _⟩ := h; rfl) fun f cdv A outer s H vs Q E hr h => ?_
  obtain ⟨n, rfl, h0, h1, q⟩ := h
  refine ⟨_, (pss_one (ps_if (pt_not (pt_val (pe_cal c_is_number (hr.mono (by decide)) (by rfl) (pa_cons (pv 0) (pa_cons pe_int (pa_cons (pe_globI (by rfl) m_MOST_NUMBER) pa_nil)))))) (pss_one ps_never) pss_nil)), ?_⟩
  refine ⟨.int n, rfl, n, 1, 10 ^ 30, rfl, ?_⟩
  rw [decide_eq_true ⟨h0, h1⟩]
  exact ⟨true, rfl, iteF q⟩

end
end LK
namespace LK
open PySem PySem.Spec PyProof.Rows L2 CD CDS
section
variable {P : Program} {w : World} {K : PySem.W.Frag} {mg : Str → Option Value} {base : Heap}
/-! ### kinds -/
inductive Kd where
  | parts (n : Nat)
  | half
  | best (n : Nat)
  | heap (n : Nat)
def Kd.vs : Kd → List V
  | .parts n => [.str "parts", .int n]
  | .half => [.str "half"]
  | .best n => [.str "best", .int n]
  | .heap n => [.str "heap", .int n]
def Kd.ok : Kd → Prop
  | .parts n => 2 ≤ n ∧ n ≤ 8
  | .half => True
  | .best n => 2 ≤ n ∧ n ≤ 8
  | .heap n => 2 ≤ n ∧ n ≤ 8
def wordsV : List V := [.str "parts", .str "half", .str "best", .str "heap"]
def spNeedKind (K : PySem.W.Frag) : Sp := fun vs H Q _ => ∃ (a : Addr) (k : Kd), vs = [.ref a] ∧ SqT K H a k.vs ∧ k.ok ∧ Q (.ref a) H
theorem at0 {α : Type} {x : α} {r : List α} : atI (x :: r) 0 = some x := atI_nat (j := 0) rfl
theorem at1 {α : Type} {x y : α} {r : List α} : atI (x :: y :: r) 1 = some y := atI_nat (j := 1) rfl
theorem kind_num {H : Hp} {a wa : Addr} {k : Kd} {Q : V → Hp → Prop} (n : Nat) (hn : 2 ≤ n ∧ n ≤ 8) (q : Q (.ref a) H) : Q (.ref a) H := q
theorem cal_need_kind (z : Z mg) (m_LEAST_PARTS : ∃ t, mg "LEAST_PARTS" = some (.int 2 t)) (m_MOST_PARTS : ∃ t, mg "MOST_PARTS" = some (.int 8 t)) (m_WORDS : ∃ a, mg "WORDS" = some (.ref a) ∧ ∀ H, SqT K H a wordsV)
    (c_is_number : Cal P w K mg base 2 "is_number" p_is_number spNum) (D : Def K mg "need_kind" s_need_kind p_need_kind) : Cal P w K mg base 3 "need_kind" p_need_kind (spNeedKind K) := by
  obtain ⟨t1, m_LEAST_PARTS⟩ := m_LEAST_PARTS
  obtain ⟨t2, m_MOST_PARTS⟩ := m_MOST_PARTS
  obtain ⟨wa, m_WORDS, hW⟩ := m_WORDS
  refine D.cal sc_need_kind (fun vs H Q E h => by obtain ⟨_, _, rfl, _⟩ := h; rfl) fun f cdv A outer s H vs Q E hr h => ?_
  obtain ⟨a, k, rfl, hS, hk, q⟩ := h
  refine ⟨_, (pss_cons (ps_if (PW.pt (pw_or (pt_not (pt_val (pe_callB (call_isi) (by rfl) z.«isinstance» (by decide +kernel) (pa_cons (pv 0) (pa_cons (pe_bltn (v := .ty "tuple") (by rfl) z.«tuple» (by decide +kernel) rfl) pa_nil))))) (pw_or1 (pt_cmpR op_eq (pe_callB (call_len_seq) (by rfl) z.«len» (by decide +kernel) (pa_cons (pv 0) pa_nil)) pe_int (nomark _))))) (pss_one ps_never) pss_nil)
        (pss_cons (ps_if (PW.pt (pw_or (pt_not (pt_val (pe_callB (call_isi) (by rfl) z.«isinstance» (by decide +kernel) (pa_cons (pe_ix ix_tup (pv 0) pe_int (fun _ _ => rfl)) (pa_cons (pe_bltn (v := .ty "str") (by rfl) z.«str» (by decide +kernel) rfl) pa_nil))))) (pw_or1 (pt_cmpR op_notIn_seq (pe_ix ix_tup (pv 0) pe_int (fun _ _ => rfl)) (pe_glob (v := .ref _) (by rfl) m_WORDS rfl) (by rfl))))) (pss_one ps_never) pss_nil)
        (pss_cons (ps_if (pt_cmpR op_eq (pe_ix ix_tup (pv 0) pe_int (fun _ _ => rfl)) pe_str (nomark _)) (pss_one (ps_set (i := 1) sc_need_kind.nd rfl (Or.inl rfl) (pe_cmpR op_eq (pe_callB (call_len_seq) (by rfl) z.«len» (by decide +kernel) (pa_cons (pv 0) pa_nil)) pe_int (nomark _)))) (pss_one (ps_set (i := 1) sc_need_kind.nd rfl (Or.inl rfl) (pe_and (pe_cmpR op_eq (pe_callB (call_len_seq) (by rfl) z.«len» (by decide +kernel) (pa_cons (pv 0) pa_nil)) pe_int (nomark _)) (pe_one (pe_cal c_is_number (hr.mono (by decide)) (by rfl) (pa_cons (pe_ix ix_tup (pv 0) pe_int (fun _ _ => rfl)) (pa_cons (pe_globI (by rfl) m_LEAST_PARTS) (pa_cons (pe_globI (by rfl) m_MOST_PARTS) pa_nil)))))))))
        (pss_cons (ps_if (pt_not (pt_val (pv 1))) (pss_one ps_never) pss_nil)
        (pss_one (ps_ret (pv 0))))))), ?_⟩
  refine ⟨.ref a, rfl, .ref a, .ty "tuple", .type "tuple", .type "tuple", true, rfl, .ty _, tyx_tup hS, kit_ty (by decide +kernel), true, rfl, iteF ?_⟩
  cases k with
  | half =>
    refine ⟨.ref a, rfl, a, _, rfl, .inr hS, rfl, _, rfl, iteF ?_⟩
    refine ⟨.ref a, rfl, a, _, 0, _, rfl, rfl, hS, at0, .str "half", .ty "str", .type "str", .type "str", true, rfl, .ty _, .base (.str _), kit_ty (by decide +kernel), true, rfl, iteF ?_⟩
    refine ⟨.ref a, rfl, a, _, 0, _, rfl, rfl, hS, at0, wa, wordsV, rfl, .inr (hW H), rfl, rfl, _, rfl, iteF ?_⟩
    refine ⟨.ref a, rfl, a, _, 0, _, rfl, rfl, hS, at0, rfl, _, rfl, iteT ?_⟩
    refine ⟨.ref a, rfl, a, _, rfl, .inr hS, rfl, ?_⟩
    refine ⟨_, rfl, true, rfl, iteF ?_⟩
    exact ⟨.ref a, rfl, q⟩
  | parts n =>
    obtain ⟨h2, h8⟩ := hk
    refine ⟨.ref a, rfl, a, _, rfl, .inr hS, rfl, _, rfl, iteF ?_⟩
    refine ⟨.ref a, rfl, a, _, 0, _, rfl, rfl, hS, at0, .str "parts", .ty "str", .type "str", .type "str", true, rfl, .ty _, .base (.str _), kit_ty (by decide +kernel), true, rfl, iteF ?_⟩
    refine ⟨.ref a, rfl, a, _, 0, _, rfl, rfl, hS, at0, wa, wordsV, rfl, .inr (hW H), rfl, rfl, _, rfl, iteF ?_⟩
    refine ⟨.ref a, rfl, a, _, 0, _, rfl, rfl, hS, at0, rfl, _, rfl, iteF ?_⟩
    refine ⟨.ref a, rfl, a, _, rfl, .inr hS, rfl, _, rfl, iteT ⟨.ref a, rfl, a, _, 1, _, rfl, rfl, hS, at1, n, 2, 8, rfl, ?_⟩⟩
    rw [decide_eq_true (by omega)]
    exact ⟨_, rfl, true, rfl, iteF ⟨.ref a, rfl, q⟩⟩
  | best n =>
    obtain ⟨h2, h8⟩ := hk
    refine ⟨.ref a, rfl, a, _, rfl, .inr hS, rfl, _, rfl, iteF ?_⟩
    refine ⟨.ref a, rfl, a, _, 0, _, rfl, rfl, hS, at0, .str "best", .ty "str", .type "str", .type "str", true, rfl, .ty _, .base (.str _), kit_ty (by decide +kernel), true, rfl, iteF ?_⟩
    refine ⟨.ref a, rfl, a, _, 0, _, rfl, rfl, hS, at0, wa, wordsV, rfl, .inr (hW H), rfl, rfl, _, rfl, iteF ?_⟩
    refine ⟨.ref a, rfl, a, _, 0, _, rfl, rfl, hS, at0, rfl, _, rfl, iteF ?_⟩
    refine ⟨.ref a, rfl, a, _, rfl, .inr hS, rfl, _, rfl, iteT ⟨.ref a, rfl, a, _, 1, _, rfl, rfl, hS, at1, n, 2, 8, rfl, ?_⟩⟩
    rw [decide_eq_true (by omega)]
    exact ⟨_, rfl, true, rfl, iteF ⟨.ref a, rfl, q⟩⟩
  | heap n =>
    obtain ⟨h2, h8⟩ := hk
    refine ⟨.ref a, rfl, a, _, rfl, .inr hS, rfl, _, rfl, iteF ?_⟩
    refine ⟨.ref a, rfl, a, _, 0, _, rfl, rfl, hS, at0, .str "heap", .ty "str", .type "str", .type "str", true, rfl, .ty _, .base (.str _), kit_ty (by decide +kernel), true, rfl, iteF ?_⟩
    refine ⟨.ref a, rfl, a, _, 0, _, rfl, rfl, hS, at0, wa, wordsV, rfl, .inr (hW H), rfl, rfl, _, rfl, iteF ?_⟩
    refine ⟨.ref a, rfl, a, _, 0, _, rfl, rfl, hS, at0, rfl, _, rfl, iteF ?_⟩
    refine ⟨.ref a, rfl, a, _, rfl, .inr hS, rfl, _, rfl, iteT ⟨.ref a, rfl, a, _, 1, _, rfl, rfl, hS, at1, n, 2, 8, rfl, ?_⟩⟩
    rw [decide_eq_true (by omega)]
    exact ⟨_, rfl, true, rfl, iteF ⟨.ref a, rfl, q⟩⟩
/-! ### rows of numbers -/
def iN (l : List Nat) : List Int := l.map fun n : Nat => (n : Int)
theorem iN_len (l : List Nat) : (iN l).length = l.length := List.length_map ..
theorem iN_sum : ∀ l : List Nat, (iN l).sum = (l.sum : Int)
  | [] => rfl
  | a :: r => by
    show (a : Int) + (iN r).sum = _
    rw [iN_sum r, List.sum_cons]
    omega
theorem iN_app (l m : List Nat) : iN (l ++ m) = iN l ++ iN m := List.map_append
theorem iN_at {l : List Nat} {i : Nat} {n : Nat} (h : l[i]? = some n) : ((iN l).map V.int)[i]? = some (V.int n) := by
  unfold iN
  rw [List.getElem?_map, List.getElem?_map, h]
  rfl
def cV : Option Nat → V
  | none => .non
  | some c => .int c
/-- the last c of a list -/
theorem cut_last (xs : List V) (c : Nat) (hc : 1 ≤ c) : cutV xs (some (-(c : Int))) none = xs.drop (xs.length - c) := by
  have e : HT.sIx xs.length 0 (some (-(c : Int))) = xs.length - c := by
    show (if (-(c : Int)) < 0 then ((-(c : Int)) + (xs.length : Int)).toNat else min (-(c : Int)).toNat xs.length) = _
    rw [if_pos (by omega)]
    omega
  unfold cutV
  rw [HT.sIx_none, e]
  exact List.take_of_length_le (by rw [List.length_drop]; omega)
theorem cut_lastN (l : List Nat) (c : Nat) (hc : 1 ≤ c) : cutV ((iN l).map V.int) (some (-(c : Int))) none = (iN (l.drop (l.length - c))).map V.int := by
  rw [cut_last _ _ hc, List.length_map, iN_len]
  unfold iN
  rw [← List.map_drop, ← List.map_drop]
theorem cut_initN (l : List Nat) : cutV ((iN l).map V.int) none (some (-1)) = (iN l.dropLast).map V.int := by
  have e : HT.sIx ((iN l).map V.int).length ((iN l).map V.int).length (some (-1)) = l.length - 1 := by
    rw [List.length_map, iN_len]
    show (if (-1 : Int) < 0 then ((-1 : Int) + (l.length : Int)).toNat else min (-1 : Int).toNat l.length) = _
    rw [if_pos (by omega)]
    omega
  unfold cutV
  rw [HT.sIx_none, e, List.drop_zero, Nat.sub_zero, List.dropLast_eq_take]
  unfold iN
  rw [List.map_take, List.map_take]
theorem at_lastN {c : Option Nat} (n : Nat) : atI ((iN (mostL c n)).map V.int) (-1) = some (.int (mostN c n)) := by
  refine at_neg (i := 1) (by omega) (by rw [List.length_map, iN_len, mostL_len]; omega) ?_
  rw [List.length_map, iN_len, mostL_len]
  exact iN_at (mostL_at c (Nat.le_refl n))
theorem fdiv_nat (a b : Nat) : Int.fdiv (a : Int) (b : Int) = ((a / b : Nat) : Int) := by
  rw [Int.fdiv_eq_ediv_of_nonneg _ (by omega)]
  rfl
def spLot (K : PySem.W.Frag) : Sp := fun vs H Q _ => ∃ (p : Int) (a : Addr) (ns : List Int), vs = [.int p, .ref a] ∧ 1 ≤ p ∧ p ≤ 10 ^ 30 ∧ SqT K H a (ns.map V.int) ∧ ns.length ≤ 1000 ∧ ∀ H', Same H H' → Q (.bl (rowB ns 3 1 (p - 1))) H'
theorem cal_is_lot (z : Z mg) (m_MOST_LOT : ∃ t, mg "MOST_LOT" = some (.int 3 t)) (c_need_people : Cal P w K mg base 3 "need_people" p_need_people (spNeedNum 1)) (c_is_row : Cal P w K mg base 3 "is_row" p_is_row (spRow K)) (D : Def K mg "is_lot" s_is_lot p_is_lot) :
    Cal P w K mg base 4 "is_lot" p_is_lot (spLot K) := by
  obtain ⟨t1, m_MOST_LOT⟩ := m_MOST_LOT
  refine D.cal sc_is_lot (fun vs H Q E h => by obtain ⟨_, _, _, rfl, _⟩ := h; rfl) fun f cdv A outer s H vs Q E hr h => ?_
  obtain ⟨p, a, ns, rfl, p1, p2, hS, hl, q⟩ := h
  refine ⟨_, (pss_cons (ps_expr (pe_cal c_need_people (hr.mono (by decide)) (by rfl) (pa_cons (pv 0) pa_nil)))
        (pss_one (ps_ret (pe_cal c_is_row (hr.mono (by decide)) (by rfl) (pa_cons (pv 1) (pa_cons (pe_globI (by rfl) m_MOST_LOT) (pa_cons pe_int (pa_cons (pe_op op_sub (pv 0) pe_int) pa_nil)))))))), ?_⟩
  refine ⟨.int p, rfl, p, rfl, p1, p2, ?_⟩
  refine ⟨.ref a, rfl, .int p, rfl, p, 1, rfl, rfl, a, ns, 3, 1, p - 1, rfl, hS, hl, q⟩
def spMB (K : PySem.W.Frag) : Sp := fun vs H Q _ => ∃ (l : Addr) (c : Option Nat) (n : Nat), vs = [cV c, .ref l] ∧ Two c ∧ H l = some (.lst ((iN (mostL c n)).map V.int)) ∧ n ≤ 1000 ∧ ∀ H', Same H H' → Q (.int (mostN c (n + 1))) H'
theorem cal_most_behind (z : Z mg) (D : Def K mg "_most_behind" s__most_behind p__most_behind) : Cal P w K mg base 2 "_most_behind" p__most_behind (spMB K) := by
  refine D.cal sc__most_behind (fun vs H Q E h => by obtain ⟨_, _, _, rfl, _⟩ := h; rfl) fun f cdv A outer s H vs Q E hr h => ?_
  obtain ⟨l, c, n, rfl, h2, hl, hn, q⟩ := h
  refine ⟨_, (pss_one (ps_ret (pe_op op_add pe_int (pe_callB (cr_sum rfl) (by rfl) z.«sum» (by decide +kernel) (pa_cons (pe_ifExp (pt_cmpR op_isN (pv 0) pe_non (nomark _)) (pv 1) (pe_slice sl_list (pv 1) (po_some (pe_un un_neg (pv 0))) po_none)) pa_nil))))), ?_⟩
  cases c with
  | none =>
    refine ⟨.non, rfl, rfl, true, rfl, iteT ⟨.ref l, rfl, l, _, rfl, .inl (.inl hl), 1, _, rfl, rfl, ?_⟩⟩
    show Q (.int (1 + (iN (mostL none n)).sum)) H
    rw [iN_sum]
    have z2 := q H (Same.refl _)
    rw [mostN_succ] at z2
    rw [show (1 : Int) + (((mostL none n).sum : Nat) : Int) = ((1 + (lastC none (mostL none n)).sum : Nat) : Int) by show _ = ((1 + (mostL none n).sum : Nat) : Int); omega]
    exact z2
  | some c =>
    have h3 : 2 ≤ c := h2
    refine ⟨.int c, rfl, rfl, false, rfl, iteF ?_⟩
    refine ⟨.ref l, rfl, .int c, rfl, c, rfl, -(c : Int), rfl, ?_⟩
    dsimp only [tNoPart]
    refine ⟨l, _, rfl, .inl (.inl hl), fun p np => ?_⟩
    rw [cut_lastN _ _ (by omega)]
    refine ⟨p, _, rfl, .inl (.inl upd_same), 1, _, rfl, rfl, ?_⟩
    show Q (.int (1 + (iN ((mostL (some c) n).drop ((mostL (some c) n).length - c))).sum)) _
    rw [iN_sum]
    have z2 := q _ (same_upd (o := .lst ((iN ((mostL (some c) n).drop ((mostL (some c) n).length - c))).map V.int)) np)
    rw [mostN_succ] at z2
    rw [show (1 : Int) + ((((mostL (some c) n).drop ((mostL (some c) n).length - c)).sum : Nat) : Int) = ((1 + (lastC (some c) (mostL (some c) n)).sum : Nat) : Int) by show _ = ((1 + ((mostL (some c) n).drop ((mostL (some c) n).length - c)).sum : Nat) : Int); omega]
    exact z2
end
end LK
namespace LK
open PySem PySem.Spec PyProof.Rows L2 CD CDS
section
variable {P : Program} {w : World} {K : PySem.W.Frag} {mg : Str → Option Value} {base : Heap}
def spMT : Sp := fun vs H Q _ => ∃ (c : Option Nat) (t : Nat), vs = [cV c, .int t] ∧ Two c ∧ (∀ k, c = some k → k ≤ 8) ∧ t ≤ 200 ∧ ∀ H', Same H H' → Q (.int (mostN c t)) H'
def spNeedCalls : Sp := fun vs H Q _ => ∃ (c : Option Nat), vs = [cV c] ∧ Two c ∧ (∀ k, c = some k → k ≤ 8) ∧ Q .non H
theorem cal_need_calls (z : Z mg) (m_LEAST_PARTS : ∃ t, mg "LEAST_PARTS" = some (.int 2 t)) (m_MOST_PARTS : ∃ t, mg "MOST_PARTS" = some (.int 8 t))
    (c_is_number : Cal P w K mg base 2 "is_number" p_is_number spNum) (D : Def K mg "need_calls" s_need_calls p_need_calls) : Cal P w K mg base 3 "need_calls" p_need_calls spNeedCalls := by
  obtain ⟨t1, m_LEAST_PARTS⟩ := m_LEAST_PARTS
  obtain ⟨t2, m_MOST_PARTS⟩ := m_MOST_PARTS
  refine D.cal sc_need_calls (fun vs H Q E h => by obtain ⟨_, rfl, _⟩ := h; rfl) fun f cdv A outer s H vs Q E hr h => ?_
  obtain ⟨c, rfl, h2, h8, q⟩ := h
  refine ⟨_, (pss_one (ps_if (PW.pt (pw_and (pt_cmpR op_notN (pv 0) pe_non (nomark _)) (pw_and1 (pt_not (pt_val (pe_cal c_is_number (hr.mono (by decide)) (by rfl) (pa_cons (pv 0) (pa_cons (pe_globI (by rfl) m_LEAST_PARTS) (pa_cons (pe_globI (by rfl) m_MOST_PARTS) pa_nil))))))))) (pss_one ps_never) pss_nil)), ?_⟩
  cases c with
  | none => exact ⟨.non, rfl, rfl, false, rfl, iteF q⟩
  | some c =>
    have h3 : 2 ≤ c := h2
    have h4 := h8 c rfl
    refine ⟨.int c, rfl, rfl, true, rfl, iteT ⟨.int c, rfl, c, 2, 8, rfl, ?_⟩⟩
    rw [decide_eq_true (by omega)]
    exact ⟨true, rfl, iteF q⟩
theorem cal_most_told (z : Z mg) (m_MOST_TICKS : ∃ t, mg "MOST_TICKS" = some (.int 200 t)) (c_need_calls : Cal P w K mg base 3 "need_calls" p_need_calls spNeedCalls)
    (c_is_number : Cal P w K mg base 2 "is_number" p_is_number spNum) (c__most_behind : Cal P w K mg base 2 "_most_behind" p__most_behind (spMB K)) (D : Def K mg "most_told" s_most_told p_most_told) : Cal P w K mg base 4 "most_told" p_most_told spMT := by
  obtain ⟨t3, m_MOST_TICKS⟩ := m_MOST_TICKS
  refine D.cal sc_most_told (fun vs H Q E h => by obtain ⟨_, _, rfl, _⟩ := h; rfl) fun f cdv A outer s H vs Q E hr h => ?_
  obtain ⟨CC, t, rfl, h2, h8, ht, q⟩ := h
  refine ⟨_, (pss_cons (ps_expr (pe_cal c_need_calls (hr.mono (by decide)) (by rfl) (pa_cons (pv 0) pa_nil)))
        (pss_cons (ps_if (pt_not (pt_val (pe_cal c_is_number (hr.mono (by decide)) (by rfl) (pa_cons (pv 1) (pa_cons pe_int (pa_cons (pe_globI (by rfl) m_MOST_TICKS) pa_nil)))))) (pss_one ps_never) pss_nil)
        (pss_cons (ps_set (i := 2) sc_most_told.nd rfl (Or.inl rfl) (pe_lst (pa_cons pe_int pa_nil)))
        (pss_cons (ps_for PassesOwn.never rfl (pi_range1 (by rfl) z.«range» (pa_cons (pv 1) pa_nil)) (pg_name (i := 3) sc_most_told.nd rfl (Or.inl rfl)) (pss_one (ps_expr (pe_bm PySem.F.plainAttrs_list PySem.F.slot_list_append PySem.F.type_list_append mt_append (pv 2) (pa_cons (pe_cal c__most_behind (hr.mono (by decide)) (by rfl) (pa_cons (pv 0) (pa_cons (pv 2) pa_nil))) pa_nil)))))
        (pss_one (ps_ret (pe_ix ix_list (pv 2) (pe_un un_neg pe_int) (fun _ _ => rfl)))))))), ?_⟩
  refine ⟨cV CC, rfl, CC, rfl, h2, h8, ?_⟩
  refine ⟨.int t, rfl, t, 0, 200, rfl, ?_⟩
  rw [decide_eq_true (by omega)]
  refine ⟨true, rfl, iteF ?_⟩
  refine ⟨(by decide : 1 ≤ sizeLine), fun l nl => ?_⟩
  have s0 : Same H (upd H l (.lst ([.int 1]))) := same_upd nl
  have hl0 : (upd H l (.lst ([.int 1]))) l = some (.lst ((iN (mostL CC 0)).map V.int)) := upd_same
  show tSeq _ _ _ _ (upd H l (.lst ([.int 1])))
  generalize upd H l (.lst ([.int 1])) = H1 at s0 hl0
  refine ⟨.int t, rfl, t, rfl, by omega, by omega, ?_⟩
  refine for_it (walk_range (lo := 0) (n := (t : Int).toNat)) (fun i σ H2 => ∃ y3, σ = [some (cV CC), some (.int t), some (.ref l), y3] ∧ H2 l = some (.lst ((iN (mostL CC i)).map V.int)) ∧ Same H H2) ⟨none, rfl, hl0, s0⟩ (fun _ _ _ _ _ => trivial) (fun i x σ H2 H3 hi hW y => ?_) (fun σ H2 hW => ?_)
  · obtain ⟨y3, rfl, hl2, s2⟩ := hW
    obtain ⟨rfl, rfl⟩ := y
    refine ⟨.ref l, rfl, .inl ⟨rfl, _, .inl (.inl hl2)⟩, cV CC, rfl, .ref l, rfl, l, CC, i, rfl, h2, hl2, by omega, fun H4 s4 => ?_⟩
    refine ⟨l, _, _, rfl, rfl, s4 _ _ hl2, by rw [List.length_map, iN_len, mostL_len]; exact small1000 (by omega), _, rfl, ?_, fun b o e => ?_⟩
    · rw [upd_same, mostL_step, iN_app, List.map_append]
      rfl
    · rw [upd_ne (ne_of_none e nl)]
      exact s4 _ _ (s2 _ _ e)
  · obtain ⟨y3, rfl, hl2, s2⟩ := hW
    rw [Int.toNat_natCast] at hl2
    exact ⟨.ref l, rfl, 1, rfl, l, _, _, _, rfl, rfl, .inl (.inl hl2), at_lastN t, q H2 s2⟩
/-- t + u -/
theorem cat_any {H : Hp} {a b : Addr} {xs ys : List V} {R : VK} (hS : SqT K H a xs) (hb : SqT K H b ys) (hz : xs.length + ys.length ≤ 1000)
    (h : ∀ c Hc, Same H Hc → SqT K Hc c (xs ++ ys) → R (.ref c) Hc) : rCatA K (.ref a) (.ref b) H R := by
  refine ⟨a, b, xs, ys, rfl, rfl, hS, hb, Nat.le_of_lt (small1000 hz), fun e => ?_, fun _ e => ?_, fun _ _ p hp => h p _ (same_upd hp) (.inl (.inl upd_same))⟩
  · subst e
    exact h b H (Same.refl H) hb
  · subst e
    rw [List.append_nil] at h
    exact h a H (Same.refl H) hS
theorem rep_one {H : Hp} {l : Addr} {x : Nat} {k : Nat} {v : V} {R : VK} (e : v = .int k) (hS : H l = some (.tup [.int x])) (hk : k ≤ 1000)
    (h : ∀ c Hc, Same H Hc → SqT K Hc c ((iN (List.replicate k x)).map V.int) → R (.ref c) Hc) : rRepA K (.ref l) v H R := by
  refine rep_any e (.inl (.inl hS)) (by simp) hk (by simp) fun c Hc s hc => h c Hc s ?_
  rw [flat_one] at hc
  unfold iN
  rw [List.map_replicate, List.map_replicate]
  exact hc
def spLikeP (K : PySem.W.Frag) : Sp := fun vs H Q _ => ∃ m n : Nat, vs = [.int m, .int n] ∧ 2 ≤ m ∧ m ≤ 8 ∧ n ≤ 10 ^ 30 ∧ ∀ H' p, Same H H' → SqT K H' p ((iN (likeL m n)).map V.int) → Q (.ref p) H'
theorem cal_like_parts (z : Z mg) (D : Def K mg "_like_parts" s__like_parts p__like_parts) : Cal P w K mg base 2 "_like_parts" p__like_parts (spLikeP K) := by
  refine D.cal sc__like_parts (fun vs H Q E h => by obtain ⟨_, _, rfl, _⟩ := h; rfl) fun f cdv A outer s H vs Q E hr h => ?_
  obtain ⟨m, n, rfl, m2, m8, hn, q⟩ := h
  refine ⟨_, (pss_cons (ps_set (i := 2) sc__like_parts.nd rfl (Or.inl rfl) (pe_callB (call_min2 rfl) (by rfl) z.«min» (by decide +kernel) (pa_cons (pv 0) (pa_cons (pv 1) pa_nil))))
        (pss_cons (ps_if (pt_cmpR op_eq (pv 2) pe_int (nomark _)) (pss_one (ps_ret (pe_tup pa_nil))) pss_nil)
        (pss_cons (ps_asg (pe_callB (call_divmod) (by rfl) z.«divmod» (by decide +kernel) (pa_cons (pv 1) (pa_cons (pv 2) pa_nil))) (pg_tup rfl (pgs_cons (pg_name (i := 3) sc__like_parts.nd rfl (Or.inl rfl)) (pgs_cons (pg_name (i := 4) sc__like_parts.nd rfl (Or.inl rfl)) pgs_nil))))
        (pss_one (ps_ret (pe_op op_catA (pe_op op_repA (pe_tup (pa_cons (pe_op op_add (pv 3) pe_int) pa_nil)) (pv 4)) (pe_op op_repA (pe_tup (pa_cons (pv 3) pa_nil)) (pe_op op_sub (pv 2) (pv 4))))))))), ?_⟩
  have e0 : (if (n : Int) < (m : Int) then (n : Int) else (m : Int)) = ((min m n : Nat) : Int) := by split <;> omega
  refine ⟨.int m, rfl, .int n, rfl, m, n, rfl, ?_⟩
  rw [e0]
  refine ⟨_, rfl, rfl, _, rfl, ite2 (fun e => ?_) (fun e => ?_)⟩
  · have h0 : min m n = 0 := by
      have z3 : V.int ((min m n : Nat) : Int) = V.int 0 := of_decide_eq_true e
      injection z3 with z3
      omega
    refine ⟨Nat.zero_le _, fun p np => q _ p (same_upd np) (.inl (.inl ?_))⟩
    rw [upd_same]
    unfold likeL
    have hn0 : n = 0 := by omega
    subst hn0
    rw [h0]
    rfl
  · have h0 : 0 < min m n := Nat.pos_of_ne_zero fun x => e (decide_eq_true (by rw [x]; rfl))
    have hm := Nat.mod_lt n h0
    refine ⟨.int n, rfl, _, rfl, n, _, rfl, ⟨by omega, by omega⟩, fun p np => ?_⟩
    have s1 := same_upd (o := .tup [.int ((n : Int) / ((min m n : Nat) : Int)), .int ((n : Int) % ((min m n : Nat) : Int))]) np
    refine ⟨p, _, rfl, .inl (.inl upd_same), rfl, _, _, rfl, _, _, rfl, rfl, ?_⟩
    generalize upd H p (.tup [.int ((n : Int) / ((min m n : Nat) : Int)), .int ((n : Int) % ((min m n : Nat) : Int))]) = H1 at s1
    have ed : (n : Int) / ((min m n : Nat) : Int) = ((n / min m n : Nat) : Int) := rfl
    have em : (n : Int) % ((min m n : Nat) : Int) = ((n % min m n : Nat) : Int) := rfl
    refine ⟨_, rfl, _, 1, rfl, rfl, (by decide : 1 ≤ sizeLine), fun t1 nt1 => ?_⟩
    have s2 := same_upd (o := .tup [.int ((n : Int) / ((min m n : Nat) : Int) + 1)]) nt1
    refine ⟨_, rfl, ?_⟩
    refine rep_one (x := n / min m n + 1) (k := n % min m n) rfl ?_ (by omega) fun c1 Hc1 s3 h1 => ?_
    · rw [upd_same]; rfl
    refine ⟨_, rfl, (by decide : 1 ≤ sizeLine), fun t2 nt2 => ?_⟩
    have s4 := same_upd (o := .tup [.int ((n : Int) / ((min m n : Nat) : Int))]) nt2
    refine ⟨_, rfl, _, rfl, _, _, rfl, rfl, ?_⟩
    refine rep_one (x := n / min m n) (k := min m n - n % min m n) (congrArg V.int (by show ((min m n : Nat) : Int) - ((n % min m n : Nat) : Int) = _; omega)) ?_ (by omega) fun c2 Hc2 s5 h2 => ?_
    · rw [upd_same]; rfl
    refine cat_any (s5.tup (s4.tup h1)) h2 (by rw [List.length_map, List.length_map, iN_len, iN_len, List.length_replicate, List.length_replicate]; omega) fun c Hc s6 h3 => ?_
    refine q Hc c (s1.trans (s2.trans (s3.trans (s4.trans (s5.trans s6))))) ?_
    rw [← List.map_append, ← iN_app] at h3
    exact h3
def spHalf (K : PySem.W.Frag) : Sp := fun vs H Q _ => ∃ n : Nat, vs = [.int n] ∧ n ≤ 10 ^ 30 ∧ ∀ H' p, Same H H' → SqT K H' p ((iN (halfL n)).map V.int) → Q (.ref p) H'
theorem cal_half_parts (z : Z mg) (D : Def K mg "_half_parts" s__half_parts p__half_parts) : Cal P w K mg base 2 "_half_parts" p__half_parts (spHalf K) := by
  refine D.cal sc__half_parts (fun vs H Q E h => by obtain ⟨_, rfl, _⟩ := h; rfl) fun f cdv A outer s H vs Q E hr h => ?_
  obtain ⟨n, rfl, hn, q⟩ := h
  refine ⟨_, (pss_cons (ps_set (i := 1) sc__half_parts.nd rfl (Or.inl rfl) (pe_lst pa_nil))
        (pss_cons (ps_set (i := 2) sc__half_parts.nd rfl (Or.inl rfl) (pv 0))
        (pss_cons (ps_while PassesOwn.never (pt_cmpR op_gt (pv 2) pe_int (nomark _)) (pss_cons (ps_expr (pe_bm PySem.F.plainAttrs_list PySem.F.slot_list_append PySem.F.type_list_append mt_append (pv 1) (pa_cons (pe_op op_fdivN (pe_op op_add (pv 2) pe_int) pe_int) pa_nil)))
        (pss_one (ps_set (i := 2) sc__half_parts.nd rfl (Or.inl rfl) (pe_op op_fdivN (pv 2) pe_int)))))
        (pss_one (ps_ret (pe_callTy (call_tuple_of) (by rfl) z.«tuple» (by decide +kernel) (pa_cons (pv 1) pa_nil))))))), ?_⟩
  have hlen : (halfL n).length ≤ 100 := half_len 100 n (by omega)
  refine ⟨(by decide : 0 ≤ sizeLine), fun pa npa => ?_⟩
  have s0 : Same H (upd H pa (.lst [])) := same_upd npa
  have hp0 : (upd H pa (.lst [])) pa = some (.lst ((iN []).map V.int)) := upd_same
  show tSeq _ _ _ _ (upd H pa (.lst []))
  generalize upd H pa (.lst []) = H1 at s0 hp0
  refine ⟨.int n, rfl, ?_⟩
  refine ⟨fun m σ H2 => ∃ lf done, m = lf ∧ σ = [some (.int n), some (.ref pa), some (.int (lf : Nat))] ∧ Same H H2 ∧ H2 pa = some (.lst ((iN done).map V.int)) ∧ done ++ halfL lf = halfL n, ⟨n, n, [], rfl, rfl, s0, hp0, rfl⟩, ?_⟩
  intro lf σ H2 hW
  obtain ⟨_, done, rfl, rfl, sm, hpa, ed⟩ := hW
  refine ⟨.int lf, rfl, lf, 0, rfl, rfl, _, rfl, ite2 (fun e => ?_) (fun e => ?_)⟩
  · have e' : (0 : Int) < lf := of_decide_eq_true e
    have e2 : halfL lf = (lf + 1) / 2 :: halfL (lf / 2) := halfL_pos (by omega)
    refine ⟨fun σ H3 => ∃ done, σ = [some (.int n), some (.ref pa), some (.int ((lf / 2 : Nat) : Int))] ∧ Same H H3 ∧ H3 pa = some (.lst ((iN done).map V.int)) ∧ done ++ halfL (lf / 2) = halfL n, fun σ H3 hN => ?_, ?_⟩
    · obtain ⟨d2, r⟩ := hN
      exact ⟨lf / 2, by omega, lf / 2, d2, rfl, r⟩
    · have hd : done.length ≤ 100 := by
        have z := congrArg List.length ed
        rw [List.length_append] at z
        omega
      refine ⟨.ref pa, rfl, .inl ⟨rfl, _, .inl (.inl hpa)⟩, .int lf, rfl, lf, 1, rfl, rfl, _, 2, rfl, rfl, ⟨by decide, by decide⟩, pa, _, _, rfl, rfl, hpa, by rw [List.length_map, iN_len]; exact small1000 (by omega), ?_⟩
      refine ⟨.int lf, rfl, lf, 2, rfl, rfl, ⟨by decide, by decide⟩, ?_⟩
      refine ⟨done ++ [(lf + 1) / 2], congrArg (fun v => [some (V.int n), some (V.ref pa), some (V.int v)]) (fdiv_nat lf 2), fun b o eb => ?_, ?_, ?_⟩
      · rw [upd_ne (ne_of_none eb npa)]
        exact sm _ _ eb
      · rw [upd_same, iN_app, List.map_append]
        show some (HO.lst (_ ++ [V.int (Int.fdiv ((lf : Int) + 1) 2)])) = some (HO.lst (_ ++ [V.int (((lf + 1) / 2 : Nat) : Int)]))
        rw [← fdiv_nat (lf + 1) 2]
        rfl
      · rw [List.append_assoc, ← ed, e2]
        rfl
  · have e' : lf = 0 := by
      have : ¬ (0 : Int) < lf := fun x => e (decide_eq_true x)
      omega
    subst e'
    rw [halfL_zero, List.append_nil] at ed
    rw [ed] at hpa
    exact ⟨.ref pa, rfl, pa, _, rfl, .inl ⟨.inl (.inl hpa), fun p np => q _ p (sm.trans (same_upd np)) (.inl (.inl upd_same))⟩⟩
end
end LK
namespace LK
open PySem PySem.Spec PyProof.Rows L2 CD CDS
section
variable {P : Program} {w : World} {K : PySem.W.Frag} {mg : Str → Option Value} {base : Heap}
/-- the row reaches t for the first time at n -/
def Enough (c : Option Nat) (t n : Nat) : Prop := t ≤ mostN c n ∧ ∀ i, i < n → mostN c i < t
theorem Enough.uniq {c : Option Nat} {t n m : Nat} (h : Enough c t n) (k : Enough c t m) : n = m := by
  rcases Nat.lt_trichotomy n m with x | x | x
  · have := k.2 n x
    have := h.1
    omega
  · exact x
  · have := h.2 m x
    have := k.1
    omega
theorem bestL_len (c : Option Nat) (n count : Nat) : (bestL c n count).length ≤ n := by
  have h := greedy_len ((mostL c n).dropLast.reverse) count
  rw [List.length_reverse, List.length_dropLast, mostL_len] at h
  unfold bestL
  omega
def spMostsTo : Sp := fun vs H Q _ => ∃ (c : Option Nat) (t : Nat), vs = [cV c, .int t] ∧ Two c ∧ 1 ≤ t ∧ t ≤ 10 ^ 30 + 1 ∧ ∀ H' p k, Same H H' → H p = none → Enough c t k → H' p = some (.lst ((iN (mostL c k)).map V.int)) → Q (.ref p) H'
theorem cal_mosts_to (z : Z mg) (c__most_behind : Cal P w K mg base 2 "_most_behind" p__most_behind (spMB K)) (D : Def K mg "mosts_to" s_mosts_to p_mosts_to) : Cal P w K mg base 3 "mosts_to" p_mosts_to spMostsTo := by
  refine D.cal sc_mosts_to (fun vs H Q E h => by obtain ⟨_, _, rfl, _⟩ := h; rfl) fun f cdv A outer s H vs Q E hr h => ?_
  obtain ⟨c, t, rfl, two, t1, ht, q⟩ := h
  refine ⟨_, (pss_cons (ps_set (i := 2) sc_mosts_to.nd rfl (Or.inl rfl) (pe_lst (pa_cons pe_int pa_nil)))
        (pss_cons (ps_while PassesOwn.never (pt_cmpR op_lt (pe_ix ix_list (pv 2) (pe_un un_neg pe_int) (fun _ _ => rfl)) (pv 1) (nomark _)) (pss_one (ps_expr (pe_bm PySem.F.plainAttrs_list PySem.F.slot_list_append PySem.F.type_list_append mt_append (pv 2) (pa_cons (pe_cal c__most_behind (hr.mono (by decide)) (by rfl) (pa_cons (pv 0) (pa_cons (pv 2) pa_nil))) pa_nil)))))
        (pss_one (ps_ret (pv 2))))), ?_⟩
  refine ⟨(by decide : 1 ≤ sizeLine), fun ma nma => ?_⟩
  have s0 : Same H (upd H ma (.lst [.int 1])) := same_upd nma
  have hm0 : (upd H ma (.lst [.int 1])) ma = some (.lst ((iN (mostL c 0)).map V.int)) := upd_same
  show tSeq _ _ _ _ (upd H ma (.lst [.int 1]))
  generalize upd H ma (.lst [.int 1]) = H1 at s0 hm0
  refine ⟨fun m σ H2 => ∃ k, m = t - mostN c k ∧ σ = [some (cV c), some (.int t), some (.ref ma)] ∧ Same H H2 ∧ H2 ma = some (.lst ((iN (mostL c k)).map V.int)) ∧ ∀ i, i < k → mostN c i < t, ⟨_, 0, rfl, rfl, s0, hm0, fun i hi => absurd hi (Nat.not_lt_zero i)⟩, ?_⟩
  intro m σ H2 hW
  obtain ⟨k, rfl, rfl, sm, hma, low⟩ := hW
  have k200 := row_short two (t := t) (by omega) low
  refine ⟨.ref ma, rfl, 1, rfl, ma, _, _, _, rfl, rfl, .inl (.inl hma), at_lastN k, .int t, rfl, _, _, rfl, rfl, _, rfl, ite2 (fun e => ?_) (fun e => ?_)⟩
  · have e' : ((mostN c k : Nat) : Int) < (t : Int) := of_decide_eq_true e
    refine ⟨fun σ H3 => σ = [some (cV c), some (.int t), some (.ref ma)] ∧ Same H H3 ∧ H3 ma = some (.lst ((iN (mostL c (k + 1))).map V.int)), fun σ H3 hN => ?_, ?_⟩
    · obtain ⟨h1, h2, h3⟩ := hN
      have := mostN_lt two k
      refine ⟨_, ?_, k + 1, rfl, h1, h2, h3, fun i hi => ?_⟩
      · omega
      · by_cases x : i < k
        · exact low i x
        · rw [show i = k by omega]
          omega
    · refine ⟨.ref ma, rfl, .inl ⟨rfl, _, .inl (.inl hma)⟩, cV c, rfl, .ref ma, rfl, ma, c, k, rfl, two, hma, by omega, fun H4 s4 => ?_⟩
      refine ⟨ma, _, _, rfl, rfl, s4 _ _ hma, by rw [List.length_map, iN_len, mostL_len]; exact small1000 (by omega), rfl, fun b o eb => ?_, ?_⟩
      · rw [upd_ne (ne_of_none eb nma)]
        exact s4 _ _ (sm _ _ eb)
      · rw [upd_same, mostL_step, iN_app, List.map_append]
        rfl
  · have en : Enough c t k := ⟨by
      have : ¬ ((mostN c k : Nat) : Int) < (t : Int) := fun x => e (decide_eq_true x)
      omega, low⟩
    exact ⟨.ref ma, rfl, q H2 ma k sm nma en hma⟩
def spBest (K : PySem.W.Frag) : Sp := fun vs H Q _ => ∃ c n : Nat, vs = [.int c, .int n] ∧ 2 ≤ c ∧ c ≤ 8 ∧ n ≤ 10 ^ 30 ∧ ∀ H' p k, Same H H' → Enough (some c) (n + 1) k → SqT K H' p ((iN (bestL (some c) k n)).map V.int) → Q (.ref p) H'
theorem cal_best_parts (z : Z mg) (c_mosts_to : Cal P w K mg base 3 "mosts_to" p_mosts_to spMostsTo) (D : Def K mg "_best_parts" s__best_parts p__best_parts) : Cal P w K mg base 4 "_best_parts" p__best_parts (spBest K) := by
  refine D.cal sc__best_parts (fun vs H Q E h => by obtain ⟨_, _, rfl, _⟩ := h; rfl) fun f cdv A outer s H vs Q E hr h => ?_
  obtain ⟨c, n, rfl, c2, c8, hn, q⟩ := h
  refine ⟨_, (pss_cons (ps_set (i := 2) sc__best_parts.nd rfl (Or.inl rfl) (pe_cal c_mosts_to (hr.mono (by decide)) (by rfl) (pa_cons (pv 0) (pa_cons (pe_op op_add (pv 1) pe_int) pa_nil))))
        (pss_cons (ps_set (i := 3) sc__best_parts.nd rfl (Or.inl rfl) (pe_lst pa_nil))
        (pss_cons (ps_set (i := 4) sc__best_parts.nd rfl (Or.inl rfl) (pv 1))
        (pss_cons (ps_for PassesOwn.never rfl (pi_reversed (by rfl) z.«reversed» (pa_cons (pe_slice sl_list (pv 2) po_none (po_some (pe_un un_neg pe_int))) pa_nil)) (pg_name (i := 5) sc__best_parts.nd rfl (Or.inl rfl)) (pss_one (ps_if (pt_cmpR op_gt (pv 4) pe_int (nomark _)) (pss_cons (ps_expr (pe_bm PySem.F.plainAttrs_list PySem.F.slot_list_append PySem.F.type_list_append mt_append (pv 3) (pa_cons (pe_callB (call_min2 rfl) (by rfl) z.«min» (by decide +kernel) (pa_cons (pv 5) (pa_cons (pv 4) pa_nil))) pa_nil)))
        (pss_one (ps_aug (i := 4) sc__best_parts.nd rfl (Or.inl rfl) (pe_ix ix_list (pv 3) (pe_un un_neg pe_int) (fun _ _ => rfl)) ip_sub))) pss_nil)))
        (pss_one (ps_ret (pe_callTy (call_tuple_of) (by rfl) z.«tuple» (by decide +kernel) (pa_cons (pv 3) pa_nil)))))))), ?_⟩
  have two : Two (some c) := c2
  refine ⟨.int c, rfl, .int n, rfl, n, 1, rfl, rfl, some c, n + 1, rfl, two, by omega, by omega, fun H2 ma k sm nma en hma => ?_⟩
  have k200 := row_short two (t := n + 1) (by omega) en.2
  · skip
    refine ⟨(by decide : 0 ≤ sizeLine), fun pa npa => ?_⟩
    have s3 : Same H2 (upd H2 pa (.lst [])) := same_upd npa
    have hp0 : (upd H2 pa (.lst [])) pa = some (.lst ((iN []).map V.int)) := upd_same
    have npa0 : H pa = none := Same.free sm npa
    show tSeq _ _ _ _ (upd H2 pa (.lst []))
    have sm3 := sm.trans s3
    have hma3 := s3 _ _ hma
    generalize upd H2 pa (.lst []) = H3 at s3 hp0 sm3 hma3
    refine ⟨.int n, rfl, ?_⟩
    refine ⟨.ref ma, rfl, 1, rfl, -1, rfl, ?_⟩
    refine ⟨ma, _, rfl, .inl (.inl hma3), fun ra nra => ?_⟩
    rw [cut_initN]
    have s4 := same_upd (o := .lst ((iN (mostL (some c) k).dropLast).map V.int)) nra
    have nrp : pa ≠ ra := ne_of_none hp0 nra
    generalize hL : (mostL (some c) k).dropLast = L at s4
    have lL : L.length = k := by rw [← hL, List.length_dropLast, mostL_len, Nat.add_sub_cancel]
    have hra : (upd H3 ra (.lst ((iN L).map V.int))) ra = some (.lst ((iN L).map V.int)) := upd_same
    have hp4 := s4 _ _ hp0
    have sm4 := sm3.trans s4
    refine ⟨ra, _, rfl, .inl (.inl upd_same), ?_⟩
    refine for_it (walk_rev (K := K) (a := ra) (xs := (iN L).map V.int)) (fun i σ H5 => ∃ (lf : Nat) (y5 : Option V), lf = leftG (L.reverse.take i) n ∧ σ = [some (.int c), some (.int n), some (.ref ma), some (.ref pa), some (.int lf), y5] ∧ H5 pa = some (.lst ((iN (greedy (L.reverse.take i) n)).map V.int)) ∧ H5 ra = some (.lst ((iN L).map V.int)) ∧ Same H H5)
      ⟨n, none, rfl, rfl, hp4, hra, sm4⟩ (fun i σ H5 _ hW => ?_) (fun i x σ H5 H6 hi hW y => ?_) (fun σ H5 hW => ?_)
    · obtain ⟨_, _, _, _, _, h5, _⟩ := hW
      exact .inl (.inl h5)
    · obtain ⟨lf, y5, hlf, rfl, hp5, hra5, s5⟩ := hW
      obtain ⟨rfl, hx⟩ := y
      rw [List.length_map, iN_len] at hi
      have hr1 : L.reverse[i]? = some (L[L.length - 1 - i]'(by omega)) := by
        rw [List.getElem?_reverse hi, List.getElem?_eq_getElem (by omega)]
      rw [List.length_map, iN_len, iN_at (List.getElem?_eq_getElem (show L.length - 1 - i < L.length by omega))] at hx
      obtain rfl := Option.some.inj hx
      generalize L[L.length - 1 - i]'(by omega) = mo at *
      have tk : L.reverse.take (i + 1) = L.reverse.take i ++ [mo] := by rw [List.take_add_one, hr1]; rfl
      have eg := greedy_snoc (L.reverse.take i) mo n
      have el := leftG_snoc (L.reverse.take i) mo n
      rw [← tk] at eg el
      have lg := greedy_len (L.reverse.take i) n
      rw [List.length_take, List.length_reverse] at lg
      rw [← hlf] at eg el
      generalize greedy (L.reverse.take i) n = gr at *
      refine ⟨.int lf, rfl, lf, 0, rfl, rfl, _, rfl, ite2 (fun e => ?_) (fun e => ?_)⟩
      · have e' : (0 : Int) < lf := of_decide_eq_true e
        rw [if_pos (by omega)] at eg
        have emin : (if (lf : Int) < (mo : Int) then (lf : Int) else (mo : Int)) = ((min mo lf : Nat) : Int) := by split <;> omega
        refine ⟨.ref pa, rfl, .inl ⟨rfl, _, .inl (.inl hp5)⟩, .int mo, rfl, .int lf, rfl, mo, lf, rfl, ?_⟩
        rw [emin]
        refine ⟨pa, _, _, rfl, rfl, hp5, by rw [List.length_map, iN_len]; exact small1000 (by omega), ?_⟩
        have hp6 : (upd H6 pa (.lst ((iN gr).map V.int ++ [.int (min mo lf : Nat)]))) pa = some (.lst ((iN (greedy (L.reverse.take (i + 1)) n)).map V.int)) := by
          rw [upd_same, eg, iN_app, List.map_append]
          rfl
        have hra6 : (upd H6 pa (.lst ((iN gr).map V.int ++ [.int (min mo lf : Nat)]))) ra = some (.lst ((iN L).map V.int)) := by
          rw [upd_ne (Ne.symm nrp)]
          exact hra5
        have s6 : Same H (upd H6 pa (.lst ((iN gr).map V.int ++ [.int (min mo lf : Nat)]))) := fun b o eb => by
          rw [upd_ne (ne_of_none eb npa0)]
          exact s5 _ _ eb
        have hlast : atI ((iN (greedy (L.reverse.take (i + 1)) n)).map V.int) (-1) = some (.int (min mo lf : Nat)) := by
          rw [eg]
          refine at_neg (i := 1) (by omega) (by rw [List.length_map, iN_len, List.length_append, List.length_singleton]; omega) ?_
          rw [List.length_map, iN_len, List.length_append, List.length_singleton, Nat.add_sub_cancel]
          refine iN_at ?_
          rw [List.getElem?_append_right (Nat.le_refl _), Nat.sub_self]
          rfl
        show tAug _ _ _ _ _ (upd H6 pa (.lst ((iN gr).map V.int ++ [.int (min mo lf : Nat)])))
        generalize upd H6 pa (.lst ((iN gr).map V.int ++ [.int (min mo lf : Nat)])) = H7 at hp6 hra6 s6
        refine ⟨.int lf, rfl, .ref pa, rfl, 1, rfl, pa, _, _, _, rfl, rfl, .inl (.inl hp6), hlast, lf, _, rfl, rfl, ?_⟩
        refine ⟨_, some (.int mo), el.symm, ?_, hp6, hra6, s6⟩
        exact congrArg (fun v => [some (V.int c), some (V.int n), some (V.ref ma), some (V.ref pa), some (V.int v), some (V.int mo)]) (by show (lf : Int) - ((min mo lf : Nat) : Int) = _; omega)
      · have e' : lf = 0 := by
          have : ¬ (0 : Int) < lf := fun x => e (decide_eq_true x)
          omega
        rw [if_neg (by omega), List.append_nil] at eg
        refine ⟨_, some (.int mo), el.symm, ?_, by rw [eg]; exact hp5, hra5, s5⟩
        exact congrArg (fun v => [some (V.int c), some (V.int n), some (V.ref ma), some (V.ref pa), some (V.int v), some (V.int mo)]) (by omega)
    · obtain ⟨lf, y5, hlf, rfl, hp5, hra5, s5⟩ := hW
      rw [List.length_map, iN_len, List.take_of_length_le (by rw [List.length_reverse]; omega)] at hp5
      refine ⟨.ref pa, rfl, pa, _, rfl, .inl ⟨.inl (.inl hp5), fun p np => q _ p k (s5.trans (same_upd np)) en (.inl (.inl ?_))⟩⟩
      rw [upd_same]
      unfold bestL
      rw [hL]
def spBelow : Sp := fun vs H Q _ => ∃ c k n : Nat, vs = [.int c, .int ((k : Int) + 1), .int ((n : Int) + 1)] ∧ 2 ≤ c ∧ c ≤ 8 ∧ Q (.int (belowN c n k)) H
theorem cal_below (z : Z mg) (D : Def K mg "_below" s__below p__below) : Cal P w K mg base 2 "_below" p__below spBelow := by
  refine D.cal sc__below (fun vs H Q E h => by obtain ⟨_, _, _, rfl, _⟩ := h; rfl) fun f cdv A outer s H vs Q E hr h => ?_
  obtain ⟨c, k, n, rfl, c2, c8, q⟩ := h
  refine ⟨_, (pss_cons (ps_set (i := 3) sc__below.nd rfl (Or.inl rfl) (pv 1))
        (pss_cons (ps_set (i := 4) sc__below.nd rfl (Or.inl rfl) (pv 1))
        (pss_cons (ps_set (i := 5) sc__below.nd rfl (Or.inl rfl) pe_int)
        (pss_cons (ps_while PassesOwn.never (pt_cmpR op_lt (pv 3) (pv 2) (nomark _)) (pss_cons (ps_aug (i := 5) sc__below.nd rfl (Or.inl rfl) (pe_op op_add (pe_op op_sub (pe_callB (call_min2 rfl) (by rfl) z.«min» (by decide +kernel) (pa_cons (pv 4) (pa_cons (pe_op op_sub (pv 2) pe_int) pa_nil))) (pv 3)) pe_int) ip_add)
        (pss_cons (ps_set (i := 3) sc__below.nd rfl (Or.inl rfl) (pe_op op_add (pe_op op_mul (pv 0) (pv 3)) pe_int))
        (pss_one (ps_set (i := 4) sc__below.nd rfl (Or.inl rfl) (pe_op op_add (pe_op op_mul (pv 0) (pv 4)) (pv 0)))))))
        (pss_one (ps_ret (pv 5))))))), ?_⟩
  refine ⟨_, rfl, _, rfl, ?_⟩
  refine ⟨fun m σ H2 => ∃ j, m = n + 1 - (1 + lvS c j + k * c ^ j) ∧ σ = [some (.int c), some (.int ((k : Int) + 1)), some (.int ((n : Int) + 1)), some (.int ((1 + lvS c j + k * c ^ j : Nat) : Int)), some (.int ((lvS c j + (k + 1) * c ^ j : Nat) : Int)), some (.int (foundN c n j k : Nat))] ∧ H2 = H, ⟨_, 0, rfl, ?_, rfl⟩, ?_⟩
  · show [some (V.int c), some (V.int ((k : Int) + 1)), some (V.int ((n : Int) + 1)), some (V.int ((k : Int) + 1)), some (V.int ((k : Int) + 1)), some (V.int 0)] = _
    have e1 : ((1 + lvS c 0 + k * c ^ 0 : Nat) : Int) = (k : Int) + 1 := by
      rw [Nat.pow_zero]
      show ((1 + 0 + k * 1 : Nat) : Int) = _
      omega
    have e2 : ((lvS c 0 + (k + 1) * c ^ 0 : Nat) : Int) = (k : Int) + 1 := by
      rw [Nat.pow_zero]
      show ((0 + (k + 1) * 1 : Nat) : Int) = _
      omega
    rw [e1, e2]
    rfl
  intro m σ H2 hW
  obtain ⟨j, rfl, rfl, rfl⟩ := hW
  refine ⟨_, rfl, _, rfl, _, _, rfl, rfl, _, rfl, ite2 (fun e => ?_) (fun e => ?_)⟩
  · have e' : ((1 + lvS c j + k * c ^ j : Nat) : Int) < (n : Int) + 1 := of_decide_eq_true e
    have p1 : 1 ≤ c ^ j := Nat.one_le_pow _ _ (by omega)
    have a1 : (k + 1) * c ^ j = k * c ^ j + c ^ j := Nat.succ_mul _ _
    have a2 : lvS c (j + 1) = c + c * lvS c j := lvS_succ c j
    have a3 : k * c ^ (j + 1) = c * (k * c ^ j) := by rw [Nat.pow_succ, ← Nat.mul_assoc, Nat.mul_comm]
    have a4 : (k + 1) * c ^ (j + 1) = c * ((k + 1) * c ^ j) := by rw [Nat.pow_succ, ← Nat.mul_assoc, Nat.mul_comm]
    have a5 : foundN c n (j + 1) k = foundN c n j k + min (c ^ j) (n - lvS c j - k * c ^ j) := rfl
    have a6 : c * (1 + lvS c j + k * c ^ j) = c + c * lvS c j + c * (k * c ^ j) := by rw [Nat.mul_add, Nat.mul_add, Nat.mul_one]
    have a7 : c * (lvS c j + (k + 1) * c ^ j) = c * lvS c j + c * ((k + 1) * c ^ j) := Nat.mul_add ..
    have g1 : 1 + lvS c j + k * c ^ j < 1 + lvS c (j + 1) + k * c ^ (j + 1) := by
      rw [a2, a3]
      have := Nat.mul_le_mul_right (k * c ^ j) (show 1 ≤ c by omega)
      have := Nat.mul_le_mul_right (lvS c j) (show 1 ≤ c by omega)
      omega
    refine ⟨fun σ H3 => σ = [some (.int c), some (.int ((k : Int) + 1)), some (.int ((n : Int) + 1)), some (.int ((1 + lvS c (j + 1) + k * c ^ (j + 1) : Nat) : Int)), some (.int ((lvS c (j + 1) + (k + 1) * c ^ (j + 1) : Nat) : Int)), some (.int (foundN c n (j + 1) k : Nat))] ∧ H3 = H2, fun σ H3 hN => ?_, ?_⟩
    · exact ⟨_, by omega, j + 1, rfl, hN.1, hN.2⟩
    · have e8 : (if (n : Int) < ((lvS c j + (k + 1) * c ^ j : Nat) : Int) then (n : Int) else ((lvS c j + (k + 1) * c ^ j : Nat) : Int)) - ((1 + lvS c j + k * c ^ j : Nat) : Int) + 1 = ((min (c ^ j) (n - lvS c j - k * c ^ j) : Nat) : Int) := by
        rw [a1]
        split <;> omega
      refine ⟨_, rfl, _, rfl, _, rfl, _, 1, rfl, rfl, _, _, rfl, ?_⟩
      rw [show (n : Int) + 1 - 1 = n by omega]
      refine ⟨_, rfl, _, _, rfl, rfl, _, 1, rfl, rfl, _, _, rfl, rfl, ?_⟩
      rw [e8]
      refine ⟨_, rfl, _, rfl, _, _, rfl, rfl, .inl ⟨by omega, by omega⟩, _, 1, rfl, rfl, ?_⟩
      refine ⟨_, rfl, _, rfl, _, _, rfl, rfl, .inl ⟨by omega, by omega⟩, _, rfl, _, _, rfl, rfl, ?_⟩
      refine ⟨?_, rfl⟩
      have b1 : (c : Int) * ((1 + lvS c j + k * c ^ j : Nat) : Int) + 1 = ((1 + lvS c (j + 1) + k * c ^ (j + 1) : Nat) : Int) := by
        rw [← Int.natCast_mul, a6, a2, a3]
        omega
      have b2 : (c : Int) * ((lvS c j + (k + 1) * c ^ j : Nat) : Int) + (c : Int) = ((lvS c (j + 1) + (k + 1) * c ^ (j + 1) : Nat) : Int) := by
        rw [← Int.natCast_mul, a7, a2, a4]
        omega
      have b3 : ((foundN c n j k : Nat) : Int) + ((min (c ^ j) (n - lvS c j - k * c ^ j) : Nat) : Int) = ((foundN c n (j + 1) k : Nat) : Int) := by
        rw [a5]
        omega
      rw [← b1, ← b2, ← b3]
      rfl
  · have e' : ¬ ((1 + lvS c j + k * c ^ j : Nat) : Int) < (n : Int) + 1 := fun x => e (decide_eq_true x)
    rw [found_below (by omega) (by omega)]
    exact ⟨_, rfl, q⟩
/-- what sizes tells -/
def IsSizes : Kd → Nat → List Nat → Prop
  | .parts m, n, l => l = likeL m n
  | .half, n, l => l = halfL n
  | .best c, n, l => ∃ k, Enough (some c) (n + 1) k ∧ l = bestL (some c) k n
  | .heap c, n, l => l = heapL c n
theorem IsSizes.uniq {k : Kd} {n : Nat} {l m : List Nat} (h : IsSizes k n l) (g : IsSizes k n m) : l = m := by
  cases k with
  | parts c => exact h.trans g.symm
  | half => exact h.trans g.symm
  | heap c => exact h.trans g.symm
  | best c =>
    obtain ⟨i, h1, rfl⟩ := h
    obtain ⟨j, g1, rfl⟩ := g
    rw [h1.uniq g1]
theorem IsSizes.len {k : Kd} {n : Nat} {l : List Nat} (h : IsSizes k n l) (hk : k.ok) (hn : n ≤ 10 ^ 30) : l.length ≤ 200 := by
  cases k with
  | parts c =>
    obtain ⟨k1, k2⟩ := hk
    have e : l = likeL c n := h
    rw [e, likeL_at n (by omega), List.length_map, List.length_range]
    omega
  | half =>
    have e : l = halfL n := h
    rw [e]
    have := half_len 100 n (by omega)
    omega
  | heap c =>
    obtain ⟨k1, k2⟩ := hk
    have e : l = heapL c n := h
    rw [e]
    unfold heapL
    rw [List.length_map, List.length_range]
    omega
  | best c =>
    obtain ⟨i, h1, rfl⟩ := h
    have two : Two (some c) := hk.1
    have := row_short two (t := n + 1) (by omega) h1.2
    have := bestL_len (some c) i n
    omega
def spSizes (K : PySem.W.Frag) : Sp := fun vs H Q _ => ∃ (a : Addr) (k : Kd) (n : Nat), vs = [.ref a, .int n] ∧ SqT K H a k.vs ∧ k.ok ∧ n ≤ 10 ^ 30 ∧ ∀ H' p l, Same H H' → IsSizes k n l → SqT K H' p ((iN l).map V.int) → Q (.ref p) H'
theorem cal_sizes (z : Z mg) (m_MOST_NUMBER : ∃ t, mg "MOST_NUMBER" = some (.int (10 ^ 30) t)) (c_need_kind : Cal P w K mg base 3 "need_kind" p_need_kind (spNeedKind K)) (c_is_number : Cal P w K mg base 2 "is_number" p_is_number spNum)
    (c__like_parts : Cal P w K mg base 2 "_like_parts" p__like_parts (spLikeP K)) (c__half_parts : Cal P w K mg base 2 "_half_parts" p__half_parts (spHalf K)) (c__best_parts : Cal P w K mg base 4 "_best_parts" p__best_parts (spBest K)) (c__below : Cal P w K mg base 2 "_below" p__below spBelow)
    (D : Def K mg "sizes" s_sizes p_sizes) : Cal P w K mg base 5 "sizes" p_sizes (spSizes K) := by
  obtain ⟨t1, m_MOST_NUMBER⟩ := m_MOST_NUMBER
  refine D.cal sc_sizes (fun vs H Q E h => by obtain ⟨_, _, _, rfl, _⟩ := h; rfl) fun f cdv A outer s H vs Q E hr h => ?_
  obtain ⟨a, k, n, rfl, hS, hk, hn, q⟩ := h
  refine ⟨_, (pss_cons (ps_expr (pe_cal c_need_kind (hr.mono (by decide)) (by rfl) (pa_cons (pv 0) pa_nil)))
        (pss_cons (ps_if (pt_not (pt_val (pe_cal c_is_number (hr.mono (by decide)) (by rfl) (pa_cons (pv 1) (pa_cons pe_int (pa_cons (pe_globI (by rfl) m_MOST_NUMBER) pa_nil)))))) (pss_one ps_never) pss_nil)
        (pss_cons (ps_if (pt_cmpR op_eq (pe_ix ix_tup (pv 0) pe_int (fun _ _ => rfl)) pe_str (nomark _)) (pss_one (ps_ret (pe_cal c__like_parts (hr.mono (by decide)) (by rfl) (pa_cons (pe_ix ix_tup (pv 0) pe_int (fun _ _ => rfl)) (pa_cons (pv 1) pa_nil))))) pss_nil)
        (pss_cons (ps_if (pt_cmpR op_eq (pe_ix ix_tup (pv 0) pe_int (fun _ _ => rfl)) pe_str (nomark _)) (pss_one (ps_ret (pe_cal c__half_parts (hr.mono (by decide)) (by rfl) (pa_cons (pv 1) pa_nil)))) pss_nil)
        (pss_cons (ps_if (pt_cmpR op_eq (pe_ix ix_tup (pv 0) pe_int (fun _ _ => rfl)) pe_str (nomark _)) (pss_one (ps_ret (pe_cal c__best_parts (hr.mono (by decide)) (by rfl) (pa_cons (pe_ix ix_tup (pv 0) pe_int (fun _ _ => rfl)) (pa_cons (pv 1) pa_nil))))) pss_nil)
        (pss_one (ps_ret (pe_callTy (call_tuple_of) (by rfl) z.«tuple» (by decide +kernel) (pa_cons (pe_lc (own := [("first", 2)]) (g := (gName 2)) (tt := tYes) rfl sc_sizes.nd (pi_range2 (by rfl) z.«range» (pa_cons pe_int (pa_cons (pe_op op_add (pe_callB (call_min2 rfl) (by rfl) z.«min» (by decide +kernel) (pa_cons (pe_ix ix_tup (pv 0) pe_int (fun _ _ => rfl)) (pa_cons (pv 1) pa_nil))) pe_int) pa_nil))) (blkOk_by (N := n_sizes) (sc := defScope s_sizes) (by decide +kernel)) (fun _ _ _ _ _ => (pg_name (i := 2) sc_sizes.nd rfl (Or.inl rfl))) (fun _ _ _ _ _ => pts_nil) (fun _ _ _ _ _ => (pe_cal c__below (hr.mono (by decide)) (by rfl) (pa_cons (pe_ix (ix_tupK (K := K) rfl) (pv 0) pe_int (fun _ _ => rfl)) (pa_cons (pv 2) (pa_cons (pe_op op_add (pv 1) pe_int) pa_nil)))))) pa_nil))))))))), ?_⟩
  refine ⟨.ref a, rfl, a, k, rfl, hS, hk, ?_⟩
  refine ⟨.int n, rfl, n, 0, 10 ^ 30, rfl, ?_⟩
  rw [decide_eq_true (by omega)]
  refine ⟨true, rfl, iteF ?_⟩
  cases k with
  | parts c =>
    obtain ⟨k1, k2⟩ := hk
    refine ⟨.ref a, rfl, a, _, 0, _, rfl, rfl, hS, at0, rfl, _, rfl, iteT ?_⟩
    exact ⟨.ref a, rfl, a, _, 1, _, rfl, rfl, hS, at1, .int n, rfl, c, n, rfl, k1, k2, hn, fun H' p s' h' => q H' p _ s' rfl h'⟩
  | half =>
    refine ⟨.ref a, rfl, a, _, 0, _, rfl, rfl, hS, at0, rfl, _, rfl, iteF ?_⟩
    refine ⟨.ref a, rfl, a, _, 0, _, rfl, rfl, hS, at0, rfl, _, rfl, iteT ?_⟩
    exact ⟨.int n, rfl, n, rfl, hn, fun H' p s' h' => q H' p _ s' rfl h'⟩
  | best c =>
    obtain ⟨k1, k2⟩ := hk
    refine ⟨.ref a, rfl, a, _, 0, _, rfl, rfl, hS, at0, rfl, _, rfl, iteF ?_⟩
    refine ⟨.ref a, rfl, a, _, 0, _, rfl, rfl, hS, at0, rfl, _, rfl, iteF ?_⟩
    refine ⟨.ref a, rfl, a, _, 0, _, rfl, rfl, hS, at0, rfl, _, rfl, iteT ?_⟩
    exact ⟨.ref a, rfl, a, _, 1, _, rfl, rfl, hS, at1, .int n, rfl, c, n, rfl, k1, k2, hn, fun H' p i s' en h' => q H' p _ s' ⟨i, en, rfl⟩ h'⟩
  | heap c =>
    obtain ⟨k1, k2⟩ := hk
    refine ⟨.ref a, rfl, a, _, 0, _, rfl, rfl, hS, at0, rfl, _, rfl, iteF ?_⟩
    refine ⟨.ref a, rfl, a, _, 0, _, rfl, rfl, hS, at0, rfl, _, rfl, iteF ?_⟩
    refine ⟨.ref a, rfl, a, _, 0, _, rfl, rfl, hS, at0, rfl, _, rfl, iteF ?_⟩
    have emin : (if (n : Int) < (c : Int) then (n : Int) else (c : Int)) = ((min c n : Nat) : Int) := by split <;> omega
    refine ⟨.ref a, rfl, a, _, 1, _, rfl, rfl, hS, at1, .int n, rfl, c, n, rfl, ?_⟩
    rw [emin]
    refine ⟨_, 1, rfl, rfl, 1, _, rfl, ⟨by decide, by decide, by omega, by omega⟩, fun L nL => ?_⟩
    rw [show (((min c n : Nat) : Int) + 1 - 1).toNat = min c n by omega]
    refine lc_std (walk_range (lo := 1) (n := min c n)) (List.range (min c n)) (fun k => some (.int (belowN c n k : Nat))) (by rw [List.length_range]) (small1000 (by omega)) nL (fun _ _ => trivial) (fun j x H5 H6 k RR hkk s5 y hRR => ?_) (fun H5 s5 e5 => ?_)
    · obtain ⟨rfl, rfl⟩ := y
      have hkj : k = j := by
        rw [List.getElem?_eq_some_iff] at hkk
        obtain ⟨hj, e⟩ := hkk
        rw [List.getElem_range] at e
        exact e.symm
      subst hkj
      refine ⟨rfl, ?_⟩
      refine ⟨.ref a, rfl, a, _, 1, _, rfl, rfl, s5.tup hS, at1, _, rfl, .int n, rfl, n, 1, rfl, rfl, c, k, n, ?_, k1, k2, hRR _ (Same.refl _)⟩
      show [V.int (c : Int), V.int (1 + (k : Int)), V.int ((n : Int) + 1)] = [V.int (c : Int), V.int ((k : Int) + 1), V.int ((n : Int) + 1)]
      rw [Int.add_comm 1 (k : Int)]
    · rw [filterMap_some] at e5
      have e6 : (List.range (min c n)).map (fun k => V.int (belowN c n k : Nat)) = (iN (heapL c n)).map V.int := by
        unfold iN heapL
        rw [List.map_map, List.map_map]
        rfl
      rw [e6] at e5
      exact ⟨L, _, rfl, .inl ⟨.inl (.inl e5), fun l nl => q _ l _ (s5.trans (same_upd nl)) rfl (.inl (.inl upd_same))⟩⟩
end
end LK
namespace LK
open PySem PySem.Spec PyProof.Rows L2 CD CDS
section
variable {P : Program} {w : World} {K : PySem.W.Frag} {mg : Str → Option Value} {base : Heap}
/-! ### draws -/
abbrev kC : Key := .inr "cells"
abbrev kG : Key := .inr "left"
abbrev kS : Key := .inr "at"
theorem nCG : ¬ kC = kG := by decide
theorem nCS : ¬ kC = kS := by decide
theorem nGS : ¬ kG = kS := by decide
def kvM (c g k : V) : List (Key × V) := [(kC, c), (kG, g), (kS, k)]
theorem getM1 (c g k : V) : valV (kvM c g k) kC = some c := by simp [valV, kvM]
theorem getM2 (c g k : V) : valV (kvM c g k) kG = some g := by
  have h := nCG
  simp [valV, kvM, h]
theorem getM3 (c g k : V) : valV (kvM c g k) kS = some k := by
  have h := nCS
  have h2 := nGS
  simp [valV, kvM, h, h2]
theorem putM2 (c g k v : V) : putK (kvM c g k) kG v = kvM c v k := by
  have h := nCG
  have h2 : ¬ kS = kG := fun e => nGS e.symm
  simp [putK, kvM, h, h2]
theorem putM3 (c g k v : V) : putK (kvM c g k) kS v = kvM c g v := by
  have h := nCS
  have h2 := nGS
  simp [putK, kvM, h, h2]
/-- the state of the draws at d, what is left of great cells at g; at most n drawn -/
structure Draw (H : Hp) (d g c : Addr) (n : Nat) : Prop where
  ex : ∃ (cells greats : List Int) (spot : Nat), H d = some (.dK (kvM (.ref c) (.ref g) (.int spot))) ∧ H c = some (.lst (cells.map V.int)) ∧ H g = some (.lst (greats.map V.int)) ∧ c ≠ g ∧ cells.length ≤ 1000 ∧ greats.length ≤ 1000 ∧ spot ≤ n
/-- all that was tracked stays, but the draws -/
def But (H H' : Hp) (d g : Addr) : Prop := ∀ b o, H b = some o → b ≠ d → b ≠ g → H' b = some o
def spBegun (K : PySem.W.Frag) : Sp := fun vs H Q _ => ∃ (a : Addr) (ns : List Int), vs = [.ref a] ∧ SqL K H a (ns.map V.int) ∧ ns.length ≤ 63 ∧ ∀ H' d g c, Same H H' → H d = none → H g = none → H c = none → Draw H' d g c 0 → Q (.ref d) H'
theorem cal_law_begun (z : Z mg) (D : Def K mg "_law_begun" s__law_begun p__law_begun) : Cal P w K mg base 2 "_law_begun" p__law_begun (spBegun K) := by
  refine D.cal sc__law_begun (fun vs H Q E h => by obtain ⟨_, _, rfl, _⟩ := h; rfl) fun f cdv A outer s H vs Q E hr h => ?_
  obtain ⟨a, ns, rfl, hS, hl, q⟩ := h
  refine ⟨_, (pss_one (ps_ret (pe_disp (pps_cons pe_str (pe_callTy (call_list_of) (by rfl) z.«list» (by decide +kernel) (pa_cons (pv 0) pa_nil)) (pps_cons pe_str (pe_lc (own := [("cell", 1)]) (g := (gName 1)) rfl sc__law_begun.nd (pi_list (pv 0)) (blkOk_by (N := n__law_begun) (sc := defScope s__law_begun) (by decide +kernel)) (fun _ _ _ _ _ => (pg_name (i := 1) sc__law_begun.nd rfl (Or.inl rfl))) (fun _ _ _ _ _ => (pts_one (pt_cmpR op_ge (pv 1) (pe_op op_pow pe_int pe_int) (nomark _)))) (fun _ _ _ _ _ => (pv 1))) (pps_cons pe_str pe_int pps_nil))) (by rfl) (by rfl) (fun z => by cases z) (by decide)))), ?_⟩
  intro d nd
  have sd : Same H (upd H d (.dK [])) := same_upd nd
  have hd0 : (upd H d (.dK [])) d = some (.dK []) := upd_same
  refine ⟨.ref a, rfl, a, _, rfl, .inl (sd.seq hS), fun c nc => ?_⟩
  have sc : Same (upd H d (.dK [])) (upd (upd H d (.dK [])) c (.lst (ns.map V.int))) := same_upd nc
  have hc0 : (upd (upd H d (.dK [])) c (.lst (ns.map V.int))) c = some (.lst (ns.map V.int)) := upd_same
  have hd1 := sc _ _ hd0
  have s1 := sd.trans sc
  have nc0 : H c = none := Same.free sd nc
  have cd : c ≠ d := fun x => by rw [x, hd0] at nc; cases nc
  refine ⟨.ref a, rfl, a, rfl, ⟨_, s1.seq hS⟩, fun g ng => ?_⟩
  have ng0 : H g = none := Same.free s1 ng
  have gd : g ≠ d := fun x => by rw [x, hd1] at ng; cases ng
  have cg : c ≠ g := ne_of_none hc0 ng
  refine lc_std (walk_list (K := K) (a := a) (xs := ns.map V.int)) ns (fun n => if 10 ^ 18 ≤ n then some (.int n) else none) (by rw [List.length_map]) (small1000 (by rw [List.length_map]; omega)) ng (fun H2 s2 => s2.seq (s1.seq hS)) (fun i x H2 H3 n R hn s2 y hR => ?_) (fun H2 s2 e => ?_)
  · obtain ⟨rfl, gg⟩ := y
    obtain rfl := map_at hn gg
    refine ⟨rfl, .int n, rfl, 10, 18, rfl, rfl, ⟨by decide, by decide, by decide⟩, n, 10 ^ 18, rfl, rfl, _, rfl, ite2 (fun c => ?_) (fun c => ?_)⟩
    · have c' : (10 : Int) ^ 18 ≤ n := of_decide_eq_true c
      have z2 := hR _ (Same.refl _)
      rw [if_pos c'] at z2
      exact ⟨.int n, rfl, z2⟩
    · have c' : ¬ (10 : Int) ^ 18 ≤ n := fun x => c (decide_eq_true x)
      have z2 := hR _ (Same.refl _)
      rw [if_neg c'] at z2
      exact z2
  · have e2 : ns.filterMap (fun n => if 10 ^ 18 ≤ n then some (V.int n) else none) = (ns.filter fun n => decide (10 ^ 18 ≤ n)).map V.int := by
      clear e hl hS q ng sd sc s1 hd0 hc0 hd1 nc s2
      induction ns with
      | nil => rfl
      | cons n r ih =>
        rw [List.filterMap_cons, List.filter_cons]
        by_cases c : (10 : Int) ^ 18 ≤ n
        · rw [if_pos c, if_pos (decide_eq_true c), List.map_cons, ← ih]
        · rw [if_neg c, if_neg (by simpa using c), ← ih]
    rw [e2] at e
    refine ⟨s2 _ _ hd1, kvM (.ref c) (.ref g) (.int 0), rfl, (by decide : 3 ≤ 15), ?_⟩
    have em : mergeK [] (kvM (.ref c) (.ref g) (.int 0)) = kvM (.ref c) (.ref g) (.int 0) := by
      have h1 := nCG
      have h2 := nCS
      have h3 := nGS
      simp [mergeK, kvM, putK, h1, h2, h3]
    rw [em]
    refine q _ d g c (fun b o hb => ?_) nd ng0 nc0 ⟨ns, ns.filter fun n => decide (10 ^ 18 ≤ n), 0, upd_same, ?_, ?_, cg, by omega, Nat.le_trans (List.length_filter_le _ _) (by omega), Nat.le_refl _⟩
    · rw [upd_ne (ne_of_none hb nd)]
      exact s2 _ _ (s1 _ _ hb)
    · rw [upd_ne cd]
      exact s2 _ _ hc0
    · rw [upd_ne gd]
      exact e
theorem gM1 {H : Hp} {d : Addr} {c g k : V} (h : H d = some (.dK (kvM c g k))) : DGet H d (.str "cells") (some c) := getM1 c g k ▸ DGet.k (k := kC) h
theorem gM2 {H : Hp} {d : Addr} {c g k : V} (h : H d = some (.dK (kvM c g k))) : DGet H d (.str "left") (some g) := getM2 c g k ▸ DGet.k (k := kG) h
theorem gM3 {H : Hp} {d : Addr} {c g k : V} (h : H d = some (.dK (kvM c g k))) : DGet H d (.str "at") (some k) := getM3 c g k ▸ DGet.k (k := kS) h
theorem pM2 {H : Hp} {d : Addr} {c g k v : V} (h : H d = some (.dK (kvM c g k))) : DPut H d (.str "left") v (upd H d (.dK (kvM c v k))) := putM2 c g k v ▸ DPut.k (k := kG) (v := v) h (by decide : 3 < sizeLine)
theorem pM3 {H : Hp} {d : Addr} {c g k v : V} (h : H d = some (.dK (kvM c g k))) : DPut H d (.str "at") v (upd H d (.dK (kvM c g v))) := putM3 c g k v ▸ DPut.k (k := kS) (v := v) h (by decide : 3 < sizeLine)
theorem log_small {t : Int} (h : t.natAbs < 2 ^ 100) : t.natAbs.log2 < 100 := by
  by_cases h0 : t.natAbs = 0
  · rw [h0]; decide
  · have := (Nat.log2_lt h0).mpr h
    omega
def spNext : Sp := fun vs H Q _ => ∃ (d g c : Addr) (n : Nat) (t : Int), vs = [.ref d, .int t] ∧ Draw H d g c n ∧ n < 2 ^ 40 ∧ 1 ≤ t ∧ t ≤ 10 ^ 30 ∧
  ∀ H' g' (v : Int), But H H' d g → (g' = g ∨ H g' = none) → Draw H' d g' c (n + 1) → 0 ≤ v → v < t → Q (.int v) H'
theorem But.refl (H : Hp) (d g : Addr) : But H H d g := fun _ _ h _ _ => h
theorem But.same {H H1 H2 : Hp} {d g : Addr} (h : But H H1 d g) (s : Same H1 H2) : But H H2 d g := fun b o e n1 n2 => s _ _ (h b o e n1 n2)
theorem ix0 {xs : List V} (h : xs ≠ []) : ixN xs.length 0 = some 0 := by
  have := List.length_pos_iff.mpr h
  unfold ixN
  rw [if_pos (Int.le_refl 0), if_pos (by omega)]
  rfl
theorem fmod_range {a t : Int} (h : 1 ≤ t) : 0 ≤ a.fmod t ∧ a.fmod t < t := by
  rw [Int.fmod_eq_emod_of_nonneg _ (by omega)]
  exact ⟨Int.emod_nonneg _ (by omega), Int.emod_lt_of_pos _ (by omega)⟩
theorem cut_ints (g0 : Int) (gs : List Int) : cutV ((g0 :: gs).map V.int) (some 1) none = gs.map V.int := by
  rw [cut_tail]
  rfl
theorem cal_law_next (z : Z mg) (D : Def K mg "_law_next" s__law_next p__law_next) : Cal P w K mg base 2 "_law_next" p__law_next spNext := by
  refine D.cal sc__law_next (fun vs H Q E h => by obtain ⟨_, _, _, _, _, rfl, _⟩ := h; rfl) fun f cdv A outer s H vs Q E hr h => ?_
  obtain ⟨d, g, c, n, t, rfl, ⟨cells, greats, spot, hd, hc, hg, ncg, lc, lg, hs⟩, hn, t1, t2, q⟩ := h
  have hu := hu_of hr
  have ncd : c ≠ d := ne_of hc hd (fun e => nomatch e)
  have ngd : g ≠ d := ne_of hg hd (fun e => nomatch e)
  refine ⟨_, (pss_cons (ps_while PassesOwn.never (PW.pt (pw_and (pt_cmpR (op_neD hr.units) (pe_dget hu (pv 0) pe_str (fun _ _ => rfl)) (pe_lst pa_nil) (nomark _)) (pw_and1 (pt_cmpR op_eq (pe_ix ix_list (pe_dget hu (pv 0) pe_str (fun _ _ => rfl)) pe_int (fun _ _ => rfl)) pe_int (nomark _))))) (pss_one (ps_dput hu (pv 0) pe_str (pe_slice sl_list (pe_dget hu (pv 0) pe_str (fun _ _ => rfl)) (po_some pe_int) po_none) rfl)))
        (pss_cons (ps_if (pt_cmpR (op_neD hr.units) (pe_dget hu (pv 0) pe_str (fun _ _ => rfl)) (pe_lst pa_nil) (nomark _)) (pss_cons (ps_set (i := 2) sc__law_next.nd rfl (Or.inl rfl) (pe_callTy (call_int1) (by rfl) z.«int» (by decide +kernel) (pa_cons (pe_ix ix_list (pe_dget hu (pv 0) pe_str (fun _ _ => rfl)) pe_int (fun _ _ => rfl)) pa_nil)))
        (pss_cons (ps_asg (pe_op op_fdivW (pv 2) (pv 1)) (pg_sub (pe_dget hu (pv 0) pe_str (fun _ _ => rfl)) pe_int set_list))
        (pss_one (ps_ret (pe_op op_modN (pv 2) (pv 1)))))) pss_nil)
        (pss_cons (ps_set (i := 3) sc__law_next.nd rfl (Or.inl rfl) (pe_op op_add (pe_dget hu (pv 0) pe_str (fun _ _ => rfl)) pe_int))
        (pss_cons (ps_dput hu (pv 0) pe_str (pv 3) rfl)
        (pss_cons (ps_set (i := 4) sc__law_next.nd rfl (Or.inl rfl) (pe_ifExp (pt_cmpR (op_neD hr.units) (pe_dget hu (pv 0) pe_str (fun _ _ => rfl)) (pe_lst pa_nil) (nomark _)) (pe_ix ix_list (pe_dget hu (pv 0) pe_str (fun _ _ => rfl)) (pe_op op_modN (pe_callTy (call_int1) (by rfl) z.«int» (by decide +kernel) (pa_cons (pv 3) pa_nil)) (pe_callB (call_len_seq) (by rfl) z.«len» (by decide +kernel) (pa_cons (pe_dget hu (pv 0) pe_str (fun _ _ => rfl)) pa_nil))) (fun _ _ => rfl)) pe_int))
        (pss_cons (ps_set (i := 5) sc__law_next.nd rfl (Or.inl rfl) (pe_op op_mul (pe_callTy (call_int1) (by rfl) z.«int» (by decide +kernel) (pa_cons (pe_op op_add (pe_op op_add (pe_op op_modN (pe_callTy (call_int1) (by rfl) z.«int» (by decide +kernel) (pa_cons (pv 4) pa_nil)) pe_int) (pe_op op_mul pe_int (pv 3))) (pe_op op_mul (pe_op op_mul pe_int (pv 3)) (pv 3))) pa_nil)) pe_int))
        (pss_cons (ps_set (i := 5) sc__law_next.nd rfl (Or.inl rfl) (pe_op op_mul (pe_callTy (call_int1) (by rfl) z.«int» (by decide +kernel) (pa_cons (pe_op op_add (pe_op op_modN (pe_callTy (call_int1) (by rfl) z.«int» (by decide +kernel) (pa_cons (pv 5) pa_nil)) pe_int) (pe_op op_mul pe_int (pv 3))) pa_nil)) pe_int))
        (pss_one (ps_ret (pe_op op_modN (pe_callTy (call_int1) (by rfl) z.«int» (by decide +kernel) (pa_cons (pe_op op_fdivN (pe_op op_modN (pe_callTy (call_int1) (by rfl) z.«int» (by decide +kernel) (pa_cons (pv 5) pa_nil)) pe_int) pe_int) pa_nil)) (pv 1))))))))))), ?_⟩
  refine ⟨fun m σ H2 => ∃ g2 gs2, m = gs2.length ∧ σ = [some (.ref d), some (.int t), none, none, none, none] ∧ H2 d = some (.dK (kvM (.ref c) (.ref g2) (.int spot))) ∧ H2 c = some (.lst (cells.map V.int)) ∧ H2 g2 = some (.lst (gs2.map V.int)) ∧ c ≠ g2 ∧ gs2.length ≤ 1000 ∧
      But H H2 d g ∧ (g2 = g ∨ H g2 = none),
    ⟨greats.length, g, greats, rfl, rfl, hd, hc, hg, ncg, lg, But.refl H d g, .inl rfl⟩, ?_⟩
  intro m σ H2 hW
  obtain ⟨g2, gs2, rfl, rfl, hd2, hc2, hg2, ncg2, lg2, but, hfr⟩ := hW
  have ngd2 : g2 ≠ d := ne_of hg2 hd2 (fun e => nomatch e)
  -- m['great'] != []
  refine ⟨.ref d, rfl, d, _, rfl, gM2 hd2, by decide, fun p np => ?_⟩
  have s1 : Same H2 (upd H2 p (.lst [])) := same_upd np
  refine ne_nil (.inl (.inl (s1 _ _ hg2))) upd_same ⟨_, rfl, ?_⟩
  generalize upd H2 p (.lst []) = H3 at s1
  replace hd2 := s1 _ _ hd2
  replace hc2 := s1 _ _ hc2
  replace hg2 := s1 _ _ hg2
  replace but := but.same s1
  clear s1 np
  cases gs2 with
  | nil =>
    refine iteF (iteF ?_)
    refine ⟨.ref d, rfl, d, _, rfl, gM2 hd2, by decide, fun p np => ?_⟩
    have s1 : Same H3 (upd H3 p (.lst [])) := same_upd np
    refine ne_nil (ns := []) (.inl (.inl (s1 _ _ hg2))) upd_same ⟨_, rfl, iteF ?_⟩
    generalize upd H3 p (.lst []) = H4 at s1
    replace hd2 := s1 _ _ hd2
    replace hc2 := s1 _ _ hc2
    replace hg2 := s1 _ _ hg2
    replace but := but.same s1
    refine ⟨.ref d, rfl, d, _, rfl, gM3 hd2, spot, 1, rfl, rfl, ?_⟩
    refine ⟨_, rfl, .ref d, rfl, d, _, rfl, pM3 hd2, ?_⟩
    have hd5 : (upd H4 d (.dK (kvM (.ref c) (.ref g2) (.int ((spot : Int) + 1))))) d = some (.dK (kvM (.ref c) (.ref g2) (.int ((spot : Int) + 1)))) := upd_same
    have hc5 : (upd H4 d (.dK (kvM (.ref c) (.ref g2) (.int ((spot : Int) + 1))))) c = some (.lst (cells.map V.int)) := by rw [upd_ne ncd]; exact hc2
    have hg5 : (upd H4 d (.dK (kvM (.ref c) (.ref g2) (.int ((spot : Int) + 1))))) g2 = some (.lst ([].map V.int)) := by rw [upd_ne ngd2]; exact hg2
    have but5 : But H (upd H4 d (.dK (kvM (.ref c) (.ref g2) (.int ((spot : Int) + 1))))) d g := fun b o e n1 n2 => by rw [upd_ne n1]; exact but b o e n1 n2
    show tSeq _ _ _ _ (upd H4 d (.dK (kvM (.ref c) (.ref g2) (.int ((spot : Int) + 1)))))
    generalize upd H4 d (.dK (kvM (.ref c) (.ref g2) (.int ((spot : Int) + 1)))) = H5 at hd5 hc5 hg5 but5
    refine ⟨.ref d, rfl, d, _, rfl, gM1 hd5, by decide, fun p5 np5 => ?_⟩
    have s5 : Same H5 (upd H5 p5 (.lst [])) := same_upd np5
    refine ne_nil (.inl (.inl (s5 _ _ hc5))) upd_same ⟨_, rfl, ?_⟩
    generalize upd H5 p5 (.lst []) = H6 at s5
    replace hd5 := s5 _ _ hd5
    replace hc5 := s5 _ _ hc5
    replace hg5 := s5 _ _ hg5
    replace but5 := but5.same s5
    have dr : Draw H6 d g2 c (n + 1) := ⟨cells, [], spot + 1, hd5, hc5, hg5, ncg2, lc, by decide, by omega⟩
    refine ite2 (fun e => ?_) (fun e => ?_)
    · have ne : cells ≠ [] := fun x => by rw [x] at e; exact absurd e (by decide)
      have hlen : 0 < cells.length := List.length_pos_iff.mpr ne
      obtain ⟨r1, r2⟩ := fmod_range (a := (spot : Int) + 1) (t := (cells.length : Int)) (by omega)
      obtain ⟨j, hj⟩ : ∃ j : Nat, ((spot : Int) + 1).fmod (cells.length : Int) = j := ⟨_, (Int.toNat_of_nonneg r1).symm⟩
      have hjl : j < cells.length := by omega
      have ha : atI (cells.map V.int) (((spot : Int) + 1).fmod ((cells.map V.int).length : Int)) = some (.int cells[j]) := by
        rw [List.length_map, hj]
        refine atI_nat ?_
        rw [List.getElem?_map, List.getElem?_eq_getElem hjl]
        rfl
      refine ⟨.ref d, rfl, d, _, rfl, gM1 hd5, _, rfl, .inl ⟨_, rfl, .ref d, rfl, d, _, rfl, gM1 hd5, c, _, rfl, .inl (.inl (.inl hc5)), _, _, rfl, rfl, by rw [List.length_map]; omega, c, _, _, _, rfl, rfl, .inl (.inl hc5), ha, ?_⟩⟩
      refine ⟨.int cells[j], rfl, .inl ⟨cells[j], rfl, cells[j], 2147483629, rfl, rfl, (by decide : (2147483629 : Int) ≠ 0), .int ((spot : Int) + 1), rfl, 7919, (spot : Int) + 1, rfl, rfl, .inl ⟨by decide, by decide⟩, _, _, rfl, rfl, .int ((spot : Int) + 1), rfl, 19, (spot : Int) + 1, rfl, rfl, .inl ⟨by decide, by decide⟩, .int ((spot : Int) + 1), rfl, _, (spot : Int) + 1, rfl, rfl, .inr ⟨by omega, by omega⟩, _, _, rfl, rfl, .inl ⟨_, rfl, _, 48271, rfl, rfl, .inr ⟨by decide, by decide⟩, ?_⟩⟩⟩
      refine ⟨_, rfl, .inl ⟨_, rfl, _, 2147483647, rfl, rfl, (by decide : (2147483647 : Int) ≠ 0), .int ((spot : Int) + 1), rfl, 104729, (spot : Int) + 1, rfl, rfl, .inl ⟨by decide, by decide⟩, _, _, rfl, rfl, .inl ⟨_, rfl, _, 69621, rfl, rfl, .inr ⟨by decide, by decide⟩, ?_⟩⟩⟩
      refine ⟨_, rfl, .inl ⟨_, rfl, _, 2147483587, rfl, rfl, (by decide : (2147483587 : Int) ≠ 0), _, 11, rfl, rfl, ⟨by decide, by decide⟩, .inl ⟨_, rfl, .int t, rfl, _, t, rfl, rfl, by omega, ?_⟩⟩⟩
      exact q H6 g2 _ but5 hfr dr (fmod_range t1).1 (fmod_range t1).2
    · refine ⟨.int 3, rfl, .inl ⟨3, rfl, 3, 2147483629, rfl, rfl, (by decide : (2147483629 : Int) ≠ 0), .int ((spot : Int) + 1), rfl, 7919, (spot : Int) + 1, rfl, rfl, .inl ⟨by decide, by decide⟩, _, _, rfl, rfl, .int ((spot : Int) + 1), rfl, 19, (spot : Int) + 1, rfl, rfl, .inl ⟨by decide, by decide⟩, .int ((spot : Int) + 1), rfl, _, (spot : Int) + 1, rfl, rfl, .inr ⟨by omega, by omega⟩, _, _, rfl, rfl, .inl ⟨_, rfl, _, 48271, rfl, rfl, .inr ⟨by decide, by decide⟩, ?_⟩⟩⟩
      refine ⟨_, rfl, .inl ⟨_, rfl, _, 2147483647, rfl, rfl, (by decide : (2147483647 : Int) ≠ 0), .int ((spot : Int) + 1), rfl, 104729, (spot : Int) + 1, rfl, rfl, .inl ⟨by decide, by decide⟩, _, _, rfl, rfl, .inl ⟨_, rfl, _, 69621, rfl, rfl, .inr ⟨by decide, by decide⟩, ?_⟩⟩⟩
      refine ⟨_, rfl, .inl ⟨_, rfl, _, 2147483587, rfl, rfl, (by decide : (2147483587 : Int) ≠ 0), _, 11, rfl, rfl, ⟨by decide, by decide⟩, .inl ⟨_, rfl, .int t, rfl, _, t, rfl, rfl, by omega, ?_⟩⟩⟩
      exact q H6 g2 _ but5 hfr dr (fmod_range t1).1 (fmod_range t1).2
  | cons g0 gr =>
    have hat : atI ((g0 :: gr).map V.int) 0 = some (.int g0) := atI_nat (j := 0) rfl
    refine iteT ⟨.ref d, rfl, d, _, rfl, gM2 hd2, g2, _, 0, _, rfl, rfl, .inl (.inl hg2), hat, rfl, _, rfl, ?_⟩
    by_cases e0 : g0 = 0
    · subst e0
      refine iteT ?_
      refine ⟨fun σ H4 => ∃ g4, σ = [some (.ref d), some (.int t), none, none, none, none] ∧ H4 d = some (.dK (kvM (.ref c) (.ref g4) (.int spot))) ∧ H4 c = some (.lst (cells.map V.int)) ∧ H4 g4 = some (.lst (gr.map V.int)) ∧ c ≠ g4 ∧ gr.length ≤ 1000 ∧
          But H H4 d g ∧ (g4 = g ∨ H g4 = none), fun σ H4 hN => ?_, ?_⟩
      · obtain ⟨g4, r⟩ := hN
        exact ⟨gr.length, by rw [List.length_cons]; omega, g4, gr, rfl, r⟩
      · refine ⟨.ref d, rfl, d, _, rfl, gM2 hd2, 1, rfl, ?_⟩
        dsimp only [tNoPart]
        refine ⟨g2, _, rfl, .inl (.inl hg2), fun p np => ?_⟩
        rw [cut_ints]
        have s1 : Same H3 (upd H3 p (.lst (gr.map V.int))) := same_upd np
        have ngp : p ≠ d := fun x => by rw [x, hd2] at np; cases np
        have ncp : c ≠ p := ne_of_none hc2 np
        refine ⟨.ref d, rfl, d, _, rfl, pM2 (s1 _ _ hd2), ?_⟩
        refine ⟨p, rfl, upd_same, ?_, ?_, ncp, by rw [List.length_cons] at lg2; omega, fun b o e n1 n2 => ?_, ?_⟩
        · rw [upd_ne ncd]; exact s1 _ _ hc2
        · rw [upd_ne ngp]; exact upd_same
        · rw [upd_ne n1]; exact s1 _ _ (but b o e n1 n2)
        · by_cases hp : p = g
          · exact .inl hp
          · refine .inr ?_
            cases hq : H p with
            | none => rfl
            | some o =>
              have := but p o hq ngp hp
              rw [np] at this
              cases this
    · have e1 : decide (V.int g0 = V.int 0) = false := decide_eq_false (fun x => e0 (by injection x))
      rw [e1]
      refine iteF ?_
      refine ⟨.ref d, rfl, d, _, rfl, gM2 hd2, by decide, fun p np => ?_⟩
      have s1 : Same H3 (upd H3 p (.lst [])) := same_upd np
      refine ne_nil (.inl (.inl (s1 _ _ hg2))) upd_same ⟨_, rfl, iteT ?_⟩
      generalize upd H3 p (.lst []) = H4 at s1
      replace hd2 := s1 _ _ hd2
      replace hc2 := s1 _ _ hc2
      replace hg2 := s1 _ _ hg2
      replace but := but.same s1
      -- rest = int(m['great'][0])
      refine ⟨.ref d, rfl, d, _, rfl, gM2 hd2, g2, _, 0, _, rfl, rfl, .inl (.inl hg2), hat, .inl ⟨g0, rfl, ?_⟩⟩
      -- m['great'][0] = rest // total
      refine ⟨.int g0, rfl, .int t, rfl, g0, t, rfl, rfl, ⟨by omega, by have := log_small (t := t) (by omega); omega⟩, .ref d, rfl, d, _, rfl, gM2 hd2, g2, _, 0, 0, rfl, rfl, hg2, ix0 (by simp), ?_⟩
      have sw : ((g0 :: gr).map V.int).set 0 (.int (g0 / t)) = (g0 / t :: gr).map V.int := rfl
      refine ⟨.int g0, rfl, .int t, rfl, g0, t, rfl, rfl, by omega, ?_⟩
      refine q _ g2 _ (fun b o e n1 n2 => ?_) hfr ⟨cells, g0 / t :: gr, spot, ?_, ?_, upd_same, ncg2, lc, by rw [List.length_cons] at lg2 ⊢; exact lg2, by omega⟩ (fmod_range t1).1 (fmod_range t1).2
      · have nb : b ≠ g2 := by
          rcases hfr with x | x
          · rw [x]; exact n2
          · exact fun y => by rw [y, x] at e; cases e
        rw [upd_ne nb]; exact but b o e n1 n2
      · rw [upd_ne (Ne.symm ngd2)]; exact hd2
      · rw [upd_ne ncg2]; exact hc2
theorem Draw.nd {H : Hp} {d g c : Addr} {n : Nat} (h : Draw H d g c n) : (∃ kv, H d = some (.dK kv)) ∧ (∃ xs, H g = some (.lst xs)) ∧ ∃ xs, H c = some (.lst xs) := by
  obtain ⟨cells, greats, spot, h1, h2, h3, _⟩ := h
  exact ⟨⟨_, h1⟩, ⟨_, h3⟩, _, h2⟩
theorem Draw.same {H H' : Hp} {d g c : Addr} {n : Nat} (h : Draw H d g c n) (s : Same H H') : Draw H' d g c n := by
  obtain ⟨cells, greats, spot, h1, h2, h3, r⟩ := h
  exact ⟨cells, greats, spot, s _ _ h1, s _ _ h2, s _ _ h3, r⟩
theorem Draw.up {H : Hp} {d g c : Addr} {n m : Nat} (h : Draw H d g c n) (k : n ≤ m) : Draw H d g c m := by
  obtain ⟨cells, greats, spot, h1, h2, h3, h4, h5, h6, h7⟩ := h
  exact ⟨cells, greats, spot, h1, h2, h3, h4, h5, h6, by omega⟩
theorem Draw.upd {H : Hp} {d g c a : Addr} {n : Nat} {o : HO} (h : Draw H d g c n) (n1 : a ≠ d) (n2 : a ≠ g) (n3 : a ≠ c) : Draw (L2.upd H a o) d g c n := by
  obtain ⟨cells, greats, spot, h1, h2, h3, r⟩ := h
  exact ⟨cells, greats, spot, by rw [upd_ne (Ne.symm n1)]; exact h1, by rw [upd_ne (Ne.symm n3)]; exact h2, by rw [upd_ne (Ne.symm n2)]; exact h3, r⟩
/-- the draws went on from H to H': d is the same, what is left of great ones may be a new list -/
structure Go (H H' : Hp) (d g g' : Addr) : Prop where
  but : ∀ b o, H b = some o → b ≠ d → b ≠ g → H' b = some o
  fresh : g' = g ∨ H g' = none
theorem Go.refl (H : Hp) (d g : Addr) : Go H H d g g := ⟨fun _ _ h _ _ => h, .inl rfl⟩
theorem Go.of {H H2 : Hp} {d g : Addr} (s : Same H H2) : Go H H2 d g g := ⟨fun b o e _ _ => s _ _ e, .inl rfl⟩
theorem Go.same {H H1 H2 : Hp} {d g g' : Addr} (h : Go H H1 d g g') (s : Same H1 H2) : Go H H2 d g g' := ⟨fun b o e n1 n2 => s _ _ (h.but b o e n1 n2), h.fresh⟩
theorem Go.ne {H H1 : Hp} {d g g' a : Addr} {o : HO} (h : Go H H1 d g g') (e : H a = some o) (n : a ≠ g) : a ≠ g' := fun x => by
  rcases h.fresh with y | y
  · exact n (x.trans y)
  · rw [← x, e] at y
    cases y
theorem Go.trans {H H1 H2 : Hp} {d g g' g'' : Addr} {n : Nat} {c : Addr} (h : Go H H1 d g g') (D : Draw H1 d g' c n) (D0 : ∃ xs, H g = some (.lst xs)) (k : Go H1 H2 d g' g'') : Go H H2 d g g'' := by
  refine ⟨fun b o e n1 n2 => k.but b o (h.but b o e n1 n2) n1 (h.ne e n2), ?_⟩
  by_cases hg : g'' = g
  · exact .inl hg
  · refine .inr ?_
    cases e : H g'' with
    | none => rfl
    | some o =>
      have nd : g'' ≠ d := fun x => by
        obtain ⟨⟨kv, h1⟩, _⟩ := D.nd
        rcases k.fresh with y | y
        · obtain ⟨_, ⟨xs, h2⟩, _⟩ := D.nd
          rw [← y, x, h1] at h2
          cases h2
        · rw [x, h1] at y
          cases y
      have e2 := h.but _ _ e nd hg
      rcases k.fresh with y | y
      · exact absurd y (h.ne e hg)
      · rw [y] at e2
        cases e2
/-- a tuple stays -/
theorem Go.tup {H H' : Hp} {d g g' c a : Addr} {n : Nat} {xs : List V} (h : Go H H' d g g') (D : Draw H d g c n) (e : H a = some (.tup xs)) : H' a = some (.tup xs) := by
  obtain ⟨⟨kv, h1⟩, ⟨ys, h2⟩, _⟩ := D.nd
  exact h.but _ _ e (ne_of e h1 (fun z => nomatch z)) (ne_of e h2 (fun z => nomatch z))
/-- a list of one's own stays -/
theorem Go.lst {H H' : Hp} {d g g' c a : Addr} {n : Nat} {xs : List V} (h : Go H H' d g g') (D : Draw H d g c n) (e : H a = some (.lst xs)) (k : a ≠ g) : H' a = some (.lst xs) := by
  obtain ⟨⟨kv, h1⟩, _⟩ := D.nd
  exact h.but _ _ e (ne_of e h1 (fun z => nomatch z)) k
end
end LK
namespace LK
open PySem PySem.Spec PyProof.Rows L2 CD CDS
section
variable {P : Program} {w : World} {K : PySem.W.Frag} {mg : Str → Option Value} {base : Heap}
theorem cut_fromN (l : List Nat) (j : Nat) : cutV ((iN l).map V.int) (some (j : Int)) none = (iN (l.drop j)).map V.int := by
  unfold cutV
  rw [HT.sIx_none, HT.sIx_nat, List.length_map, iN_len]
  unfold iN
  by_cases h : j ≤ l.length
  · rw [Nat.min_eq_left h, ← List.map_drop, ← List.map_drop]
    exact List.take_of_length_le (by rw [List.length_map, List.length_map, List.length_drop]; omega)
  · rw [Nat.min_eq_right (by omega), Nat.sub_self, List.take_zero, List.drop_of_length_le (by omega)]
    rfl
def spKind (K : PySem.W.Frag) : Sp := fun vs H Q _ => ∃ (d g c : Addr) (n : Nat), vs = [.ref d] ∧ Draw H d g c n ∧ n + 3 < 2 ^ 40 ∧
  ∀ H' g' p (k : Kd), Go H H' d g g' → Draw H' d g' c (n + 3) → k.ok → H' p = some (.tup k.vs) → Q (.ref p) H'
theorem cal_law_kind (z : Z mg) (c__law_next : Cal P w K mg base 2 "_law_next" p__law_next spNext) (D : Def K mg "_law_kind" s__law_kind p__law_kind) : Cal P w K mg base 3 "_law_kind" p__law_kind (spKind K) := by
  refine D.cal sc__law_kind (fun vs H Q E h => by obtain ⟨_, _, _, _, rfl, _⟩ := h; rfl) fun f cdv A outer s H vs Q E hr h => ?_
  obtain ⟨d, g, c, n, rfl, hD, hn, q⟩ := h
  refine ⟨_, (pss_cons (ps_set (i := 1) sc__law_kind.nd rfl (Or.inl rfl) (pe_ix ix_list (pe_lst (pa_cons pe_str (pa_cons pe_str (pa_cons pe_str (pa_cons pe_str pa_nil))))) (pe_cal c__law_next (hr.mono (by decide)) (by rfl) (pa_cons (pv 0) (pa_cons pe_int pa_nil))) (fun _ _ => rfl)))
        (pss_one (ps_ret (pe_ifExp (pt_cmpR op_eq (pv 1) pe_str (nomark _)) (pe_tup (pa_cons (pv 1) pa_nil)) (pe_tup (pa_cons (pv 1) (pa_cons (pe_op op_add pe_int (pe_cal c__law_next (hr.mono (by decide)) (by rfl) (pa_cons (pv 0) (pa_cons (pe_ix ix_list (pe_lst (pa_cons pe_int (pa_cons pe_int pa_nil))) (pe_cal c__law_next (hr.mono (by decide)) (by rfl) (pa_cons (pv 0) (pa_cons pe_int pa_nil))) (fun _ _ => rfl)) pa_nil)))) pa_nil))))))), ?_⟩
  refine ⟨(by decide : 4 ≤ sizeLine), fun l nl => ?_⟩
  have s1 := same_upd (o := .lst [.str "parts", .str "half", .str "best", .str "heap"]) nl
  have hl1 : (upd H l (.lst [.str "parts", .str "half", .str "best", .str "heap"])) l = some (.lst [.str "parts", .str "half", .str "best", .str "heap"]) := upd_same
  have hD1 := hD.same s1
  have n1g : l ≠ g := fun x => by obtain ⟨_, ⟨xs, h1⟩, _⟩ := hD.nd; rw [x, h1] at nl; cases nl
  refine ⟨.ref d, rfl, d, g, c, n, 4, rfl, hD1, by omega, by decide, by decide, fun H2 g2 v but hg2 hD2 v0 v1 => ?_⟩
  have go1 : Go (upd H l (.lst [.str "parts", .str "half", .str "best", .str "heap"])) H2 d g g2 := ⟨but, hg2⟩
  have hl2 := go1.lst hD1 hl1 n1g
  have go2 := (Go.of (d := d) (g := g) s1).trans hD1 hD.nd.2.1 go1
  clear but hg2 go1
  rcases (by omega : v = 0 ∨ v = 1 ∨ v = 2 ∨ v = 3) with hv | hv | hv | hv
  · subst hv
    refine ⟨l, [.str "parts", .str "half", .str "best", .str "heap"], 0, .str "parts", rfl, rfl, .inl (.inl hl2), atI_nat (j := 0) rfl, ?_⟩
    refine ⟨_, rfl, rfl, _, rfl, iteF ⟨_, rfl, .ref d, rfl, (by decide : 2 ≤ sizeLine), fun l2 nl2 => ?_⟩⟩
    have s3 := same_upd (o := .lst [.int 2, .int 7]) nl2
    have hl3 : (upd H2 l2 (.lst [.int 2, .int 7])) l2 = some (.lst [.int 2, .int 7]) := upd_same
    have hD3 := hD2.same s3
    have go3 := go2.same s3
    have n3g : l2 ≠ g2 := fun x => by obtain ⟨_, ⟨xs, h1⟩, _⟩ := hD2.nd; rw [x, h1] at nl2; cases nl2
    generalize upd H2 l2 (.lst [.int 2, .int 7]) = H3 at s3 hl3 hD3 go3
    refine ⟨.ref d, rfl, d, g2, c, _, 2, rfl, hD3, by omega, by decide, by decide, fun H4 g4 u but4 hg4 hD4 u0 u1 => ?_⟩
    have go4 : Go H3 H4 d g2 g4 := ⟨but4, hg4⟩
    have hl4 := go4.lst hD3 hl3 n3g
    have go5 := go3.trans hD3 hD.nd.2.1 go4
    obtain ⟨t, ht, t2, t7⟩ : ∃ t : Int, atI [V.int 2, .int 7] u = some (.int t) ∧ 2 ≤ t ∧ t ≤ 7 := by
      rcases (by omega : u = 0 ∨ u = 1) with e | e
      · subst e; exact ⟨2, atI_nat (j := 0) rfl, by decide, by decide⟩
      · subst e; exact ⟨7, atI_nat (j := 1) rfl, by decide, by decide⟩
    refine ⟨l2, _, u, _, rfl, rfl, .inl (.inl hl4), ht, d, g4, c, _, t, rfl, hD4, by omega, by omega, by omega, fun H6 g6 v2 but6 hg6 hD6 w0 w1 => ?_⟩
    have go6 : Go H4 H6 d g4 g6 := ⟨but6, hg6⟩
    have go7 := go5.trans hD4 hD.nd.2.1 go6
    refine ⟨2, v2, rfl, rfl, (by decide : 2 ≤ sizeLine), fun p np => ?_⟩
    obtain ⟨k, hk⟩ : ∃ k : Nat, (2 : Int) + v2 = k := ⟨(2 + v2).toNat, by omega⟩
    refine q _ g6 p (.parts k) (go7.same (same_upd np)) ((hD6.same (same_upd np)).up (by omega)) ⟨by omega, by omega⟩ ?_
    rw [upd_same]
    show some (HO.tup [.str "parts", .int (2 + v2)]) = _
    rw [hk]
    rfl
  · subst hv
    refine ⟨l, [.str "parts", .str "half", .str "best", .str "heap"], 1, .str "half", rfl, rfl, .inl (.inl hl2), atI_nat (j := 1) rfl, ?_⟩
    refine ⟨_, rfl, rfl, _, rfl, iteT ⟨_, rfl, (by decide : 1 ≤ sizeLine), fun p np => ?_⟩⟩
    exact q _ g2 p .half (go2.same (same_upd np)) ((hD2.same (same_upd np)).up (by omega)) trivial upd_same
  · subst hv
    refine ⟨l, [.str "parts", .str "half", .str "best", .str "heap"], 2, .str "best", rfl, rfl, .inl (.inl hl2), atI_nat (j := 2) rfl, ?_⟩
    refine ⟨_, rfl, rfl, _, rfl, iteF ⟨_, rfl, .ref d, rfl, (by decide : 2 ≤ sizeLine), fun l2 nl2 => ?_⟩⟩
    have s3 := same_upd (o := .lst [.int 2, .int 7]) nl2
    have hl3 : (upd H2 l2 (.lst [.int 2, .int 7])) l2 = some (.lst [.int 2, .int 7]) := upd_same
    have hD3 := hD2.same s3
    have go3 := go2.same s3
    have n3g : l2 ≠ g2 := fun x => by obtain ⟨_, ⟨xs, h1⟩, _⟩ := hD2.nd; rw [x, h1] at nl2; cases nl2
    generalize upd H2 l2 (.lst [.int 2, .int 7]) = H3 at s3 hl3 hD3 go3
    refine ⟨.ref d, rfl, d, g2, c, _, 2, rfl, hD3, by omega, by decide, by decide, fun H4 g4 u but4 hg4 hD4 u0 u1 => ?_⟩
    have go4 : Go H3 H4 d g2 g4 := ⟨but4, hg4⟩
    have hl4 := go4.lst hD3 hl3 n3g
    have go5 := go3.trans hD3 hD.nd.2.1 go4
    obtain ⟨t, ht, t2, t7⟩ : ∃ t : Int, atI [V.int 2, .int 7] u = some (.int t) ∧ 2 ≤ t ∧ t ≤ 7 := by
      rcases (by omega : u = 0 ∨ u = 1) with e | e
      · subst e; exact ⟨2, atI_nat (j := 0) rfl, by decide, by decide⟩
      · subst e; exact ⟨7, atI_nat (j := 1) rfl, by decide, by decide⟩
    refine ⟨l2, _, u, _, rfl, rfl, .inl (.inl hl4), ht, d, g4, c, _, t, rfl, hD4, by omega, by omega, by omega, fun H6 g6 v2 but6 hg6 hD6 w0 w1 => ?_⟩
    have go6 : Go H4 H6 d g4 g6 := ⟨but6, hg6⟩
    have go7 := go5.trans hD4 hD.nd.2.1 go6
    refine ⟨2, v2, rfl, rfl, (by decide : 2 ≤ sizeLine), fun p np => ?_⟩
    obtain ⟨k, hk⟩ : ∃ k : Nat, (2 : Int) + v2 = k := ⟨(2 + v2).toNat, by omega⟩
    refine q _ g6 p (.best k) (go7.same (same_upd np)) ((hD6.same (same_upd np)).up (by omega)) ⟨by omega, by omega⟩ ?_
    rw [upd_same]
    show some (HO.tup [.str "best", .int (2 + v2)]) = _
    rw [hk]
    rfl
  · subst hv
    refine ⟨l, [.str "parts", .str "half", .str "best", .str "heap"], 3, .str "heap", rfl, rfl, .inl (.inl hl2), atI_nat (j := 3) rfl, ?_⟩
    refine ⟨_, rfl, rfl, _, rfl, iteF ⟨_, rfl, .ref d, rfl, (by decide : 2 ≤ sizeLine), fun l2 nl2 => ?_⟩⟩
    have s3 := same_upd (o := .lst [.int 2, .int 7]) nl2
    have hl3 : (upd H2 l2 (.lst [.int 2, .int 7])) l2 = some (.lst [.int 2, .int 7]) := upd_same
    have hD3 := hD2.same s3
    have go3 := go2.same s3
    have n3g : l2 ≠ g2 := fun x => by obtain ⟨_, ⟨xs, h1⟩, _⟩ := hD2.nd; rw [x, h1] at nl2; cases nl2
    generalize upd H2 l2 (.lst [.int 2, .int 7]) = H3 at s3 hl3 hD3 go3
    refine ⟨.ref d, rfl, d, g2, c, _, 2, rfl, hD3, by omega, by decide, by decide, fun H4 g4 u but4 hg4 hD4 u0 u1 => ?_⟩
    have go4 : Go H3 H4 d g2 g4 := ⟨but4, hg4⟩
    have hl4 := go4.lst hD3 hl3 n3g
    have go5 := go3.trans hD3 hD.nd.2.1 go4
    obtain ⟨t, ht, t2, t7⟩ : ∃ t : Int, atI [V.int 2, .int 7] u = some (.int t) ∧ 2 ≤ t ∧ t ≤ 7 := by
      rcases (by omega : u = 0 ∨ u = 1) with e | e
      · subst e; exact ⟨2, atI_nat (j := 0) rfl, by decide, by decide⟩
      · subst e; exact ⟨7, atI_nat (j := 1) rfl, by decide, by decide⟩
    refine ⟨l2, _, u, _, rfl, rfl, .inl (.inl hl4), ht, d, g4, c, _, t, rfl, hD4, by omega, by omega, by omega, fun H6 g6 v2 but6 hg6 hD6 w0 w1 => ?_⟩
    have go6 : Go H4 H6 d g4 g6 := ⟨but6, hg6⟩
    have go7 := go5.trans hD4 hD.nd.2.1 go6
    refine ⟨2, v2, rfl, rfl, (by decide : 2 ≤ sizeLine), fun p np => ?_⟩
    obtain ⟨k, hk⟩ : ∃ k : Nat, (2 : Int) + v2 = k := ⟨(2 + v2).toNat, by omega⟩
    refine q _ g6 p (.heap k) (go7.same (same_upd np)) ((hD6.same (same_upd np)).up (by omega)) ⟨by omega, by omega⟩ ?_
    rw [upd_same]
    show some (HO.tup [.str "heap", .int (2 + v2)]) = _
    rw [hk]
    rfl
def spMRow (K : PySem.W.Frag) : Sp := fun vs H Q _ => ∃ (c : Option Nat) (t : Nat), vs = [cV c, .int t] ∧ Two c ∧ t ≤ 2 ^ 100 ∧ ∀ H' p k, Same H H' → H p = none → Enough c t k → H' p = some (.lst ((iN (mostL c k)).map V.int)) → Q (.ref p) H'
theorem cal_most_row (z : Z mg) (D : Def K mg "_law_most_row" s__law_most_row p__law_most_row) : Cal P w K mg base 2 "_law_most_row" p__law_most_row (spMRow K) := by
  refine D.cal sc__law_most_row (fun vs H Q E h => by obtain ⟨_, _, rfl, _⟩ := h; rfl) fun f cdv A outer s H vs Q E hr h => ?_
  obtain ⟨c, n, rfl, h2, hn, q⟩ := h
  refine ⟨_, (pss_cons (ps_set (i := 2) sc__law_most_row.nd rfl (Or.inl rfl) (pe_lst (pa_cons pe_int pa_nil)))
        (pss_cons (ps_while PassesOwn.never (pt_cmpR op_lt (pe_ix ix_list (pv 2) (pe_un un_neg pe_int) (fun _ _ => rfl)) (pv 1) (nomark _)) (pss_one (ps_expr (pe_bm PySem.F.plainAttrs_list PySem.F.slot_list_append PySem.F.type_list_append mt_append (pv 2) (pa_cons (pe_op op_add pe_int (pe_callB (cr_sum rfl) (by rfl) z.«sum» (by decide +kernel) (pa_cons (pe_ifExp (pt_cmpR op_isN (pv 0) pe_non (nomark _)) (pv 2) (pe_slice sl_list (pv 2) (po_some (pe_callB (call_max2 rfl) (by rfl) z.«max» (by decide +kernel) (pa_cons pe_int (pa_cons (pe_op op_sub (pe_callB (call_len_seq) (by rfl) z.«len» (by decide +kernel) (pa_cons (pv 2) pa_nil)) (pv 0)) pa_nil)))) po_none)) pa_nil))) pa_nil)))))
        (pss_one (ps_ret (pv 2))))), ?_⟩
  refine ⟨(by decide : 1 ≤ sizeLine), fun ra nra => ?_⟩
  have s0 : Same H (upd H ra (.lst [.int 1])) := same_upd nra
  have hm0 : (upd H ra (.lst [.int 1])) ra = some (.lst ((iN (mostL c 0)).map V.int)) := upd_same
  show tSeq _ _ _ _ (upd H ra (.lst [.int 1]))
  generalize upd H ra (.lst [.int 1]) = H1 at s0 hm0
  refine ⟨fun m σ H2 => ∃ k, m = n - mostN c k ∧ σ = [some (cV c), some (.int n), some (.ref ra)] ∧ Same H H2 ∧ H2 ra = some (.lst ((iN (mostL c k)).map V.int)) ∧ ∀ i, i < k → mostN c i < n, ⟨_, 0, rfl, rfl, s0, hm0, fun i hi => absurd hi (Nat.not_lt_zero i)⟩, ?_⟩
  intro m σ H2 hW
  obtain ⟨k, rfl, rfl, sm, hra, low⟩ := hW
  have k200 := row_short h2 (t := n) (by omega) low
  refine ⟨.ref ra, rfl, 1, rfl, ra, _, _, _, rfl, rfl, .inl (.inl hra), at_lastN k, .int n, rfl, _, _, rfl, rfl, _, rfl, ite2 (fun e => ?_) (fun e => ?_)⟩
  · have e' : ((mostN c k : Nat) : Int) < (n : Int) := of_decide_eq_true e
    refine ⟨fun σ H3 => σ = [some (cV c), some (.int n), some (.ref ra)] ∧ Same H H3 ∧ H3 ra = some (.lst ((iN (mostL c (k + 1))).map V.int)), fun σ H3 hN => ?_, ?_⟩
    · obtain ⟨h1, h2', h3⟩ := hN
      have := mostN_lt h2 k
      refine ⟨_, ?_, k + 1, rfl, h1, h2', h3, fun i hi => ?_⟩
      · omega
      · by_cases x : i < k
        · exact low i x
        · rw [show i = k by omega]
          omega
    · clear q low hm0 s0
      cases c with
      | none =>
        refine ⟨.ref ra, rfl, .inl ⟨rfl, _, .inl (.inl hra)⟩, .non, rfl, rfl, true, rfl, iteT ⟨.ref ra, rfl, ra, _, rfl, .inl (.inl hra), 1, _, rfl, rfl, ?_⟩⟩
        have eS : (1 : Int) + (iN (mostL none k)).sum = ((mostN none (k + 1) : Nat) : Int) := by
          rw [iN_sum, mostN_succ]
          show _ = ((1 + (mostL none k).sum : Nat) : Int)
          omega
        refine ⟨ra, _, _, rfl, rfl, hra, by rw [List.length_map, iN_len, mostL_len]; exact small1000 (by omega), ?_⟩
        show Ends.nx _ _ (upd _ ra (.lst ((iN (mostL none k)).map V.int ++ [.int (1 + (iN (mostL none k)).sum)])))
        rw [eS]
        refine ⟨rfl, fun b o eb => ?_, ?_⟩
        · rw [upd_ne (ne_of_none eb nra)]
          exact (Same.refl _) _ _ (sm _ _ eb)
        · rw [upd_same, mostL_step, iN_app, List.map_append]
          rfl
      | some c =>
        have h3 : 2 ≤ c := h2
        have e3 : (if ((((iN (mostL (some c) k)).map V.int).length : Int) - (c : Int)) > 0 then ((((iN (mostL (some c) k)).map V.int).length : Int) - (c : Int)) else 0) = (((mostL (some c) k).length - c : Nat) : Int) := by
          rw [List.length_map, iN_len]
          split <;> omega
        refine ⟨.ref ra, rfl, .inl ⟨rfl, _, .inl (.inl hra)⟩, .int c, rfl, rfl, false, rfl, iteF ⟨.ref ra, rfl, .ref ra, rfl, ra, _, rfl, .inl (.inl (.inl hra)), .int c, rfl, _, c, rfl, rfl, 0, _, rfl, _, rfl, ?_⟩⟩
        rw [e3]
        refine ⟨ra, _, rfl, .inl (.inl hra), fun p np => ?_⟩
        rw [cut_fromN]
        have sx := same_upd (o := .lst ((iN ((mostL (some c) k).drop ((mostL (some c) k).length - c))).map V.int)) np
        refine ⟨p, _, rfl, .inl (.inl upd_same), 1, _, rfl, rfl, ?_⟩
        have eS : (1 : Int) + (iN ((mostL (some c) k).drop ((mostL (some c) k).length - c))).sum = ((mostN (some c) (k + 1) : Nat) : Int) := by
          rw [iN_sum, mostN_succ]
          show _ = ((1 + ((mostL (some c) k).drop ((mostL (some c) k).length - c)).sum : Nat) : Int)
          omega
        refine ⟨ra, _, _, rfl, rfl, sx _ _ hra, by rw [List.length_map, iN_len, mostL_len]; exact small1000 (by omega), ?_⟩
        show Ends.nx _ _ (upd _ ra (.lst ((iN (mostL (some c) k)).map V.int ++ [.int (1 + (iN ((mostL (some c) k).drop ((mostL (some c) k).length - c))).sum)])))
        rw [eS]
        refine ⟨rfl, fun b o eb => ?_, ?_⟩
        · rw [upd_ne (ne_of_none eb nra)]
          exact sx _ _ (sm _ _ eb)
        · rw [upd_same, mostL_step, iN_app, List.map_append]
          rfl
  · have en : Enough c n k := ⟨by
      have : ¬ ((mostN c k : Nat) : Int) < (n : Int) := fun x => e (decide_eq_true x)
      omega, low⟩
    exact ⟨.ref ra, rfl, q H2 ra k sm nra en hra⟩
end
end LK
namespace LK
open PySem PySem.Spec PyProof.Rows L2 CD CDS
section
variable {P : Program} {w : World} {K : PySem.W.Frag} {mg : Str → Option Value} {base : Heap}
def mixH (c n j k : Nat) : List Nat := (List.range c).map fun i => if i < k then foundN c n (j + 1) i else foundN c n j i
theorem mix_zero (c n j : Nat) : mixH c n j 0 = rowH c n j := rfl
theorem mix_all (c n j : Nat) : mixH c n j c = rowH c n (j + 1) := List.map_congr_left fun i hi => by rw [if_pos (List.mem_range.mp hi)]
theorem mix_len (c n j k : Nat) : (mixH c n j k).length = c := by unfold mixH; rw [List.length_map, List.length_range]
theorem mix_at {c n j k : Nat} (hk : k < c) : (mixH c n j k)[k]? = some (foundN c n j k) := by
  unfold mixH
  rw [List.getElem?_map, List.getElem?_range hk]
  show some (if k < k then _ else _) = _
  rw [if_neg (Nat.lt_irrefl k)]
theorem mix_set {c n j k : Nat} (hk : k < c) : (mixH c n j k).set k (foundN c n j k + amt c n j k) = mixH c n j (k + 1) := by
  refine List.ext_getElem? fun i => ?_
  rw [List.getElem?_set, mix_len]
  by_cases e : k = i
  · subst e
    rw [if_pos rfl, if_pos hk]
    unfold mixH
    rw [List.getElem?_map, List.getElem?_range hk]
    show _ = some (if k < k + 1 then _ else _)
    rw [if_pos (by omega)]
    rfl
  · rw [if_neg e]
    unfold mixH
    rw [List.getElem?_map, List.getElem?_map]
    by_cases hi : i < c
    · rw [List.getElem?_range hi]
      show some (if i < k then _ else _) = some (if i < k + 1 then _ else _)
      by_cases l : i < k
      · rw [if_pos l, if_pos (by omega)]
      · rw [if_neg l, if_neg (by omega)]
    · rw [List.getElem?_eq_none (by rw [List.length_range]; omega)]
      rfl
def spLB (K : PySem.W.Frag) : Sp := fun vs H Q _ => ∃ c n : Nat, vs = [.int c, .int n] ∧ 2 ≤ c ∧ c ≤ 8 ∧ n ≤ 10 ^ 30 ∧ ∀ H' p, Same H H' → H' p = some (.lst ((iN (heapL c n)).map V.int)) → Q (.ref p) H'
theorem cal_law_below (z : Z mg) (D : Def K mg "_law_below" s__law_below p__law_below) : Cal P w K mg base 2 "_law_below" p__law_below (spLB K) := by
  refine D.cal sc__law_below (fun vs H Q E h => by obtain ⟨_, _, rfl, _⟩ := h; rfl) fun f cdv A outer s H vs Q E hr h => ?_
  obtain ⟨c, n, rfl, c2, c8, hn, q⟩ := h
  refine ⟨_, (pss_cons (ps_par3 (i := 2) (j := 3) (l := 4) rfl sc__law_below.nd rfl rfl rfl (by decide) (by decide) (by decide) rfl rfl rfl (pa_cons pe_int (pa_cons (pv 1) (pa_cons (pe_op op_rep (pe_lst (pa_cons pe_int pa_nil)) (pv 0)) pa_nil))) (by rfl))
        (pss_cons (ps_while PassesOwn.never (pt_cmpR op_gt (pv 3) pe_int (nomark _)) (pss_cons (ps_for PassesOwn.never rfl (pi_range1 (by rfl) z.«range» (pa_cons (pv 0) pa_nil)) (pg_name (i := 5) sc__law_below.nd rfl (Or.inl rfl)) (pss_cons (ps_set (i := 6) sc__law_below.nd rfl (Or.inl rfl) (pe_callB (call_min2 rfl) (by rfl) z.«min» (by decide +kernel) (pa_cons (pv 2) (pa_cons (pv 3) pa_nil))))
        (pss_one (ps_asg (pe_tup (pa_cons (pe_op op_add (pe_ix ix_list (pv 4) (pv 5) (fun _ _ => rfl)) (pv 6)) (pa_cons (pe_op op_sub (pv 3) (pv 6)) pa_nil))) (pg_tup rfl (pgs_cons (pg_sub (pv 4) (pv 5) set_list) (pgs_cons (pg_name (i := 3) sc__law_below.nd rfl (Or.inl rfl)) pgs_nil)))))))
        (pss_one (ps_set (i := 2) sc__law_below.nd rfl (Or.inl rfl) (pe_op op_mul (pv 2) (pv 0))))))
        (pss_one (ps_ret (pe_lc (own := [("one", 7)]) (g := (gName 7)) rfl sc__law_below.nd (pi_list (pv 4)) (blkOk_by (N := n__law_below) (sc := defScope s__law_below) (by decide +kernel)) (fun _ _ _ _ _ => (pg_name (i := 7) sc__law_below.nd rfl (Or.inl rfl))) (fun _ _ _ _ _ => (pts_one (pt_cmpR op_gt (pv 7) pe_int (nomark _)))) (fun _ _ _ _ _ => (pv 7))))))), ?_⟩
  refine ⟨_, rfl, (by decide : 1 ≤ sizeLine), fun l1 nl1 => ?_⟩
  have s1 := same_upd (o := .lst [.int 0]) nl1
  refine ⟨_, rfl, l1, c, [.int 0], rfl, rfl, upd_same, by omega, by omega, ?_, fun fa nfa => ?_⟩
  · exact Nat.le_of_lt (small1000 (by rw [Int.toNat_natCast]; show 1 * c ≤ 1000; omega))
  have s2 := s1.trans (same_upd (o := .lst (List.replicate (c : Int).toNat [V.int 0]).flatten) nfa)
  have hfa : (upd (upd H l1 (.lst [.int 0])) fa (.lst (List.replicate (c : Int).toNat [V.int 0]).flatten)) fa = some (.lst ((iN (rowH c n 0)).map V.int)) := by
    rw [upd_same, Int.toNat_natCast, flat_one]
    have e : rowH c n 0 = List.replicate c 0 := by
      unfold rowH
      show (List.range c).map (fun _ => 0) = _
      rw [List.map_const', List.length_range]
    rw [e]
    unfold iN
    rw [List.map_replicate, List.map_replicate]
    rfl
  have nfa0 : H fa = none := Same.free s1 nfa
  refine ⟨_, _, _, rfl, ?_⟩
  show tSeq _ _ _ _ (upd (upd H l1 (.lst [.int 0])) fa (.lst (List.replicate (c : Int).toNat [V.int 0]).flatten))
  generalize upd (upd H l1 (.lst [.int 0])) fa (.lst (List.replicate (c : Int).toNat [V.int 0]).flatten) = H1 at s2 hfa
  clear s1 nl1 nfa
  refine ⟨fun m σ H2 => ∃ j y5 y6 y7, m = n - lvS c j ∧ σ = [some (.int c), some (.int n), some (.int (c ^ j : Nat)), some (.int (n - lvS c j : Nat)), some (.ref fa), y5, y6, y7] ∧ Same H H2 ∧ H2 fa = some (.lst ((iN (rowH c n j)).map V.int)), ⟨_, 0, none, none, none, rfl, rfl, s2, hfa⟩, ?_⟩
  intro m σ H2 hW
  obtain ⟨j, y5, y6, y7, rfl, rfl, sm, hfa⟩ := hW
  refine ⟨_, rfl, _, 0, rfl, rfl, _, rfl, ite2 (fun e => ?_) (fun e => ?_)⟩
  · have e' : (0 : Int) < ((n - lvS c j : Nat) : Int) := of_decide_eq_true e
    have p1 : 1 ≤ c ^ j := Nat.one_le_pow _ _ (by omega)
    have p2 : 1 ≤ c ^ (j + 1) := Nat.one_le_pow _ _ (by omega)
    refine ⟨fun σ H3 => ∃ y5 y6 y7, σ = [some (.int c), some (.int n), some (.int (c ^ (j + 1) : Nat)), some (.int (n - lvS c (j + 1) : Nat)), some (.ref fa), y5, y6, y7] ∧ Same H H3 ∧ H3 fa = some (.lst ((iN (rowH c n (j + 1))).map V.int)), fun σ H3 hN => ?_, ?_⟩
    · obtain ⟨z5, z6, z7, hN⟩ := hN
      exact ⟨_, by show n - (lvS c j + c ^ (j + 1)) < _; omega, j + 1, z5, z6, z7, rfl, hN⟩
    · refine ⟨_, rfl, c, rfl, by omega, by omega, ?_⟩
      refine for_it (walk_range (lo := 0) (n := (c : Int).toNat)) (fun k σ H4 => ∃ y5 y6 y7, σ = [some (.int c), some (.int n), some (.int (c ^ j : Nat)), some (.int (n - lvS c j - k * c ^ j : Nat)), some (.ref fa), y5, y6, y7] ∧ Same H H4 ∧ H4 fa = some (.lst ((iN (mixH c n j k)).map V.int)))
        ⟨y5, y6, y7, by rw [Nat.zero_mul, Nat.sub_zero], sm, hfa⟩ (fun _ _ _ _ _ => trivial) (fun k x σ H4 H5 hk hW y => ?_) (fun σ H4 hW => ?_)
      · obtain ⟨z5, z6, z7, rfl, s4, hf4⟩ := hW
        obtain ⟨rfl, rfl⟩ := y
        rw [Int.toNat_natCast] at hk
        have emin : (if ((n - lvS c j - k * c ^ j : Nat) : Int) < ((c ^ j : Nat) : Int) then ((n - lvS c j - k * c ^ j : Nat) : Int) else ((c ^ j : Nat) : Int)) = ((amt c n j k : Nat) : Int) := by
          unfold amt
          split <;> omega
        refine ⟨_, rfl, _, rfl, _, _, rfl, ?_⟩
        rw [emin]
        have hat : atI ((iN (mixH c n j k)).map V.int) ((0 : Int) + (k : Nat)) = some (.int (foundN c n j k : Nat)) := by
          rw [Int.zero_add]
          exact atI_nat (iN_at (mix_at hk))
        refine ⟨.ref fa, rfl, _, rfl, fa, _, _, _, rfl, rfl, .inl (.inl hf4), hat, _, rfl, _, _, rfl, rfl, ?_⟩
        refine ⟨_, rfl, _, rfl, _, _, rfl, rfl, (by decide : 2 ≤ sizeLine), fun T nT => ?_⟩
        have hf5 := same_upd (o := .tup [V.int ((foundN c n j k : Int) + (amt c n j k : Int)), .int ((n - lvS c j - k * c ^ j : Nat) - (amt c n j k : Int))]) nT _ _ hf4
        have s5 := s4.trans (same_upd (o := .tup [V.int ((foundN c n j k : Int) + (amt c n j k : Int)), .int ((n - lvS c j - k * c ^ j : Nat) - (amt c n j k : Int))]) nT)
        refine ⟨T, _, rfl, .inl (.inl upd_same), rfl, _, _, rfl, .ref fa, rfl, _, rfl, fa, _, _, k, rfl, rfl, hf5, ?_, _, _, rfl, rfl, ?_⟩
        · unfold ixN
          rw [if_pos (by omega), if_pos (by rw [List.length_map, iN_len, mix_len]; omega)]
          congr 1
          omega
        have er : ((n - lvS c j - k * c ^ j : Nat) : Int) - (amt c n j k : Int) = ((n - lvS c j - (k + 1) * c ^ j : Nat) : Int) := by
          unfold amt
          rw [Nat.succ_mul]
          omega
        have ef : ((iN (mixH c n j k)).map V.int).set k (.int ((foundN c n j k : Int) + (amt c n j k : Int))) = (iN (mixH c n j (k + 1))).map V.int := by
          rw [← mix_set hk]
          unfold iN
          rw [List.map_set, List.map_set]
          rfl
        refine ⟨some (.int (0 + (k : Nat))), some (.int (amt c n j k : Nat)), z7, ?_, fun b o eb => ?_, ?_⟩
        · rw [← er]
          rfl
        · rw [upd_ne (ne_of_none eb nfa0)]
          exact s5 _ _ eb
        · rw [upd_same]
          exact congrArg (fun l => some (HO.lst l)) ef
      · obtain ⟨z5, z6, z7, rfl, s4, hf4⟩ := hW
        rw [Int.toNat_natCast, mix_all] at hf4
        refine ⟨_, rfl, _, rfl, _, _, rfl, rfl, .inr ⟨by omega, by omega⟩, z5, z6, z7, ?_, s4, hf4⟩
        have e1 : ((c ^ j : Nat) : Int) * (c : Int) = ((c ^ (j + 1) : Nat) : Int) := by rw [← Int.natCast_mul, Nat.pow_succ]
        have e2 : n - lvS c j - (c : Int).toNat * c ^ j = n - lvS c (j + 1) := by
          show n - lvS c j - c * c ^ j = n - (lvS c j + c ^ (j + 1))
          rw [Nat.pow_succ, Nat.mul_comm c]
          omega
        rw [← e1, ← e2]
        rfl
  · have e' : n ≤ lvS c j := by
      have : ¬ (0 : Int) < ((n - lvS c j : Nat) : Int) := fun x => e (decide_eq_true x)
      omega
    obtain ⟨hf1, hf2⟩ := heap_filter (c := c) (count := n) (j := j) (by omega) e'
    have hl : (rowH c n j).length = c := by unfold rowH; rw [List.length_map, List.length_range]
    refine ⟨.ref fa, rfl, fa, rfl, ⟨_, .inl (.inl hfa)⟩, fun L nL => ?_⟩
    refine lc_std (walk_list (K := K) (a := fa) (xs := (iN (rowH c n j)).map V.int)) (rowH c n j) (fun k => if 0 < k then some (.int k) else none) (by rw [List.length_map, iN_len]) (small1000 (by rw [List.length_map, iN_len, hl]; omega)) nL (fun H2 s2 => .inl (.inl (s2 _ _ hfa))) (fun i x H3 H4 k R hk s3 y hR => ?_) (fun H3 s3 e3 => ?_)
    · obtain ⟨rfl, gg⟩ := y
      rw [iN_at hk] at gg
      obtain rfl := Option.some.inj gg
      refine ⟨rfl, _, rfl, _, 0, rfl, rfl, _, rfl, ite2 (fun c => ?_) (fun c => ?_)⟩
      · have c' : (0 : Int) < (k : Int) := of_decide_eq_true c
        have z2 := hR _ (Same.refl _)
        rw [if_pos (by omega)] at z2
        exact ⟨_, rfl, z2⟩
      · have c' : ¬ (0 : Int) < (k : Int) := fun x => c (decide_eq_true x)
        have z2 := hR _ (Same.refl _)
        rw [if_neg (by omega)] at z2
        exact z2
    · refine q H3 L (sm.trans s3) ?_
      rw [e3, ← hf1]
      have : ∀ l : List Nat, l.filterMap (fun k => if 0 < k then some (V.int (k : Nat)) else none) = (iN (l.filter fun n => decide (0 < n))).map V.int := fun l => by
        induction l with
        | nil => rfl
        | cons a r ih =>
          rw [List.filterMap_cons, List.filter_cons]
          by_cases c : 0 < a
          · rw [if_pos c, if_pos (decide_eq_true c), ih]
            rfl
          · rw [if_neg c, if_neg (by simpa using c), ih]
      rw [this]
end
end LK
namespace LK
open PySem PySem.Spec PyProof.Rows L2 CD CDS
section
variable {P : Program} {w : World} {K : PySem.W.Frag} {mg : Str → Option Value} {base : Heap}
theorem most_mem {c : Option Nat} (h : Two c) {k x : Nat} (hx : x ∈ mostL c k) : 1 ≤ x := by
  obtain ⟨i, hi⟩ := List.mem_iff_getElem?.mp hx
  have hl : i < k + 1 := by
    have := (List.getElem?_eq_some_iff.mp hi).1
    rw [mostL_len] at this
    exact this
  rw [mostL_at c (show i ≤ k by omega)] at hi
  rw [← Option.some.inj hi]
  exact mostN_pos h i
theorem IsSizes.sum {k : Kd} {n : Nat} {l : List Nat} (h : IsSizes k n l) (hk : k.ok) : l.sum = n := by
  cases k with
  | parts c =>
    obtain ⟨k1, k2⟩ := hk
    have e : l = likeL c n := h
    rw [e]
    exact like_sum n (by omega)
  | half =>
    have e : l = halfL n := h
    rw [e]
    exact half_sum n
  | heap c =>
    obtain ⟨k1, k2⟩ := hk
    have e : l = heapL c n := h
    rw [e]
    exact (heap_filter (j := n) (by omega) (lvS_ge (by omega) n)).2
  | best c =>
    obtain ⟨i, h1, rfl⟩ := h
    exact best_sum h1.1
def spLS (K : PySem.W.Frag) : Sp := fun vs H Q _ => ∃ (a : Addr) (k : Kd) (n : Nat), vs = [.ref a, .int n] ∧ SqT K H a k.vs ∧ k.ok ∧ n ≤ 10 ^ 30 ∧ ∀ H' p l, Same H H' → IsSizes k n l → H' p = some (.lst ((iN l).map V.int)) → Q (.ref p) H'
theorem cal_law_sizes (z : Z mg) (c__law_below : Cal P w K mg base 2 "_law_below" p__law_below (spLB K)) (c__law_most_row : Cal P w K mg base 2 "_law_most_row" p__law_most_row (spMRow K)) (D : Def K mg "_law_sizes" s__law_sizes p__law_sizes) :
    Cal P w K mg base 3 "_law_sizes" p__law_sizes (spLS K) := by
  refine D.cal sc__law_sizes (fun vs H Q E h => by obtain ⟨_, _, _, rfl, _⟩ := h; rfl) fun f cdv A outer s H vs Q E hr h => ?_
  obtain ⟨a, k, n, rfl, hS, hk, hn, q⟩ := h
  refine ⟨_, (pss_cons (ps_par (i := 2) (j := 3) rfl sc__law_sizes.nd rfl rfl (by decide) rfl rfl (pa_cons (pe_lst pa_nil) (pa_cons (pv 1) pa_nil)) (by rfl))
        (pss_cons (ps_if (pt_cmpR op_eq (pe_ix ix_tup (pv 0) pe_int (fun _ _ => rfl)) pe_str (nomark _)) (pss_one (ps_ret (pe_cal c__law_below (hr.mono (by decide)) (by rfl) (pa_cons (pe_ix ix_tup (pv 0) pe_int (fun _ _ => rfl)) (pa_cons (pv 1) pa_nil))))) pss_nil)
        (pss_cons (ps_if (pt_cmpR op_eq (pe_ix ix_tup (pv 0) pe_int (fun _ _ => rfl)) pe_str (nomark _)) (pss_one (ps_for PassesOwn.never rfl (pi_range1 (by rfl) z.«range» (pa_cons (pe_callB (call_min2 rfl) (by rfl) z.«min» (by decide +kernel) (pa_cons (pe_ix ix_tup (pv 0) pe_int (fun _ _ => rfl)) (pa_cons (pv 1) pa_nil))) pa_nil)) (pg_name (i := 4) sc__law_sizes.nd rfl (Or.inl rfl)) (pss_cons (ps_set (i := 5) sc__law_sizes.nd rfl (Or.inl rfl) (pe_op op_sub pe_int (pe_op op_fdivN (pe_op op_sub pe_int (pv 3)) (pe_op op_sub (pe_callB (call_min2 rfl) (by rfl) z.«min» (by decide +kernel) (pa_cons (pe_ix ix_tup (pv 0) pe_int (fun _ _ => rfl)) (pa_cons (pv 1) pa_nil))) (pv 4)))))
        (pss_one (ps_par (i := 2) (j := 3) rfl sc__law_sizes.nd rfl rfl (by decide) rfl rfl (pa_cons (pe_op op_cat (pv 2) (pe_lst (pa_cons (pv 5) pa_nil))) (pa_cons (pe_op op_sub (pv 3) (pv 5)) pa_nil)) (by rfl)))))) (pss_one (ps_if (pt_cmpR op_eq (pe_ix ix_tup (pv 0) pe_int (fun _ _ => rfl)) pe_str (nomark _)) (pss_one (ps_while PassesOwn.never (pt_cmpR op_gt (pv 3) pe_int (nomark _)) (pss_cons (ps_set (i := 5) sc__law_sizes.nd rfl (Or.inl rfl) (pe_op op_sub (pv 3) (pe_op op_fdivN (pv 3) pe_int)))
        (pss_one (ps_par (i := 2) (j := 3) rfl sc__law_sizes.nd rfl rfl (by decide) rfl rfl (pa_cons (pe_op op_cat (pv 2) (pe_lst (pa_cons (pv 5) pa_nil))) (pa_cons (pe_op op_sub (pv 3) (pv 5)) pa_nil)) (by rfl)))))) (pss_one (ps_for PassesOwn.never rfl (pi_list (pe_revL (pe_slice sl_list (pe_cal c__law_most_row (hr.mono (by decide)) (by rfl) (pa_cons (pe_ix ix_tup (pv 0) pe_int (fun _ _ => rfl)) (pa_cons (pe_op op_add (pv 1) pe_int) pa_nil))) po_none (po_some (pe_un un_neg pe_int))))) (pg_name (i := 6) sc__law_sizes.nd rfl (Or.inl rfl)) (pss_cons (ps_set (i := 5) sc__law_sizes.nd rfl (Or.inl rfl) (pe_callB (call_min2 rfl) (by rfl) z.«min» (by decide +kernel) (pa_cons (pv 6) (pa_cons (pv 3) pa_nil))))
        (pss_one (ps_par (i := 2) (j := 3) rfl sc__law_sizes.nd rfl rfl (by decide) rfl rfl (pa_cons (pe_op op_cat (pv 2) (pe_ifExp (pt_cmpR op_gt (pv 5) pe_int (nomark _)) (pe_lst (pa_cons (pv 5) pa_nil)) (pe_lst pa_nil))) (pa_cons (pe_op op_sub (pv 3) (pv 5)) pa_nil)) (by rfl)))))))))
        (pss_one (ps_ret (pv 2)))))), ?_⟩
  refine ⟨(by decide : 0 ≤ sizeLine), fun fa nfa => ?_⟩
  have s0 : Same H (upd H fa (.lst [])) := same_upd nfa
  have hf0 : (upd H fa (.lst [])) fa = some (.lst ((iN []).map V.int)) := upd_same
  refine ⟨_, rfl, _, _, rfl, ?_⟩
  show tSeq _ _ _ _ (upd H fa (.lst []))
  generalize upd H fa (.lst []) = H1 at s0 hf0
  have hS1 := s0.tup hS
  cases k with
  | heap c =>
    obtain ⟨k1, k2⟩ := hk
    refine ⟨.ref a, rfl, a, _, 0, _, rfl, rfl, hS1, at0, rfl, _, rfl, iteT ?_⟩
    exact ⟨.ref a, rfl, a, _, 1, _, rfl, rfl, hS1, at1, _, rfl, c, n, rfl, k1, k2, hn, fun H' p s' h' => q H' p _ (s0.trans s') rfl h'⟩
  | parts c =>
    obtain ⟨k1, k2⟩ := hk
    refine ⟨.ref a, rfl, a, _, 0, _, rfl, rfl, hS1, at0, rfl, _, rfl, iteF ?_⟩
    refine ⟨.ref a, rfl, a, _, 0, _, rfl, rfl, hS1, at0, rfl, _, rfl, iteT ?_⟩
    have emin : (if (n : Int) < (c : Int) then (n : Int) else (c : Int)) = ((min c n : Nat) : Int) := by split <;> omega
    refine ⟨.ref a, rfl, a, _, 1, _, rfl, rfl, hS1, at1, _, rfl, c, n, rfl, ?_⟩
    rw [emin]
    refine ⟨_, rfl, by omega, by omega, ?_⟩
    rw [Int.toNat_natCast]
    refine for_it (walk_range (lo := 0) (n := min c n)) (fun i σ H4 => ∃ (fb : Addr) (lf : Nat) (y4 y5 y6 : Option V), lf = leftK c n i ∧ σ = [some (.ref a), some (.int n), some (.ref fb), some (.int lf), y4, y5, y6] ∧ Same H H4 ∧ H4 fb = some (.lst ((iN ((List.range i).map (likeN c n))).map V.int)))
      ⟨fa, n, none, none, none, leftK_zero.symm, rfl, s0, hf0⟩ (fun _ _ _ _ _ => trivial) (fun i x σ H4 H5 hi hW y => ?_) (fun σ H4 hW => ?_)
    · obtain ⟨fb, lf, y4, y5, y6, hlf, rfl, s4, hfb⟩ := hW
      obtain ⟨rfl, rfl⟩ := y
      have hS4 := s4.tup hS
      have hlp := like_part (most := c) (count := n) hi
      obtain ⟨g1, g2⟩ := leftK_succ hi
      rw [← hlf] at hlp g1 g2
      refine ⟨_, rfl, _, _, rfl, rfl, .ref a, rfl, a, _, 1, _, rfl, rfl, hS4, at1, _, rfl, c, n, rfl, ?_⟩
      rw [emin]
      refine ⟨_, rfl, _, _, rfl, rfl, _, _, rfl, rfl, ⟨by omega, by omega⟩, _, _, rfl, rfl, ?_⟩
      have eE : 0 - Int.fdiv (0 - (lf : Int)) (((min c n : Nat) : Int) - (0 + (i : Nat))) = ((likeN c n i : Nat) : Int) := by
        rw [Int.zero_add]
        exact hlp
      refine ⟨_, rfl, _, rfl, (by decide : 1 ≤ sizeLine), fun l nl => ?_⟩
      have sl := same_upd (o := .lst [V.int (0 - Int.fdiv (0 - (lf : Int)) (((min c n : Nat) : Int) - (0 + (i : Nat))))]) nl
      refine ⟨fb, l, _, _, rfl, rfl, sl _ _ hfb, upd_same, Nat.le_of_lt (small1000 (by rw [List.length_map, iN_len, List.length_map, List.length_range]; show i + 1 ≤ 1000; omega)), fun p np => ?_⟩
      refine ⟨_, rfl, _, rfl, _, _, rfl, rfl, _, _, rfl, p, leftK c n (i + 1), some (.int (0 + (i : Nat))), some (.int (likeN c n i : Nat)), y6, rfl, ?_, s4.trans (sl.trans (same_upd np)), ?_⟩
      · show [some (V.ref a), some (.int n), some (.ref p), some (V.int ((lf : Int) - (0 - Int.fdiv (0 - (lf : Int)) (((min c n : Nat) : Int) - (0 + (i : Nat)))))), some (.int (0 + (i : Nat))), some (V.int (0 - Int.fdiv (0 - (lf : Int)) (((min c n : Nat) : Int) - (0 + (i : Nat))))), y6] = _
        rw [eE, g1, show (lf : Int) - ((likeN c n i : Nat) : Int) = ((lf - likeN c n i : Nat) : Int) by omega]
      · rw [upd_same, List.range_succ, List.map_append, iN_app, List.map_append]
        show some (HO.lst (_ ++ [V.int (0 - Int.fdiv (0 - (lf : Int)) (((min c n : Nat) : Int) - (0 + (i : Nat))))])) = some (HO.lst (_ ++ [V.int ((likeN c n i : Nat) : Int)]))
        rw [eE]
    · obtain ⟨fb, lf, y4, y5, y6, hlf, rfl, s4, hfb⟩ := hW
      refine ⟨_, rfl, q H4 fb _ s4 rfl ?_⟩
      rw [likeL_at n (by omega)]
      exact hfb
  | half =>
    refine ⟨.ref a, rfl, a, _, 0, _, rfl, rfl, hS1, at0, rfl, _, rfl, iteF ?_⟩
    refine ⟨.ref a, rfl, a, _, 0, _, rfl, rfl, hS1, at0, rfl, _, rfl, iteF ?_⟩
    refine ⟨.ref a, rfl, a, _, 0, _, rfl, rfl, hS1, at0, rfl, _, rfl, iteT ?_⟩
    refine ⟨fun m σ H2 => ∃ lf fa done y5, m = lf ∧ σ = [some (.ref a), some (.int n), some (.ref fa), some (.int (lf : Nat)), none, y5, none] ∧ Same H H2 ∧ H2 fa = some (.lst ((iN done).map V.int)) ∧ done ++ halfL lf = halfL n, ⟨n, n, fa, [], none, rfl, rfl, s0, hf0, rfl⟩, ?_⟩
    intro lf σ H2 hW
    obtain ⟨_, fb, done, y5, rfl, rfl, s2, hfb, ed⟩ := hW
    have hlen : (halfL n).length ≤ 100 := half_len 100 n (by omega)
    refine ⟨_, rfl, _, 0, rfl, rfl, _, rfl, ite2 (fun e => ?_) (fun e => ?_)⟩
    · have e' : (0 : Int) < lf := of_decide_eq_true e
      have e2 : halfL lf = (lf + 1) / 2 :: halfL (lf / 2) := halfL_pos (by omega)
      refine ⟨fun σ H3 => ∃ fa done y5, σ = [some (.ref a), some (.int n), some (.ref fa), some (.int ((lf / 2 : Nat) : Int)), none, y5, none] ∧ Same H H3 ∧ H3 fa = some (.lst ((iN done).map V.int)) ∧ done ++ halfL (lf / 2) = halfL n, fun σ H3 hN => ?_, ?_⟩
      · obtain ⟨f2, d2, z5, r⟩ := hN
        exact ⟨lf / 2, by omega, lf / 2, f2, d2, z5, rfl, r⟩
      · have hd : done.length ≤ 100 := by
          have z := congrArg List.length ed
          rw [List.length_append] at z
          omega
        have f1 := fdiv_nat lf 2
        have f2 : (lf : Int) - Int.fdiv (lf : Int) 2 = (((lf + 1) / 2 : Nat) : Int) := by
          have : Int.fdiv (lf : Int) 2 = ((lf / 2 : Nat) : Int) := f1
          omega
        refine ⟨_, rfl, _, rfl, _, _, rfl, rfl, ⟨by decide, by decide⟩, _, _, rfl, rfl, ?_⟩
        refine ⟨_, rfl, _, rfl, (by decide : 1 ≤ sizeLine), fun l nl => ?_⟩
        have sl := same_upd (o := .lst [V.int ((lf : Int) - Int.fdiv (lf : Int) 2)]) nl
        refine ⟨fb, l, _, _, rfl, rfl, sl _ _ hfb, upd_same, Nat.le_of_lt (small1000 (by rw [List.length_map, iN_len]; show done.length + 1 ≤ 1000; omega)), fun p np => ?_⟩
        refine ⟨_, rfl, _, rfl, _, _, rfl, rfl, _, _, rfl, p, done ++ [(lf + 1) / 2], some (.int (((lf + 1) / 2 : Nat) : Int)), ?_, s2.trans (sl.trans (same_upd np)), ?_, ?_⟩
        · show [some (V.ref a), some (.int n), some (.ref p), some (V.int ((lf : Int) - ((lf : Int) - Int.fdiv (lf : Int) 2))), none, some (V.int ((lf : Int) - Int.fdiv (lf : Int) 2)), none] = _
          rw [f2, show (lf : Int) - (((lf + 1) / 2 : Nat) : Int) = ((lf / 2 : Nat) : Int) by omega]
        · rw [upd_same, iN_app, List.map_append]
          show some (HO.lst (_ ++ [V.int ((lf : Int) - Int.fdiv (lf : Int) 2)])) = some (HO.lst (_ ++ [V.int (((lf + 1) / 2 : Nat) : Int)]))
          rw [f2]
        · rw [List.append_assoc, ← ed, e2]
          rfl
    · have e' : lf = 0 := by
        have : ¬ (0 : Int) < lf := fun x => e (decide_eq_true x)
        omega
      subst e'
      rw [halfL_zero, List.append_nil] at ed
      rw [ed] at hfb
      exact ⟨_, rfl, q H2 fb _ s2 rfl hfb⟩
  | best c =>
    obtain ⟨k1, k2⟩ := hk
    have two : Two (some c) := k1
    refine ⟨.ref a, rfl, a, _, 0, _, rfl, rfl, hS1, at0, rfl, _, rfl, iteF ?_⟩
    refine ⟨.ref a, rfl, a, _, 0, _, rfl, rfl, hS1, at0, rfl, _, rfl, iteF ?_⟩
    refine ⟨.ref a, rfl, a, _, 0, _, rfl, rfl, hS1, at0, rfl, _, rfl, iteF ?_⟩
    refine ⟨.ref a, rfl, a, _, 1, _, rfl, rfl, hS1, at1, _, rfl, _, 1, rfl, rfl, some c, n + 1, rfl, two, by omega, fun H2 ra k s1 _ en hra => ?_⟩
    refine ⟨1, rfl, -1, rfl, ra, _, rfl, .inl (.inl hra), fun p np => ?_⟩
    rw [cut_initN]
    have k200 := row_short two (t := n + 1) (by omega) en.2
    have mem1 : ∀ x ∈ (mostL (some c) k).dropLast, 1 ≤ x := fun x hx => most_mem two (by rw [List.dropLast_eq_take] at hx; exact List.mem_of_mem_take hx)
    generalize hL : (mostL (some c) k).dropLast = L at mem1
    have lL : L.length = k := by rw [← hL, List.length_dropLast, mostL_len, Nat.add_sub_cancel]
    have s2 := same_upd (o := .lst ((iN L).map V.int)) np
    refine ⟨p, _, rfl, .inl (.inl upd_same), fun p2 np2 => ?_⟩
    have s3 := same_upd (o := .lst ((iN L).map V.int).reverse) np2
    have hp2 : (upd (upd H2 p (.lst ((iN L).map V.int))) p2 (.lst ((iN L).map V.int).reverse)) p2 = some (.lst ((iN L).map V.int).reverse) := upd_same
    have sA := s0.trans (s1.trans (s2.trans s3))
    have hfA := s3 _ _ (s2 _ _ (s1 _ _ hf0))
    have eR : ((iN L).map V.int).reverse = (iN L.reverse).map V.int := by
      unfold iN
      rw [List.map_reverse, List.map_reverse]
    refine ⟨p2, rfl, ⟨_, .inl (.inl upd_same)⟩, ?_⟩
    refine for_it (walk_list (K := K) (a := p2) (xs := ((iN L).map V.int).reverse)) (fun i σ H4 => ∃ (fb : Addr) (lf : Nat) (y4 y5 y6 : Option V), lf = leftG (L.reverse.take i) n ∧ σ = [some (.ref a), some (.int n), some (.ref fb), some (.int lf), y4, y5, y6] ∧ Same H H4 ∧ H4 p2 = some (.lst ((iN L).map V.int).reverse) ∧ H4 fb = some (.lst ((iN (greedy (L.reverse.take i) n)).map V.int)))
      ⟨fa, n, none, none, none, rfl, rfl, sA, hp2, hfA⟩ (fun i σ H4 _ hW => ?_) (fun i x σ H4 H5 hi hW y => ?_) (fun σ H4 hW => ?_)
    · obtain ⟨_, _, _, _, _, _, _, _, h, _⟩ := hW
      exact .inl (.inl h)
    · obtain ⟨fb, lf, y4, y5, y6, hlf, rfl, s4, hp4, hfb⟩ := hW
      obtain ⟨rfl, hx⟩ := y
      rw [List.length_reverse, List.length_map, iN_len] at hi
      have hr1 : L.reverse[i]? = some (L.reverse[i]'(by rw [List.length_reverse]; exact hi)) := List.getElem?_eq_getElem _
      have hm := mem1 _ (List.mem_reverse.mp (List.mem_of_getElem? hr1))
      rw [eR, iN_at hr1] at hx
      obtain rfl := Option.some.inj hx
      generalize L.reverse[i]'(by rw [List.length_reverse]; exact hi) = mo at *
      have tk : L.reverse.take (i + 1) = L.reverse.take i ++ [mo] := by rw [List.take_add_one, hr1]; rfl
      have eg := greedy_snoc (L.reverse.take i) mo n
      have el := leftG_snoc (L.reverse.take i) mo n
      rw [← tk] at eg el
      have lg := greedy_len (L.reverse.take i) n
      rw [List.length_take, List.length_reverse] at lg
      rw [← hlf] at eg el
      generalize greedy (L.reverse.take i) n = gr at *
      have em : (if (lf : Int) < (mo : Int) then (lf : Int) else (mo : Int)) = ((min mo lf : Nat) : Int) := by split <;> omega
      refine ⟨_, rfl, _, rfl, _, _, rfl, ?_⟩
      rw [em]
      refine ⟨_, rfl, _, rfl, _, 0, rfl, rfl, _, rfl, ite2 (fun e => ?_) (fun e => ?_)⟩
      · have e' : (0 : Int) < ((min mo lf : Nat) : Int) := of_decide_eq_true e
        rw [if_pos (by omega)] at eg
        refine ⟨_, rfl, (by decide : 1 ≤ sizeLine), fun l nl => ?_⟩
        have sl := same_upd (o := .lst [V.int ((min mo lf : Nat) : Int)]) nl
        refine ⟨fb, l, _, _, rfl, rfl, sl _ _ hfb, upd_same, Nat.le_of_lt (small1000 (by rw [List.length_map, iN_len]; show gr.length + 1 ≤ 1000; omega)), fun q1 nq1 => ?_⟩
        have sq := same_upd (o := .lst ((iN gr).map V.int ++ [V.int ((min mo lf : Nat) : Int)])) nq1
        refine ⟨_, rfl, _, rfl, _, _, rfl, rfl, _, _, rfl, q1, _, y4, some (.int (min mo lf : Nat)), some (.int mo), el.symm, ?_, s4.trans (sl.trans sq), sq _ _ (sl _ _ hp4), ?_⟩
        · show [some (V.ref a), some (.int n), some (.ref q1), some (V.int ((lf : Int) - ((min mo lf : Nat) : Int))), y4, some (V.int ((min mo lf : Nat) : Int)), some (.int mo)] = _
          rw [show (lf : Int) - ((min mo lf : Nat) : Int) = ((lf - min mo lf : Nat) : Int) by omega]
        · rw [upd_same, eg, iN_app, List.map_append]
          rfl
      · have e' : lf = 0 := by
          have : ¬ (0 : Int) < ((min mo lf : Nat) : Int) := fun x => e (decide_eq_true x)
          omega
        rw [if_neg (by omega), List.append_nil] at eg
        refine ⟨(by decide : 0 ≤ sizeLine), fun l nl => ?_⟩
        have sl := same_upd (o := .lst ([] : List V)) nl
        refine ⟨fb, l, _, _, rfl, rfl, sl _ _ hfb, upd_same, Nat.le_of_lt (small1000 (by rw [List.length_map, iN_len]; show gr.length + 0 ≤ 1000; omega)), fun q1 nq1 => ?_⟩
        have sq := same_upd (o := .lst ((iN gr).map V.int ++ [])) nq1
        refine ⟨_, rfl, _, rfl, _, _, rfl, rfl, _, _, rfl, q1, _, y4, some (.int (min mo lf : Nat)), some (.int mo), el.symm, ?_, s4.trans (sl.trans sq), sq _ _ (sl _ _ hp4), ?_⟩
        · show [some (V.ref a), some (.int n), some (.ref q1), some (V.int ((lf : Int) - ((min mo lf : Nat) : Int))), y4, some (V.int ((min mo lf : Nat) : Int)), some (.int mo)] = _
          rw [show (lf : Int) - ((min mo lf : Nat) : Int) = ((lf - min mo lf : Nat) : Int) by omega]
        · rw [upd_same, eg, List.append_nil]
    · obtain ⟨fb, lf, y4, y5, y6, hlf, rfl, s4, hp4, hfb⟩ := hW
      rw [List.length_reverse, List.length_map, iN_len, List.take_of_length_le (by rw [List.length_reverse]; omega)] at hfb
      refine ⟨_, rfl, q H4 fb _ s4 ⟨k, en, rfl⟩ ?_⟩
      unfold bestL
      rw [hL]
      exact hfb
end
end LK
namespace LK
open PySem PySem.Spec PyProof.Rows L2 CD CDS
section
variable {P : Program} {w : World} {K : PySem.W.Frag} {mg : Str → Option Value} {base : Heap}
/-! ### texts of small data -/
def oD : Option Int → PyData
  | none => .none
  | some i => .int i
theorem dp_opts {H : Hp} : ∀ os : List (Option Int), DpAll K H (os.map oV) (os.map oD)
  | [] => .nil
  | none :: r => .cons .non (dp_opts r)
  | some i :: r => .cons (.int i) (dp_opts r)
theorem dp_tup {H : Hp} {p : Addr} {ns : List Int} (h : SqT K H p (ns.map V.int)) : Dp K H (.ref p) (.tuple (ns.map PyData.int)) := .tup h (dp_ints ns)
structure RepOk (d : PyData) : Prop where
  s : d.showable = true
  n : d.hasDict = false
  p : d.depth ≤ 60
  z : d.shown.length ≤ sizeLine
theorem small_log {i : Int} (h : i.natAbs < 10 ^ 40) : i.natAbs.log2 < 133 := by
  by_cases h0 : i.natAbs = 0
  · rw [h0]; decide
  · exact (Nat.log2_lt h0).mpr (Nat.lt_trans h (by decide))
theorem small_shown {i : Int} (h : i.natAbs < 10 ^ 40) : (PyData.shown (.int i)).length ≤ 41 := by
  have e := int_text_length_le10 (k := 40) (by decide) h
  show (Str.ofString (toString i)).length ≤ 41
  rw [PySem.ofString_length]
  exact e
theorem opts_ok : ∀ (os : List (Option Int)), (∀ i, some i ∈ os → i.natAbs < 10 ^ 40) → PyData.showableAll (os.map oD) = true ∧ PyData.hasDictAll (os.map oD) = false ∧ PyData.depthAll (os.map oD) = 0 ∧ PyData.leavesShortAll 41 (os.map oD) = true ∧ PyData.weightAll (os.map oD) ≤ 135 * os.length
  | [], _ => ⟨by rw [List.map_nil, PyData.showableAll], by rw [List.map_nil, PyData.hasDictAll], by rw [List.map_nil, PyData.depthAll], by rw [List.map_nil, PyData.leavesShortAll], by rw [List.map_nil, PyData.weightAll]; exact Nat.zero_le _⟩
  | none :: r, h => by
    obtain ⟨h1, h2, h3, h4, h5⟩ := opts_ok r fun i hi => h i (List.mem_cons_of_mem _ hi)
    rw [List.map_cons, List.length_cons]
    refine ⟨?_, ?_, ?_, ?_, ?_⟩
    · rw [PyData.showableAll, h1]; simp [oD, PyData.showable]
    · rw [PyData.hasDictAll, h2]; simp [oD, PyData.hasDict]
    · rw [PyData.depthAll, h3]; simp [oD, PyData.depth]
    · rw [PyData.leavesShortAll, h4]; simp [oD, PyData.leavesShort]
    · rw [PyData.weightAll]
      have : PyData.weight (oD none) = 0 := by simp [oD, PyData.weight]
      omega
  | some i :: r, h => by
    obtain ⟨h1, h2, h3, h4, h5⟩ := opts_ok r fun i hi => h i (List.mem_cons_of_mem _ hi)
    have hi := h i List.mem_cons_self
    have hl := small_log hi
    rw [List.map_cons, List.length_cons]
    refine ⟨?_, ?_, ?_, ?_, ?_⟩
    · rw [PyData.showableAll, h1]; simp [oD, PyData.showable]; omega
    · rw [PyData.hasDictAll, h2]; simp [oD, PyData.hasDict]
    · rw [PyData.depthAll, h3]; simp [oD, PyData.depth]
    · rw [PyData.leavesShortAll, h4]; simp [oD, PyData.leavesShort, small_shown hi]
    · rw [PyData.weightAll]
      have : PyData.weight (oD (some i)) ≤ 134 := by
        simp only [oD, PyData.weight]
        split <;> omega
      omega
theorem ints_opts (ns : List Int) : ns.map PyData.int = (ns.map some).map oD := by
  rw [List.map_map]
  rfl
theorem rep_tup {as : List Int} (ha : ∀ i ∈ as, i.natAbs < 10 ^ 40) (la : as.length ≤ 1000) : RepOk (.tuple (as.map .int)) := by
  rw [ints_opts]
  obtain ⟨h1, h2, h3, h4, h5⟩ := opts_ok (as.map some) fun i hi => ha i (by simpa using hi)
  rw [List.length_map] at h5
  generalize (as.map some).map oD = B at *
  refine ⟨by rw [PyData.showable, h1], by rw [PyData.hasDict, h2], by rw [PyData.depth, h3]; decide, ?_⟩
  have := PyData.shown_le 41 (by decide) (.tuple B) (by rw [PyData.leavesShort, h4])
  rw [PyData.weight] at this
  have e : sizeLine = 16777216 := by decide
  omega
theorem big_log {m : Int} (h : m.natAbs < 10 ^ 70) : m.natAbs.log2 < 240 := by
  by_cases h0 : m.natAbs = 0
  · rw [h0]; decide
  · exact (Nat.log2_lt h0).mpr (Nat.lt_trans h (by decide))
theorem rep_big {m : Int} (h : m.natAbs < 10 ^ 70) : RepOk (.int m) := by
  have hl := big_log h
  refine ⟨by rw [PyData.showable]; exact decide_eq_true (by omega), by rw [PyData.hasDict], by rw [PyData.depth]; decide, ?_⟩
  have e := int_text_length_le10 (k := 70) (by decide) h
  have e2 : (PyData.shown (.int m)).length ≤ 71 := by
    show (Str.ofString (toString m)).length ≤ 71
    rw [PySem.ofString_length]
    exact e
  have e3 : sizeLine = 16777216 := by decide
  omega
theorem most_le (c : Option Nat) : ∀ n, mostN c n ≤ 2 ^ n ∧ (mostL c n).sum + 1 ≤ 2 ^ (n + 1)
  | 0 => ⟨Nat.le_refl 1, Nat.le_refl 2⟩
  | n + 1 => by
    obtain ⟨h1, h2⟩ := most_le c n
    have h3 : mostN c (n + 1) ≤ 2 ^ (n + 1) := by
      rw [mostN_succ]
      have : (lastC c (mostL c n)).sum ≤ (mostL c n).sum := by
        cases c with
        | none => exact Nat.le_refl _
        | some c =>
          show ((mostL (some c) n).drop _).sum ≤ _
          have e : (mostL (some c) n).sum = ((mostL (some c) n).take ((mostL (some c) n).length - c)).sum + ((mostL (some c) n).drop ((mostL (some c) n).length - c)).sum := by rw [← List.sum_append, List.take_append_drop]
          omega
      omega
    refine ⟨h3, ?_⟩
    rw [mostL_step, List.sum_append, List.sum_singleton, Nat.pow_succ 2 (n + 1)]
    omega
theorem most_small (c : Option Nat) {n : Nat} (h : n ≤ 200) : ((mostN c n : Nat) : Int).natAbs < 10 ^ 70 := by
  have h1 := (most_le c n).1
  have h2 : 2 ^ n ≤ 2 ^ 200 := Nat.pow_le_pow_right (by decide) h
  have h3 : 2 ^ 200 < 10 ^ 70 := by decide
  rw [Int.natAbs_natCast]
  omega
theorem rep_sizes {k : Kd} {n : Nat} {l : List Nat} (h : IsSizes k n l) (hk : k.ok) (hn : n ≤ 10 ^ 30) : RepOk (.tuple ((iN l).map .int)) := by
  refine rep_tup (fun i hi => ?_) (by rw [iN_len]; have := h.len hk hn; omega)
  obtain ⟨x, hx, rfl⟩ := List.mem_map.mp hi
  have h1 := mem_le_sum hx
  rw [h.sum hk] at h1
  rw [Int.natAbs_natCast]
  omega
def Kd.data : Kd → PyData
  | .parts n => .tuple [.str "parts", .int n]
  | .half => .tuple [.str "half"]
  | .best n => .tuple [.str "best", .int n]
  | .heap n => .tuple [.str "heap", .int n]
theorem Kd.dp {H : Hp} {a : Addr} {k : Kd} (h : H a = some (.tup k.vs)) : Dp K H (.ref a) k.data := by
  cases k with
  | half => exact .tup (.inl (.inl h)) (.cons (.str _) .nil)
  | _ => exact .tup (.inl (.inl h)) (.cons (.str _) (.cons (.int _) .nil))
theorem Kd.can (k : Kd) : k.data.canLay0 = true := by cases k <;> simp [Kd.data, PyData.canLay0, PyData.canLayAll0] <;> decide +kernel
theorem Kd.shaped (k : Kd) : SeqAt.shaped k.data = true := by
  unfold SeqAt.shaped
  rw [k.can]
  cases k <;> simp [Kd.data, PyData.depth, PyData.depthAll]
theorem Kd.shape {k : Kd} (hk : k.ok) : (∃ w, k.vs = [.str w]) ∨ ∃ w n, k.vs = [.str w, .int (n : Nat)] ∧ n ≤ 8 := by
  cases k with
  | half => exact .inl ⟨_, rfl⟩
  | parts n => exact .inr ⟨_, n, rfl, hk.2⟩
  | best n => exact .inr ⟨_, n, rfl, hk.2⟩
  | heap n => exact .inr ⟨_, n, rfl, hk.2⟩
def spRight (K : PySem.W.Frag) : Sp := fun vs H Q _ => ∃ (d g c a : Addr) (n : Nat) (k : Kd), vs = [.ref d, .ref a] ∧ Draw H d g c n ∧ n + 4 < 2 ^ 40 ∧ k.ok ∧ H a = some (.tup k.vs) ∧ ∀ H' g', Go H H' d g g' → Draw H' d g' c (n + 4) → Q (.bl true) H'
theorem cal_law_right (z : Z mg) (c_need_kind : Cal P w K mg base 3 "need_kind" p_need_kind (spNeedKind K)) (c__law_next : Cal P w K mg base 2 "_law_next" p__law_next spNext) (c__law_sizes : Cal P w K mg base 3 "_law_sizes" p__law_sizes (spLS K))
    (c_sizes : Cal P w K mg base 5 "sizes" p_sizes (spSizes K)) (D : Def K mg "_law_right" s__law_right p__law_right) : CalG P w K mg base 6 "_law_right" p__law_right (spRight K) := by
  refine D.calG sc__law_right (fun vs H Q E h => by obtain ⟨_, _, _, _, _, _, rfl, _⟩ := h; rfl) fun f cdv A outer s H vs Q E hgd hr h => ?_
  obtain ⟨d, g, c, a, n, k, rfl, hD, hn, hk, ha, q⟩ := h
  refine ⟨_, (pss_cons (ps_if (pt_cmpR (op_neD hr.units) (pe_cal c_need_kind (hr.mono (by decide)) (by rfl) (pa_cons (pv 1) pa_nil)) (pv 1) (nomark _)) (pss_one (ps_ret pe_bl)) pss_nil)
        (pss_cons (ps_set (i := 2) sc__law_right.nd rfl (Or.inl rfl) (pe_lst (pa_cons (pe_cal c__law_next (hr.mono (by decide)) (by rfl) (pa_cons (pv 0) (pa_cons pe_int pa_nil))) (pa_cons (pe_cal c__law_next (hr.mono (by decide)) (by rfl) (pa_cons (pv 0) (pa_cons (pe_op op_pow pe_int pe_int) pa_nil))) (pa_cons (pe_op op_sub (pe_op op_pow pe_int pe_int) (pe_cal c__law_next (hr.mono (by decide)) (by rfl) (pa_cons (pv 0) (pa_cons (pe_op op_pow pe_int pe_int) pa_nil)))) (pa_cons (pe_cal c__law_next (hr.mono (by decide)) (by rfl) (pa_cons (pv 0) (pa_cons (pe_op op_pow pe_int pe_int) pa_nil))) pa_nil))))))
        (pss_cons (ps_for PassesOwn.never rfl (pi_list (pe_op op_cat (pv 2) (pe_lst (pa_cons pe_int (pa_cons pe_int (pa_cons pe_int (pa_cons (pe_ifExp (pt_cmpR op_gt (pe_callB (call_len_seq) (by rfl) z.«len» (by decide +kernel) (pa_cons (pv 1) pa_nil)) pe_int (nomark _)) (pe_ix ix_tup (pv 1) (pe_un un_neg pe_int) (fun _ _ => rfl)) pe_int) pa_nil))))))) (pg_name (i := 3) sc__law_right.nd rfl (Or.inl rfl)) (pss_cons (ps_set (i := 4) sc__law_right.nd rfl (Or.inl rfl) (pe_cal c__law_sizes (hr.mono (by decide)) (by rfl) (pa_cons (pv 1) (pa_cons (pv 3) pa_nil))))
        (pss_one (ps_if (PW.pt (pw_or (pt_cmpR op_ne (pe_callB (call_reprD hgd hr.units) (by rfl) z.«repr» (by decide +kernel) (pa_cons (pe_cal c_sizes (hr.mono (by decide)) (by rfl) (pa_cons (pv 1) (pa_cons (pv 3) pa_nil))) pa_nil)) (pe_callB (call_reprD hgd hr.units) (by rfl) z.«repr» (by decide +kernel) (pa_cons (pe_callTy (call_tuple_of) (by rfl) z.«tuple» (by decide +kernel) (pa_cons (pv 4) pa_nil)) pa_nil)) (nomark _)) (pw_or1 (pt_cmpR op_ne (pe_callB (cr_sum rfl) (by rfl) z.«sum» (by decide +kernel) (pa_cons (pv 4) pa_nil)) (pv 3) (nomark _))))) (pss_one (ps_ret pe_bl)) pss_nil))))
        (pss_one (ps_ret pe_bl))))), ?_⟩
  refine ⟨.ref a, rfl, a, k, rfl, .inl (.inl ha), hk, .ref a, rfl, k.data, k.data, Kd.dp ha, Kd.dp ha, k.shaped, k.shaped, false, congrArg V.bl (by rw [SeqAt.eqv_refl _ k.can]; rfl), iteF ?_⟩
  refine ⟨.ref d, rfl, d, g, c, n, 80, rfl, hD, by omega, by decide, by decide, fun H1 g1 v1 but1 hg1 hD1 a1 a2 => ?_⟩
  have go1 : Go H H1 d g g1 := ⟨but1, hg1⟩
  refine ⟨.ref d, rfl, 10, 6, rfl, rfl, ⟨by decide, by decide, by decide⟩, d, g1, c, _, 10 ^ 6, rfl, hD1, by omega, by decide, by decide, fun H2 g2 v2 but2 hg2 hD2 b1 b2 => ?_⟩
  have go2 := go1.trans hD1 hD.nd.2.1 ⟨but2, hg2⟩
  refine ⟨10, 30, rfl, rfl, ⟨by decide, by decide, by decide⟩, .ref d, rfl, 10, 9, rfl, rfl, ⟨by decide, by decide, by decide⟩, d, g2, c, _, 10 ^ 9, rfl, hD2, by omega, by decide, by decide, fun H3 g3 v3 but3 hg3 hD3 d1 d2 => ⟨10 ^ 30, v3, rfl, rfl, ?_⟩⟩
  have go3 := go2.trans hD2 hD.nd.2.1 ⟨but3, hg3⟩
  refine ⟨.ref d, rfl, 10, 30, rfl, rfl, ⟨by decide, by decide, by decide⟩, d, g3, c, _, 10 ^ 30, rfl, hD3, by omega, by decide, by decide, fun H4 g4 v4 but4 hg4 hD4 e1 e2 => ?_⟩
  have go4 := go3.trans hD3 hD.nd.2.1 ⟨but4, hg4⟩
  refine ⟨(by decide : 4 ≤ sizeLine), fun L1 nL1 => ?_⟩
  have s5 := same_upd (o := .lst [V.int v1, .int v2, .int (10 ^ 30 - v3), .int v4]) nL1
  have hL1 : (upd H4 L1 (.lst [V.int v1, .int v2, .int (10 ^ 30 - v3), .int v4])) L1 = some (.lst [V.int v1, .int v2, .int (10 ^ 30 - v3), .int v4]) := upd_same
  have go5 := go4.same s5
  have hD5 := hD4.same s5
  have ha5 := go5.tup hD ha
  show tSeq _ _ _ _ (upd H4 L1 (.lst [V.int v1, .int v2, .int (10 ^ 30 - v3), .int v4]))
  generalize upd H4 L1 (.lst [V.int v1, .int v2, .int (10 ^ 30 - v3), .int v4]) = H5 at s5 hL1 go5 hD5 ha5
  clear go1 go2 go3 go4 but1 but2 but3 but4 hg1 hg2 hg3 hg4 nL1 s5
  refine ⟨.ref L1, rfl, ?_⟩
  rcases Kd.shape hk with ⟨wd, ek⟩ | ⟨wd, kn, ek, k8⟩
  · have hS5 : SqT K H5 a [.str wd] := .inl (.inl (by rw [← ek]; exact ha5))
    refine ⟨.ref a, rfl, a, _, rfl, .inr hS5, _, 1, rfl, rfl, _, rfl, iteF ⟨(by decide : 4 ≤ sizeLine), fun l3 nl3 => ?_⟩⟩
    have s6 := same_upd (o := .lst [V.int 0, .int 1, .int 2, .int 3]) nl3
    refine ⟨L1, l3, _, _, rfl, rfl, s6 _ _ hL1, upd_same, (by decide : 8 ≤ sizeLine), fun L2 np2 => ?_⟩
    have haX := s6 _ _ ha5
    have goX := go5.same s6
    have hDX := hD5.same s6
    have s7 := same_upd (o := .lst ([V.int v1, .int v2, .int (10 ^ 30 - v3), .int v4] ++ [V.int 0, .int 1, .int 2, .int 3])) np2
    obtain ⟨cs, ecs, hcs, lcs⟩ : ∃ cs : List Nat, ([V.int v1, .int v2, .int (10 ^ 30 - v3), .int v4] ++ [V.int 0, .int 1, .int 2, .int 3]) = (iN cs).map V.int ∧ (∀ x ∈ cs, x ≤ 10 ^ 30) ∧ cs.length ≤ 100 := by
      refine ⟨[v1.toNat, v2.toNat, (10 ^ 30 - v3).toNat, v4.toNat, 0, 1, 2, (3 : Int).toNat], ?_, ?_, (by decide : 8 ≤ 100)⟩
      · show [V.int v1, .int v2, .int (10 ^ 30 - v3), .int v4, .int 0, .int 1, .int 2, .int 3] = [V.int (v1.toNat : Int), .int (v2.toNat : Int), .int ((10 ^ 30 - v3).toNat : Int), .int (v4.toNat : Int), .int ((0 : Nat) : Int), .int ((1 : Nat) : Int), .int ((2 : Nat) : Int), .int ((3 : Int).toNat : Int)]
        rw [Int.toNat_of_nonneg a1, Int.toNat_of_nonneg b1, Int.toNat_of_nonneg (show 0 ≤ 10 ^ 30 - v3 by omega), Int.toNat_of_nonneg e1, Int.toNat_of_nonneg (show 0 ≤ (3 : Int) by omega)]
        rfl
      · intro x hx
        simp only [List.mem_cons, List.not_mem_nil, or_false] at hx
        omega
    have hL2 : (upd (upd H5 l3 (.lst [V.int 0, .int 1, .int 2, .int 3])) L2 (.lst ([V.int v1, .int v2, .int (10 ^ 30 - v3), .int v4] ++ [V.int 0, .int 1, .int 2, .int 3]))) L2 = some (.lst ((iN cs).map V.int)) := by rw [upd_same, ecs]
    rw [ecs] at s7 hL2 ⊢
    have ha7 := s7 _ _ haX
    have go7 := goX.same s7
    have hD7 := hDX.same s7
    refine ⟨L2, rfl, ⟨_, .inl (.inl upd_same)⟩, ?_⟩
    refine for_it (walk_list (K := K) (a := L2) (xs := (iN cs).map V.int)) (fun i σ HH => ∃ y3 y4, σ = [some (.ref d), some (.ref a), some (.ref L1), y3, y4] ∧ Same (upd (upd H5 l3 (.lst [V.int 0, .int 1, .int 2, .int 3])) L2 (.lst ((iN cs).map V.int))) HH)
      ⟨none, none, rfl, Same.refl _⟩ (fun i σ HH _ hW => ?_) (fun i x σ HH HJ hi hW y => ?_) (fun σ HH hW => ?_)
    · obtain ⟨_, _, _, s⟩ := hW
      exact .inl (.inl (s _ _ hL2))
    · obtain ⟨y3, y4, rfl, s8⟩ := hW
      obtain ⟨rfl, hx⟩ := y
      rw [List.length_map, iN_len] at hi
      have hc1 : cs[i]? = some cs[i] := List.getElem?_eq_getElem hi
      have hn := hcs _ (List.mem_of_getElem? hc1)
      rw [iN_at hc1] at hx
      obtain rfl := Option.some.inj hx
      generalize cs[i] = cn at *
      have ha8 := s8 _ _ ha7
      refine ⟨.ref a, rfl, _, rfl, a, k, cn, rfl, .inl (.inl ha8), hk, hn, fun H9 p l s9 hl hp => ?_⟩
      refine ⟨.ref a, rfl, _, rfl, a, k, cn, rfl, .inl (.inl (s9 _ _ ha8)), hk, hn, fun H10 p2 l2 s10 hl2 hp2 => ?_⟩
      obtain rfl := hl.uniq hl2
      have hlen := hl.len hk hn
      have hsum := hl.sum hk
      have R := rep_sizes hl hk hn
      refine ⟨.ref p2, .tuple ((iN l).map .int), rfl, dp_tup hp2, R.s, R.n, R.p, R.z, .ref p, rfl, p, _, rfl, .inl ⟨.inl (.inl (s10 _ _ hp)), fun t nt => ⟨.ref t, .tuple ((iN l).map .int), rfl, dp_tup (.inl (.inl upd_same)), R.s, R.n, R.p, R.z, rfl, ?_⟩⟩⟩
      rw [decide_eq_true rfl]
      have s11 := same_upd (o := .tup ((iN l).map V.int)) nt
      refine ⟨false, rfl, iteF ⟨.ref p, rfl, p, _, rfl, .inl (.inl (s11 _ _ (s10 _ _ hp))), _, rfl, rfl, ?_⟩⟩
      rw [iN_sum, hsum, decide_eq_true rfl]
      exact ⟨false, rfl, iteF ⟨_, _, rfl, s8.trans (s9.trans (s10.trans s11))⟩⟩
    · obtain ⟨y3, y4, rfl, s8⟩ := hW
      exact q HH _ (go7.same s8) ((hD7.same s8).up (by omega))
  · have hS5 : SqT K H5 a [.str wd, .int kn] := .inl (.inl (by rw [← ek]; exact ha5))
    refine ⟨.ref a, rfl, a, _, rfl, .inr hS5, _, 1, rfl, rfl, _, rfl, iteT ⟨.ref a, rfl, 1, rfl, a, _, -1, _, rfl, rfl, hS5, at_neg (i := 1) (by decide) (show 1 ≤ 2 by decide) rfl, (by decide : 4 ≤ sizeLine), fun l3 nl3 => ?_⟩⟩
    have s6 := same_upd (o := .lst [V.int 0, .int 1, .int 2, .int kn]) nl3
    refine ⟨L1, l3, _, _, rfl, rfl, s6 _ _ hL1, upd_same, (by decide : 8 ≤ sizeLine), fun L2 np2 => ?_⟩
    have haX := s6 _ _ ha5
    have goX := go5.same s6
    have hDX := hD5.same s6
    have s7 := same_upd (o := .lst ([V.int v1, .int v2, .int (10 ^ 30 - v3), .int v4] ++ [V.int 0, .int 1, .int 2, .int kn])) np2
    obtain ⟨cs, ecs, hcs, lcs⟩ : ∃ cs : List Nat, ([V.int v1, .int v2, .int (10 ^ 30 - v3), .int v4] ++ [V.int 0, .int 1, .int 2, .int kn]) = (iN cs).map V.int ∧ (∀ x ∈ cs, x ≤ 10 ^ 30) ∧ cs.length ≤ 100 := by
      refine ⟨[v1.toNat, v2.toNat, (10 ^ 30 - v3).toNat, v4.toNat, 0, 1, 2, (kn : Int).toNat], ?_, ?_, (by decide : 8 ≤ 100)⟩
      · show [V.int v1, .int v2, .int (10 ^ 30 - v3), .int v4, .int 0, .int 1, .int 2, .int kn] = [V.int (v1.toNat : Int), .int (v2.toNat : Int), .int ((10 ^ 30 - v3).toNat : Int), .int (v4.toNat : Int), .int ((0 : Nat) : Int), .int ((1 : Nat) : Int), .int ((2 : Nat) : Int), .int ((kn : Int).toNat : Int)]
        rw [Int.toNat_of_nonneg a1, Int.toNat_of_nonneg b1, Int.toNat_of_nonneg (show 0 ≤ 10 ^ 30 - v3 by omega), Int.toNat_of_nonneg e1, Int.toNat_of_nonneg (show 0 ≤ (kn : Int) by omega)]
        rfl
      · intro x hx
        simp only [List.mem_cons, List.not_mem_nil, or_false] at hx
        omega
    have hL2 : (upd (upd H5 l3 (.lst [V.int 0, .int 1, .int 2, .int kn])) L2 (.lst ([V.int v1, .int v2, .int (10 ^ 30 - v3), .int v4] ++ [V.int 0, .int 1, .int 2, .int kn]))) L2 = some (.lst ((iN cs).map V.int)) := by rw [upd_same, ecs]
    rw [ecs] at s7 hL2 ⊢
    have ha7 := s7 _ _ haX
    have go7 := goX.same s7
    have hD7 := hDX.same s7
    refine ⟨L2, rfl, ⟨_, .inl (.inl upd_same)⟩, ?_⟩
    refine for_it (walk_list (K := K) (a := L2) (xs := (iN cs).map V.int)) (fun i σ HH => ∃ y3 y4, σ = [some (.ref d), some (.ref a), some (.ref L1), y3, y4] ∧ Same (upd (upd H5 l3 (.lst [V.int 0, .int 1, .int 2, .int kn])) L2 (.lst ((iN cs).map V.int))) HH)
      ⟨none, none, rfl, Same.refl _⟩ (fun i σ HH _ hW => ?_) (fun i x σ HH HJ hi hW y => ?_) (fun σ HH hW => ?_)
    · obtain ⟨_, _, _, s⟩ := hW
      exact .inl (.inl (s _ _ hL2))
    · obtain ⟨y3, y4, rfl, s8⟩ := hW
      obtain ⟨rfl, hx⟩ := y
      rw [List.length_map, iN_len] at hi
      have hc1 : cs[i]? = some cs[i] := List.getElem?_eq_getElem hi
      have hn := hcs _ (List.mem_of_getElem? hc1)
      rw [iN_at hc1] at hx
      obtain rfl := Option.some.inj hx
      generalize cs[i] = cn at *
      have ha8 := s8 _ _ ha7
      refine ⟨.ref a, rfl, _, rfl, a, k, cn, rfl, .inl (.inl ha8), hk, hn, fun H9 p l s9 hl hp => ?_⟩
      refine ⟨.ref a, rfl, _, rfl, a, k, cn, rfl, .inl (.inl (s9 _ _ ha8)), hk, hn, fun H10 p2 l2 s10 hl2 hp2 => ?_⟩
      obtain rfl := hl.uniq hl2
      have hlen := hl.len hk hn
      have hsum := hl.sum hk
      have R := rep_sizes hl hk hn
      refine ⟨.ref p2, .tuple ((iN l).map .int), rfl, dp_tup hp2, R.s, R.n, R.p, R.z, .ref p, rfl, p, _, rfl, .inl ⟨.inl (.inl (s10 _ _ hp)), fun t nt => ⟨.ref t, .tuple ((iN l).map .int), rfl, dp_tup (.inl (.inl upd_same)), R.s, R.n, R.p, R.z, rfl, ?_⟩⟩⟩
      rw [decide_eq_true rfl]
      have s11 := same_upd (o := .tup ((iN l).map V.int)) nt
      refine ⟨false, rfl, iteF ⟨.ref p, rfl, p, _, rfl, .inl (.inl (s11 _ _ (s10 _ _ hp))), _, rfl, rfl, ?_⟩⟩
      rw [iN_sum, hsum, decide_eq_true rfl]
      exact ⟨false, rfl, iteF ⟨_, _, rfl, s8.trans (s9.trans (s10.trans s11))⟩⟩
    · obtain ⟨y3, y4, rfl, s8⟩ := hW
      exact q HH _ (go7.same s8) ((hD7.same s8).up (by omega))
end
end LK
namespace LK
open PySem PySem.Spec PyProof.Rows L2 CD CDS
section
variable {P : Program} {w : World} {K : PySem.W.Frag} {mg : Str → Option Value} {base : Heap}
def spMRight : Sp := fun vs H Q _ => ∃ (d g c : Addr) (n : Nat) (k : Option Nat), vs = [.ref d, cV k] ∧ Draw H d g c n ∧ n + 1 < 2 ^ 40 ∧ Two k ∧ (∀ j, k = some j → j ≤ 8) ∧ ∀ H' g', Go H H' d g g' → Draw H' d g' c (n + 1) → Q (.bl true) H'
theorem cal_most_right (z : Z mg) (c__law_most_row : Cal P w K mg base 2 "_law_most_row" p__law_most_row (spMRow K)) (c__law_next : Cal P w K mg base 2 "_law_next" p__law_next spNext) (c_most_told : Cal P w K mg base 4 "most_told" p_most_told spMT)
    (D : Def K mg "_law_most_right" s__law_most_right p__law_most_right) : CalG P w K mg base 5 "_law_most_right" p__law_most_right spMRight := by
  refine D.calG sc__law_most_right (fun vs H Q E h => by obtain ⟨_, _, _, _, _, rfl, _⟩ := h; rfl) fun f cdv A outer s H vs Q E hgd hr h => ?_
  obtain ⟨d, g, cc, n, c, rfl, hD, hn, h2, h8, q⟩ := h
  refine ⟨_, (pss_cons (ps_set (i := 2) sc__law_most_right.nd rfl (Or.inl rfl) (pe_cal c__law_most_row (hr.mono (by decide)) (by rfl) (pa_cons (pv 1) (pa_cons (pe_op op_pow pe_int pe_int) pa_nil))))
        (pss_cons (ps_set (i := 3) sc__law_most_right.nd rfl (Or.inl rfl) (pe_cal c__law_next (hr.mono (by decide)) (by rfl) (pa_cons (pv 0) (pa_cons (pe_callB (call_len_seq) (by rfl) z.«len» (by decide +kernel) (pa_cons (pv 2) pa_nil)) pa_nil))))
        (pss_cons (ps_if (pt_cmpR op_ne (pe_callB (call_reprD hgd hr.units) (by rfl) z.«repr» (by decide +kernel) (pa_cons (pe_cal c_most_told (hr.mono (by decide)) (by rfl) (pa_cons (pv 1) (pa_cons (pv 3) pa_nil))) pa_nil)) (pe_callB (call_reprD hgd hr.units) (by rfl) z.«repr» (by decide +kernel) (pa_cons (pe_ix ix_list (pv 2) (pv 3) (fun _ _ => rfl)) pa_nil)) (nomark _)) (pss_one (ps_ret pe_bl)) pss_nil)
        (pss_cons (ps_set (i := 4) sc__law_most_right.nd rfl (Or.inl rfl) (pe_lst (pa_cons pe_int pa_nil)))
        (pss_cons (ps_while PassesOwn.never (pt_cmpR op_lt (pe_callB (call_len_seq) (by rfl) z.«len» (by decide +kernel) (pa_cons (pv 4) pa_nil)) pe_int (nomark _)) (pss_one (ps_expr (pe_bm PySem.F.plainAttrs_list PySem.F.slot_list_append PySem.F.type_list_append mt_append (pv 4) (pa_cons (pe_op op_add pe_int (pe_callB (cr_sum rfl) (by rfl) z.«sum» (by decide +kernel) (pa_cons (pe_ifExp (pt_cmpR op_isN (pv 1) pe_non (nomark _)) (pv 4) (pe_slice sl_list (pv 4) (po_some (pe_callB (call_max2 rfl) (by rfl) z.«max» (by decide +kernel) (pa_cons pe_int (pa_cons (pe_op op_sub (pe_callB (call_len_seq) (by rfl) z.«len» (by decide +kernel) (pa_cons (pv 4) pa_nil)) (pv 1)) pa_nil)))) po_none)) pa_nil))) pa_nil)))))
        (pss_one (ps_ret (pe_and (pe_cmpR op_eq (pe_cal c_most_told (hr.mono (by decide)) (by rfl) (pa_cons (pv 1) (pa_cons pe_int pa_nil))) (pe_ix ix_list (pv 4) pe_int (fun _ _ => rfl)) (nomark _)) (pe_one (pe_cmpR op_eq (pe_cal c_most_told (hr.mono (by decide)) (by rfl) (pa_cons (pv 1) (pa_cons pe_int pa_nil))) (pe_ix ix_list (pv 4) pe_int (fun _ _ => rfl)) (nomark _))))))))))), ?_⟩
  refine ⟨cV c, rfl, 10, 30, rfl, rfl, ⟨by decide, by decide, by decide⟩, c, 10 ^ 30, congrArg (fun v => [cV c, V.int v]) (by decide), h2, by decide, fun H1 p k s1 np0 en hp => ?_⟩
  have k200 := row_short h2 (t := 10 ^ 30) (by decide) en.2
  have hD1 := hD.same s1
  refine ⟨.ref d, rfl, .ref p, rfl, p, _, rfl, .inl (.inl (.inl hp)), d, g, cc, n, (k : Int) + 1, ?_, hD1, by omega, by omega, by omega, fun H2 g2 v but hg2 hD2 v0 v1 => ?_⟩
  · show [V.ref d, V.int ((((iN (mostL c k)).map V.int).length : Nat) : Int)] = _
    rw [List.length_map, iN_len, mostL_len]
    rfl
  have go1 : Go H1 H2 d g g2 := ⟨but, hg2⟩
  have go2 := (Go.of (d := d) (g := g) s1).trans hD1 hD.nd.2.1 go1
  obtain ⟨t, rfl⟩ : ∃ t : Nat, v = t := ⟨_, (Int.toNat_of_nonneg v0).symm⟩
  have ht : t ≤ k := by omega
  have npg : p ≠ g := fun x => by obtain ⟨_, ⟨xs, h1⟩, _⟩ := hD.nd; rw [x, h1] at np0; cases np0
  have hp2 := go1.lst hD1 hp npg
  refine ⟨cV c, rfl, .int t, rfl, c, t, rfl, h2, h8, by omega, fun H3 s3 => ?_⟩
  have R := rep_big (most_small c (n := t) (by omega))
  refine ⟨.int (mostN c t), .int (mostN c t), rfl, .int _, R.s, R.n, R.p, R.z, .ref p, rfl, .int t, rfl, p, _, t, _, rfl, rfl, .inl (.inl (s3 _ _ hp2)), atI_nat (iN_at (mostL_at c ht)), .int (mostN c t), .int (mostN c t), rfl, .int _, R.s, R.n, R.p, R.z, rfl, ?_⟩
  rw [decide_eq_true rfl]
  refine ⟨false, rfl, iteF ?_⟩
  have go3 := go2.same s3
  have hD3 := hD2.same s3
  refine ⟨(by decide : 1 ≤ sizeLine), fun ra nra => ?_⟩
  have s0 : Same H3 (upd H3 ra (.lst [.int 1])) := same_upd nra
  have hm0 : (upd H3 ra (.lst [.int 1])) ra = some (.lst ((iN (mostL c 0)).map V.int)) := upd_same
  show tSeq _ _ _ _ (upd H3 ra (.lst [.int 1]))
  generalize upd H3 ra (.lst [.int 1]) = H4 at s0 hm0
  refine ⟨fun m σ H2 => ∃ k, m = 200 - k ∧ k ≤ 200 ∧ σ = [some (.ref d), some (cV c), some (.ref p), some (.int t), some (.ref ra)] ∧ Same H3 H2 ∧ H2 ra = some (.lst ((iN (mostL c k)).map V.int)), ⟨_, 0, rfl, by decide, rfl, s0, hm0⟩, ?_⟩
  clear en hp npg hp2 R ht v0 v1 k200 go1 but hg2 hD1 s1 hm0 s0
  intro m σ H2 hW
  obtain ⟨k, rfl, k200, rfl, sm, hra⟩ := hW
  refine ⟨.ref ra, rfl, ra, _, rfl, .inl (.inl (.inl hra)), _, 201, rfl, rfl, _, rfl, ite2 (fun e => ?_) (fun e => ?_)⟩
  · have e' : k + 1 < 201 := by
      have z3 := of_decide_eq_true e
      rw [List.length_map, iN_len, mostL_len] at z3
      omega
    refine ⟨fun σ H5 => σ = [some (.ref d), some (cV c), some (.ref p), some (.int t), some (.ref ra)] ∧ Same H3 H5 ∧ H5 ra = some (.lst ((iN (mostL c (k + 1))).map V.int)), fun σ H5 hN => ?_, ?_⟩
    · obtain ⟨h1, h2', h3⟩ := hN
      exact ⟨_, by omega, k + 1, rfl, by omega, h1, h2', h3⟩
    · clear q hD hD2 hD3 go2 go3
      cases c with
      | none =>
        refine ⟨.ref ra, rfl, .inl ⟨rfl, _, .inl (.inl hra)⟩, .non, rfl, rfl, true, rfl, iteT ⟨.ref ra, rfl, ra, _, rfl, .inl (.inl hra), 1, _, rfl, rfl, ?_⟩⟩
        have eS : (1 : Int) + (iN (mostL none k)).sum = ((mostN none (k + 1) : Nat) : Int) := by
          rw [iN_sum, mostN_succ]
          show _ = ((1 + (mostL none k).sum : Nat) : Int)
          omega
        refine ⟨ra, _, _, rfl, rfl, hra, by rw [List.length_map, iN_len, mostL_len]; exact small1000 (by omega), ?_⟩
        show Ends.nx _ _ (upd _ ra (.lst ((iN (mostL none k)).map V.int ++ [.int (1 + (iN (mostL none k)).sum)])))
        rw [eS]
        refine ⟨rfl, fun b o eb => ?_, ?_⟩
        · rw [upd_ne (ne_of_none eb nra)]
          exact (Same.refl _) _ _ (sm _ _ eb)
        · rw [upd_same, mostL_step, iN_app, List.map_append]
          rfl
      | some c =>
        have h3 : 2 ≤ c := h2
        have e3 : (if ((((iN (mostL (some c) k)).map V.int).length : Int) - (c : Int)) > 0 then ((((iN (mostL (some c) k)).map V.int).length : Int) - (c : Int)) else 0) = (((mostL (some c) k).length - c : Nat) : Int) := by
          rw [List.length_map, iN_len]
          split <;> omega
        refine ⟨.ref ra, rfl, .inl ⟨rfl, _, .inl (.inl hra)⟩, .int c, rfl, rfl, false, rfl, iteF ⟨.ref ra, rfl, .ref ra, rfl, ra, _, rfl, .inl (.inl (.inl hra)), .int c, rfl, _, c, rfl, rfl, 0, _, rfl, _, rfl, ?_⟩⟩
        rw [e3]
        refine ⟨ra, _, rfl, .inl (.inl hra), fun p np => ?_⟩
        rw [cut_fromN]
        have sx := same_upd (o := .lst ((iN ((mostL (some c) k).drop ((mostL (some c) k).length - c))).map V.int)) np
        refine ⟨p, _, rfl, .inl (.inl upd_same), 1, _, rfl, rfl, ?_⟩
        have eS : (1 : Int) + (iN ((mostL (some c) k).drop ((mostL (some c) k).length - c))).sum = ((mostN (some c) (k + 1) : Nat) : Int) := by
          rw [iN_sum, mostN_succ]
          show _ = ((1 + ((mostL (some c) k).drop ((mostL (some c) k).length - c)).sum : Nat) : Int)
          omega
        refine ⟨ra, _, _, rfl, rfl, sx _ _ hra, by rw [List.length_map, iN_len, mostL_len]; exact small1000 (by omega), ?_⟩
        show Ends.nx _ _ (upd _ ra (.lst ((iN (mostL (some c) k)).map V.int ++ [.int (1 + (iN ((mostL (some c) k).drop ((mostL (some c) k).length - c))).sum)])))
        rw [eS]
        refine ⟨rfl, fun b o eb => ?_, ?_⟩
        · rw [upd_ne (ne_of_none eb nra)]
          exact sx _ _ (sm _ _ eb)
        · rw [upd_same, mostL_step, iN_app, List.map_append]
          rfl
  · have e' : k = 200 := by
      have z3 : ¬ _ := fun x => e (decide_eq_true x)
      rw [List.length_map, iN_len, mostL_len] at z3
      omega
    subst e'
    refine ⟨cV c, rfl, c, 200, rfl, h2, h8, by decide, fun H5 s5 => ?_⟩
    have at200 : atI ((iN (mostL c 200)).map V.int) 200 = some (.int (mostN c 200 : Nat)) := atI_nat (j := 200) (iN_at (mostL_at c (Nat.le_refl _)))
    have at151 : atI ((iN (mostL c 200)).map V.int) 151 = some (.int (mostN c 151 : Nat)) := atI_nat (j := 151) (iN_at (mostL_at c (by decide)))
    refine ⟨.ref ra, rfl, ra, _, _, _, rfl, rfl, .inl (.inl (s5 _ _ hra)), at200, rfl, true, congrArg V.bl (decide_eq_true rfl), iteT ?_⟩
    refine ⟨cV c, rfl, c, 151, rfl, h2, h8, by decide, fun H6 s6 => ?_⟩
    refine ⟨.ref ra, rfl, ra, _, _, _, rfl, rfl, .inl (.inl (s6 _ _ (s5 _ _ hra))), at151, rfl, ?_⟩
    rw [decide_eq_true rfl]
    exact q H6 _ (go3.same (sm.trans (s5.trans s6))) (hD3.same (sm.trans (s5.trans s6)))
def tConst : List V → TA
  | [] => tNil
  | v :: vs => tCons (tC v) (tConst vs)
theorem tConst_go {σ : L2.St} {H : Hp} : ∀ {vs : List V} {Q : List V → Hp → Prop}, Q vs H → tConst vs σ H Q
  | [], _, q => q
  | v :: vs, Q, q => tConst_go (vs := vs) (Q := fun xs H2 => Q (v :: xs) H2) q
def tTups : List (List V) → TA
  | [] => tNil
  | t :: ts => tCons (tTup (tConst t)) (tTups ts)
theorem tTups_go {σ : L2.St} : ∀ (ts : List (List V)) {H : Hp} {Q : List V → Hp → Prop}, (∀ t ∈ ts, t.length ≤ sizeLine) →
    (∀ H' (ps : List Addr), Same H H' → ps.length = ts.length → (∀ (i : Nat) (p : Addr) (t : List V), ps[i]? = some p → ts[i]? = some t → H' p = some (.tup t)) → Q (ps.map V.ref) H') → tTups ts σ H Q
  | [], H, Q, _, q => q H [] (Same.refl H) rfl fun i p t h _ => by cases i <;> cases h
  | t :: ts, H, Q, hl, q => tConst_go ⟨hl t List.mem_cons_self, fun p np => tTups_go ts (Q := fun xs H2 => Q (V.ref p :: xs) H2) (fun u hu => hl u (List.mem_cons_of_mem _ hu)) fun H' ps s hlen hp =>
      q H' (p :: ps) ((same_upd np).trans s) (by rw [List.length_cons, List.length_cons, hlen]) fun i p' t' h1 h2 => by
        cases i with
        | zero =>
          have e1 : p = p' := Option.some.inj h1
          have e2 : t = t' := Option.some.inj h2
          subst e1 e2
          exact s _ _ upd_same
        | succ i => exact hp i p' t' h1 h2⟩
theorem for_list_go {te : TE} {g : TG} {b : TS} {D : Ends} {σ : L2.St} {H : Hp} (h : te σ H fun v H1 => ∃ a, v = .ref a ∧ (∃ xs, SqL K H1 a xs) ∧ tFor (fun _ H R => R (Itl K a) H) g b D σ H1) : tFor (iList K te) g b D σ H := h
def spLaw (K : PySem.W.Frag) : Sp := fun vs H Q _ => ∃ (a : Addr) (ns : List Int), vs = [.ref a] ∧ SqL K H a (ns.map V.int) ∧ ns.length ≤ 63 ∧ ∀ H', Q (.bl true) H'
theorem cal_law (z : Z mg) (c__law_begun : Cal P w K mg base 2 "_law_begun" p__law_begun (spBegun K)) (c__law_next : Cal P w K mg base 2 "_law_next" p__law_next spNext) (c__law_kind : Cal P w K mg base 3 "_law_kind" p__law_kind (spKind K))
    (c__law_right : CalG P w K mg base 6 "_law_right" p__law_right (spRight K)) (c__law_most_right : CalG P w K mg base 5 "_law_most_right" p__law_most_right spMRight) (c_sizes : Cal P w K mg base 5 "sizes" p_sizes (spSizes K)) (c_is_lot : Cal P w K mg base 4 "is_lot" p_is_lot (spLot K))
    {f : Addr} {fd : FuncData} (F : Fun K "law" "law" s_law f fd) : GOk P w K mg base 7 f fd p_law (spLaw K) := by
  refine g_ok F sc_law (fun vs H Q E h => by obtain ⟨_, _, rfl, _⟩ := h; rfl) fun cdv A outer s H vs Q E hgd hr h => ?_
  obtain ⟨a, ns, rfl, hS, hl, q⟩ := h
  refine ⟨_, (pss_cons (ps_set (i := 1) sc_law.nd rfl (Or.inl rfl) (pe_cal c__law_begun (hr.mono (by decide)) (by rfl) (pa_cons (pv 0) pa_nil)))
        (pss_cons (ps_for PassesOwn.never rfl (pi_range1 (by rfl) z.«range» (pa_cons (pe_op op_add pe_int (pe_callB (call_min2 rfl) (by rfl) z.«min» (by decide +kernel) (pa_cons (pe_callB (call_len_seq) (by rfl) z.«len» (by decide +kernel) (pa_cons (pv 0) pa_nil)) (pa_cons pe_int pa_nil)))) pa_nil)) (pg_name (i := 2) sc_law.nd rfl (Or.inl rfl)) (pss_one (ps_if (PW.pt (pw_or (pt_not (pt_val (pe_calG c__law_right hgd (hr.mono (by decide)) (by rfl) (pa_cons (pv 1) (pa_cons (pe_cal c__law_kind (hr.mono (by decide)) (by rfl) (pa_cons (pv 1) pa_nil)) pa_nil))))) (pw_or1 (pt_not (pt_val (pe_calG c__law_most_right hgd (hr.mono (by decide)) (by rfl) (pa_cons (pv 1) (pa_cons (pe_op op_add pe_int (pe_cal c__law_next (hr.mono (by decide)) (by rfl) (pa_cons (pv 1) (pa_cons pe_int pa_nil)))) pa_nil)))))))) (pss_one (ps_ret pe_bl)) pss_nil)))
        (pss_cons (ps_for PassesOwn.never rfl (pi_list (pe_lst (pa_cons (pe_tup (pa_cons pe_str pa_nil)) (pa_cons (pe_tup (pa_cons pe_str (pa_cons pe_int pa_nil))) (pa_cons (pe_tup (pa_cons pe_str (pa_cons pe_int pa_nil))) (pa_cons (pe_tup (pa_cons pe_str (pa_cons pe_int pa_nil))) (pa_cons (pe_tup (pa_cons pe_str (pa_cons pe_int pa_nil))) (pa_cons (pe_tup (pa_cons pe_str (pa_cons pe_int pa_nil))) (pa_cons (pe_tup (pa_cons pe_str (pa_cons pe_int pa_nil))) pa_nil))))))))) (pg_name (i := 3) sc_law.nd rfl (Or.inl rfl)) (pss_one (ps_if (pt_not (pt_val (pe_calG c__law_right hgd (hr.mono (by decide)) (by rfl) (pa_cons (pv 1) (pa_cons (pv 3) pa_nil))))) (pss_one (ps_ret pe_bl)) pss_nil)))
        (pss_cons (ps_if (PW.pt (pw_or (pt_not (pt_val (pe_calG c__law_most_right hgd (hr.mono (by decide)) (by rfl) (pa_cons (pv 1) (pa_cons pe_non pa_nil))))) (pw_or (pt_cmpR (op_neD hr.units) (pe_cal c_sizes (hr.mono (by decide)) (by rfl) (pa_cons (pe_tup (pa_cons pe_str pa_nil)) (pa_cons pe_int pa_nil))) (pe_tup (pa_cons pe_int (pa_cons pe_int (pa_cons pe_int pa_nil)))) (nomark _)) (pw_or1 (pt_cmpR (op_neD hr.units) (pe_cal c_sizes (hr.mono (by decide)) (by rfl) (pa_cons (pe_tup (pa_cons pe_str (pa_cons pe_int pa_nil))) (pa_cons pe_int pa_nil))) (pe_tup (pa_cons pe_int (pa_cons pe_int pa_nil))) (nomark _)))))) (pss_one (ps_ret pe_bl)) pss_nil)
        (pss_one (ps_ret (pe_and (pe_cal c_is_lot (hr.mono (by decide)) (by rfl) (pa_cons pe_int (pa_cons (pe_tup pa_nil) pa_nil))) (pe_and (pe_cal c_is_lot (hr.mono (by decide)) (by rfl) (pa_cons pe_int (pa_cons (pe_tup (pa_cons pe_int (pa_cons pe_int pa_nil))) pa_nil))) (pe_and (pe_not (pe_cal c_is_lot (hr.mono (by decide)) (by rfl) (pa_cons pe_int (pa_cons (pe_tup (pa_cons pe_int pa_nil)) pa_nil)))) (pe_one (pe_not (pe_cal c_is_lot (hr.mono (by decide)) (by rfl) (pa_cons pe_int (pa_cons (pe_tup (pa_cons pe_int pa_nil)) pa_nil)))))))))))))), ?_⟩
  refine ⟨.ref a, rfl, a, ns, rfl, hS, hl, fun H1 d g c s1 nd ng nc hD => ?_⟩
  refine ⟨.ref a, rfl, a, _, rfl, .inl (s1.seq hS), _, _, rfl, 2, _, rfl, rfl, _, rfl, ?_⟩
  have emin : (2 : Int) + (if (6 : Int) < ((ns.map V.int).length : Int) then 6 else ((ns.map V.int).length : Int)) = ((2 + min ns.length 6 : Nat) : Int) := by
    rw [List.length_map]
    split <;> omega
  generalize (2 : Int) + (if (6 : Int) < ((ns.map V.int).length : Int) then 6 else ((ns.map V.int).length : Int)) = laps at emin
  refine ⟨by omega, by omega, ?_⟩
  refine for_it (walk_range (lo := 0) (n := laps.toNat)) (fun i σ H4 => ∃ y2 y3 g2, σ = [some (.ref a), some (.ref d), y2, y3] ∧ Draw H4 d g2 c (20 * i))
    ⟨_, _, g, rfl, hD⟩ (fun _ _ _ _ _ => trivial) (fun i x σ H4 H5 hi hW y => ?_) (fun σ H4 hW => ?_)
  · obtain ⟨y2, y3, g2, rfl, hD4⟩ := hW
    obtain ⟨rfl, rfl⟩ := y
    refine ⟨.ref d, rfl, .ref d, rfl, d, g2, c, _, rfl, hD4, by omega, fun H6 g6 p k go6 hD6 hk hp => ?_⟩
    refine ⟨d, g6, c, p, _, k, rfl, hD6, by omega, hk, hp, fun H7 g7 go7 hD7 => ⟨true, rfl, iteF ?_⟩⟩
    refine ⟨.ref d, rfl, .ref d, rfl, d, g7, c, _, 7, rfl, hD7, by omega, by decide, by decide, fun H8 g8 v but8 hg8 hD8 v0 v1 => ⟨2, v, rfl, rfl, ?_⟩⟩
    obtain ⟨k2, hk2⟩ : ∃ k2 : Nat, (2 : Int) + v = k2 := ⟨(2 + v).toNat, by omega⟩
    refine ⟨d, g8, c, _, some k2, ?_, hD8, by omega, ?_, ?_, fun H9 g9 go9 hD9 => ⟨true, rfl, iteF ?_⟩⟩
    · show [V.ref d, V.int (2 + v)] = [V.ref d, V.int (k2 : Int)]
      rw [hk2]
    · show 2 ≤ k2
      omega
    · intro j hj
      have : k2 = j := Option.some.inj hj
      omega
    · exact ⟨_, _, g9, rfl, hD9.up (by omega)⟩
  · obtain ⟨y2, y3, g2, rfl, hD4⟩ := hW
    clear hD hS s1
    dsimp only
    refine seq_go (for_list_go (lst_go ?_))
    refine tTups_go [[.str "half"], [.str "parts", .int 2], [.str "parts", .int 8], [.str "best", .int 2], [.str "best", .int 8], [.str "heap", .int 2], [.str "heap", .int 8]] (by intro t ht; simp only [List.mem_cons, List.not_mem_nil, or_false] at ht; rcases ht with h | h | h | h | h | h | h <;> (subst h; decide)) fun H5 ps s5 lps hps => ⟨by rw [List.length_map, lps]; decide, fun L nL => ⟨L, rfl, ⟨_, .inl (.inl upd_same)⟩, ?_⟩⟩
    have hL : (upd H5 L (.lst (ps.map V.ref))) L = some (.lst (ps.map V.ref)) := upd_same
    have s6 := s5.trans (same_upd (o := .lst (ps.map V.ref)) nL)
    have hps6 : ∀ (i : Nat) (p : Addr) (t : List V), ps[i]? = some p → ([[.str "half"], [.str "parts", .int 2], [.str "parts", .int 8], [.str "best", .int 2], [.str "best", .int 8], [.str "heap", .int 2], [.str "heap", .int 8]] : List (List V))[i]? = some t → (upd H5 L (.lst (ps.map V.ref))) p = some (.tup t) := fun i p t h1 h2 => same_upd nL _ _ (hps i p t h1 h2)
    have hD6 := hD4.same s6
    have nLg : L ≠ g2 := fun x => by obtain ⟨_, ⟨xs, h1⟩, _⟩ := (hD4.same s5).nd; rw [x, h1] at nL; cases nL
    generalize upd H5 L (.lst (ps.map V.ref)) = H6 at hL hps6 hD6
    refine for_it (walk_list (K := K) (a := L) (xs := ps.map V.ref)) (fun i σ H7 => ∃ y3 g3, σ = [some (.ref a), some (.ref d), y2, y3] ∧ Go H6 H7 d g2 g3 ∧ Draw H7 d g3 c (20 * laps.toNat + 10 * i))
      ⟨_, g2, rfl, Go.refl _ _ _, hD6⟩ (fun i σ H7 _ hW => ?_) (fun i x σ H7 H8 hi hW y => ?_) (fun σ H7 hW => ?_)
    · obtain ⟨_, _, _, go, _⟩ := hW
      exact .inl (.inl (go.lst hD6 hL nLg))
    · obtain ⟨z3, g3, rfl, go, hD7⟩ := hW
      obtain ⟨rfl, hx⟩ := y
      rw [List.length_map, lps] at hi
      have hi7 : i < 7 := hi
      rw [List.getElem?_map] at hx
      obtain ⟨p, hp, rfl⟩ := Option.map_eq_some_iff.mp hx
      obtain ⟨k, hk, ek⟩ : ∃ k : Kd, k.ok ∧ ([[.str "half"], [.str "parts", .int 2], [.str "parts", .int 8], [.str "best", .int 2], [.str "best", .int 8], [.str "heap", .int 2], [.str "heap", .int 8]] : List (List V))[i]? = some k.vs := by
        rcases (by omega : i = 0 ∨ i = 1 ∨ i = 2 ∨ i = 3 ∨ i = 4 ∨ i = 5 ∨ i = 6) with h | h | h | h | h | h | h <;> subst h
        · exact ⟨.half, trivial, rfl⟩
        · exact ⟨.parts 2, ⟨by decide, by decide⟩, rfl⟩
        · exact ⟨.parts 8, ⟨by decide, by decide⟩, rfl⟩
        · exact ⟨.best 2, ⟨by decide, by decide⟩, rfl⟩
        · exact ⟨.best 8, ⟨by decide, by decide⟩, rfl⟩
        · exact ⟨.heap 2, ⟨by decide, by decide⟩, rfl⟩
        · exact ⟨.heap 8, ⟨by decide, by decide⟩, rfl⟩
      have hp7 := go.tup hD6 (hps6 i p _ hp ek)
      refine ⟨.ref d, rfl, _, rfl, d, g3, c, p, _, k, rfl, hD7, by omega, hk, hp7, fun H9 g9 go9 hD9 => ⟨true, rfl, iteF ?_⟩⟩
      exact ⟨_, g9, rfl, go.trans hD7 hD6.nd.2.1 go9, hD9.up (by omega)⟩
    · obtain ⟨z3, g3, rfl, go, hD7⟩ := hW
      have lps7 : ps.length = 7 := lps
      rw [List.length_map, lps7] at hD7
      refine ⟨.ref d, rfl, d, g3, c, _, none, rfl, hD7, by omega, trivial, (fun j hj => nomatch hj), fun H9 g9 go9 hD9 => ⟨true, rfl, iteF ?_⟩⟩
      refine ⟨(by decide : 1 ≤ sizeLine), fun t1 nt1 => ?_⟩
      refine ⟨t1, .half, 7, rfl, .inl (.inl upd_same), trivial, by decide, fun HA pA l sA hl hA => ?_⟩
      have el : l = [4, 2, 1] := by
        have e : l = halfL 7 := hl
        rw [e, halfL_pos (by decide), halfL_pos (by decide), halfL_pos (by decide), halfL_zero]
      subst el
      refine ⟨(by decide : 3 ≤ sizeLine), fun t2 nt2 => ?_⟩
      refine ⟨.tuple ([4, 2, 1].map .int), .tuple ([4, 2, 1].map .int), dp_tup (ns := [4, 2, 1]) ((same_upd nt2).tup hA), dp_tup (ns := [4, 2, 1]) (.inl (.inl upd_same)), by decide +kernel, by decide +kernel, false, congrArg V.bl (by decide +kernel), iteF ?_⟩
      refine ⟨(by decide : 2 ≤ sizeLine), fun t3 nt3 => ?_⟩
      refine ⟨t3, .best 2, 6, rfl, .inl (.inl upd_same), ⟨by decide, by decide⟩, by decide, fun HB pB l sB hl hB => ?_⟩
      have el : l = [4, 2] := by
        obtain ⟨k, en, rfl⟩ := hl
        have e3 : Enough (some 2) (6 + 1) 3 := ⟨by decide, by decide⟩
        rw [en.uniq e3]
        decide
      subst el
      refine ⟨(by decide : 2 ≤ sizeLine), fun t4 nt4 => ?_⟩
      refine ⟨.tuple ([4, 2].map .int), .tuple ([4, 2].map .int), dp_tup (ns := [4, 2]) ((same_upd nt4).tup hB), dp_tup (ns := [4, 2]) (.inl (.inl upd_same)), by decide +kernel, by decide +kernel, false, congrArg V.bl (by decide +kernel), iteF ?_⟩
      refine ⟨(by decide : 0 ≤ sizeLine), fun q1 nq1 => ⟨10, q1, [], rfl, by decide, by decide, .inl (.inl upd_same), by decide, fun HC sC => ⟨true, congrArg V.bl (by decide), iteT ?_⟩⟩⟩
      refine ⟨(by decide : 2 ≤ sizeLine), fun q2 nq2 => ⟨10, q2, [1, 9], rfl, by decide, by decide, .inl (.inl upd_same), by decide, fun HD sD => ⟨true, congrArg V.bl (by decide), iteT ?_⟩⟩⟩
      refine ⟨(by decide : 1 ≤ sizeLine), fun q3 nq3 => ⟨10, q3, [10], rfl, by decide, by decide, .inl (.inl upd_same), by decide, fun HE sE => ⟨false, congrArg V.bl (by decide), true, rfl, iteT ?_⟩⟩⟩
      refine ⟨(by decide : 1 ≤ sizeLine), fun q4 nq4 => ⟨10, q4, [0], rfl, by decide, by decide, .inl (.inl upd_same), by decide, fun HF sF => ⟨false, congrArg V.bl (by decide), q _⟩⟩⟩
end
end LK
namespace LK
open PySem PySem.Spec PyProof.Rows L2 CD CDS
section
variable {P : Program} {w : World} {K : PySem.W.Frag} {mg : Str → Option Value} {base : Heap}
/-! ### what the top has written; the law's own head -/
theorem mg_int {K : PySem.W.Frag} {h : Heap} {mg : Str → Option Value} (X : K.In h) (G : h.Ns mainGlobals mg) {x : Str} {i j : Int} {t : Tok} (a : PySem.W.nsIn K mainGlobals x = some (some (.int i t))) (e : i = j) : ∃ t, mg x = some (.int j t) := ⟨t, e ▸ PySem.W.mg_of X G a⟩
def TupIs (o : Obj) (xs : List V) : Prop := o.cls = .type "tuple" ∧ ∃ its n, o.data = .seq its n ∧ its.size ≤ sizeLine ∧ Vals xs its.toList
theorem mg_tup {K : PySem.W.Frag} {h : Heap} {mg : Str → Option Value} (X : K.In h) (G : h.Ns mainGlobals mg) {x : Str} {a : Addr} {o : Obj} {xs : List V} (m : PySem.W.nsIn K mainGlobals x = some (some (.ref a))) (l : K.lookup a = some o) (t : TupIs o xs) : ∃ a, mg x = some (.ref a) ∧ ∀ H, SqT K H a xs :=
  ⟨a, PySem.W.mg_of X G m, fun _ => .inr (let ⟨h1, its, n, h2, h3, h4⟩ := t; ⟨o, its, n, l, h1, h2, h3, h4⟩)⟩
theorem def_mk {K : PySem.W.Frag} {h : Heap} {mg : Str → Option Value} (X : K.In h) (G : h.Ns mainGlobals mg) {x : Str} {st : Stmt} {ps : List Str} {f : Addr} {od an : Option Addr} {sl : Array (Option Value)} {oc kV dc pm cd ct : Value}
    (a : PySem.W.nsIn K mainGlobals x = some (some (.ref f))) (l : K.lookup f = some ⟨oc, od, .func (PySem.W.fnOf x x (defArgs st) (defBody st) (defScope st) .none kV dc pm an cd ct), sl⟩) (c : PySem.W.codeIn K cd x = true) (k : PySem.W.keepIn K (.ref f) = true)
    (hb : ∀ (kV doc pm : Value) (an : Option Addr) (cdv ct : Value) (us : List Value), us.length = ps.length → bindArgs (PySem.W.fnOf x x (defArgs st) (defBody st) (defScope st) .none kV doc pm an cdv ct) ⟨us, []⟩ = pure (ps.zip us)) : Def K mg x st ps :=
  ⟨f, _, fun_mk (st := st) l c k, PySem.W.mg_of X G a, (fun_mk (st := st) l c k).binds (ps := ps) hb⟩
theorem all_mk {P : Program} {w : World} {K : PySem.W.Frag} {h : Heap} {mg : Str → Option Value} {fa : Addr} (X : K.In h) (G : h.Ns mainGlobals mg) (hfa : mg "law" = some (.ref fa))
    {f0 : Addr} {od0 an0 : Option Addr} {sl0 : Array (Option Value)} {oc0 kV0 dc0 pm0 cd0 ct0 : Value}
    (a0 : PySem.W.nsIn K mainGlobals "is_integer" = some (some (.ref f0))) (l0 : K.lookup f0 = some ⟨oc0, od0, .func (PySem.W.fnOf "is_integer" "is_integer" (defArgs s_is_integer) (defBody s_is_integer) (defScope s_is_integer) .none kV0 dc0 pm0 an0 cd0 ct0), sl0⟩) (c0 : PySem.W.codeIn K cd0 "is_integer" = true) (k0 : PySem.W.keepIn K (.ref f0) = true)
    {f1 : Addr} {od1 an1 : Option Addr} {sl1 : Array (Option Value)} {oc1 kV1 dc1 pm1 cd1 ct1 : Value}
    (a1 : PySem.W.nsIn K mainGlobals "is_number" = some (some (.ref f1))) (l1 : K.lookup f1 = some ⟨oc1, od1, .func (PySem.W.fnOf "is_number" "is_number" (defArgs s_is_number) (defBody s_is_number) (defScope s_is_number) .none kV1 dc1 pm1 an1 cd1 ct1), sl1⟩) (c1 : PySem.W.codeIn K cd1 "is_number" = true) (k1 : PySem.W.keepIn K (.ref f1) = true)
    {f2 : Addr} {od2 an2 : Option Addr} {sl2 : Array (Option Value)} {oc2 kV2 dc2 pm2 cd2 ct2 : Value}
    (a2 : PySem.W.nsIn K mainGlobals "is_ascending" = some (some (.ref f2))) (l2 : K.lookup f2 = some ⟨oc2, od2, .func (PySem.W.fnOf "is_ascending" "is_ascending" (defArgs s_is_ascending) (defBody s_is_ascending) (defScope s_is_ascending) .none kV2 dc2 pm2 an2 cd2 ct2), sl2⟩) (c2 : PySem.W.codeIn K cd2 "is_ascending" = true) (k2 : PySem.W.keepIn K (.ref f2) = true)
    {f3 : Addr} {od3 an3 : Option Addr} {sl3 : Array (Option Value)} {oc3 kV3 dc3 pm3 cd3 ct3 : Value}
    (a3 : PySem.W.nsIn K mainGlobals "is_row" = some (some (.ref f3))) (l3 : K.lookup f3 = some ⟨oc3, od3, .func (PySem.W.fnOf "is_row" "is_row" (defArgs s_is_row) (defBody s_is_row) (defScope s_is_row) .none kV3 dc3 pm3 an3 cd3 ct3), sl3⟩) (c3 : PySem.W.codeIn K cd3 "is_row" = true) (k3 : PySem.W.keepIn K (.ref f3) = true)
    {f4 : Addr} {od4 an4 : Option Addr} {sl4 : Array (Option Value)} {oc4 kV4 dc4 pm4 cd4 ct4 : Value}
    (a4 : PySem.W.nsIn K mainGlobals "need_people" = some (some (.ref f4))) (l4 : K.lookup f4 = some ⟨oc4, od4, .func (PySem.W.fnOf "need_people" "need_people" (defArgs s_need_people) (defBody s_need_people) (defScope s_need_people) .none kV4 dc4 pm4 an4 cd4 ct4), sl4⟩) (c4 : PySem.W.codeIn K cd4 "need_people" = true) (k4 : PySem.W.keepIn K (.ref f4) = true)
    {f5 : Addr} {od5 an5 : Option Addr} {sl5 : Array (Option Value)} {oc5 kV5 dc5 pm5 cd5 ct5 : Value}
    (a5 : PySem.W.nsIn K mainGlobals "need_kind" = some (some (.ref f5))) (l5 : K.lookup f5 = some ⟨oc5, od5, .func (PySem.W.fnOf "need_kind" "need_kind" (defArgs s_need_kind) (defBody s_need_kind) (defScope s_need_kind) .none kV5 dc5 pm5 an5 cd5 ct5), sl5⟩) (c5 : PySem.W.codeIn K cd5 "need_kind" = true) (k5 : PySem.W.keepIn K (.ref f5) = true)
    {f6 : Addr} {od6 an6 : Option Addr} {sl6 : Array (Option Value)} {oc6 kV6 dc6 pm6 cd6 ct6 : Value}
    (a6 : PySem.W.nsIn K mainGlobals "is_lot" = some (some (.ref f6))) (l6 : K.lookup f6 = some ⟨oc6, od6, .func (PySem.W.fnOf "is_lot" "is_lot" (defArgs s_is_lot) (defBody s_is_lot) (defScope s_is_lot) .none kV6 dc6 pm6 an6 cd6 ct6), sl6⟩) (c6 : PySem.W.codeIn K cd6 "is_lot" = true) (k6 : PySem.W.keepIn K (.ref f6) = true)
    {f7 : Addr} {od7 an7 : Option Addr} {sl7 : Array (Option Value)} {oc7 kV7 dc7 pm7 cd7 ct7 : Value}
    (a7 : PySem.W.nsIn K mainGlobals "most_told" = some (some (.ref f7))) (l7 : K.lookup f7 = some ⟨oc7, od7, .func (PySem.W.fnOf "most_told" "most_told" (defArgs s_most_told) (defBody s_most_told) (defScope s_most_told) .none kV7 dc7 pm7 an7 cd7 ct7), sl7⟩) (c7 : PySem.W.codeIn K cd7 "most_told" = true) (k7 : PySem.W.keepIn K (.ref f7) = true)
    {f8 : Addr} {od8 an8 : Option Addr} {sl8 : Array (Option Value)} {oc8 kV8 dc8 pm8 cd8 ct8 : Value}
    (a8 : PySem.W.nsIn K mainGlobals "need_calls" = some (some (.ref f8))) (l8 : K.lookup f8 = some ⟨oc8, od8, .func (PySem.W.fnOf "need_calls" "need_calls" (defArgs s_need_calls) (defBody s_need_calls) (defScope s_need_calls) .none kV8 dc8 pm8 an8 cd8 ct8), sl8⟩) (c8 : PySem.W.codeIn K cd8 "need_calls" = true) (k8 : PySem.W.keepIn K (.ref f8) = true)
    {f9 : Addr} {od9 an9 : Option Addr} {sl9 : Array (Option Value)} {oc9 kV9 dc9 pm9 cd9 ct9 : Value}
    (a9 : PySem.W.nsIn K mainGlobals "mosts_to" = some (some (.ref f9))) (l9 : K.lookup f9 = some ⟨oc9, od9, .func (PySem.W.fnOf "mosts_to" "mosts_to" (defArgs s_mosts_to) (defBody s_mosts_to) (defScope s_mosts_to) .none kV9 dc9 pm9 an9 cd9 ct9), sl9⟩) (c9 : PySem.W.codeIn K cd9 "mosts_to" = true) (k9 : PySem.W.keepIn K (.ref f9) = true)
    {f10 : Addr} {od10 an10 : Option Addr} {sl10 : Array (Option Value)} {oc10 kV10 dc10 pm10 cd10 ct10 : Value}
    (a10 : PySem.W.nsIn K mainGlobals "sizes" = some (some (.ref f10))) (l10 : K.lookup f10 = some ⟨oc10, od10, .func (PySem.W.fnOf "sizes" "sizes" (defArgs s_sizes) (defBody s_sizes) (defScope s_sizes) .none kV10 dc10 pm10 an10 cd10 ct10), sl10⟩) (c10 : PySem.W.codeIn K cd10 "sizes" = true) (k10 : PySem.W.keepIn K (.ref f10) = true)
    {f11 : Addr} {od11 an11 : Option Addr} {sl11 : Array (Option Value)} {oc11 kV11 dc11 pm11 cd11 ct11 : Value}
    (a11 : PySem.W.nsIn K mainGlobals "_most_behind" = some (some (.ref f11))) (l11 : K.lookup f11 = some ⟨oc11, od11, .func (PySem.W.fnOf "_most_behind" "_most_behind" (defArgs s__most_behind) (defBody s__most_behind) (defScope s__most_behind) .none kV11 dc11 pm11 an11 cd11 ct11), sl11⟩) (c11 : PySem.W.codeIn K cd11 "_most_behind" = true) (k11 : PySem.W.keepIn K (.ref f11) = true)
    {f12 : Addr} {od12 an12 : Option Addr} {sl12 : Array (Option Value)} {oc12 kV12 dc12 pm12 cd12 ct12 : Value}
    (a12 : PySem.W.nsIn K mainGlobals "_like_parts" = some (some (.ref f12))) (l12 : K.lookup f12 = some ⟨oc12, od12, .func (PySem.W.fnOf "_like_parts" "_like_parts" (defArgs s__like_parts) (defBody s__like_parts) (defScope s__like_parts) .none kV12 dc12 pm12 an12 cd12 ct12), sl12⟩) (c12 : PySem.W.codeIn K cd12 "_like_parts" = true) (k12 : PySem.W.keepIn K (.ref f12) = true)
    {f13 : Addr} {od13 an13 : Option Addr} {sl13 : Array (Option Value)} {oc13 kV13 dc13 pm13 cd13 ct13 : Value}
    (a13 : PySem.W.nsIn K mainGlobals "_half_parts" = some (some (.ref f13))) (l13 : K.lookup f13 = some ⟨oc13, od13, .func (PySem.W.fnOf "_half_parts" "_half_parts" (defArgs s__half_parts) (defBody s__half_parts) (defScope s__half_parts) .none kV13 dc13 pm13 an13 cd13 ct13), sl13⟩) (c13 : PySem.W.codeIn K cd13 "_half_parts" = true) (k13 : PySem.W.keepIn K (.ref f13) = true)
    {f14 : Addr} {od14 an14 : Option Addr} {sl14 : Array (Option Value)} {oc14 kV14 dc14 pm14 cd14 ct14 : Value}
    (a14 : PySem.W.nsIn K mainGlobals "_best_parts" = some (some (.ref f14))) (l14 : K.lookup f14 = some ⟨oc14, od14, .func (PySem.W.fnOf "_best_parts" "_best_parts" (defArgs s__best_parts) (defBody s__best_parts) (defScope s__best_parts) .none kV14 dc14 pm14 an14 cd14 ct14), sl14⟩) (c14 : PySem.W.codeIn K cd14 "_best_parts" = true) (k14 : PySem.W.keepIn K (.ref f14) = true)
    {f15 : Addr} {od15 an15 : Option Addr} {sl15 : Array (Option Value)} {oc15 kV15 dc15 pm15 cd15 ct15 : Value}
    (a15 : PySem.W.nsIn K mainGlobals "_below" = some (some (.ref f15))) (l15 : K.lookup f15 = some ⟨oc15, od15, .func (PySem.W.fnOf "_below" "_below" (defArgs s__below) (defBody s__below) (defScope s__below) .none kV15 dc15 pm15 an15 cd15 ct15), sl15⟩) (c15 : PySem.W.codeIn K cd15 "_below" = true) (k15 : PySem.W.keepIn K (.ref f15) = true)
    {f16 : Addr} {od16 an16 : Option Addr} {sl16 : Array (Option Value)} {oc16 kV16 dc16 pm16 cd16 ct16 : Value}
    (a16 : PySem.W.nsIn K mainGlobals "_law_begun" = some (some (.ref f16))) (l16 : K.lookup f16 = some ⟨oc16, od16, .func (PySem.W.fnOf "_law_begun" "_law_begun" (defArgs s__law_begun) (defBody s__law_begun) (defScope s__law_begun) .none kV16 dc16 pm16 an16 cd16 ct16), sl16⟩) (c16 : PySem.W.codeIn K cd16 "_law_begun" = true) (k16 : PySem.W.keepIn K (.ref f16) = true)
    {f17 : Addr} {od17 an17 : Option Addr} {sl17 : Array (Option Value)} {oc17 kV17 dc17 pm17 cd17 ct17 : Value}
    (a17 : PySem.W.nsIn K mainGlobals "_law_next" = some (some (.ref f17))) (l17 : K.lookup f17 = some ⟨oc17, od17, .func (PySem.W.fnOf "_law_next" "_law_next" (defArgs s__law_next) (defBody s__law_next) (defScope s__law_next) .none kV17 dc17 pm17 an17 cd17 ct17), sl17⟩) (c17 : PySem.W.codeIn K cd17 "_law_next" = true) (k17 : PySem.W.keepIn K (.ref f17) = true)
    {f18 : Addr} {od18 an18 : Option Addr} {sl18 : Array (Option Value)} {oc18 kV18 dc18 pm18 cd18 ct18 : Value}
    (a18 : PySem.W.nsIn K mainGlobals "_law_kind" = some (some (.ref f18))) (l18 : K.lookup f18 = some ⟨oc18, od18, .func (PySem.W.fnOf "_law_kind" "_law_kind" (defArgs s__law_kind) (defBody s__law_kind) (defScope s__law_kind) .none kV18 dc18 pm18 an18 cd18 ct18), sl18⟩) (c18 : PySem.W.codeIn K cd18 "_law_kind" = true) (k18 : PySem.W.keepIn K (.ref f18) = true)
    {f19 : Addr} {od19 an19 : Option Addr} {sl19 : Array (Option Value)} {oc19 kV19 dc19 pm19 cd19 ct19 : Value}
    (a19 : PySem.W.nsIn K mainGlobals "_law_most_row" = some (some (.ref f19))) (l19 : K.lookup f19 = some ⟨oc19, od19, .func (PySem.W.fnOf "_law_most_row" "_law_most_row" (defArgs s__law_most_row) (defBody s__law_most_row) (defScope s__law_most_row) .none kV19 dc19 pm19 an19 cd19 ct19), sl19⟩) (c19 : PySem.W.codeIn K cd19 "_law_most_row" = true) (k19 : PySem.W.keepIn K (.ref f19) = true)
    {f20 : Addr} {od20 an20 : Option Addr} {sl20 : Array (Option Value)} {oc20 kV20 dc20 pm20 cd20 ct20 : Value}
    (a20 : PySem.W.nsIn K mainGlobals "_law_below" = some (some (.ref f20))) (l20 : K.lookup f20 = some ⟨oc20, od20, .func (PySem.W.fnOf "_law_below" "_law_below" (defArgs s__law_below) (defBody s__law_below) (defScope s__law_below) .none kV20 dc20 pm20 an20 cd20 ct20), sl20⟩) (c20 : PySem.W.codeIn K cd20 "_law_below" = true) (k20 : PySem.W.keepIn K (.ref f20) = true)
    {f21 : Addr} {od21 an21 : Option Addr} {sl21 : Array (Option Value)} {oc21 kV21 dc21 pm21 cd21 ct21 : Value}
    (a21 : PySem.W.nsIn K mainGlobals "_law_sizes" = some (some (.ref f21))) (l21 : K.lookup f21 = some ⟨oc21, od21, .func (PySem.W.fnOf "_law_sizes" "_law_sizes" (defArgs s__law_sizes) (defBody s__law_sizes) (defScope s__law_sizes) .none kV21 dc21 pm21 an21 cd21 ct21), sl21⟩) (c21 : PySem.W.codeIn K cd21 "_law_sizes" = true) (k21 : PySem.W.keepIn K (.ref f21) = true)
    {f22 : Addr} {od22 an22 : Option Addr} {sl22 : Array (Option Value)} {oc22 kV22 dc22 pm22 cd22 ct22 : Value}
    (a22 : PySem.W.nsIn K mainGlobals "_law_right" = some (some (.ref f22))) (l22 : K.lookup f22 = some ⟨oc22, od22, .func (PySem.W.fnOf "_law_right" "_law_right" (defArgs s__law_right) (defBody s__law_right) (defScope s__law_right) .none kV22 dc22 pm22 an22 cd22 ct22), sl22⟩) (c22 : PySem.W.codeIn K cd22 "_law_right" = true) (k22 : PySem.W.keepIn K (.ref f22) = true)
    {f23 : Addr} {od23 an23 : Option Addr} {sl23 : Array (Option Value)} {oc23 kV23 dc23 pm23 cd23 ct23 : Value}
    (a23 : PySem.W.nsIn K mainGlobals "_law_most_right" = some (some (.ref f23))) (l23 : K.lookup f23 = some ⟨oc23, od23, .func (PySem.W.fnOf "_law_most_right" "_law_most_right" (defArgs s__law_most_right) (defBody s__law_most_right) (defScope s__law_most_right) .none kV23 dc23 pm23 an23 cd23 ct23), sl23⟩) (c23 : PySem.W.codeIn K cd23 "_law_most_right" = true) (k23 : PySem.W.keepIn K (.ref f23) = true)
    {f24 : Addr} {od24 an24 : Option Addr} {sl24 : Array (Option Value)} {oc24 kV24 dc24 pm24 cd24 ct24 : Value}
    (a24 : PySem.W.nsIn K mainGlobals "law" = some (some (.ref f24))) (l24 : K.lookup f24 = some ⟨oc24, od24, .func (PySem.W.fnOf "law" "law" (defArgs s_law) (defBody s_law) (defScope s_law) .none kV24 dc24 pm24 an24 cd24 ct24), sl24⟩) (c24 : PySem.W.codeIn K cd24 "law" = true) (k24 : PySem.W.keepIn K (.ref f24) = true)
    (z0 : PySem.W.nsIn K mainGlobals "all" = some none)
    (z1 : PySem.W.nsIn K mainGlobals "any" = some none)
    (z2 : PySem.W.nsIn K mainGlobals "bool" = some none)
    (z3 : PySem.W.nsIn K mainGlobals "divmod" = some none)
    (z4 : PySem.W.nsIn K mainGlobals "enumerate" = some none)
    (z5 : PySem.W.nsIn K mainGlobals "int" = some none)
    (z6 : PySem.W.nsIn K mainGlobals "isinstance" = some none)
    (z7 : PySem.W.nsIn K mainGlobals "len" = some none)
    (z8 : PySem.W.nsIn K mainGlobals "list" = some none)
    (z9 : PySem.W.nsIn K mainGlobals "max" = some none)
    (z10 : PySem.W.nsIn K mainGlobals "min" = some none)
    (z11 : PySem.W.nsIn K mainGlobals "range" = some none)
    (z12 : PySem.W.nsIn K mainGlobals "repr" = some none)
    (z13 : PySem.W.nsIn K mainGlobals "reversed" = some none)
    (z14 : PySem.W.nsIn K mainGlobals "set" = some none)
    (z15 : PySem.W.nsIn K mainGlobals "sorted" = some none)
    (z16 : PySem.W.nsIn K mainGlobals "str" = some none)
    (z17 : PySem.W.nsIn K mainGlobals "sum" = some none)
    (z18 : PySem.W.nsIn K mainGlobals "tuple" = some none)
    (z19 : PySem.W.nsIn K mainGlobals "zip" = some none)
    {i0 : Int} {t0 : Tok} (m0 : PySem.W.nsIn K mainGlobals "MOST_NUMBER" = some (some (.int i0 t0))) (e0 : i0 = 10 ^ 30)
    {i1 : Int} {t1 : Tok} (m1 : PySem.W.nsIn K mainGlobals "LEAST_PARTS" = some (some (.int i1 t1))) (e1 : i1 = 2)
    {i2 : Int} {t2 : Tok} (m2 : PySem.W.nsIn K mainGlobals "MOST_PARTS" = some (some (.int i2 t2))) (e2 : i2 = 8)
    {i3 : Int} {t3 : Tok} (m3 : PySem.W.nsIn K mainGlobals "MOST_LOT" = some (some (.int i3 t3))) (e3 : i3 = 3)
    {i4 : Int} {t4 : Tok} (m4 : PySem.W.nsIn K mainGlobals "MOST_TICKS" = some (some (.int i4 t4))) (e4 : i4 = 200)
    {u0 : Addr} {uo0 : Obj} (um0 : PySem.W.nsIn K mainGlobals "WORDS" = some (some (.ref u0))) (ul0 : K.lookup u0 = some uo0) (uh0 : TupIs uo0 wordsV) :
    ∃ fd : FuncData, (∀ (s : Shared) (v : Value), BindsTo s fd ⟨[v], []⟩ [("script", v)]) ∧ ∀ base : Heap, K.In base → base.Ns mainGlobals mg → GOk P w K mg base 7 fa fd ["script"] (spLaw K) := by
  have e := hfa.symm.trans (PySem.W.mg_of X G a24)
  cases e
  have z : Z mg := ⟨PySem.W.mg_none_of X G z0, PySem.W.mg_none_of X G z1, PySem.W.mg_none_of X G z2, PySem.W.mg_none_of X G z3, PySem.W.mg_none_of X G z4, PySem.W.mg_none_of X G z5, PySem.W.mg_none_of X G z6, PySem.W.mg_none_of X G z7, PySem.W.mg_none_of X G z8, PySem.W.mg_none_of X G z9, PySem.W.mg_none_of X G z10, PySem.W.mg_none_of X G z11, PySem.W.mg_none_of X G z12, PySem.W.mg_none_of X G z13, PySem.W.mg_none_of X G z14, PySem.W.mg_none_of X G z15, PySem.W.mg_none_of X G z16, PySem.W.mg_none_of X G z17, PySem.W.mg_none_of X G z18, PySem.W.mg_none_of X G z19⟩
  have v_MOST_NUMBER := mg_int X G m0 e0
  have v_LEAST_PARTS := mg_int X G m1 e1
  have v_MOST_PARTS := mg_int X G m2 e2
  have v_MOST_LOT := mg_int X G m3 e3
  have v_MOST_TICKS := mg_int X G m4 e4
  have v_WORDS := mg_tup X G um0 ul0 uh0
  have D_is_integer := def_mk (st := s_is_integer) (ps := p_is_integer) X G a0 l0 c0 k0 fun _ _ _ _ _ _ us hl => match us, hl with | [_], _ => rfl
  have D_is_number := def_mk (st := s_is_number) (ps := p_is_number) X G a1 l1 c1 k1 fun _ _ _ _ _ _ us hl => match us, hl with | [_, _, _], _ => rfl
  have D_is_ascending := def_mk (st := s_is_ascending) (ps := p_is_ascending) X G a2 l2 c2 k2 fun _ _ _ _ _ _ us hl => match us, hl with | [_], _ => rfl
  have D_is_row := def_mk (st := s_is_row) (ps := p_is_row) X G a3 l3 c3 k3 fun _ _ _ _ _ _ us hl => match us, hl with | [_, _, _, _], _ => rfl
  have D_need_people := def_mk (st := s_need_people) (ps := p_need_people) X G a4 l4 c4 k4 fun _ _ _ _ _ _ us hl => match us, hl with | [_], _ => rfl
  have D_need_kind := def_mk (st := s_need_kind) (ps := p_need_kind) X G a5 l5 c5 k5 fun _ _ _ _ _ _ us hl => match us, hl with | [_], _ => rfl
  have D_is_lot := def_mk (st := s_is_lot) (ps := p_is_lot) X G a6 l6 c6 k6 fun _ _ _ _ _ _ us hl => match us, hl with | [_, _], _ => rfl
  have D_most_told := def_mk (st := s_most_told) (ps := p_most_told) X G a7 l7 c7 k7 fun _ _ _ _ _ _ us hl => match us, hl with | [_, _], _ => rfl
  have D_need_calls := def_mk (st := s_need_calls) (ps := p_need_calls) X G a8 l8 c8 k8 fun _ _ _ _ _ _ us hl => match us, hl with | [_], _ => rfl
  have D_mosts_to := def_mk (st := s_mosts_to) (ps := p_mosts_to) X G a9 l9 c9 k9 fun _ _ _ _ _ _ us hl => match us, hl with | [_, _], _ => rfl
  have D_sizes := def_mk (st := s_sizes) (ps := p_sizes) X G a10 l10 c10 k10 fun _ _ _ _ _ _ us hl => match us, hl with | [_, _], _ => rfl
  have D__most_behind := def_mk (st := s__most_behind) (ps := p__most_behind) X G a11 l11 c11 k11 fun _ _ _ _ _ _ us hl => match us, hl with | [_, _], _ => rfl
  have D__like_parts := def_mk (st := s__like_parts) (ps := p__like_parts) X G a12 l12 c12 k12 fun _ _ _ _ _ _ us hl => match us, hl with | [_, _], _ => rfl
  have D__half_parts := def_mk (st := s__half_parts) (ps := p__half_parts) X G a13 l13 c13 k13 fun _ _ _ _ _ _ us hl => match us, hl with | [_], _ => rfl
  have D__best_parts := def_mk (st := s__best_parts) (ps := p__best_parts) X G a14 l14 c14 k14 fun _ _ _ _ _ _ us hl => match us, hl with | [_, _], _ => rfl
  have D__below := def_mk (st := s__below) (ps := p__below) X G a15 l15 c15 k15 fun _ _ _ _ _ _ us hl => match us, hl with | [_, _, _], _ => rfl
  have D__law_begun := def_mk (st := s__law_begun) (ps := p__law_begun) X G a16 l16 c16 k16 fun _ _ _ _ _ _ us hl => match us, hl with | [_], _ => rfl
  have D__law_next := def_mk (st := s__law_next) (ps := p__law_next) X G a17 l17 c17 k17 fun _ _ _ _ _ _ us hl => match us, hl with | [_, _], _ => rfl
  have D__law_kind := def_mk (st := s__law_kind) (ps := p__law_kind) X G a18 l18 c18 k18 fun _ _ _ _ _ _ us hl => match us, hl with | [_], _ => rfl
  have D__law_most_row := def_mk (st := s__law_most_row) (ps := p__law_most_row) X G a19 l19 c19 k19 fun _ _ _ _ _ _ us hl => match us, hl with | [_, _], _ => rfl
  have D__law_below := def_mk (st := s__law_below) (ps := p__law_below) X G a20 l20 c20 k20 fun _ _ _ _ _ _ us hl => match us, hl with | [_, _], _ => rfl
  have D__law_sizes := def_mk (st := s__law_sizes) (ps := p__law_sizes) X G a21 l21 c21 k21 fun _ _ _ _ _ _ us hl => match us, hl with | [_, _], _ => rfl
  have D__law_right := def_mk (st := s__law_right) (ps := p__law_right) X G a22 l22 c22 k22 fun _ _ _ _ _ _ us hl => match us, hl with | [_, _], _ => rfl
  have D__law_most_right := def_mk (st := s__law_most_right) (ps := p__law_most_right) X G a23 l23 c23 k23 fun _ _ _ _ _ _ us hl => match us, hl with | [_, _], _ => rfl
  refine ⟨PySem.W.fnOf "law" "law" (defArgs s_law) (defBody s_law) (defScope s_law) .none kV24 dc24 pm24 an24 cd24 ct24, fun s v => .of_eq rfl, fun base _ _ => ?_⟩
  have c_is_integer := cal_is_integer (P := P) (w := w) (base := base) z  D_is_integer
  have c_is_number := cal_is_number (P := P) (w := w) (base := base) z c_is_integer D_is_number
  have c_is_ascending := cal_is_ascending (P := P) (w := w) (base := base) z  D_is_ascending
  have c_is_row := cal_is_row (P := P) (w := w) (base := base) z c_is_number c_is_ascending D_is_row
  have c_need_people := cal_need_people (P := P) (w := w) (base := base) z v_MOST_NUMBER c_is_number D_need_people
  have c_need_kind := cal_need_kind (P := P) (w := w) (base := base) z v_LEAST_PARTS v_MOST_PARTS v_WORDS c_is_number D_need_kind
  have c_is_lot := cal_is_lot (P := P) (w := w) (base := base) z v_MOST_LOT c_need_people c_is_row D_is_lot
  have c__most_behind := cal_most_behind (P := P) (w := w) (base := base) z  D__most_behind
  have c_need_calls := cal_need_calls (P := P) (w := w) (base := base) z v_LEAST_PARTS v_MOST_PARTS c_is_number D_need_calls
  have c_most_told := cal_most_told (P := P) (w := w) (base := base) z v_MOST_TICKS c_need_calls c_is_number c__most_behind D_most_told
  have c_mosts_to := cal_mosts_to (P := P) (w := w) (base := base) z c__most_behind D_mosts_to
  have c__like_parts := cal_like_parts (P := P) (w := w) (base := base) z  D__like_parts
  have c__half_parts := cal_half_parts (P := P) (w := w) (base := base) z  D__half_parts
  have c__best_parts := cal_best_parts (P := P) (w := w) (base := base) z c_mosts_to D__best_parts
  have c__below := cal_below (P := P) (w := w) (base := base) z  D__below
  have c_sizes := cal_sizes (P := P) (w := w) (base := base) z v_MOST_NUMBER c_need_kind c_is_number c__like_parts c__half_parts c__best_parts c__below D_sizes
  have c__law_begun := cal_law_begun (P := P) (w := w) (base := base) z  D__law_begun
  have c__law_next := cal_law_next (P := P) (w := w) (base := base) z  D__law_next
  have c__law_kind := cal_law_kind (P := P) (w := w) (base := base) z c__law_next D__law_kind
  have c__law_most_row := cal_most_row (P := P) (w := w) (base := base) z  D__law_most_row
  have c__law_below := cal_law_below (P := P) (w := w) (base := base) z  D__law_below
  have c__law_sizes := cal_law_sizes (P := P) (w := w) (base := base) z c__law_below c__law_most_row D__law_sizes
  have c__law_right := cal_law_right (P := P) (w := w) (base := base) z c_need_kind c__law_next c__law_sizes c_sizes D__law_right
  have c__law_most_right := cal_most_right (P := P) (w := w) (base := base) z c__law_most_row c__law_next c_most_told D__law_most_right
  exact cal_law z c__law_begun c__law_next c__law_kind c__law_right c__law_most_right c_sizes c_is_lot (fun_mk (st := s_law) l24 c24 k24)
end
end LK
open PySem PySem.W PyProof.Rows
set_option maxHeartbeats 0 in
theorem PySem.Challenge.cw_callsdown_k01_whole_shapes_holds : PySem.Challenge.rw_callsdown_k01_whole_shapes.Holds := by
  w_on
  o_law
  k_head
  (case hw => w_witness2)
  k_fill
  refine CD.walk_g (l := PySem.Challenge.rw_callsdown_k01_whole_shapes) (n := 63) (k := 7) (x := "script") (sp := fun w => LK.spLaw _) rfl (by decide) rfl ⟨rfl, by decide, by decide⟩ (fun w h Y => PySem.W.kIn_of Y) ?F (fun w H a ns hl hS => ⟨a, ns, rfl, hS, hl, fun _ => rfl⟩)
  case F =>
    intro w mg fa h KX G hmg
    refine' LK.all_mk KX G hmg ?a0 ?l0 ?c0 ?k0 ?a1 ?l1 ?c1 ?k1 ?a2 ?l2 ?c2 ?k2 ?a3 ?l3 ?c3 ?k3 ?a4 ?l4 ?c4 ?k4 ?a5 ?l5 ?c5 ?k5 ?a6 ?l6 ?c6 ?k6 ?a7 ?l7 ?c7 ?k7 ?a8 ?l8 ?c8 ?k8 ?a9 ?l9 ?c9 ?k9 ?a10 ?l10 ?c10 ?k10 ?a11 ?l11 ?c11 ?k11 ?a12 ?l12 ?c12 ?k12 ?a13 ?l13 ?c13 ?k13 ?a14 ?l14 ?c14 ?k14 ?a15 ?l15 ?c15 ?k15 ?a16 ?l16 ?c16 ?k16 ?a17 ?l17 ?c17 ?k17 ?a18 ?l18 ?c18 ?k18 ?a19 ?l19 ?c19 ?k19 ?a20 ?l20 ?c20 ?k20 ?a21 ?l21 ?c21 ?k21 ?a22 ?l22 ?c22 ?k22 ?a23 ?l23 ?c23 ?k23 ?a24 ?l24 ?c24 ?k24 ?z0 ?z1 ?z2 ?z3 ?z4 ?z5 ?z6 ?z7 ?z8 ?z9 ?z10 ?z11 ?z12 ?z13 ?z14 ?z15 ?z16 ?z17 ?z18 ?z19 ?m0 ?e0 ?m1 ?e1 ?m2 ?e2 ?m3 ?e3 ?m4 ?e4 ?um0 ?ul0 ?uh0
    (case a0 => k_is)
    (case l0 => k_is)
    (case c0 => k_is)
    (case k0 => k_is)
    (case a1 => k_is)
    (case l1 => k_is)
    (case c1 => k_is)
    (case k1 => k_is)
    (case a2 => k_is)
    (case l2 => k_is)
    (case c2 => k_is)
    (case k2 => k_is)
    (case a3 => k_is)
    (case l3 => k_is)
    (case c3 => k_is)
    (case k3 => k_is)
    (case a4 => k_is)
    (case l4 => k_is)
    (case c4 => k_is)
    (case k4 => k_is)
    (case a5 => k_is)
    (case l5 => k_is)
    (case c5 => k_is)
    (case k5 => k_is)
    (case a6 => k_is)
    (case l6 => k_is)
    (case c6 => k_is)
    (case k6 => k_is)
    (case a7 => k_is)
    (case l7 => k_is)
    (case c7 => k_is)
    (case k7 => k_is)
    (case a8 => k_is)
    (case l8 => k_is)
    (case c8 => k_is)
    (case k8 => k_is)
    (case a9 => k_is)
    (case l9 => k_is)
    (case c9 => k_is)
    (case k9 => k_is)
    (case a10 => k_is)
    (case l10 => k_is)
    (case c10 => k_is)
    (case k10 => k_is)
    (case a11 => k_is)
    (case l11 => k_is)
    (case c11 => k_is)
    (case k11 => k_is)
    (case a12 => k_is)
    (case l12 => k_is)
    (case c12 => k_is)
    (case k12 => k_is)
    (case a13 => k_is)
    (case l13 => k_is)
    (case c13 => k_is)
    (case k13 => k_is)
    (case a14 => k_is)
    (case l14 => k_is)
    (case c14 => k_is)
    (case k14 => k_is)
    (case a15 => k_is)
    (case l15 => k_is)
    (case c15 => k_is)
    (case k15 => k_is)
    (case a16 => k_is)
    (case l16 => k_is)
    (case c16 => k_is)
    (case k16 => k_is)
    (case a17 => k_is)
    (case l17 => k_is)
    (case c17 => k_is)
    (case k17 => k_is)
    (case a18 => k_is)
    (case l18 => k_is)
    (case c18 => k_is)
    (case k18 => k_is)
    (case a19 => k_is)
    (case l19 => k_is)
    (case c19 => k_is)
    (case k19 => k_is)
    (case a20 => k_is)
    (case l20 => k_is)
    (case c20 => k_is)
    (case k20 => k_is)
    (case a21 => k_is)
    (case l21 => k_is)
    (case c21 => k_is)
    (case k21 => k_is)
    (case a22 => k_is)
    (case l22 => k_is)
    (case c22 => k_is)
    (case k22 => k_is)
    (case a23 => k_is)
    (case l23 => k_is)
    (case c23 => k_is)
    (case k23 => k_is)
    (case a24 => k_is)
    (case l24 => k_is)
    (case c24 => k_is)
    (case k24 => k_is)
    (case z0 => k_is)
    (case z1 => k_is)
    (case z2 => k_is)
    (case z3 => k_is)
    (case z4 => k_is)
    (case z5 => k_is)
    (case z6 => k_is)
    (case z7 => k_is)
    (case z8 => k_is)
    (case z9 => k_is)
    (case z10 => k_is)
    (case z11 => k_is)
    (case z12 => k_is)
    (case z13 => k_is)
    (case z14 => k_is)
    (case z15 => k_is)
    (case z16 => k_is)
    (case z17 => k_is)
    (case z18 => k_is)
    (case z19 => k_is)
    (case m0 => k_is)
    (case m1 => k_is)
    (case m2 => k_is)
    (case m3 => k_is)
    (case m4 => k_is)
    (case um0 => k_is)
    (case ul0 => k_is)
    (case e0 => decide)
    (case e1 => decide)
    (case e2 => decide)
    (case e3 => decide)
    (case e4 => decide)
    (case uh0 => exact ⟨rfl, _, _, rfl, by decide, .cons ⟨_, rfl⟩ (.cons ⟨_, rfl⟩ (.cons ⟨_, rfl⟩ (.cons ⟨_, rfl⟩ .nil)))⟩)
