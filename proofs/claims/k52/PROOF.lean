import PyProof.Rows.All
import Wide.All
import OpenK.AllK
import Wide.FinOn
import KE.DatumOrd
import KE.GoesEnumKw
import HandS.ForMost
import HandS.Walk
import HandS.Zip
import HandS.SortKw
import HandS.TupAny
import HandS.TupMul
import HandS.IsInst
import HandS.SetFor
import HandS.RaiseMore
import PyProof.ReprRoads
import HandS.Strs
import PyProof.EnumMake
import HandS.Conv
import HandS.SortInts
import HandS.TupLen
import HandS.Wide
import HandS.Style
import HandS.ExcInit
import HandS.ExcField
import HandS.TryMany
import HandS.WordsExc
import HandS.ExcIs
import HandS.Text
import HandS.StrMore
import HandS.CallLocal
import HandS.DictComp
import PySem.Challenge.RW_callsdown_k52_whole_full_rules
set_option Elab.async false
set_option linter.all false
set_option maxRecDepth 100000
set_option maxHeartbeats 4000000
/-! own rules: a dict with tuple keys of None and ints -/
namespace CD
open PySem PySem.Spec PyProof.Rows L2

/-! ### keys: None or an int -/
def oIs : Option Int → Value → Bool
  | none, .none => true
  | none, _ => false
  | some i, v => Value.isInt i v
def oH : Option Int → Int
  | none => 0xFCA86420
  | some i => hashInt i
def oV : Option Int → V
  | none => .non
  | some i => .int i
theorem oIs_shape : ∀ {k : Option Int} {v : Value}, oIs k v = true → (k = none ∧ v = Value.none) ∨ (∃ i t, k = some i ∧ v = Value.int i t)
  | none, v, h => by
    cases v <;> first | exact .inl ⟨rfl, rfl⟩ | exact absurd h (by simp [oIs])
  | some i, v, h => by
    obtain ⟨t, e⟩ := Value.isInt_shape (k := i) (v := v) h
    exact .inr ⟨i, t, rfl, e⟩
theorem oIs_none : oIs none .none = true := rfl
theorem oIs_int (i : Int) (t : Tok) : oIs (some i) (.int i t) = true := by simp [oIs, Value.isInt]
theorem wpAny_pyHash_none {prog : Program} {w : World} {A : Around} {E : Value → Shared → Prop} {s : Shared} {Q : Int → Shared → Prop} (h : Q 0xFCA86420 { s with toks := s.toks + 1 }) :
    wpAny (model prog w) A (pyHash .none) Q E s := by
  unfold pyHash
  have hT : s.TypeIs Value.none "NoneType" := rfl
  have hv : [Value.none].any Value.onHeap = false := rfl
  refine wpAny_bind ?_
  rw [cRoomFor, if_neg (by rw [hv]; exact Bool.false_ne_true)]; refine wpAny_pure ?_
  refine wpAny_bind (wpAny_specialOf hT F.slot_NoneType_hash.lookup ?_)
  show wpAny _ _ (if (some (Value.builtin "NoneType.__hash__") == some Value.none) = true then _ else _) Q E s
  rw [if_neg (by rw [beq_builtin_none]; exact Bool.false_ne_true)]
  refine wpAny_bind (wpAny_specialOf hT F.slot_NoneType_hash.lookup ?_)
  show wpAny _ _ (callSpecialIfBoundUnlessNone? .none "__hash__" _ >>= _) Q E s
  refine wpAny_bind (wpAny_callSpecialIfBoundUnlessNone?_slot hT F.slot_NoneType_hash
    (wpAny_call_entry F.slot_NoneType_hash hT F.entry_NoneType_hash
      (show wpAny _ _ (do ret (← mkInt 0xFCA86420)) _ _ s from wpAny_ret_mkInt ?_) (F.args_NoneType_hash_1 _)))
  show wpAny _ _ (if (decide (-(2 : Int) ^ 63 ≤ 0xFCA86420) && decide ((0xFCA86420 : Int) < 2 ^ 63)) = true then _ else _) Q E _
  rw [if_pos (by decide)]
  exact wpAny_pure h
theorem okey_ss (a b : Int) : decide (some a = some b) = (a == b) := by
  by_cases e : a = b
  · subst e; simp
  · have h : ¬ some a = some b := fun q => e (Option.some.inj q)
    rw [decide_eq_false h]
    exact (beq_eq_false_iff_ne.mpr e).symm
theorem wpAny_eqBool_none {prog : Program} {w : World} {A : Around} {E : Value → Shared → Prop} {s : Shared} {Q : Bool → Shared → Prop} (h : Q true s) :
    wpAny (model prog w) A (eqBool .none .none) Q E s := by
  unfold eqBool
  try with_reducible refine wpAny_holding ?_
  show wpAny _ _ (if (Value.none == Value.none) = true then _ else _) Q E s
  rw [if_pos (by rfl)]
  exact wpAny_bind (wpAny_rule (wpAny_pure h))
def optKind (prog : Program) (w : World) : PySem.KeyKind prog w (Option Int) where
  is := oIs
  hash := oH
  inj := fun v a b ha hb => by
    rcases oIs_shape ha with ⟨rfl, rfl⟩ | ⟨i, t, rfl, rfl⟩
    · rcases oIs_shape hb with ⟨rfl, _⟩ | ⟨j, u, rfl, e⟩
      · rfl
      · exact nomatch e
    · rcases oIs_shape hb with ⟨rfl, e⟩ | ⟨j, u, rfl, e⟩
      · exact nomatch e
      · injection e with e1 _; rw [e1]
  byValue := fun k v h => by
    rcases oIs_shape h with ⟨rfl, rfl⟩ | ⟨i, t, rfl, rfl⟩ <;> rfl
  pyHash := fun hv h => by
    rcases oIs_shape hv with ⟨rfl, rfl⟩ | ⟨i, t, rfl, rfl⟩
    · exact wpAny_pyHash_none h
    · exact wpAny_pyHash_int h
  eqBool := fun hu hv h => by
    rcases oIs_shape hu with ⟨rfl, rfl⟩ | ⟨i, t, rfl, rfl⟩
    · rcases oIs_shape hv with ⟨rfl, rfl⟩ | ⟨j, u, rfl, rfl⟩
      · rw [decide_eq_true rfl] at h; exact wpAny_eqBool_none h
      · rw [decide_eq_false (fun q => nomatch q)] at h; exact SeqAt.EqAt.none_int j u _ _ _ _ h
    · rcases oIs_shape hv with ⟨rfl, rfl⟩ | ⟨j, u, rfl, rfl⟩
      · rw [decide_eq_false (fun q => nomatch q)] at h; exact SeqAt.EqAt.int_none i t _ _ _ _ h
      · rw [okey_ss] at h; exact wpAny_eqBool_int h
  «strs» := fun k x t v h => by
    rcases oIs_shape h with ⟨rfl, e⟩ | ⟨i, u, rfl, e⟩ <;> exact nomatch e
theorem oV_is {P : Program} {w : World} {k : Option Int} {u : Value} (r : RelV (oV k) u) : (optKind P w).is k u = true := by
  cases k with
  | none => cases (show u = Value.none from r); rfl
  | some i => obtain ⟨t, e⟩ := (show ∃ t, u = Value.int i t from r); subst e; exact oIs_int i t
theorem oV_inj {a b : Option Int} (e : oV a = oV b) : a = b := by
  cases a <;> cases b
  · rfl
  · exact nomatch (show V.non = V.int _ from e)
  · exact nomatch (show V.int _ = V.non from e)
  · have e' : V.int _ = V.int _ := e; injection e' with e'; rw [e']
theorem oitems_are {P : Program} {w : World} : ∀ {ks : List (Option Int)} {us : List Value}, Vals (ks.map oV) us → ItemsAre (optKind P w) ks us
  | [], _, r => by rw [List.map_nil] at r; cases r; exact .nil
  | k :: ks, _, r => by
    rw [List.map_cons] at r
    cases r with
    | cons h t => exact .cons (oV_is h) (oitems_are t)

/-! ### the dict -/
abbrev OKey := List (Option Int)
/-- the raw dict object at a: xs its entries (key, where the key's tuple lies, value) -/
def RawO (P : Program) (w : World) (a : Addr) (xs : List (OKey × Addr × Value)) (h : Heap) : Prop :=
  ∃ o es ep, h.get? a = some o ∧ o.ExactDict ∧ o.data = .dict es ep ∧ es.toList = xs.map (entryOfKey (tupleKind (optKind P w))) ∧ (xs.map (·.1)).Nodup
/-- a dict with keys of None and ints: its entries, where each key lies -/
def DO (P : Program) (w : World) (a : Addr) (ds : List (OKey × Addr × V)) : HO :=
  .ext fun h => ∃ xs : List (OKey × Addr × Value), Paired (fun (p : OKey × Addr × V) (q : OKey × Addr × Value) => p.1 = q.1 ∧ p.2.1 = q.2.1 ∧ RelV p.2.2 q.2.2) ds xs ∧ (a == sysModules) = false ∧ RawO P w a xs h
/-- the keys lie where they are said to lie -/
def KeysO (H : Hp) (ds : List (OKey × Addr × V)) : Prop := ∀ p ∈ ds, H p.2.1 = some (.tup (p.1.map oV))
def valO (ds : List (OKey × Addr × V)) (k : OKey) : Option V := (ds.find? fun p => decide (p.1 = k)).map (·.2.2)

section
variable {P : Program} {w : World} {H : Hp} {h : Heap} {a : Addr}
theorem okey_of {ks : OKey} (ok : HOk P w H h) (e : H a = some (.tup (ks.map oV))) : (tupleKind (optKind P w)).is h ks a := by
  obtain ⟨_, its, r, o, h1, h2, n, h3⟩ := (show ObjOk P w H h a (.tup (ks.map oV)) from ok a _ e)
  exact ⟨o, its.toArray, n, h1, h2, h3, by simpa using oitems_are r⟩
abbrev OP := Paired (fun (p : OKey × Addr × V) (q : OKey × Addr × Value) => p.1 = q.1 ∧ p.2.1 = q.2.1 ∧ RelV p.2.2 q.2.2)
theorem OP.val {ds : List (OKey × Addr × V)} {xs : List (OKey × Addr × Value)} (r : OP ds xs) (k : OKey) : RelO (valO ds k) ((atKey xs k).map (·.2)) := by
  induction r with
  | nil => exact True.intro
  | @cons p q ps qs h t ih =>
    obtain ⟨h1, _, h2⟩ := h
    by_cases e : p.1 = k
    · have e' : q.1 = k := h1.symm.trans e
      have b : atKey (q :: qs) k = some q.2 := by simp [atKey, List.find?_cons, e']
      have c : valO (p :: ps) k = some p.2.2 := by simp [valO, List.find?_cons, e]
      rw [c, b]; exact h2
    · have e' : ¬ q.1 = k := fun z => e (h1.trans z)
      have b : atKey (q :: qs) k = atKey qs k := by simp [atKey, List.find?_cons, e']
      have c : valO (p :: ps) k = valO ps k := by simp [valO, List.find?_cons, e]
      rw [c, b]; exact ih
theorem do_of {ds : List (OKey × Addr × V)} (ok : HOk P w H h) (e : H a = some (DO P w a ds)) (ks : KeysO H ds) : (a == sysModules) = false ∧ ∃ xs, OP ds xs ∧ h.DictOfH (tupleKind (optKind P w)) a xs := by
  obtain ⟨⟨xs, r, y, o, es, ep, h1, h2, h3, h4, h5⟩, _, _⟩ := (show ObjOk P w H h a (DO P w a ds) from ok a _ e)
  refine ⟨y, xs, r, o, es, ep, h1, h2, h3, h4, fun x hx => ?_, h5⟩
  have all : ∀ {l : List (OKey × Addr × V)} {m : List (OKey × Addr × Value)}, OP l m → KeysO H l → ∀ x ∈ m, (tupleKind (optKind P w)).is h x.1 x.2.1 := by
    intro l m q
    induction q with
    | nil => intro _ x hx; exact nomatch hx
    | @cons p q ps qs hq t ih =>
      intro kk x hx
      rcases List.mem_cons.mp hx with e | hx
      · subst e
        have z := kk p List.mem_cons_self
        rw [hq.2.1] at z
        exact okey_of ok (by rw [← hq.1]; exact z)
      · exact ih (fun p hp => kk p (List.mem_cons_of_mem _ hp)) x hx
  exact all r ks x hx
theorem do_ok {ds : List (OKey × Addr × V)} {xs : List (OKey × Addr × Value)} {H' : Hp} {h' : Heap} (y : (a == sysModules) = false) (r : OP ds xs) (d : h'.DictOfH (tupleKind (optKind P w)) a xs) : ObjOk P w H' h' a (DO P w a ds) := by
  obtain ⟨o, es, ep, h1, h2, h3, h4, h5, h6⟩ := d
  refine ⟨⟨xs, r, y, o, es, ep, h1, h2, h3, h4, h6⟩, ⟨o, h1⟩, fun g1 g2 hg k => ?_⟩
  obtain ⟨xs', r', y', o', es', ep', e1, e2, e3, e4, e5⟩ := hg
  exact ⟨xs', r', y', o', es', ep', k _ e1, e2, e3, e4, e5⟩
end

section
variable {X : Cx} {pins : List (Addr × Obj)} {σ : L2.St} {H : Hp} {s : Shared} {a b : Addr} {v : V} {r : Value} {A : Around} {E : Value → Shared → Prop} {ds : List (OKey × Addr × V)} {k : OKey}
theorem o_getItem {Q : Value → Shared → Prop} (hu : A.units + 1 < cLine) (I : Inv X pins σ H s) (e : H a = some (DO X.prog X.w a ds)) (ks : KeysO H ds) (eb : H b = some (.tup (k.map oV))) (l : valO ds k = some v) (h : ∀ w' s', Inv X pins σ H s' → RelV v w' → Q w' s') :
    wpAny (model X.prog X.w) A (getItem (.ref a) (.ref b)) Q E s := by
  obtain ⟨hd, xs, rel, dd⟩ := do_of I.hok e ks
  obtain ⟨w', hw, rw'⟩ := RelO.some_of (v := v) (o := (atKey xs k).map (·.2)) (by rw [← l]; exact rel.val k)
  obtain ⟨p, hp, hp2⟩ := Option.map_eq_some_iff.mp hw
  refine wpAny_getItem_heap (tupleKind_room_in1 hu) (okey_of I.hok eb) dd hp ?_
  rw [hp2]
  exact h w' _ (I.tok _) rw'
theorem o_in {Q : Value → Shared → Prop} (hu : A.units + 1 < cLine) (I : Inv X pins σ H s) (e : H a = some (DO X.prog X.w a ds)) (ks : KeysO H ds) (eb : H b = some (.tup (k.map oV))) (h : ∀ s', Inv X pins σ H s' → Q (.bool (valO ds k).isSome) s') :
    wpAny (model X.prog X.w) A (compareOp .In (.ref b) (.ref a)) Q E s := by
  obtain ⟨hd, xs, rel, dd⟩ := do_of I.hok e ks
  refine wpAny_in_heap (tupleKind_room_in1 hu) (okey_of I.hok eb) hd dd ?_
  have q := (rel.val k).isSome_eq
  rw [Option.isSome_map] at q
  rw [← q]
  exact h _ (I.tok _)
theorem o_setItem {Q : Unit → Shared → Prop} (hu : A.units + 1 < cLine) (I : Inv X pins σ H s) (e : H a = some (DO X.prog X.w a ds)) (ks : KeysO H ds) (eb : H b = some (.tup (k.map oV))) (hn : valO ds k = none) (hl : ds.length < sizeLine) (rv : RelV v r)
    (h : ∀ s', Inv X pins σ (upd H a (DO X.prog X.w a (ds ++ [(k, b, v)]))) s' → Q () s') :
    wpAny (model X.prog X.w) A (setItem (.ref a) (.ref b) r) Q E s := by
  obtain ⟨hd, xs, rel, dd⟩ := do_of I.hok e ks
  have hz : xs.length ≤ sizeLine := by rw [← Paired.length rel]; exact Nat.le_of_lt hl
  refine wpAny_setItem_heap (hsz := hz) (tupleKind_room_in1 hu) (okey_of I.hok eb) dd fun h' dd' hs => h _ ?_
  have q := (rel.val k).isSome_eq
  rw [Option.isSome_map, hn] at q
  have es : storedH xs k b r = xs ++ [(k, b, r)] := by
    unfold storedH
    rw [← q]
    rfl
  rw [es] at dd'
  have he : ∃ q, h'.get? a = some q := let ⟨q, _, _, hq, _⟩ := dd'; ⟨q, hq⟩
  exact d_write I (by rw [e]; exact True.intro) hs he (do_ok hd (Paired.snoc (b := (k, b, r)) (a := (k, b, v)) rel ⟨rfl, rfl, rv⟩) dd')
end
/-- d[t], t in d, d[t] = v (t new) -/
def tOGet (P : Program) (w : World) (td ty : TE) : TE := fun σ H Q => td σ H fun x H1 => ty σ H1 fun y H2 => ∃ a b ds k v, x = .ref a ∧ y = .ref b ∧ H2 a = some (DO P w a ds) ∧ KeysO H2 ds ∧ H2 b = some (.tup (k.map oV)) ∧ valO ds k = some v ∧ Q v H2
def tOIn (P : Program) (w : World) (ty td : TE) : TE := fun σ H Q => ty σ H fun y H1 => td σ H1 fun x H2 => ∃ a b ds k, x = .ref a ∧ y = .ref b ∧ H2 a = some (DO P w a ds) ∧ KeysO H2 ds ∧ H2 b = some (.tup (k.map oV)) ∧ Q (.bl (valO ds k).isSome) H2
def sOPut (P : Program) (w : World) (td ty tv : TE) : TS := fun D σ H => tv σ H fun v H1 => td σ H1 fun x H2 => ty σ H2 fun y H3 => ∃ a b ds k, x = .ref a ∧ y = .ref b ∧ H3 a = some (DO P w a ds) ∧ KeysO H3 ds ∧ H3 b = some (.tup (k.map oV)) ∧ valO ds k = none ∧ ds.length < sizeLine ∧ D.nx σ (upd H3 a (DO P w a (ds ++ [(k, b, v)])))
section
variable {X : Cx} {o i e value : Expr} {pos pos' tpos : Pos} {td ty tv : TE}
theorem pe_oget (hu : X.A.units + 1 < cLine) (ho : PE X o td) (hi : PE X i ty) (hs : NoSl i) : PE X (.Subscript o i pos) (tOGet X.prog X.w td ty) := by
  refine ⟨fun pins s σ H Q I h => ?_⟩
  refine subD_of PySem.F.slot_dict_getitem.lookup hs (thn (ho.run pins s σ H _ I h) fun u s1 ⟨x, H1, I1, rx, q1⟩ => thn (hi.run pins s1 σ H1 _ I1 q1) fun iv s2 ⟨y, H2, I2, ry, a, b, ds, k, v, ex, ey, e1, e2, e3, e4, q2⟩ => ?_)
  subst ex ey
  obtain rfl : u = Value.ref a := rx
  obtain rfl : iv = Value.ref b := ry
  obtain ⟨_, xs, _, dd⟩ := do_of I2.hok e1 e2
  exact ⟨dd.typeIs, o_getItem hu I2 e1 e2 e3 e4 fun w' s3 I3 rw' => ⟨v, H2, I3, rw', q2⟩⟩
theorem pc_oin (hu : X.A.units + 1 < cLine) (hi : PE X i ty) (ho : PE X o td) : PC X .In i o (tOIn X.prog X.w ty td) := by
  refine ⟨fun pins s σ H Q I h => ?_⟩
  refine thn (hi.run pins s σ H _ I h) fun iv s1 ⟨y, H1, I1, ry, q1⟩ => thn (ho.run pins s1 σ H1 _ I1 q1) fun u s2 ⟨x, H2, I2, rx, a, b, ds, k, ex, ey, e1, e2, e3, q2⟩ => ?_
  subst ex ey
  obtain rfl : u = Value.ref a := rx
  obtain rfl : iv = Value.ref b := ry
  exact o_in hu I2 e1 e2 e3 fun s3 I3 => ⟨.bl _, H2, I3, rfl, q2⟩
theorem ps_oput (hu : X.A.units + 1 < cLine) (ho : PE X o td) (hi : PE X i ty) (hv : PE X value tv) (hs : swapsWith value (some (.Subscript o i pos')) pos.line X.env = pure false) :
    PS X (.Assign [.Subscript o i pos'] value pos) (sOPut X.prog X.w td ty tv) := by
  refine ⟨fun pins s σ H D I h => ?_⟩
  refine wpAny_Assign_Subscript (thn (hv.run pins s σ H _ I h) fun r s1 ⟨v, H1, I1, rv, q1⟩ => thn (ho.run pins s1 σ H1 _ I1 q1) fun u s2 ⟨x, H2, I2, rx, q2⟩ => thn (hi.run pins s2 σ H2 _ I2 q2) fun iv s3 ⟨y, H3, I3, ry, a, b, ds, k, ex, ey, e1, e2, e3, e4, e5, q3⟩ => ?_) hs
  subst ex ey
  obtain rfl : u = Value.ref a := rx
  obtain rfl : iv = Value.ref b := ry
  exact o_setItem hu I3 e1 e2 e3 e4 e5 rv fun s4 I4 => ⟨σ, _, I4, q3⟩
/-- {}: to be such a dict -/
def tDNewO (P : Program) (w : World) : TE := fun _ H Q => ∀ p, H p = none → Q (.ref p) (upd H p (DO P w p []))
theorem do_empty {P : Program} {w : World} {H : Hp} (h : Heap) (hb : sysModules < h.objs.size) : ObjOk P w H (h.push { cls := .type "dict", data := .dict #[] }) h.objs.size (DO P w h.objs.size []) := by
  have e := Heap.get?_push_size h (o := { cls := .type "dict", data := .dict #[] }) rfl
  refine ⟨⟨[], .nil, beq_eq_false_iff_ne.mpr (Ne.symm (Nat.ne_of_lt hb)), _, #[], 0, e, ⟨rfl, rfl, rfl⟩, rfl, rfl, List.nodup_nil⟩, ⟨_, e⟩, fun g1 g2 hg k => ?_⟩
  obtain ⟨xs', r', y', o', es', ep', e1, e2, e3, e4, e5⟩ := hg
  exact ⟨xs', r', y', o', es', ep', k _ e1, e2, e3, e4, e5⟩
theorem pe_dnewO : PE X (.Dict [] [] pos) (tDNewO X.prog X.w) := ⟨fun pins s σ H Q I h =>
  wpAny_Dict_empty ⟨.ref s.heap.objs.size, _, I.laid (a := s.heap.objs.size) (o := DO X.prog X.w s.heap.objs.size []) (t' := s.toks) (fun _ _ q => Heap.get?_push_of_some _ q) (Nat.le_refl _) (do_empty s.heap I.big), rfl, h _ (I.hok.fresh (Nat.le_refl _))⟩⟩
end
end CD
/-! the mathematics of line rules: the walk from person to person, rounds that come again -/
namespace CD
abbrev Win := List (Option Int)
def leastO : List Int → Option Int
  | [] => none
  | n :: ns => some (ns.foldl min n)
/-- window[-step] -/
def back (ws : Win) (s : Int) : Option Int := ws.getD (ws.length - s.toNat) none
def callAt (ws : Win) (p : Int × Nat) : Option Int := (back ws p.1).map (· + (p.2 : Int))
def calls (rule : List Int) (ws : Win) : List Int := (rule.zipIdx 1).filterMap (callAt ws)
def calledAt (rule : List Int) (ws : Win) : Option Int := leastO (calls rule ws)
abbrev LState := Win × Int
def lastOf (tick : Option Int) (last : Int) : Int := match tick with | some t => if last < t then t else last | none => last
def behindP (st : LState) (tick : Option Int) : LState := (st.1.tail ++ [tick], lastOf tick st.2)
def few (rule : List Int) : Nat → LState → LState
  | 0, st => st
  | n + 1, st => few rule n (behindP st (calledAt rule st.1))
def laterW (ws : Win) (m : Int) : Win := ws.map (·.map (· + m))
def told (ws : Win) : List Int := ws.filterMap id
def baseOf (ws : Win) : Int := (leastO (told ws)).getD 0
def shapeOf (ws : Win) : Win := laterW ws (-(baseOf ws))
/-- a LINE RULE -/
structure IsRule (rule : List Int) : Prop where
  pos : 1 ≤ rule.length
  most : rule.length ≤ 4
  step : ∀ s ∈ rule, 1 ≤ s ∧ s ≤ 6
  nodup : rule.Nodup
def reach (rule : List Int) : Nat := (rule.foldl max 0).toNat
def ascB (ns : List Int) : Bool := (ns.zip ns.tail).all fun p => decide (p.1 < p.2)
theorem zip_at {α β : Type} {xs : List α} {ys : List β} {i : Nat} {p : α × β} (h : (xs.zip ys)[i]? = some p) : xs[i]? = some p.1 ∧ ys[i]? = some p.2 := by
  have z := List.getElem?_zip_eq_some.mp h
  exact z
end CD
set_option maxHeartbeats 400000
/-! own rules 2: min(default=), max of a tuple, (x,) * k, enumerate(t, start=), sorted(t, reverse=True), len(set(t)), repr -/
namespace CD
open PySem PySem.Spec PyProof.Rows L2
section
variable {X : Cx}

/-! ### min(xs, default=d), max(t) -/
theorem alike_ints (ns : List Int)   : PySem.W.AlikeAll (ns.map PyData.int) := by
  refine ⟨fun x hx y hy => ?_, fun x hx e => ?_⟩
  · obtain ⟨i, _, rfl⟩ := List.mem_map.mp hx
    obtain ⟨j, _, rfl⟩ := List.mem_map.mp hy
    simp only [PySem.W.alike]
  · obtain ⟨i, _, rfl⟩ := List.mem_map.mp hx
    cases e
theorem reads_ints {h : Heap} : ∀ {us : List Value} {ns : List Int}, IntsAre us ns → ReadsAll h us (ns.map PyData.int) []
  | _, _, .nil => .nil
  | _, _, .cons n t r => ReadsAll.cons (as := []) (bs := []) (.int n t) (reads_ints r)
theorem depth_ints : ∀ ns : List Int, PyData.depthAll (ns.map PyData.int) = 0
  | [] => rfl
  | n :: ns => by
    rw [List.map_cons, PyData.depthAll, depth_ints ns]
    rfl
def orD (d : V) : Option Int → V
  | none => d
  | some m => .int m
def rMinD (K : PySem.W.Frag) : List V → List V → Hp → VK → Prop := fun vs zs H Q => ∃ (a : Addr) (ns : List Int) (d : V), vs = [V.ref a] ∧ zs = [d] ∧ SqL K H a (ns.map V.int) ∧ Q (orD d (leastO ns)) H
theorem cr_minDef (hc : X.calm = true) (hu : X.A.units + 1 < cLine) : CallRK X (.builtin "min") [Str.ofString "default"] (rMinD X.K) := by
  intro pins s σ H vs zs us ws Q I r rz h
  obtain ⟨a, ns, d, rfl, rfl, hs, q⟩ := h
  obtain rfl := Vals.ref1 r
  obtain ⟨w1, rfl, e1⟩ := vals1 rz
  obtain ⟨its, rv, hl, _⟩ := I.list hs
  have hi := rv.ints
  refine PySem.W.min_list_default (I.ok.hd hc) hl.isList (xs := ns.map PyData.int) (as := []) (by simpa using reads_ints hi) (alike_ints ns) (by rw [depth_ints]; exact hu) (fun e h' tk hk => ?_) fun y ys i v h' tk bs e hv hr hk => ?_
  · have e2 : ns = [] := List.map_eq_nil_iff.mp e
    subst e2
    exact ⟨d, H, I.kept hk, e1, q⟩
  · cases ns with
    | nil => cases e
    | cons n ns =>
      rw [List.map_cons] at e
      injection e with e2 e3
      subst e2 e3
      rw [PySem.W.minD_ints] at hr
      cases hr with
      | int i t => exact ⟨.int _, H, I.kept hk, ⟨t, rfl⟩, q⟩
def rMaxT (K : PySem.W.Frag) : List V → Hp → VK → Prop := fun vs H Q => ∃ (a : Addr) (n : Int) (ns : List Int), vs = [V.ref a] ∧ SqT K H a ((n :: ns).map V.int) ∧ Q (.int (ns.foldl max n)) H
theorem cr_maxT (hc : X.calm = true) (hu : X.A.units + 1 < cLine) : CallR X (.builtin "max") (rMaxT X.K) := by
  intro pins s σ H vs us Q I r h
  obtain ⟨a, n, ns, rfl, hs, q⟩ := h
  obtain rfl := Vals.ref1 r
  obtain ⟨its, rv, hl, _⟩ := I.tuple hs
  have hi := rv.ints
  refine PySem.W.max_tuple_data (I.ok.hd hc) (show s.heap.IsTuple a its.toArray from hl) (x := .int n) (xs := ns.map PyData.int) (as := []) (by simpa using reads_ints hi) (alike_ints (n :: ns)) (by
    have := depth_ints (n :: ns)
    rw [List.map_cons] at this
    rw [this]
    exact hu) fun i v h' tk bs hv hr hk => ?_
  rw [PySem.W.maxD_ints] at hr
  cases hr with
  | int i t => exact ⟨.int _, H, I.kept hk, ⟨t, rfl⟩, q⟩

/-! ### t * k, k at most 1 -/
theorem tuple_mul1 (l : Addr) (items : Array Value) (n : Nat) (dd : Option Addr) (sl : Array (Option Value)) (u : Tok) :
    Meets (Builtin.«tuple.__mul__» ⟨[.ref l, .int 1 u], []⟩) (fun _ R s => s.heap.get? l = some { cls := .type "tuple", dict := dd, data := .seq items n, slots := sl } ∧ R (.ok (.ret (Value.ref l))) s) :=
  .of_wp fun prog w A R s h => by
    obtain ⟨hp, g, d, tk, os⟩ := s
    obtain ⟨hl, h⟩ := h
    have f1 := AutoSeq1.idx_int
    wp_walk using wpAny_loadPart' hl
    repeat (first
      | (refine wpAny_ite_false (by decide) ?_; wp_walk using wpAny_loadPart' hl)
      | (refine wpAny_ite_true (by simp) ?_; wp_walk using wpAny_loadPart' hl))
    exact ⟨_, rfl, h⟩
theorem tuple_mul0 (l : Addr) (items : Array Value) (n : Nat) (dd : Option Addr) (sl : Array (Option Value)) (u : Tok) (c1 : items.isEmpty = false) :
    Meets (Builtin.«tuple.__mul__» ⟨[.ref l, .int 0 u], []⟩) (fun _ R s => s.heap.get? l = some { cls := .type "tuple", dict := dd, data := .seq items n, slots := sl } ∧
      R (.ok (.ret (Value.ref s.heap.objs.size))) { s with heap := s.heap.push { cls := Value.type "tuple", data := Data.seq #[] }, toks := s.toks }) :=
  .of_wp fun prog w A R s h => by
    obtain ⟨hp, g, d, tk, os⟩ := s
    obtain ⟨hl, h⟩ := h
    have f1 := AutoSeq1.idx_int
    wp_walk using wpAny_loadPart' hl
    repeat (first
      | (refine wpAny_ite_false (by rw [c1]; decide) ?_; wp_walk using wpAny_loadPart' hl)
      | (refine wpAny_ite_false (by decide) ?_; wp_walk using wpAny_loadPart' hl)
      | (refine wpAny_ite_true (by simp) ?_; wp_walk using wpAny_loadPart' hl))
    exact ⟨_, rfl, h⟩
/-- t * k for k = 0, 1 and more -/
def rRepA (K : PySem.W.Frag) : R2 := fun x y H Q => ∃ l xs, ∃ k : Nat, x = .ref l ∧ y = .int k ∧ SqT K H l xs ∧ xs ≠ [] ∧ k ≤ 1000 ∧ xs.length ≤ 1000 ∧
  (k = 1 → Q (.ref l) H) ∧ (k ≠ 1 → ∀ p, H p = none → Q (.ref p) (upd H p (.tup (List.replicate k xs).flatten)))
theorem op_repA : OpR X (binaryOp .Mult) (rRepA X.K) := by
  intro pins s σ H x y v u Q I rx ry h
  obtain ⟨l, xs, k, rfl, rfl, hT, hne, h2, hz, q1, q2⟩ := h
  by_cases k2 : 2 ≤ k
  · refine op_repT pins s σ H _ _ v u Q I rx ry ⟨l, (k : Int), xs, rfl, rfl, hT, hne, by omega, by omega, hz, ?_⟩
    rw [Int.toNat_natCast]
    exact q2 (by omega)
  · cases rx
    obtain ⟨t, rfl⟩ := ry
    obtain ⟨its, r, ⟨⟨cls, dd, data, sl⟩, ho, hc, n, hd⟩, hs⟩ := I.tuple hT
    simp only at hc hd
    subst hc hd
    have hi : its.toArray.isEmpty = false := by
      cases its with
      | nil =>
        have e := r.length
        cases xs with
        | nil => exact absurd rfl hne
        | cons a b => simp at e
      | cons a b => rfl
    have road : ∀ {Q' : Value → Shared → Prop} (kk : Int), wpAny (model X.prog X.w) X.A (call (.builtin "tuple.__mul__") [.ref l, .int kk t]) Q' X.xe s → wpAny (model X.prog X.w) X.A (binaryOp .Mult (.ref l) (.int kk t)) Q' X.xe s := fun {Q'} kk hq =>
      wpAny_binaryOp_repeat_ref (T := "tuple") (U := "int") (by decide) ⟨_, ho, rfl⟩ (fun s' => typeIs_int s' kk t) noFill_tuple_mul F.fills_int_mul F.slot_int_rmul repeat_tuple F.slot_int_index.lookup
        (call_meets F.slot_int_rmul (typeIs_int s kk t) F.entry_int_rmul (F.args_int_rmul_2 _ _) (int_rmul_tuple kk t l its.toArray n dd sl) ⟨ho, rfl, ⟨_, ho, rfl⟩, hq⟩)
    by_cases k1 : k = 1
    · subst k1
      refine road 1 (call_meets F.slot_tuple_mul ⟨_, ho, rfl⟩ F.entry_tuple_mul (F.args_tuple_mul_2 _ _) (tuple_mul1 l its.toArray n dd sl t) ⟨ho, ?_⟩)
      exact ⟨.ref l, H, I, rfl, q1 rfl⟩
    · obtain rfl : k = 0 := by omega
      refine road 0 (call_meets F.slot_tuple_mul ⟨_, ho, rfl⟩ F.entry_tuple_mul (F.args_tuple_mul_2 _ _) (tuple_mul0 l its.toArray n dd sl t hi) ⟨ho, ?_⟩)
      exact ⟨.ref s.heap.objs.size, _, I.laid (t' := s.toks) (o := .tup []) (fun b ob q => Heap.get?_push_of_some _ q) (Nat.le_refl _) ⟨Nat.zero_le _, [], .nil, IsTup.new _ _⟩, rfl, q2 (by omega) _ (I.hok.fresh (Nat.le_refl _))⟩

/-! ### for i, x in enumerate(t, start=k), t a tuple -/
def IteT (K : PySem.W.Frag) (a : Addr) (k : Int) : It :=
  ⟨fun i H => ∃ (xs : List V) (x : V), SqT K H a xs ∧ xs[i]? = some x,
    fun i H v H' => ∃ T x, v = .ref T ∧ H T = none ∧ H' = upd H T (.tup [.int (k + (i : Nat)), x]) ∧ ∀ xs, SqT K H a xs → xs[i]? = some x,
    fun i H => ∃ xs : List V, SqT K H a xs ∧ xs.length = i⟩
theorem turn_enumT {P : Program} {w : World} {K : PySem.W.Frag} {elts : List Expr} {kk : Nat} {tpos : Pos} (a e it : Addr) (k : Int) :
    Turn P w K (.Tuple elts kk tpos) (IteT K a k) [e, it] e (fun i h => (∃ old, IsEnum h e it (k + (i : Nat)) old) ∧ h.IsTupleIter it a i ∧ e ≠ it) where
  mem := by simp
  obj := fun i h st b hb => by
    obtain ⟨⟨old, he⟩, ⟨o, ho, hc, hd⟩, _⟩ := st
    rcases (by simpa using hb : b = e ∨ b = it) with rfl | rfl
    · exact ⟨_, he, fun v q => nomatch q⟩
    · exact ⟨o, ho, fun v q => by rw [hd] at q; cases q⟩
  keep := fun i h h' st q => ⟨⟨st.1.choose, q e (by simp) _ st.1.choose_spec⟩, st.2.1.at fun o z => q it (by simp) o z, st.2.2⟩
  item := by
    intro X hP hw hK hc i pins s σ H E I hf st hg
    subst hP hw hK
    obtain ⟨⟨old, he⟩, hit, hne⟩ := st
    obtain ⟨xs, x, hq, hx⟩ := hg
    obtain ⟨its, rv, p, hz⟩ := I.tuple hq
    obtain ⟨u, hu, ru⟩ := rv.get hx
    have hel : e < s.heap.objs.size := Heap.lt_size he
    have hil : it < s.heap.objs.size := by obtain ⟨_, q, _⟩ := hit; exact Heap.lt_size q
    have hai : a ≠ it := by
      intro z
      obtain ⟨o1, h1, c1, _⟩ := p
      obtain ⟨o2, h2, c2, _⟩ := hit
      rw [z, h2] at h1
      cases h1
      rw [c1] at c2
      exact absurd c2 (by decide)
    have hae : e ≠ a := by
      intro z
      obtain ⟨o1, h1, c1, _⟩ := p
      rw [← z, he] at h1
      cases h1
      have c2 : Value.type "enumerate" = Value.type "tuple" := c1
      exact absurd c2 (by decide)
    have hlen : its.toArray.size = xs.length := by rw [List.size_toArray]; exact rv.length.symm
    have hi : i < its.toArray.size := by
      rw [hlen]
      exact (List.getElem?_eq_some_iff.mp hx).1
    refine PySem.wpAny_pyNext_enum_itemC (Draws.tuple (A := X.A.in1) (I.ok.hd hc) it a hai its.toArray) he ⟨hit, show s.heap.IsTuple a its.toArray from p⟩ hi hne (by simp [hne, hae]) fun y h' tk hy ho hst' hT hsz hk => ?_
    obtain rfl : u = y := by
      have z : its.toArray[i]? = some u := by simpa using hu
      exact Option.some.inj (z.symm.trans hy)
    refine ⟨_, rfl, wpAny_letOwnedTupleGo_enum (s := { s with heap := h', toks := tk + 1 }) ho fun h'' he' sb => ?_⟩
    have hT2 := (sb.2 _ (Nat.ne_of_gt hel)).trans hT
    have new : ObjOk X.prog X.w (upd H s.heap.objs.size (.tup [.int (k + (i : Nat)), x])) h'' s.heap.objs.size (.tup [.int (k + (i : Nat)), x]) :=
      ⟨(by decide : 2 ≤ sizeLine), _, .cons ⟨tk, rfl⟩ (.cons ru .nil), ⟨_, hT2, rfl, _, rfl⟩⟩
    have ap : ∀ b, b ∉ [e, it] → b ≠ e ∧ b ≠ it := fun b hb => by simpa using hb
    have I1 := I.turnedNew (t' := tk + 1) (ch := [e, it]) (fun b ob hb q => (sb.2 b (ap b hb).1).trans (hk b ob (ap b hb).1 (ap b hb).2 q)) hf (Nat.le_refl _) new
    refine ⟨.ref s.heap.objs.size, _, I1, rfl, ⟨_, x, rfl, I.hok.fresh (Nat.le_refl _), rfl, fun ys hy => by rw [I.tuple_inj hy hq]; exact hx⟩, ⟨⟨u, ?_⟩, hst'.1.at fun o q => (sb.2 it (Ne.symm hne)).trans q, hne⟩, fun b hb => ?_⟩
    · have e1 : k + ((i + 1 : Nat) : Int) = k + (i : Nat) + 1 := by omega
      rw [e1]; exact he'
    · have hb' : b < s.heap.objs.size := by
        rcases (by simpa using hb : b = e ∨ b = it) with rfl | rfl
        · exact hel
        · exact hil
      rw [upd_ne (Nat.ne_of_lt hb')]
      exact (hf b hb).1
  done := by
    intro X hP hw hK hc i pins s σ H E I hf st hg
    subst hP hw hK
    obtain ⟨⟨old, he⟩, hit, hne⟩ := st
    obtain ⟨xs, hq, hx⟩ := hg
    obtain ⟨its, rv, p, hz⟩ := I.tuple hq
    obtain ⟨f0, f1, f2, f3, f4, f5⟩ := hf it (by simp)
    have hl := rv.length
    have hai : a ≠ it := by
      intro z
      obtain ⟨o1, h1, c1, _⟩ := p
      obtain ⟨o2, h2, c2, _⟩ := hit
      rw [z, h2] at h1
      cases h1
      rw [c1] at c2
      exact absurd c2 (by decide)
    have hsz : i = its.toArray.size := by rw [List.size_toArray]; omega
    subst hsz
    refine PySem.wpAny_pyNext_enum_endD (Draws.tuple (A := X.A.in1) (I.ok.hd hc) it a hai its.toArray) he ⟨hit, show s.heap.IsTuple a its.toArray from p⟩ fun h' eb => ?_
    exact ⟨rfl, I.turned (t' := s.toks) (fun b o hb q => eb b o hb q) f0 f1 f3 f4 f5⟩
  self := fun A i s Q E st h => wpAny_pyIter_enum st.1.choose_spec h
theorem walk_enumT {K : PySem.W.Frag} {a : Addr} {k : Int} {xs : List V} : Walk (IteT K a k) xs.length (fun H => SqT K H a xs) (YPair (fun i => some (.int (k + (i : Nat)))) (fun i => xs[i]?)) := by
  refine ⟨fun i _ hi q => ⟨xs, xs[i], q, by simp [hi]⟩, fun _ q => ⟨xs, q, rfl⟩, fun i H v H' _ q y => ?_⟩
  obtain ⟨T, x, h1, h2, h3, h4⟩ := y
  exact ⟨T, .int (k + (i : Nat)), x, h1, h2, h3, rfl, h4 xs q⟩
theorem callWith_tyK {M : Model} {A : Around} {E : Value → Shared → Prop} {s : Shared} {env : Env} {pos : Pos} {T : String} {e : Expr} {kws : List Keyword} {Q : Value → Shared → Prop}
    (h : wpAny M A (spliced (backTo pos (starEach [e] env))) (fun vs s₁ => wpAny M A (evalAll ((backToKw pos (keywordEach kws env)).map (·.2)))
      (fun kvs s₂ => wpAny M A (call (.type T) vs (((backToKw pos (keywordEach kws env)).filterMap (·.1)).zip kvs)) Q E s₂) E s₁) E s)
    (he : backTo pos (starEach [e] env) = [(false, eval e env)])
    (hall : (backToKw pos (keywordEach kws env)).all (·.1.isSome) = true)
    (hkw : (backToKw pos (keywordEach kws env)).any (·.1.isNone) = false) :
    wpAny M A (callWith pos (.type T) [] (backTo pos (starEach [e] env)) (backToKw pos (keywordEach kws env))) Q E s := by
  rw [he] at h ⊢
  have h2 := PyProof.Rows.evalArgs_kwB (f := .type T) (Q := fun a s₁ => wpAny M A (call (.type T) ([] ++ a.pos) a.kw) Q E s₁) hall h
  unfold callWith
  refine wpAny_bind (wpAny_holding (wpAny_mono h2 (fun a s₁ h₁ => wpAny_bind (wpAny_standAt ?_)) fun _ _ z => z))
  simp only [List.any_cons, List.any_nil, hkw, Bool.or_false]
  refine wpAny_bind (wpAny_pure ?_)
  refine wpAny_bind (wpAny_mono h₁ (fun r s₂ hr => ?_) fun _ _ z => z)
  exact wpAny_bind (wpAny_holding (wpAny_point (wpAny_pure hr)))
def iEnumT (K : PySem.W.Frag) (ta tk : TA) : TI := fun σ H R => ta σ H fun vs H1 => tk σ H1 fun zs H2 => ∃ a xs k, vs = [.ref a] ∧ zs = [.int k] ∧ -(2 ^ 63) ≤ k ∧ k < 2 ^ 63 ∧ SqT K H2 a xs ∧ R (IteT K a k) H2
theorem pi_enumT {e e2 : Expr} {ta tk : TA} {p pos tpos kpos : Pos} {elts : List Expr} {kk : Nat} (hg : Gl X "enumerate") (hm : X.mg "enumerate" = none) (ha : PA X [e] ta) (hk : PK X [⟨some (Str.ofString "start"), e2, kpos⟩] tk)
    (hs : backTo pos (starEach [e] X.env) = [(false, eval e X.env)] := by rfl)
    (hall : (backToKw pos (keywordEach [⟨some (Str.ofString "start"), e2, kpos⟩] X.env)).all (·.1.isSome) = true := by rfl) (hnone : (backToKw pos (keywordEach [⟨some (Str.ofString "start"), e2, kpos⟩] X.env)).any (·.1.isNone) = false := by rfl)
    (hks : (backToKw pos (keywordEach [⟨some (Str.ofString "start"), e2, kpos⟩] X.env)).filterMap (·.1) = [Str.ofString "start"] := by rfl) :
    PI X (.Tuple elts kk tpos) (.Call (.Name "enumerate" p) [e] [⟨some (Str.ofString "start"), e2, kpos⟩] pos) (iEnumT X.K ta tk) := by
  refine ⟨fun pins s σ H R I h => ?_⟩
  refine wpAny_Call_Name_kw (ld_blt I hg hm boot_enumerate ?_)
  refine callWith_tyK (thn (ha.run pos pins s σ H _ I h) fun us s1 ⟨vs, H1, I1, r1, q1⟩ => thn (hk.run pos pins s1 σ H1 _ I1 q1) fun ws s2 ⟨zs, H2, I2, r2, q2⟩ => ?_) hs hall hnone
  obtain ⟨a, xs, k, rfl, rfl, k0, k1, hq, q⟩ := q2
  obtain rfl := Vals.ref1 r1
  obtain ⟨w1, rfl, tk1, rfl⟩ := vals1 r2
  rw [hks]
  obtain ⟨its, rv, pt, hz⟩ := I2.tuple hq
  refine PySem.enum_begins_start (PySem.begins_tuple a its.toArray) (show s2.heap.IsTuple a its.toArray from pt) k0 k1 fun h' he hit hsz hkeep => wpAny_pyIter_enum he ?_
  have I3 : Inv X pins σ H2 { s2 with heap := h' } := I2.kept (t' := s2.toks) hkeep
  have he0 : IsEnum h' (s2.heap.objs.size + 1) s2.heap.objs.size (k + ((0 : Nat) : Int)) .none := by
    rw [show k + ((0 : Nat) : Int) = k by omega]
    exact he
  have hit0 : h'.IsTupleIter s2.heap.objs.size a 0 := ⟨_, hit, rfl, rfl⟩
  refine ⟨s2.heap.objs.size + 1, [s2.heap.objs.size + 1, s2.heap.objs.size], _, _, H2, rfl, I3, turn_enumT a (s2.heap.objs.size + 1) s2.heap.objs.size k, ?_, fun b hb => ?_, q⟩
  · exact ⟨⟨.none, he0⟩, hit0, Nat.succ_ne_self _⟩
  · have hle : s2.heap.objs.size ≤ b := by
      rcases (by simpa using hb : b = s2.heap.objs.size + 1 ∨ b = s2.heap.objs.size) with z | z
      · rw [z]; exact Nat.le_succ _
      · rw [z]; exact Nat.le_refl _
    exact I2.fpOk hle (I2.hok.fresh hle)
end
end CD
/-! own rules 3: len(set(t)), repr of data, sorted(t, reverse=True) -/
namespace CD
open PySem PySem.Spec PyProof.Rows L2
section
variable {X : Cx}
/-! ### len(set(t)), t a tuple of unlike ints -/
def tLenSetT (K : PySem.W.Frag) (ta : TE) : TE := fun σ H Q => ta σ H fun x H1 => ∃ (l : Addr) (ns : List Int), x = .ref l ∧ SqT K H1 l (ns.map V.int) ∧ ns.Nodup ∧ ns.length ≤ 1000 ∧ Q (.int (ns.length : Nat)) H1
theorem pe_lenSetT {a : Expr} {ta : TE} {p p2 q pos : Pos} (hg : Gl X "len") (hm : X.mg "len" = none) (hg2 : Gl X "set") (hm2 : X.mg "set" = none) (ha : PE X a ta) (hc : X.calm = true := by rfl)
    (na : starEach [a] X.env = (false, eval a X.env) :: starEach [] X.env := by rfl) : PE X (.Call (.Name "len" p) [.Call (.Name "set" p2) [a] [] q] [] pos) (tLenSetT X.K ta) := by
  refine ⟨fun pins s σ H Q I h => ?_⟩
  refine Call_ (ld_blt I hg hm boot_len (PyProof.Rows.callWith_builtin1 (PyProof.Rows.args_cons ?_ rfl) rfl rfl))
  refine Call_ (ld_blt I hg2 hm2 boot_set (PyProof.Rows.callWith_type1 (PyProof.Rows.args_cons (thn (ha.run pins s σ H _ I h) fun v s1 ⟨x, H1, I1, r1, l, ns, ex, hq, hnd, hl, q1⟩ => PyProof.Rows.args_nil ?_) na) na rfl))
  subst ex
  cases r1
  obtain ⟨its, r, pl, hz⟩ := I1.tuple hq
  refine call_set_tupI ns (I1.ok.hd hc) (show s1.heap.IsTuple l its.toArray from pl) (by simpa using ints_of_vals r) (by unfold scanBound; omega) fun h' tk c hS hcl hk => PyProof.Rows.args_nil ?_
  obtain ⟨o, es, ep, t, ho, hex, hdt, g, nd, hm3, hb, hf, hn, _, _⟩ := hS
  have hlen : es.size = ns.length := by
    have e1 : (es.toList.map keyOf).Perm ns := (List.perm_ext_iff_of_nodup nd hnd).mpr fun j => by
      have z : decide (j ∈ ns) = true ↔ j ∈ es.toList.map keyOf := hm3 j
      rw [decide_eq_true_eq] at z
      exact z.symm
    have := e1.length_eq
    simpa using this
  have I2 : Inv X pins σ H1 { s1 with heap := h', toks := tk } := I1.kept hk
  exact call_len_set ho hex hdt hf (by omega) ⟨.int ns.length, H1, I2.tok _, ⟨_, by rw [hlen]⟩, q1⟩

/-! ### repr of data -/
def rRepr (K : PySem.W.Frag) : List V → Hp → VK → Prop := fun vs H Q => ∃ (x : V) (d : PyData), vs = [x] ∧ Dp K H x d ∧ d.showable = true ∧ d.hasDict = false ∧ d.depth ≤ 60 ∧ d.shown.length ≤ sizeLine ∧ Q (.str d.shown) H
theorem call_reprD (hg : X.A.guards = some []) (hu : X.A.units + 64 < cLine) : CallR X (.builtin "repr") (rRepr X.K) := by
  intro pins s σ H xs us Q I r h
  obtain ⟨x, d, rfl, hd, hs, hn, hp, hz, q⟩ := h
  obtain ⟨u, rfl, ru⟩ := vals1 r
  obtain ⟨as, rd⟩ := Dp.reads I d x u hd ru
  have nd : d.hasDict = true → sysModules ∉ as := fun e => by rw [hn] at e; cases e
  cases rd with
  | list h1 h2 h3 h4 => exact repr_of_reads' (.list h1 h2 h3 h4) hs nd hg (by omega) (fun _ _ e => e) (fun h' u tk hk => ⟨.str _, H, I.kept hk, ⟨_, rfl⟩, q⟩) hz
  | tuple h1 h2 h3 h4 => exact repr_of_reads' (.tuple h1 h2 h3 h4) hs nd hg (by omega) (fun _ _ e => e) (fun h' u tk hk => ⟨.str _, H, I.kept hk, ⟨_, rfl⟩, q⟩) hz
  | dict h1 h2 h3 h4 h5 => exact repr_of_reads' (.dict h1 h2 h3 h4 h5) hs nd hg (by omega) (fun _ _ e => e) (fun h' u tk hk => ⟨.str _, H, I.kept hk, ⟨_, rfl⟩, q⟩) hz
  | int i t => exact PySem.P.repr_of_int (by simpa [PyData.showable] using hs) ⟨.str _, H, I.tok _, ⟨_, rfl⟩, q⟩
  | none => exact PySem.P.repr_of_none ⟨.str _, H, I.tok _, ⟨_, rfl⟩, q⟩
  | bool b => exact PySem.P.repr_of_bool ⟨.str _, H, I.tok _, ⟨_, rfl⟩, q⟩
  | str y t => exact PySem.P.repr_of_str ⟨.str _, H, I.tok _, ⟨_, rfl⟩, q⟩ hz

/-! ### sorted(t, reverse=True), t a tuple of ints -/
theorem collect_tup {prog : Program} {w : World} {A : Around} {E : Value → Shared → Prop} {s : Shared} {l : Addr} {vs : List Value} {Q : List Value → Shared → Prop} (hl : IsTup s.heap l vs.toArray) (hsz : vs.length ≤ sizeLine)
    (h : Q vs { s with heap := (s.heap.push (seqObj "list" #[] 0)).update s.heap.objs.size (Obj.mapSeq (· ++ vs.toArray)) }) : wpAny (model prog w) A (collect (.ref l)) Q E s := by
  obtain ⟨o, ho, hc, n, hd⟩ := id hl
  have e0 : (s.heap.push (seqObj "list" #[] 0)).get? s.heap.objs.size = some (seqObj "list" #[] 0) := Heap.get?_push_size _ rfl
  have e1 : (s.heap.push (seqObj "list" #[] 0)).get? l = some o := Heap.get?_push_of_some _ ho
  unfold collect
  refine wpAny_bind (wpAny_runValue (codeAny_builtin entry_proto_collect' (wpAny_bind (wpAny_newList (wpAny_pure ⟨Code.quiet_builtin _ (by decide +kernel), codeAny_builtin entry_list_iadd' ?_⟩)))))
  show wpAny _ _ (Builtin.List.listExtendWith (.ref s.heap.objs.size) (.ref l) (.ref s.heap.objs.size)) _ _ { s with heap := s.heap.push (seqObj "list" #[] 0) }
  unfold Builtin.List.listExtendWith
  refine wpAny_bind (wpAny_typeOf (T := "tuple") ⟨o, e1, hc⟩ ?_)
  rw [if_pos (by rw [show (Value.type "tuple" == Value.type "tuple") = true by rfl]; simp)]
  refine wpAny_bind (listItems_at e1 hd (wpAny_bind (listItems_at (xs := #[]) (n := 0) e0 rfl ?_)))
  rw [if_neg (by simp)]
  refine wpAny_bind (listUpdate_at (xs := #[]) (n := 0) e0 rfl (wpAny_pure ?_) (Nat.zero_le _) (by show (#[] ++ vs.toArray).size ≤ sizeLine + 1; simp only [Array.size_append, List.size_toArray, List.length_nil]; omega))
  refine wpAny_bind (wpAny_load (get?_update_seq e0 _) ?_)
  show wpAny _ _ (pure ((#[] : Array Value) ++ vs.toArray).toList) Q E _
  have e3 : ((#[] : Array Value) ++ vs.toArray).toList = vs := by simp
  rw [e3]
  exact wpAny_pure h
theorem sorted_tup {prog : Program} {w : World} {A : Around} {E : Value → Shared → Prop} {s : Shared} {l : Addr} {vs : List Value} {ns : List Int} {b : Bool} {Q : Value → Shared → Prop} (hl : IsTup s.heap l vs.toArray) (hz : vs.length ≤ sizeLine) (hi : IntsAre vs ns)
    (h : ∀ (out : Array Value) (ns' : List Int), IntsAre out.toList ns' → ns'.Perm ns → OrdB b ns' → Q (.ref (s.heap.objs.size + 1)) { s with heap := sortedAll s.heap vs out }) :
    wpAny (model prog w) A (call (.builtin "sorted") [.ref l] [(Str.ofString "reverse", .bool b)]) Q E s := by
  refine call_function_entry_kw kind_sorted plain_sorted entry_sorted (PyProof.Rows.args_sorted_rev _ _) ?_
  unfold Builtin.«sorted»
  refine wpAny_bind (m := checkCount "sorted" 1 1 _) (wpAny_pure (wpAny_bind (collect_tup hl hz (wpAny_bind (wpAny_newList ?_ hz)))))
  have z0 : (s.heap.push (seqObj "list" #[] 0)).objs.size = s.heap.objs.size + 1 := Heap.size_push ..
  generalize hg1 : (s.heap.push (seqObj "list" #[] 0)).update s.heap.objs.size (Obj.mapSeq (· ++ vs.toArray)) = h1
  have z1 : h1.objs.size = s.heap.objs.size + 1 := by rw [← hg1, Heap.size_update, z0]
  have k1 : ∀ c u, s.heap.get? c = some u → h1.get? c = some u := fun c u q => by
    have lt := Heap.lt_size q
    rw [← hg1, Heap.get?_update_ne _ _ _ _ (Nat.ne_of_lt lt)]
    exact Heap.get?_push_of_some _ q
  have o1 : (h1.push (seqObj "list" vs.toArray 0)).get? (s.heap.objs.size + 1) = some (seqObj "list" vs.toArray 0) := by
    rw [← z1]; exact Heap.get?_push_size _ rfl
  show wpAny _ _ _ _ _ { s with heap := h1.push (seqObj "list" vs.toArray 0) }
  rw [z1]
  refine wpAny_bind (wpAny_holding (wpAny_call_entry_kw slot_list_sort ⟨_, o1, rfl⟩ entry_list_sort ?_ (PyProof.Rows.args_list_sort_rev _ _)))
  refine SrtR.list_sort_ordR (b := b) SrtO.swo_int o1 hz (fun h2 => SrtO.ints_sortable hi h2) fun out hs hb => ⟨_, rfl, wpAny_pure ⟨_, rfl, ?_⟩⟩
  obtain ⟨ns', k1, k2, k3⟩ := SrtR.ints_outR hi hs hb
  have := h _ ns' k1 k2 k3
  rw [← hg1]
  exact this
/-- sorted(t, reverse=b) -/
def rSortedT (K : PySem.W.Frag) (b : Bool) : List V → List V → Hp → VK → Prop := fun vs zs H Q => ∃ (a : Addr) (ns : List Int), vs = [V.ref a] ∧ zs = [.bl b] ∧ SqT K H a (ns.map V.int) ∧
  ∀ (ns' : List Int) (p : Addr), ns'.Perm ns → OrdB b ns' → H p = none → Q (.ref p) (upd H p (.lst (ns'.map V.int)))
theorem cr_sortedTRev {b : Bool} : CallRK X (.builtin "sorted") [Str.ofString "reverse"] (rSortedT X.K b) := by
  intro pins s σ H vs zs us ws Q I r rz h
  obtain ⟨a, ns, rfl, rfl, hs, q⟩ := h
  obtain rfl := Vals.ref1 r
  obtain ⟨w1, rfl, e1⟩ := vals1 rz
  obtain rfl : w1 = Value.bool b := e1
  obtain ⟨its, rv, hl, hz⟩ := I.tuple hs
  refine sorted_tup hl (by rw [← rv.length]; exact hz) rv.ints fun out ns' k1 k2 k3 => ?_
  obtain ⟨ep, he'⟩ := PyProof.Rows.sortedAll_at s.heap its out
  have hlen : (ns'.map V.int).length ≤ sizeLine := by
    rw [List.length_map, k2.length_eq]
    rw [List.length_map] at hz
    exact hz
  have e0 : out.toList.toArray = out := Array.toArray_toList
  exact ⟨.ref _, upd H (s.heap.objs.size + 1) (.lst (ns'.map V.int)), I.laid (t' := s.toks) (fun _ _ => PyProof.Rows.sortedAll_old) (Nat.le_succ _) ⟨hlen, _, ep, vals_of_ints k1, by rw [e0]; exact he'⟩, rfl, q _ _ k2 k3 (I.hok.fresh (Nat.le_succ _))⟩
end

/-! ### a def that asks that nothing is under repr -/
structure GOk (P : Program) (w : World) (K : PySem.W.Frag) (mg : Str → Option Value) (base : Heap) (k : Nat) (f : Addr) (fd : FuncData) (ps : List Str) (sp : Sp) : Prop where
  len : ∀ vs H Q E, sp vs H Q E → vs.length = ps.length
  run : ∀ (A : Around) (outer : List Env) (s : Shared) (H : Hp) (args : Args) (us : List Value) (vs : List V) (Q : VK) (E : XK), A.guards = some [] → Room k A → Env0 P w K mg base A outer s H → BindsTo s fd args (ps.zip us) → Vals vs us → sp vs H Q E →
    codeAny (model P w) A (.call (.ref f) args) (CR CX0 outer P w H s Q E) s
end CD
/-! own rules 4: defs that call repr, the law's end over such -/
namespace CD
open PySem PySem.Spec PyProof.Rows L2
section
variable {P : Program} {w : World} {K : PySem.W.Frag} {mg : Str → Option Value} {base : Heap}
theorem g_ok {x qual : Str} {st : Stmt} {f : Addr} {fd : FuncData} {N ps : List Str} {k : Nat} {sp : Sp} (F : Fun K x qual st f fd) (S : FnScope N ps (defScope st)) (len : ∀ vs H Q E, sp vs H Q E → vs.length = ps.length)
    (body : ∀ (cdv : Value) (A : Around) (outer : List Env) (s : Shared) (H : Hp) (vs : List V) (Q : VK) (E : XK), A.guards = some [] → Room k (A.deeper (envOfC qual (defScope st) s.heap.objs.size f cdv)) → sp vs H Q E →
      ∃ t, PSs (cxOf CX0 P w K mg base N qual (defScope st) f cdv A outer s H E).nox (defBody st) t ∧ t { nx := fun _ H' => Q .non H', rt := Q } (start N vs) H) : GOk P w K mg base (k + 1) f fd ps sp := by
  obtain ⟨oc, od, kV, doc, pm, an, cdv, ct, osl, rfl, lk, hcd⟩ := F.ex
  refine ⟨len, fun A outer s H args us vs Q E hg hr e0 hb r hsp => ?_⟩
  -- the promise at this one A, as if there were no other
  have one : FnOk P w K mg base CX0 (k + 1) f (PySem.W.fnOf x qual (defArgs st) (defBody st) (defScope st) .none kV doc pm an cdv ct) ps
      (fun vs' H' Q' E' => sp vs' H' Q' E') → codeAny (model P w) A (.call (.ref f) args) (CR CX0 outer P w H s Q E) s := fun G => G.run A outer s H args us vs Q E hr e0 hb r hsp
  have keepB : ∀ b o, base.get? b = some o → s.heap.get? b = some o := fun b o e => (e0.bs b o e).1
  refine codeAny_call_function hr.depth ((e0.mod.kin.keeps keepB) _ _ lk) rfl S.co S.gen rfl (PySem.W.codeRec_of (e0.mod.kin.keeps keepB) hcd) (hb _ _ _ _ ?_)
  refine wpAny_newFunctionEnv_cells S.kind (fun y hy => ?_) fun env he s1 x1 => ?_
  · rcases S.par y.1 (List.of_mem_zip hy).1 with q | q
    · exact .inl q
    · exact .inr ⟨q, PySem.W.cellsFrom_some _ _ _ (.inl q)⟩
  subst he
  refine ⟨(e0.mod.nolimit.keeps keepB).keeps x1.toInCall.keep, codeAny_func ?_⟩
  obtain ⟨t, ht, hq⟩ := body cdv A outer s H vs Q E hg (hr.deeper _) hsp
  refine wpAny_mono (ht.nox.run [] s1 (start N vs) H _ (inv_start S hr.hd e0 (len _ _ _ _ hsp) r x1) hq) (fun fl s' hs => ?_) fun e s' hs => hs
  match fl, hs with
  | .ret u, ⟨v, σ', H', J, rv, q⟩ => exact ⟨v, H', J.os, J.bare, J.base, J.hok, rv, q⟩
  | .next, ⟨σ', H', J, q⟩ => exact ⟨V.non, H', J.os, J.bare, J.base, J.hok, rfl, q⟩
  | .brk, ⟨_, _, _, q⟩ => exact False.elim q
  | .cont, ⟨_, _, _, q⟩ => exact False.elim q
end
section
variable {X : Cx} {k : Nat} {f : Addr} {fd : FuncData} {ps : List Str} {sp : Sp} {x : Str} {p pos : Pos} {e : Expr} {es : List Expr} {t : TA}
theorem pe_callG (G : GOk X.prog X.w X.K X.mg X.base k f fd ps sp) (hgd : X.A.guards = some []) (hr : Room k X.A) (hg : Gl X x) (hm : X.mg x = some (.ref f)) (hk : PySem.W.keepIn X.K (.ref f) = true) (hb : Binds X.K fd ps [])
    (ha : PA X (e :: es) t) (hdb : (x == ("__debug__" : Str)) = false := by decide) (he : starEach (e :: es) X.env = (false, eval e X.env) :: starEach es X.env := by rfl) (hpl : (backTo pos (starEach es X.env)).any (·.1) = false := by rfl) :
    PE X (.Call (.Name x p) (e :: es) [] pos) (tCall sp [] E0 t) := by
  refine ⟨fun pins s σ H Q I h => wpAny_Call_Name_kw (ld_glob I hg hm ?_ hdb)⟩
  refine PySem.W.callWith_K (h₀ := X.base) I.ok.mod.kin hk (thn (ha.run pos pins s σ H _ I h) fun us s1 ⟨vs, H1, I1, r, q⟩ => ⟨I1.kIn, ?_⟩) he hpl
  have q' : sp vs H1 Q E0 := by
    have z : sp (vs ++ []) H1 Q E0 := q
    rwa [List.append_nil] at z
  have hl : (us ++ []).length = ps.length := by rw [List.append_nil, ← r.length]; exact G.len _ _ _ _ q'
  have hbb := hb s1 us I1.kIn hl
  rw [List.append_nil] at hbb
  refine wpAny_call (codeAny_mono (G.run X.A X.stack s1 H1 ⟨us, []⟩ us vs Q E0 hgd hr I1.env0 hbb r q') fun r s' hq => ?_)
  match r, hq with
  | .error _, hq => exact False.elim hq
  | .ok (.ret u), hq => exact I1.after hq
  | .ok .next, hq => exact False.elim hq
  | .ok .brk, hq => exact False.elim hq
  | .ok .cont, hq => exact False.elim hq
end
/-! ### the law's end -/
/-- the abstract heap at the law's entry: the script alone, if it is none of the module's own objects -/
def H00 (K : PySem.W.Frag) (a : Addr) (o : Obj) (ns : List Int) : Hp := fun b => if b = a ∧ K.lookup a = none then some (.frz o (.lst (ns.map V.int))) else none
theorem law_g {P : Program} {w : World} {K : PySem.W.Frag} {mg mb : Str → Option Value} {k : Nat} {fa a : Addr} {fd : FuncData} {x : Str} {sp : Sp} {s₁ : Shared} {vs : List Value} {ns : List Int}
    (KX : K.In s₁.heap) (hns : s₁.heap.Ns mainGlobals mg) (hb : s₁.heap.Ns builtinsNs mb) (hbb : ∀ x : Str, x ≠ "__name__" → mb x = bootBuiltins x) (hlim : s₁.heap.NoLimit) (hg : s₁.gens = #[])
    (ha : s₁.heap.get? a = some { cls := .type "list", data := .seq vs.toArray }) (hi : IntsAre vs ns) (hl : ns.length ≤ sizeLine) (hr : Room k callerA)
    (F : ∀ base : Heap, K.In base → base.Ns mainGlobals mg → GOk P w K mg base k fa fd [x] sp) (hbind : ∀ (s : Shared) (u : Value), BindsTo s fd ⟨[u], []⟩ [(x, u)])
    (hsp : ∀ H : Hp, SqL K H a (ns.map V.int) → sp [.ref a] H (fun v _ => v = .bl true) fun _ _ _ => False) :
    codeAny (model P w) callerA (.call (.ref fa) ⟨[.ref a], []⟩) (fun r s' => r = .ok (.ret (.bool true)) ∧ OldK s₁.heap s'.heap ∧ s'.os = s₁.os ∧ AllBare s'.gens) s₁ := by
  have rv := vals_ints hi
  generalize hO : ({ cls := .type "list", data := .seq vs.toArray } : Obj) = o at ha
  generalize hH : H00 K a o ns = H
  have tr : ∀ b u, H b = some u → b = a ∧ K.lookup a = none ∧ u = .frz o (.lst (ns.map V.int)) := fun b u e => by
    rw [← hH] at e
    unfold H00 at e
    by_cases c : b = a ∧ K.lookup a = none
    · rw [if_pos c] at e; exact ⟨c.1, c.2, (Option.some.inj e).symm⟩
    · rw [if_neg c] at e; cases e
  have own : s₁.heap.get? a = some { cls := .type "list", data := .seq vs.toArray } := by rw [hO]; exact ha
  have okF : HOk P w H s₁.heap := fun b u e => by
    obtain ⟨rfl, _, rfl⟩ := tr b u e
    exact ⟨ha, by rw [List.length_map]; exact hl, vs, _, rv, own⟩
  have free : ∀ {b : Addr} {u : Obj}, s₁.heap.get? b = some u → (∀ es ep, o.data = .dict es ep → False) → (b = a → False) → H b = none := fun {b u} _ _ n => by
    cases q : H b with
    | none => rfl
    | some z => exact absurd (tr b z q).1 n
  have ndata : ∀ es ep, o.data = Data.dict es ep → False := fun es ep e => by rw [← hO] at e; cases e
  have hidn : ∀ {b : Addr} {m : Str → Option Value}, s₁.heap.Ns b m → (hidT s₁.heap H).Ns b m := fun {b m} ⟨u, es, ep, e, d, r⟩ => ⟨u, es, ep, hidT_get e (free e ndata fun z => by
    subst z
    rw [ha] at e
    cases e
    exact ndata _ _ d), d, r⟩
  have kin : K.In (hidT s₁.heap H) := fun b u e => hidT_get (KX b u e) (by
    cases q : H b with
    | none => rfl
    | some z =>
      obtain ⟨rfl, n, _⟩ := tr b z q
      rw [n] at e; cases e)
  have sq : SqL K H a (ns.map V.int) := by
    cases hk : K.lookup a with
    | none => exact .inl (.inr ⟨o, by rw [← hH]; unfold H00; rw [if_pos ⟨rfl, hk⟩]⟩)
    | some u =>
      have e := KX a u hk
      rw [own] at e
      cases e
      exact .inr ⟨_, vs.toArray, _, hk, rfl, rfl, rfl, by rw [List.size_toArray, hi.length]; exact hl, by simpa using rv⟩
  have hM : Mod K mg (hidT s₁.heap H) := ⟨kin, hidn hns, ⟨mb, hidn hb, hbb⟩, let ⟨mc, h1, h2⟩ := hlim; ⟨mc, hidn h1, h2⟩⟩
  have e0 : Env0 P w K mg (hidT s₁.heap H) callerA [] s₁ H := ⟨rfl, hM, fun b u e => of_hidT e, Nat.le_of_eq (hidT_size _ _), trivial, fun b hm => (by cases hm), okF, .of_eq hg⟩
  refine codeAny_mono ((F _ kin (hidn hns)).run callerA [] s₁ H ⟨[.ref a], []⟩ [.ref a] [.ref a] _ _ rfl hr e0 (hbind s₁ (.ref a)) (.cons rfl .nil) (hsp H sq)) fun r s' h => ?_
  match r, h with
  | .error _, h => exact False.elim h
  | .ok .next, h => exact False.elim h
  | .ok .brk, h => exact False.elim h
  | .ok .cont, h => exact False.elim h
  | .ok (.ret u), ⟨v, H', os, bare, un, ok', r', q⟩ =>
    obtain rfl : v = .bl true := q
    obtain rfl : u = Value.bool true := r'
    refine ⟨rfl, OldK.of_keep fun b u e => ?_, os, bare⟩
    cases q : H b with
    | none => exact un.keep b u e q (fun z => by cases z) (fun z => by cases z)
    | some z =>
      obtain ⟨rfl, _, rfl⟩ := tr b z q
      obtain ⟨e1, _⟩ := okF b _ q
      obtain ⟨e2, _⟩ := ok' b _ (un.frzs b o _ q)
      rw [e] at e1; cases e1
      exact e2
theorem walk_g {l : PySem.W.OpenLaw} {n k : Nat} {q : Program} {loose : List Str} {XP : (Str → Option Value) → Heap → Prop} {YP : World → Heap → Prop} {d : DefRec} {K : Params → PySem.W.Frag} {sp : World → Sp} {x : Str}
    (hn : l.most = some n) (hn2 : n ≤ sizeLine) (hdf : d.params.defaults = []) (hr : Room k callerA)
    (hY : ∀ (w : World) (h : Heap), YP w h → (K w.params).In h)
    (F : ∀ (w : World) (mg : Str → Option Value) (fa : Addr) (h : Heap), (K w.params).In h → h.Ns mainGlobals mg → mg d.name = some (.ref fa) →
      ∃ fd : FuncData, (∀ (s : Shared) (u : Value), BindsTo s fd ⟨[u], []⟩ [(x, u)]) ∧
        ∀ base : Heap, (K w.params).In base → base.Ns mainGlobals mg → GOk l.prog w (K w.params) mg base k fa fd [x] (sp w))
    (hsp : ∀ (w : World) (H : Hp) (a : Addr) (ns : List Int), ns.length ≤ n → SqL (K w.params) H a (ns.map V.int) → sp w [.ref a] H (fun v _ => v = .bl true) fun _ _ _ => False) :
    PySem.W.WalkO q loose XP YP l.row.toRowW d [] (fun f vs => PySem.call f vs) := by
  refine Att.attach_call hn hdf fun w s₀ s₁ mg mb fa o pm cd doc a vs ns G Y ho hd hcd hmg hobj hints hlen hg => ?_
  obtain ⟨fd, hb, hF⟩ := F w mg fa _ (hY w _ Y) G.T.g hmg
  exact law_g (hY w _ Y) G.T.g G.T.b G.T.builtins G.T.nolimit hg hobj hints (Nat.le_trans hlen hn2) hr hF hb fun H hS => hsp w H a ns hlen hS
end CD
/-! own words 5: a def of the text and its promise, by name -/
namespace CD
open PySem PySem.Spec PyProof.Rows L2
/-- no built-in's name is the text's own -/
structure Z (mg : Str → Option Value) : Prop where
  «all» : mg "all" = none
  «any» : mg "any" = none
  «bool» : mg "bool" = none
  «divmod» : mg "divmod" = none
  «enumerate» : mg "enumerate" = none
  «int» : mg "int" = none
  «isinstance» : mg "isinstance" = none
  «len» : mg "len" = none
  «list» : mg "list" = none
  «max» : mg "max" = none
  «min» : mg "min" = none
  «range» : mg "range" = none
  «repr» : mg "repr" = none
  «reversed» : mg "reversed" = none
  «set» : mg "set" = none
  «sorted» : mg "sorted" = none
  «str» : mg "str" = none
  «sum» : mg "sum" = none
  «tuple» : mg "tuple" = none
  «zip» : mg "zip" = none
/-- a def of the text, where it stands -/
def Def (K : PySem.W.Frag) (mg : Str → Option Value) (x : Str) (st : Stmt) (ps : List Str) : Prop :=
  ∃ f fd, Fun K x x st f fd ∧ mg x = some (.ref f) ∧ Binds K fd ps []
/-- what is known of a def by its name -/
def Cal (P : Program) (w : World) (K : PySem.W.Frag) (mg : Str → Option Value) (base : Heap) (k : Nat) (x : Str) (ps : List Str) (sp : Sp) : Prop :=
  ∃ f fd, FnOk P w K mg base CX0 k f fd ps sp ∧ mg x = some (.ref f) ∧ PySem.W.keepIn K (.ref f) = true ∧ Binds K fd ps []
def CalG (P : Program) (w : World) (K : PySem.W.Frag) (mg : Str → Option Value) (base : Heap) (k : Nat) (x : Str) (ps : List Str) (sp : Sp) : Prop :=
  ∃ f fd, GOk P w K mg base k f fd ps sp ∧ mg x = some (.ref f) ∧ PySem.W.keepIn K (.ref f) = true ∧ Binds K fd ps []
section
variable {P : Program} {w : World} {K : PySem.W.Frag} {mg : Str → Option Value} {base : Heap} {x : Str} {st : Stmt} {N ps : List Str} {k : Nat} {sp : Sp}
theorem Def.cal (D : Def K mg x st ps) (S : FnScope N ps (defScope st)) (len : ∀ vs H Q E, sp vs H Q E → vs.length = ps.length)
    (body : ∀ (f : Addr) (cdv : Value) (A : Around) (outer : List Env) (s : Shared) (H : Hp) (vs : List V) (Q : VK) (E : XK), Room k (A.deeper (envOfC x (defScope st) s.heap.objs.size f cdv)) → sp vs H Q E →
      ∃ t, PSs (cxOf CX0 P w K mg base N x (defScope st) f cdv A outer s H E).nox (defBody st) t ∧ t { nx := fun _ H' => Q .non H', rt := Q } (start N vs) H) : Cal P w K mg base (k + 1) x ps sp := by
  obtain ⟨f, fd, F, m, b⟩ := D
  exact ⟨f, fd, F.ok S len fun cdv A outer s H vs Q E => body f cdv A outer s H vs Q E, m, F.kp, b⟩
theorem Def.calG (D : Def K mg x st ps) (S : FnScope N ps (defScope st)) (len : ∀ vs H Q E, sp vs H Q E → vs.length = ps.length)
    (body : ∀ (f : Addr) (cdv : Value) (A : Around) (outer : List Env) (s : Shared) (H : Hp) (vs : List V) (Q : VK) (E : XK), A.guards = some [] → Room k (A.deeper (envOfC x (defScope st) s.heap.objs.size f cdv)) → sp vs H Q E →
      ∃ t, PSs (cxOf CX0 P w K mg base N x (defScope st) f cdv A outer s H E).nox (defBody st) t ∧ t { nx := fun _ H' => Q .non H', rt := Q } (start N vs) H) : CalG P w K mg base (k + 1) x ps sp := by
  obtain ⟨f, fd, F, m, b⟩ := D
  exact ⟨f, fd, g_ok F S len fun cdv A outer s H vs Q E => body f cdv A outer s H vs Q E, m, F.kp, b⟩
theorem Cal.mono {j : Nat} (C : Cal P w K mg base j x ps sp) (h : j ≤ k) : Cal P w K mg base k x ps sp := by
  obtain ⟨f, fd, F, r⟩ := C
  exact ⟨f, fd, F.mono h, r⟩
theorem Cal.imp {sp' : Sp} (C : Cal P w K mg base k x ps sp) (h : ∀ vs H Q E, sp' vs H Q E → sp vs H Q E) : Cal P w K mg base k x ps sp' := by
  obtain ⟨f, fd, F, r⟩ := C
  exact ⟨f, fd, F.imp h, r⟩
end
section
variable {X : Cx} {k : Nat} {ps : List Str} {sp : Sp} {x : Str} {p pos : Pos} {e : Expr} {es : List Expr} {t : TA}
theorem pe_cal (C : Cal X.prog X.w X.K X.mg X.base k x ps sp) (hr : Room k X.A) (hg : Gl X x) (ha : PA X (e :: es) t) (hdb : (x == ("__debug__" : Str)) = false := by decide)
    (he : starEach (e :: es) X.env = (false, eval e X.env) :: starEach es X.env := by rfl) (hpl : (backTo pos (starEach es X.env)).any (·.1) = false := by rfl) : PE X (.Call (.Name x p) (e :: es) [] pos) (tCall sp [] E0 t) := by
  obtain ⟨f, fd, F, m, kp, b⟩ := C
  exact pe_call F hr hg m kp b .nil pass0 ha hdb he hpl
theorem pe_cal0 (C : Cal X.prog X.w X.K X.mg X.base k x ps sp) (hr : Room k X.A) (hg : Gl X x) (hdb : (x == ("__debug__" : Str)) = false := by decide) : PE X (.Call (.Name x p) [] [] pos) (tCall sp [] E0 tNil) := by
  obtain ⟨f, fd, F, m, kp, b⟩ := C
  exact pe_call0 F hr hg m kp b .nil pass0 hdb
theorem pe_calG (C : CalG X.prog X.w X.K X.mg X.base k x ps sp) (hgd : X.A.guards = some []) (hr : Room k X.A) (hg : Gl X x) (ha : PA X (e :: es) t) (hdb : (x == ("__debug__" : Str)) = false := by decide)
    (he : starEach (e :: es) X.env = (false, eval e X.env) :: starEach es X.env := by rfl) (hpl : (backTo pos (starEach es X.env)).any (·.1) = false := by rfl) : PE X (.Call (.Name x p) (e :: es) [] pos) (tCall sp [] E0 t) := by
  obtain ⟨f, fd, F, m, kp, b⟩ := C
  exact pe_callG F hgd hr hg m kp b ha hdb he hpl
end
/-- what was tracked stays; a new object besides -/
theorem same_upd {H : Hp} {p : Addr} {o : HO} (h : H p = none) : Same H (upd H p o) := fun b x e => by
  rw [upd_ne (ne_of_none e h)]
  exact e
theorem _root_.L2.Same.tup {K : PySem.W.Frag} {H H' : Hp} {a : Addr} {xs : List V} (e : Same H H') (h : SqT K H a xs) : SqT K H' a xs := by
  rcases h with (h | ⟨o, h⟩) | h
  · exact .inl (.inl (e _ _ h))
  · exact .inl (.inr ⟨o, e _ _ h⟩)
  · exact .inr h
/-- a comprehension in which each turn gives what h says of the item, and changes nothing that was tracked -/
theorem lc_std {J : It} {n : Nat} {G : Hp → Prop} {Y : Nat → Hp → V → Hp → Prop} {α : Type} (w : Walk J n G Y) {g : TG} {tt : TT} {te : TE} {vs : List Nat} {σ : L2.St} {H1 : Hp} {D : Addr} {Qd : Hp → Prop}
    (ys : List α) (h : α → Option V) (hn : ys.length = n) (hz : n < sizeLine) (hD : H1 D = none) (hG : ∀ H, Same H1 H → G H)
    (hs : ∀ i x H H' a (R : Option V → Hp → Prop), ys[i]? = some a → Same H1 H → Y i H x H' → (∀ H4, Same H H4 → R (h a) H4) →
      g x (wipe σ vs) H' fun σ2 H2 => wipe σ2 vs = wipe σ vs ∧ tt σ2 H2 fun b H3 => if b = true then te σ2 H3 fun y H4 => R (some y) H4 else R none H3)
    (hd : ∀ H, Same H1 H → H D = some (.lst (ys.filterMap h)) → Qd H) :
    ∃ W : Nat → Nat → Hp → Prop, (∃ m, W 0 m (upd H1 D (.lst []))) ∧ ∀ i m H, W i m H →
      (J.stop i H ∧ Qd H) ∨ (J.go i H ∧ ∃ Nx : Hp → Prop, (∀ H', Nx H' → ∃ m', m' < m ∧ W (i + 1) m' H') ∧ ∀ x H', J.yld i H x H' → g x (wipe σ vs) H' fun σ2 H2 => wipe σ2 vs = wipe σ vs ∧ tt σ2 H2 fun b H3 =>
        if b = true then te σ2 H3 fun y H4 => ∃ acc, H4 D = some (.lst acc) ∧ acc.length < sizeLine ∧ Nx (upd H4 D (.lst (acc ++ [y]))) else Nx H3) := by
  refine lc_it w (fun i H => Same H1 H ∧ H D = some (.lst ((ys.take i).filterMap h))) ⟨same_upd hD, by rw [upd_same]; rfl⟩ (fun i H _ q => hG H q.1) (fun i x H H' hi q y => ?_) fun H q => hd H q.1 (by rw [q.2, ← hn, List.take_length])
  obtain ⟨sm, eD⟩ := q
  have hi' : i < ys.length := by omega
  have ha : ys[i]? = some ys[i] := List.getElem?_eq_getElem hi'
  have tk : (ys.take (i + 1)).filterMap h = (ys.take i).filterMap h ++ (h ys[i]).toList := by
    rw [List.take_add_one, ha, List.filterMap_append]
    cases e : h ys[i] <;> simp [e]
  have ln : ((ys.take i).filterMap h).length < sizeLine := by
    have z := List.length_filterMap_le h (ys.take i)
    rw [List.length_take] at z
    omega
  have go := hs i x H H' ys[i] (fun o H4 => match o with
    | some y => ∃ acc, H4 D = some (.lst acc) ∧ acc.length < sizeLine ∧ (Same H1 (upd H4 D (.lst (acc ++ [y]))) ∧ (upd H4 D (.lst (acc ++ [y]))) D = some (.lst ((ys.take (i + 1)).filterMap h)))
    | none => Same H1 H4 ∧ H4 D = some (.lst ((ys.take (i + 1)).filterMap h))) ha sm y (fun H4 s4 => by
      have e4 : H4 D = some (.lst ((ys.take i).filterMap h)) := s4 _ _ eD
      cases e : h ys[i] with
      | none =>
        rw [e] at tk
        exact ⟨sm.trans s4, by rw [e4, tk]; simp⟩
      | some y =>
        rw [e] at tk
        refine ⟨_, e4, ln, fun b o eb => ?_, ?_⟩
        · have nb : b ≠ D := ne_of_none eb hD
          rw [upd_ne nb]
          exact s4 _ _ (sm _ _ eb)
        · rw [upd_same, tk]
          simp)
  exact go
/-! ### tuples -/
theorem tyx_tup {K : PySem.W.Frag} {H : Hp} {a : Addr} {xs : List V} (h : SqT K H a xs) : TyX K H (.ref a) (.type "tuple") := by
  rcases h with (h | ⟨o, h⟩) | ⟨o, its, n, h, c, _⟩
  · exact .base (.tup h)
  · exact .fTuple h
  · exact .kTuple h c
theorem cut_tail (xs : List V) : cutV xs (some 1) none = xs.tail := by
  unfold cutV
  rw [show HT.sIx xs.length 0 (some 1) = min 1 xs.length from HT.sIx_nat xs.length 0 1, HT.sIx_none]
  cases xs with
  | nil => rfl
  | cons x r =>
    have e : min 1 (x :: r).length = 1 := by rw [List.length_cons]; omega
    rw [e]
    show List.take ((x :: r).length - 1) r = r
    rw [List.length_cons, Nat.add_sub_cancel, List.take_length]
/-- t[1:] -/
theorem sl_tail {K : PySem.W.Frag} {H : Hp} {a : Addr} {xs : List V} {R : VK} (hS : SqT K H a xs) (h : ∀ c Hc, Same H Hc → SqT K Hc c xs.tail → R (.ref c) Hc) : rSlA K (.ref a) (some 1) none H R := by
  refine ⟨a, xs, rfl, hS, fun e => ?_, fun _ p hp => ?_⟩
  · have e1 : HT.sIx xs.length 0 (some 1) = min 1 xs.length := HT.sIx_nat xs.length 0 1
    have e2 : xs = [] := by
      cases xs with
      | nil => rfl
      | cons x r =>
        have z := e.1
        rw [e1, List.length_cons] at z
        omega
    subst e2
    exact h a H (Same.refl H) hS
  · exact h p _ (same_upd hp) (.inl (.inl (by rw [upd_same, cut_tail])))
/-- t + u, u new -/
theorem cat_new {K : PySem.W.Frag} {H : Hp} {a b : Addr} {xs ys : List V} {R : VK} (hS : SqT K H a xs) (hb : H b = some (.tup ys)) (hy : ys ≠ []) (hz : xs.length + ys.length ≤ 1000)
    (h : ∀ c Hc, Same H Hc → Hc c = some (.tup (xs ++ ys)) → R (.ref c) Hc) : rCatA K (.ref a) (.ref b) H R := by
  refine ⟨a, b, xs, ys, rfl, rfl, hS, .inl (.inl hb), Nat.le_of_lt (small1000 hz), fun e => ?_, fun _ e => absurd e hy, fun _ _ p hp => h p _ (same_upd hp) upd_same⟩
  subst e
  exact h b H (Same.refl H) hb
/-- t[-i], i from 1 to the length -/
theorem at_neg {α : Type} {xs : List α} {i : Nat} {v : α} (h1 : 1 ≤ i) (h2 : i ≤ xs.length) (h : xs[xs.length - i]? = some v) : atI xs (-(i : Int)) = some v := by
  have e : ixN xs.length (-(i : Int)) = some (xs.length - i) := by
    unfold ixN
    rw [if_neg (by omega)]
    rw [if_pos (by omega)]
    congr 1
    omega
  unfold atI
  rw [e]
  exact h
theorem walk_zipT {K : PySem.W.Frag} {a b : Addr} {xs ys : List V} {n : Nat} (hn : n = min xs.length ys.length) : Walk (RZ.ItzT K a b) n (fun H => SqT K H a xs ∧ SqT K H b ys) (YPair (fun i => xs[i]?) (fun i => ys[i]?)) := by
  subst hn
  refine ⟨fun i _ hi q => ?_, fun _ q => ⟨xs, ys, q.1, q.2, by omega⟩, fun i H v H' _ q y => ?_⟩
  · have h1 : i < xs.length := by omega
    have h2 : i < ys.length := by omega
    exact ⟨xs, ys, xs[i], ys[i], q.1, q.2, by simp [h1], by simp [h2]⟩
  · obtain ⟨T, x, y', h1, h2, h3, h4, h5⟩ := y
    exact ⟨T, x, y', h1, h2, h3, h4 _ q.1, h5 _ q.2⟩
theorem map_at {α β : Type} {f : α → β} {xs : List α} {i : Nat} {a : α} {b : β} (h : xs[i]? = some a) (g : (xs.map f)[i]? = some b) : b = f a := by
  rw [List.getElem?_map, h] at g
  exact (Option.some.inj g).symm
theorem filterMap_some {α β : Type} (f : α → β) : ∀ xs : List α, xs.filterMap (fun x => some (f x)) = xs.map f
  | [] => rfl
  | x :: r => by rw [List.filterMap_cons, List.map_cons, filterMap_some f r]
theorem pe_globI {X : Cx} {x : Str} {pos : Pos} {n : Int} {t : Tok} (hg : Gl X x) (hm : X.mg x = some (.int n t)) (hd : (x == ("__debug__" : Str)) = false := by decide) : PE X (.Name x pos) (tC (.int n)) := by
  first
    | exact pe_glob hg hm ⟨t, rfl⟩ hd
    | exact pe_glob hg hm ⟨t, rfl⟩
theorem ix_tupK {X : Cx} {K : PySem.W.Frag} (h : X.K = K) : IxR X (rIxT K) := h ▸ ix_tup
theorem ix_listK {X : Cx} {K : PySem.W.Frag} (h : X.K = K) : IxR X (rIxL K) := h ▸ ix_list
/-- t * k -/
theorem rep_any {K : PySem.W.Frag} {H : Hp} {l : Addr} {xs : List V} {k : Nat} {v : V} {R : VK} (e : v = .int k) (hS : SqT K H l xs) (hx : xs ≠ []) (hk : k ≤ 1000) (hl : xs.length ≤ 1000)
    (h : ∀ c Hc, Same H Hc → SqT K Hc c (List.replicate k xs).flatten → R (.ref c) Hc) : rRepA K (.ref l) v H R := by
  refine ⟨l, xs, k, rfl, e, hS, hx, hk, hl, fun e1 => ?_, fun _ p np => h p _ (same_upd np) (.inl (.inl upd_same))⟩
  subst e1
  refine h l H (Same.refl H) ?_
  have z : (List.replicate 1 xs).flatten = xs := by simp
  rw [z]
  exact hS
theorem flat_one {α : Type} (x : α) : ∀ n : Nat, (List.replicate n [x]).flatten = List.replicate n x
  | 0 => rfl
  | n + 1 => by rw [List.replicate_succ, List.flatten_cons, flat_one x n]; rfl
theorem in_ints (n : Int) : ∀ ns : List Int, inV (.int n) (ns.map V.int) = decide (n ∈ ns)
  | [] => rfl
  | k :: r => by
    have ih := in_ints n r
    unfold inV at ih ⊢
    rw [List.map_cons, List.any_cons, ih]
    show (k == n || decide (n ∈ r)) = _
    by_cases c : n = k
    · subst c; simp
    · have c2 : (k == n) = false := by simpa using fun e => c e.symm
      rw [c2, Bool.false_or]
      exact decide_eq_decide.mpr ⟨fun h => List.mem_cons_of_mem _ h, fun h => (List.mem_cons.mp h).resolve_left c⟩
theorem flat_ints : ∀ ns : List Int, (ns.map V.int).all flatV = true
  | [] => rfl
  | _ :: r => flat_ints r
/-! ### data of ints -/
theorem dp_ints {K : PySem.W.Frag} {H : Hp} : ∀ ns : List Int, DpAll K H (ns.map V.int) (ns.map PyData.int)
  | [] => .nil
  | n :: r => .cons (.int n) (dp_ints r)
theorem can_ints : ∀ ns : List Int, PyData.canLayAll0 (ns.map PyData.int) = true
  | [] => by rw [List.map_nil, PyData.canLayAll0]
  | n :: r => by rw [List.map_cons, PyData.canLayAll0, can_ints r, PyData.canLay0]; rfl
theorem shaped_ints (ns : List Int) : SeqAt.shaped (.list (ns.map PyData.int)) = true := by
  unfold SeqAt.shaped
  rw [PyData.canLay0, can_ints, PyData.depth, depth_ints]
  decide
theorem eqv_nil (ns : List Int) : PyData.eqv (.list (ns.map PyData.int)) (.list []) = ns.isEmpty := by
  cases ns with
  | nil => rw [List.map_nil, PyData.eqv, PyData.eqvAll]; rfl
  | cons n r => rw [List.map_cons, PyData.eqv, PyData.eqvAll]; rfl
/-- xs != [] of a list of ints, the other one new -/
theorem ne_nil {K : PySem.W.Frag} {H : Hp} {g p : Addr} {ns : List Int} {R : VK} (hg : SqL K H g (ns.map V.int)) (hp : H p = some (.lst [])) (h : R (.bl (!ns.isEmpty)) H) : rNeD K (.ref g) (.ref p) H R := by
  refine ⟨.list (ns.map .int), .list [], .lst hg (dp_ints ns), .lst (.inl (.inl hp)) .nil, shaped_ints ns, shaped_ints [], ?_⟩
  rw [eqv_nil]
  exact h
/-! ### a step into a reading -/
theorem seq_go {t u : TS} {D : Ends} {σ : L2.St} {H : Hp} (h : t { D with nx := fun σ1 H1 => u D σ1 H1 } σ H) : tSeq t u D σ H := h
theorem asg_go {te : TE} {g : TG} {D : Ends} {σ : L2.St} {H : Hp} (h : te σ H fun v H1 => g v σ H1 D.nx) : tAsg te g D σ H := h
theorem drop_go {te : TE} {D : Ends} {σ : L2.St} {H : Hp} (h : te σ H fun _ H1 => D.nx σ H1) : tDrop te D σ H := h
theorem ret_go {te : TE} {D : Ends} {σ : L2.St} {H : Hp} (h : te σ H D.rt) : tRet te D σ H := h
theorem lst_go {t : TA} {σ : L2.St} {H : Hp} {Q : VK} (h : t σ H fun xs H1 => xs.length ≤ sizeLine ∧ ∀ p, H1 p = none → Q (.ref p) (upd H1 p (.lst xs))) : tLst t σ H Q := h
theorem tup_go {t : TA} {σ : L2.St} {H : Hp} {Q : VK} (h : t σ H fun xs H1 => xs.length ≤ sizeLine ∧ ∀ p, H1 p = none → Q (.ref p) (upd H1 p (.tup xs))) : tTup t σ H Q := h
theorem cons_go {ta : TE} {tr : TA} {σ : L2.St} {H : Hp} {Q : List V → Hp → Prop} (h : ta σ H fun x H1 => tr σ H1 fun xs H2 => Q (x :: xs) H2) : tCons ta tr σ H Q := h
theorem op_go {r : R2} {ta tb : TE} {σ : L2.St} {H : Hp} {Q : VK} (h : ta σ H fun x H1 => tb σ H1 fun y H2 => r x y H2 Q) : tOp r ta tb σ H Q := h
theorem cb_go {r : List V → Hp → VK → Prop} {t : TA} {σ : L2.St} {H : Hp} {Q : VK} (h : t σ H fun vs H1 => r vs H1 Q) : tCB r t σ H Q := h
theorem call_go {sp : Sp} {dvs : List V} {E : XK} {t : TA} {σ : L2.St} {H : Hp} {Q : VK} (h : t σ H fun vs H1 => sp (vs ++ dvs) H1 Q E) : tCall sp dvs E t σ H Q := h
end CD
/-! lifted readings 1: data over a frozen part of the heap; what the slots hold; how both stay -/
namespace DL
open PySem PySem.Spec PyProof.Rows L2 CD
/-! ### data -/
inductive D where
  | non | bl (b : Bool) | int (i : Int) | str (x : Str) | list (xs : List D) | tup (xs : List D)
  | dk (kvs : List (Key × D)) | dt (kvs : List (List Key × D)) | set (xs : List Int) | scr (ns : List Int) | fn (a : Addr)
mutual
/-- data at a value, over the frozen heap -/
inductive Dd (K : PySem.W.Frag) (F : Hp) : V → D → Prop
  | non : Dd K F .non .non
  | bl (b : Bool) : Dd K F (.bl b) (.bl b)
  | int (i : Int) : Dd K F (.int i) (.int i)
  | str (x : Str) : Dd K F (.str x) (.str x)
  | fn (a : Addr) : Dd K F (.ref a) (.fn a)
  | lst {a : Addr} {xs : List V} {ds : List D} : F a = some (.lst xs) → DdL K F xs ds → Dd K F (.ref a) (.list ds)
  | scr {a : Addr} {ns : List Int} : SqL K F a (ns.map V.int) → Dd K F (.ref a) (.scr ns)
  | tup {a : Addr} {xs : List V} {ds : List D} : F a = some (.tup xs) → DdL K F xs ds → Dd K F (.ref a) (.tup ds)
  | dK {a : Addr} {kvs : List (Key × V)} {ds : List (Key × D)} : F a = some (.dK kvs) → DdK K F kvs ds → Dd K F (.ref a) (.dk ds)
  | dT {a : Addr} {kvs : List (List Key × V)} {ds : List (List Key × D)} : F a = some (.dT kvs) → DdT K F kvs ds → Dd K F (.ref a) (.dt ds)
  | set {a : Addr} {S : Int → Bool} {n : Nat} {xs : List Int} : F a = some (.set S n) → (∀ i, S i = decide (i ∈ xs)) → n = xs.length → xs.Nodup → Dd K F (.ref a) (.set xs)
inductive DdL (K : PySem.W.Frag) (F : Hp) : List V → List D → Prop
  | nil : DdL K F [] []
  | cons {v : V} {vs : List V} {d : D} {ds : List D} : Dd K F v d → DdL K F vs ds → DdL K F (v :: vs) (d :: ds)
inductive DdK (K : PySem.W.Frag) (F : Hp) : List (Key × V) → List (Key × D) → Prop
  | nil : DdK K F [] []
  | cons {k : Key} {v : V} {vs : List (Key × V)} {d : D} {ds : List (Key × D)} : Dd K F v d → DdK K F vs ds → DdK K F ((k, v) :: vs) ((k, d) :: ds)
inductive DdT (K : PySem.W.Frag) (F : Hp) : List (List Key × V) → List (List Key × D) → Prop
  | nil : DdT K F [] []
  | cons {k : List Key} {v : V} {vs : List (List Key × V)} {d : D} {ds : List (List Key × D)} : Dd K F v d → DdT K F vs ds → DdT K F ((k, v) :: vs) ((k, d) :: ds)
end
theorem rd_same {F F' : Hp} {a : Addr} {u : HO} (s : Same F F') (h : Rd F a u) : Rd F' a u := by
  rcases h with h | ⟨o, h⟩
  · exact .inl (s _ _ h)
  · exact .inr ⟨o, s _ _ h⟩
section
variable {K : PySem.W.Frag} {F F' H H' : Hp}
mutual
theorem Dd.same (s : Same F F') : ∀ {v : V} {d : D}, Dd K F v d → Dd K F' v d
  | _, _, .non => .non
  | _, _, .bl b => .bl b
  | _, _, .int i => .int i
  | _, _, .str x => .str x
  | _, _, .fn a => .fn a
  | _, _, .lst h g => .lst (s _ _ h) (DdL.same s g)
  | _, _, .scr h => .scr (s.seq h)
  | _, _, .tup h g => .tup (s _ _ h) (DdL.same s g)
  | _, _, .dK h g => .dK (s _ _ h) (DdK.same s g)
  | _, _, .dT h g => .dT (s _ _ h) (DdT.same s g)
  | _, _, .set h g n m => .set (s _ _ h) g n m
theorem DdL.same (s : Same F F') : ∀ {v : List V} {d : List D}, DdL K F v d → DdL K F' v d
  | _, _, .nil => .nil
  | _, _, .cons h g => .cons (Dd.same s h) (DdL.same s g)
theorem DdK.same (s : Same F F') : ∀ {v : List (Key × V)} {d : List (Key × D)}, DdK K F v d → DdK K F' v d
  | _, _, .nil => .nil
  | _, _, .cons h g => .cons (Dd.same s h) (DdK.same s g)
theorem DdT.same (s : Same F F') : ∀ {v : List (List Key × V)} {d : List (List Key × D)}, DdT K F v d → DdT K F' v d
  | _, _, .nil => .nil
  | _, _, .cons h g => .cons (Dd.same s h) (DdT.same s g)
end
theorem DdL.length : ∀ {xs : List V} {ds : List D}, DdL K F xs ds → xs.length = ds.length
  | _, _, .nil => rfl
  | _, _, .cons _ g => by rw [List.length_cons, List.length_cons, g.length]
theorem DdL.get : ∀ {xs : List V} {ds : List D} {i : Nat} {d : D}, DdL K F xs ds → ds[i]? = some d → ∃ v, xs[i]? = some v ∧ Dd K F v d
  | _, _, _, _, .nil, e => by simp at e
  | _, _, 0, _, .cons h _, e => by simp at e; subst e; exact ⟨_, rfl, h⟩
  | _, _, i + 1, d, .cons _ g, e => by
    obtain ⟨v, h1, h2⟩ := DdL.get (i := i) (d := d) g (by simpa using e)
    exact ⟨v, by simpa using h1, h2⟩
theorem DdL.get' : ∀ {xs : List V} {ds : List D} {i : Nat} {v : V}, DdL K F xs ds → xs[i]? = some v → ∃ d, ds[i]? = some d ∧ Dd K F v d
  | _, _, _, _, .nil, e => by simp at e
  | _, _, 0, _, .cons h _, e => by simp at e; subst e; exact ⟨_, rfl, h⟩
  | _, _, i + 1, v, .cons _ g, e => by
    obtain ⟨d, h1, h2⟩ := DdL.get' (i := i) (v := v) g (by simpa using e)
    exact ⟨d, by simpa using h1, h2⟩
theorem DdL.append : ∀ {xs ys : List V} {ds es : List D}, DdL K F xs ds → DdL K F ys es → DdL K F (xs ++ ys) (ds ++ es)
  | _, _, _, _, .nil, g => g
  | _, _, _, _, .cons h t, g => .cons h (DdL.append t g)
theorem DdL.take : ∀ {xs : List V} {ds : List D} (n : Nat), DdL K F xs ds → DdL K F (xs.take n) (ds.take n)
  | _, _, 0, _ => .nil
  | _, _, _ + 1, .nil => .nil
  | _, _, n + 1, .cons h t => .cons h (DdL.take n t)
theorem DdL.drop : ∀ {xs : List V} {ds : List D} (n : Nat), DdL K F xs ds → DdL K F (xs.drop n) (ds.drop n)
  | _, _, 0, h => h
  | _, _, _ + 1, .nil => .nil
  | _, _, n + 1, .cons _ t => DdL.drop n t
theorem DdL.set {v : V} {d : D} (h : Dd K F v d) : ∀ {xs : List V} {ds : List D} (n : Nat), DdL K F xs ds → DdL K F (xs.set n v) (ds.set n d)
  | _, _, _, .nil => .nil
  | _, _, 0, .cons _ t => .cons h t
  | _, _, n + 1, .cons g t => .cons g (DdL.set h n t)
theorem DdL.reverse : ∀ {xs : List V} {ds : List D}, DdL K F xs ds → DdL K F xs.reverse ds.reverse
  | _, _, .nil => .nil
  | _, _, .cons h t => by
    rw [List.reverse_cons, List.reverse_cons]
    exact (DdL.reverse t).append (.cons h .nil)
theorem DdL.ints : ∀ {xs : List V} {ns : List Int}, DdL K F xs (ns.map D.int) → xs = ns.map V.int
  | _, [], h => by cases h; rfl
  | _, n :: r, h => by
    cases h with
    | cons h g => cases h; rw [DdL.ints g]; rfl
theorem DdL.of_ints : ∀ ns : List Int, DdL K F (ns.map V.int) (ns.map D.int)
  | [] => .nil
  | n :: r => .cons (.int n) (DdL.of_ints r)
/-- an object of ours: its own content lies at a, what it holds is frozen -/
inductive Own (K : PySem.W.Frag) (F H : Hp) (a : Addr) : D → Prop
  | lst {xs : List V} {ds : List D} : H a = some (.lst xs) → DdL K F xs ds → Own K F H a (.list ds)
  | dK {kvs : List (Key × V)} {ds : List (Key × D)} : H a = some (.dK kvs) → DdK K F kvs ds → Own K F H a (.dk ds)
  | dT {kvs : List (List Key × V)} {ds : List (List Key × D)} : H a = some (.dT kvs) → DdT K F kvs ds → Own K F H a (.dt ds)
  | set {S : Int → Bool} {n : Nat} {xs : List Int} : H a = some (.set S n) → (∀ i, S i = decide (i ∈ xs)) → n = xs.length → xs.Nodup → Own K F H a (.set xs)
theorem Own.there {a : Addr} {d : D} (h : Own K F H a d) : ∃ o, H a = some o := by
  cases h <;> exact ⟨_, ‹_›⟩
theorem Own.nt {a : Addr} {d : D} {xs : List V} (h : Own K F H a d) : H a ≠ some (.tup xs) := by
  cases h with
  | lst h _ => rw [h]; exact fun e => by cases e
  | dK h _ => rw [h]; exact fun e => by cases e
  | dT h _ => rw [h]; exact fun e => by cases e
  | set h _ _ _ => rw [h]; exact fun e => by cases e
theorem Own.move {a : Addr} {d : D} (h : Own K F H a d) (s : Same F F') (e : H' a = H a) : Own K F' H' a d := by
  cases h with
  | lst h g => exact .lst (e.trans h) (g.same s)
  | dK h g => exact .dK (e.trans h) (g.same s)
  | dT h g => exact .dT (e.trans h) (g.same s)
  | set h g n m => exact .set (e.trans h) g n m
/-- frozen as it stands -/
theorem Own.frozen {a : Addr} {d : D} {o : HO} (h : Own K F H a d) (n : F a = none) (e : H a = some o) : Dd K (upd F a o) (.ref a) d := by
  have s : Same F (upd F a o) := same_upd n
  cases h with
  | lst h g => rw [h] at e; cases e; exact .lst upd_same (g.same s)
  | dK h g => rw [h] at e; cases e; exact .dK upd_same (g.same s)
  | dT h g => rw [h] at e; cases e; exact .dT upd_same (g.same s)
  | set h g n m => rw [h] at e; cases e; exact .set upd_same g n m
theorem same_none (H : Hp) : Same (fun _ => none) H := fun _ _ h => nomatch h
/-- what may be read at a value: frozen, our own, or written in the text -/
def Cnt (K : PySem.W.Frag) (F H : Hp) (v : V) (d : D) : Prop :=
  Dd K F v d ∨ (∃ a, v = .ref a ∧ Own K F H a d) ∨ ∃ a xs ds, v = .ref a ∧ d = .tup ds ∧ SqT K (fun _ => none) a xs ∧ DdL K (fun _ => none) xs ds
theorem Cnt.list {v : V} {ds : List D} (s : Same F H) (h : Cnt K F H v (.list ds)) : ∃ a xs, v = .ref a ∧ H a = some (.lst xs) ∧ DdL K F xs ds := by
  rcases h with h | ⟨a, rfl, h⟩ | ⟨_, _, _, _, e, _⟩
  · cases h with
    | lst h g => exact ⟨_, _, rfl, s _ _ h, g⟩
  · cases h with
    | lst h g => exact ⟨_, _, rfl, h, g⟩
  · cases e
theorem Cnt.scr {v : V} {ns : List Int} (s : Same F H) (h : Cnt K F H v (.scr ns)) : ∃ a, v = .ref a ∧ SqL K H a (ns.map V.int) := by
  rcases h with h | ⟨a, rfl, h⟩ | ⟨_, _, _, _, e, _⟩
  · cases h with
    | scr h => exact ⟨_, rfl, s.seq h⟩
  · cases h
  · cases e
theorem Cnt.tup {v : V} {ds : List D} (s : Same F H) (h : Cnt K F H v (.tup ds)) : ∃ a xs, v = .ref a ∧ SqT K H a xs ∧ DdL K F xs ds := by
  rcases h with h | ⟨a, rfl, h⟩ | ⟨a, xs, ds', rfl, e, h, g⟩
  · cases h with
    | tup h g => exact ⟨_, _, rfl, .inl (.inl (s _ _ h)), g⟩
  · cases h
  · cases e
    exact ⟨a, xs, rfl, (same_none H).tup h, g.same (same_none F)⟩
theorem Cnt.dk {v : V} {ds : List (Key × D)} (s : Same F H) (h : Cnt K F H v (.dk ds)) : ∃ a kvs, v = .ref a ∧ H a = some (.dK kvs) ∧ DdK K F kvs ds := by
  rcases h with h | ⟨a, rfl, h⟩ | ⟨_, _, _, _, e, _⟩
  · cases h with
    | dK h g => exact ⟨_, _, rfl, s _ _ h, g⟩
  · cases h with
    | dK h g => exact ⟨_, _, rfl, h, g⟩
  · cases e
theorem Cnt.dt {v : V} {ds : List (List Key × D)} (s : Same F H) (h : Cnt K F H v (.dt ds)) : ∃ a kvs, v = .ref a ∧ H a = some (.dT kvs) ∧ DdT K F kvs ds := by
  rcases h with h | ⟨a, rfl, h⟩ | ⟨_, _, _, _, e, _⟩
  · cases h with
    | dT h g => exact ⟨_, _, rfl, s _ _ h, g⟩
  · cases h with
    | dT h g => exact ⟨_, _, rfl, h, g⟩
  · cases e
theorem Cnt.int {v : V} {i : Int} (h : Cnt K F H v (.int i)) : v = .int i := by
  rcases h with h | ⟨a, _, h⟩ | ⟨_, _, _, _, e, _⟩
  · cases h; rfl
  · cases h
  · cases e
theorem Cnt.bl {v : V} {i : Bool} (h : Cnt K F H v (.bl i)) : v = .bl i := by
  rcases h with h | ⟨a, _, h⟩ | ⟨_, _, _, _, e, _⟩
  · cases h; rfl
  · cases h
  · cases e
theorem Cnt.str {v : V} {i : Str} (h : Cnt K F H v (.str i)) : v = .str i := by
  rcases h with h | ⟨a, _, h⟩ | ⟨_, _, _, _, e, _⟩
  · cases h; rfl
  · cases h
  · cases e
theorem Cnt.non {v : V} (h : Cnt K F H v .non) : v = .non := by
  rcases h with h | ⟨a, _, h⟩ | ⟨_, _, _, _, e, _⟩
  · cases h; rfl
  · cases h
  · cases e
theorem Cnt.move {v : V} {d : D} (h : Cnt K F H v d) (s : Same F F') (s2 : Same H H') : Cnt K F' H' v d := by
  rcases h with h | ⟨a, rfl, h⟩ | ⟨a, xs, ds', rfl, e, h, g⟩
  · exact .inl (h.same s)
  · obtain ⟨o, e⟩ := h.there
    exact .inr (.inl ⟨a, rfl, h.move s ((s2 _ _ e).trans e.symm)⟩)
  · exact .inr (.inr ⟨a, xs, ds', rfl, e, h, g⟩)
end
/-! ### what the slots hold -/
/-- the draws' state: told by the law's family -/
structure GenP where
  D : Hp → Addr → Addr → Addr → Nat → Prop
  stab : ∀ {H H' : Hp} {d g c : Addr} {n : Nat}, D H d g c n → H' d = H d → H' g = H g → H' c = H c → D H' d g c n
  dd : ∀ {H : Hp} {d g c : Addr} {n : Nat}, D H d g c n → H d ≠ none ∧ H g ≠ none ∧ H c ≠ none ∧ d ≠ g
  nt : ∀ {H : Hp} {d g c : Addr} {n : Nat} {xs : List V}, D H d g c n → H d ≠ some (.tup xs) ∧ H g ≠ some (.tup xs)
inductive SV where
  | val (d : D) | own (d : D) | gen (n : Nat)
abbrev Rho := List (Option SV)
inductive RV where
  | val (d : D) | fr (d : D) | kon (d : D) | sl (i : Nat)
abbrev GAt := Option (Addr × Addr × Addr)
def GA (γ : GAt) (a : Addr) : Prop := ∃ p, γ = some p ∧ (a = p.1 ∨ a = p.2.1)
/-- a belongs to slot j as our own -/
def OwnAt (σ : L2.St) (ρ : Rho) (a : Addr) (j : Nat) : Prop := (∃ e, ρ[j]? = some (some (.own e))) ∧ σ[j]? = some (some (.ref a))
structure Rp (GP : GenP) (K : PySem.W.Frag) (H0 F0 : Hp) (γ0 γ : GAt) (σ : L2.St) (H F : Hp) (ρ : Rho) : Prop where
  f0 : Same F0 F
  sub : Same F H
  keep : ∀ a o, H0 a = some o → ¬ GA γ0 a → H a = some o
  fnew : ∀ a o, F a = some o → F0 a = some o ∨ H0 a = none ∨ ∃ xs, o = .tup xs
  tr : ∀ a o, H0 a = some o → ∃ u, H a = some u
  len : σ.length = ρ.length
  val : ∀ (i : Nat) (d : D), ρ[i]? = some (some (.val d)) → ∃ v, σ[i]? = some (some v) ∧ Dd K F v d
  own : ∀ (i : Nat) (d : D), ρ[i]? = some (some (.own d)) → ∃ a, σ[i]? = some (some (.ref a)) ∧ Own K F H a d ∧ F a = none ∧ H0 a = none ∧ (¬ GA γ a) ∧ ∀ j, OwnAt σ ρ a j → j = i
  gen : ∀ (i n : Nat), ρ[i]? = some (some (.gen n)) → ∃ p, γ = some p ∧ σ[i]? = some (some (.ref p.1)) ∧ GP.D H p.1 p.2.1 p.2.2 n ∧ F p.2.2 ≠ none
  one : ∀ (i j n m : Nat), ρ[i]? = some (some (.gen n)) → ρ[j]? = some (some (.gen m)) → i = j
  g0 : ∀ p, γ0 = some p → ∃ q, γ = some q ∧ q.1 = p.1 ∧ q.2.2 = p.2.2 ∧ (q.2.1 = p.2.1 ∨ H0 q.2.1 = none)
  g1 : γ0 = none → ∀ p, γ = some p → H0 p.1 = none ∧ H0 p.2.1 = none
  gt0 : ∀ p, γ0 = some p → ∃ o u, H0 p.1 = some o ∧ H0 p.2.1 = some u
  gt : ∀ p, γ = some p → ∃ o u, H p.1 = some o ∧ H p.2.1 = some u ∧ ∀ xs, o ≠ .tup xs ∧ u ≠ .tup xs
  gf : ∀ p, γ = some p → F p.1 = none ∧ F p.2.1 = none
/-- a result -/
def RVok (K : PySem.W.Frag) (H0 : Hp) (γ0 γ : GAt) (σ : L2.St) (H F : Hp) (ρ : Rho) (v : V) : RV → Prop
  | .val d => Dd K F v d
  | .fr d => ∃ a, v = .ref a ∧ Own K F H a d ∧ F a = none ∧ H0 a = none ∧ (¬ GA γ a) ∧ ∀ j, ¬ OwnAt σ ρ a j
  | .kon d => ∃ a xs ds, v = .ref a ∧ d = .tup ds ∧ SqT K (fun _ => none) a xs ∧ DdL K (fun _ => none) xs ds
  | .sl i => σ[i]? = some (some v)
def cn (ρ : Rho) : RV → Option D
  | .val d => some d
  | .fr d => some d
  | .kon d => some d
  | .sl i => match ρ[i]? with
    | some (some (.val d)) => some d
    | some (some (.own d)) => some d
    | _ => none
section
variable {GP : GenP} {K : PySem.W.Frag} {H0 F0 H H' F F' : Hp} {γ0 γ : GAt} {σ : L2.St} {ρ : Rho} {v : V} {d : D}
theorem RVok.cnt {x : RV} (r : Rp GP K H0 F0 γ0 γ σ H F ρ) (h : RVok K H0 γ0 γ σ H F ρ v x) (e : cn ρ x = some d) : Cnt K F H v d := by
  cases x with
  | val d' => cases e; exact .inl h
  | fr d' => cases e; obtain ⟨a, rfl, o, _⟩ := h; exact .inr (.inl ⟨a, rfl, o⟩)
  | kon d' =>
    cases e
    exact .inr (.inr h)
  | sl i =>
    have h : σ[i]? = some (some v) := h
    dsimp only [cn] at e
    cases q : ρ[i]? with
    | none => rw [q] at e; cases e
    | some s =>
      rw [q] at e
      cases s with
      | none => cases e
      | some s =>
        cases s with
        | val d' =>
          cases e
          obtain ⟨u, e1, e2⟩ := r.val i d q
          rw [h] at e1; cases e1
          exact .inl e2
        | own d' =>
          cases e
          obtain ⟨a, e1, e2, _⟩ := r.own i d q
          rw [h] at e1; cases e1
          exact .inr (.inl ⟨a, rfl, e2⟩)
        | gen n => cases e
/-- nothing but new objects -/
theorem Rp.same (r : Rp GP K H0 F0 γ0 γ σ H F ρ) (s : Same H H') : Rp GP K H0 F0 γ0 γ σ H' F ρ where
  f0 := r.f0
  sub := r.sub.trans s
  keep := fun a o e n => s _ _ (r.keep a o e n)
  fnew := r.fnew
  tr := fun a o e => let ⟨u, h⟩ := r.tr a o e; ⟨u, s _ _ h⟩
  len := r.len
  val := r.val
  own := fun i d e => by
    obtain ⟨a, h1, h2, h3⟩ := r.own i d e
    obtain ⟨o, h4⟩ := h2.there
    exact ⟨a, h1, h2.move (Same.refl _) ((s _ _ h4).trans h4.symm), h3⟩
  gen := fun i n e => by
    obtain ⟨p, h1, h2, h3, h4⟩ := r.gen i n e
    have st : ∀ a, H a ≠ none → H' a = H a := fun a n => by
      cases q : H a with
      | none => exact absurd q n
      | some o => exact s _ _ q
    obtain ⟨n1, n2, n3, _⟩ := GP.dd h3
    exact ⟨p, h1, h2, GP.stab h3 (st _ n1) (st _ n2) (st _ n3), h4⟩
  one := r.one
  g0 := r.g0
  g1 := r.g1
  gt0 := r.gt0
  gt := fun p e => let ⟨o, u, h1, h2, h3⟩ := r.gt p e; ⟨o, u, s _ _ h1, s _ _ h2, h3⟩
  gf := r.gf
/-- an own object, of no slot, is frozen -/
theorem Rp.freeze {a : Addr} {o : HO} (r : Rp GP K H0 F0 γ0 γ σ H F ρ) (e : H a = some o) (n : F a = none) (h0 : H0 a = none) (hg : ¬ GA γ a) (ho : ∀ j, ¬ OwnAt σ ρ a j) : Rp GP K H0 F0 γ0 γ σ H (upd F a o) ρ where
  f0 := r.f0.trans (same_upd n)
  sub := fun b u h => by
    by_cases c : b = a
    · subst c; rw [upd_same] at h; cases h; exact e
    · rw [upd_ne c] at h; exact r.sub _ _ h
  keep := r.keep
  fnew := fun b u h => by
    by_cases c : b = a
    · subst c; exact .inr (.inl h0)
    · rw [upd_ne c] at h; exact r.fnew _ _ h
  tr := r.tr
  len := r.len
  val := fun i d q => let ⟨v, h1, h2⟩ := r.val i d q; ⟨v, h1, h2.same (same_upd n)⟩
  own := fun i d q => by
    obtain ⟨b, h1, h2, h3, h4⟩ := r.own i d q
    have nb : b ≠ a := fun x => ho i ⟨⟨d, q⟩, x ▸ h1⟩
    exact ⟨b, h1, h2.move (same_upd n) rfl, by rw [upd_ne nb]; exact h3, h4⟩
  gen := fun i m q => by
    obtain ⟨p, h1, h2, h3, h6⟩ := r.gen i m q
    refine ⟨p, h1, h2, h3, ?_⟩
    by_cases c1 : p.2.2 = a
    · rw [c1, upd_same]; exact fun x => nomatch x
    · rw [upd_ne c1]; exact h6
  one := r.one
  g0 := r.g0
  g1 := r.g1
  gt0 := r.gt0
  gt := r.gt
  gf := fun p q => by
    have n1 : p.1 ≠ a := fun x => hg ⟨p, q, .inl x.symm⟩
    have n2 : p.2.1 ≠ a := fun x => hg ⟨p, q, .inr x.symm⟩
    rw [upd_ne n1, upd_ne n2]
    exact r.gf p q
theorem set_none {α : Type} {l : List α} {i j : Nat} {x : α} (h : j ≠ i) : (l.set i x)[j]? = l[j]? := List.getElem?_set_ne (Ne.symm h)
theorem set_at {α : Type} {l : List α} {i : Nat} {x y : α} (h : (l.set i x)[i]? = some y) : x = y ∧ i < l.length := by
  by_cases c : i < l.length
  · rw [List.getElem?_set_self c] at h; exact ⟨Option.some.inj h, c⟩
  · rw [List.getElem?_set, if_pos rfl, if_neg c] at h; cases h
/-- a slot's own object no longer its own -/
theorem Rp.disown (r : Rp GP K H0 F0 γ0 γ σ H F ρ) (i : Nat) : Rp GP K H0 F0 γ0 γ σ H F (ρ.set i none) where
  f0 := r.f0
  sub := r.sub
  keep := r.keep
  fnew := r.fnew
  tr := r.tr
  len := by rw [List.length_set]; exact r.len
  val := fun j d q => by
    by_cases c : j = i
    · subst c; cases (set_at q).1
    · rw [set_none c] at q; exact r.val j d q
  own := fun j d q => by
    by_cases c : j = i
    · subst c; cases (set_at q).1
    · rw [set_none c] at q
      obtain ⟨a, h1, h2, h3, h4, h5, h6⟩ := r.own j d q
      refine ⟨a, h1, h2, h3, h4, h5, fun l hl => h6 l ⟨?_, hl.2⟩⟩
      obtain ⟨⟨e, he⟩, _⟩ := hl
      by_cases c2 : l = i
      · subst c2; cases (set_at he).1
      · rw [set_none c2] at he; exact ⟨e, he⟩
  gen := fun j n q => by
    by_cases c : j = i
    · subst c; cases (set_at q).1
    · rw [set_none c] at q; exact r.gen j n q
  one := fun j l n m q1 q2 => by
    by_cases c : j = i
    · subst c; cases (set_at q1).1
    · by_cases c2 : l = i
      · subst c2; cases (set_at q2).1
      · rw [set_none c] at q1; rw [set_none c2] at q2; exact r.one j l n m q1 q2
  g0 := r.g0
  g1 := r.g1
  gt0 := r.gt0
  gt := r.gt
  gf := r.gf
theorem ownAt_disown {a : Addr} {i j : Nat} (h : OwnAt σ (ρ.set i none) a j) : OwnAt σ ρ a j ∧ j ≠ i := by
  obtain ⟨⟨e, he⟩, h2⟩ := h
  by_cases c : j = i
  · subst c; cases (set_at he).1
  · rw [set_none c] at he; exact ⟨⟨⟨e, he⟩, h2⟩, c⟩
/-- a slot takes a frozen value -/
theorem Rp.setVal (r : Rp GP K H0 F0 γ0 γ σ H F ρ) (i : Nat) (h : Dd K F v d) : Rp GP K H0 F0 γ0 γ (σ.set i (some v)) H F (ρ.set i (some (.val d))) where
  f0 := r.f0
  sub := r.sub
  keep := r.keep
  fnew := r.fnew
  tr := r.tr
  len := by rw [List.length_set, List.length_set]; exact r.len
  val := fun j e q => by
    by_cases c : j = i
    · subst c
      obtain ⟨h1, h2⟩ := set_at q
      cases h1
      exact ⟨v, List.getElem?_set_self (by rw [r.len]; exact h2), h⟩
    · rw [set_none c] at q ⊢; exact r.val j e q
  own := fun j e q => by
    by_cases c : j = i
    · subst c; cases (set_at q).1
    · rw [set_none c] at q
      obtain ⟨a, h1, h2, h3, h4, h5, h6⟩ := r.own j e q
      refine ⟨a, by rw [set_none c]; exact h1, h2, h3, h4, h5, fun l hl => ?_⟩
      obtain ⟨⟨e, he⟩, h7⟩ := hl
      by_cases c2 : l = i
      · subst c2; cases (set_at he).1
      · rw [set_none c2] at he h7; exact h6 l ⟨⟨e, he⟩, h7⟩
  gen := fun j n q => by
    by_cases c : j = i
    · subst c; cases (set_at q).1
    · rw [set_none c] at q ⊢; exact r.gen j n q
  one := fun j l n m q1 q2 => by
    by_cases c : j = i
    · subst c; cases (set_at q1).1
    · by_cases c2 : l = i
      · subst c2; cases (set_at q2).1
      · rw [set_none c] at q1; rw [set_none c2] at q2; exact r.one j l n m q1 q2
  g0 := r.g0
  g1 := r.g1
  gt0 := r.gt0
  gt := r.gt
  gf := r.gf
/-- the slot holds what it held, now frozen -/
theorem Rp.valAt (r : Rp GP K H0 F0 γ0 γ σ H F ρ) (i : Nat) (e : σ[i]? = some (some v)) (h : Dd K F v d) : Rp GP K H0 F0 γ0 γ σ H F (ρ.set i (some (.val d))) := by
  have q := r.setVal i h
  have es : σ.set i (some v) = σ := by
    obtain ⟨hi, e1⟩ := List.getElem?_eq_some_iff.mp e
    rw [← e1]
    exact List.set_getElem_self hi
  rw [es] at q
  exact q
/-- a slot takes an own object -/
theorem Rp.setOwn {a : Addr} (r : Rp GP K H0 F0 γ0 γ σ H F ρ) (i : Nat) (h : Own K F H a d) (n : F a = none) (h0 : H0 a = none) (hg : ¬ GA γ a) (ho : ∀ j, ¬ OwnAt σ ρ a j) :
    Rp GP K H0 F0 γ0 γ (σ.set i (some (.ref a))) H F (ρ.set i (some (.own d))) where
  f0 := r.f0
  sub := r.sub
  keep := r.keep
  fnew := r.fnew
  tr := r.tr
  len := by rw [List.length_set, List.length_set]; exact r.len
  val := fun j e q => by
    by_cases c : j = i
    · subst c; cases (set_at q).1
    · rw [set_none c] at q ⊢; exact r.val j e q
  own := fun j e q => by
    by_cases c : j = i
    · subst c
      obtain ⟨h1, h2⟩ := set_at q
      cases h1
      refine ⟨a, List.getElem?_set_self (by rw [r.len]; exact h2), h, n, h0, hg, fun l hl => ?_⟩
      obtain ⟨⟨e, he⟩, h7⟩ := hl
      by_cases c2 : l = j
      · exact c2
      · rw [set_none c2] at he h7; exact absurd ⟨⟨e, he⟩, h7⟩ (ho l)
    · rw [set_none c] at q
      obtain ⟨b, h1, h2, h3, h4, h5, h6⟩ := r.own j e q
      refine ⟨b, by rw [set_none c]; exact h1, h2, h3, h4, h5, fun l hl => ?_⟩
      obtain ⟨⟨e', he⟩, h7⟩ := hl
      by_cases c2 : l = i
      · subst c2
        have hl : l < σ.length := by rw [r.len]; exact (set_at he).2
        rw [List.getElem?_set_self hl] at h7
        have : a = b := by injection h7 with h7; injection h7 with h7; injection h7
        exact absurd ⟨⟨e, q⟩, this ▸ h1⟩ (ho j)
      · rw [set_none c2] at he h7; exact h6 l ⟨⟨e', he⟩, h7⟩
  gen := fun j n q => by
    by_cases c : j = i
    · subst c; cases (set_at q).1
    · rw [set_none c] at q ⊢; exact r.gen j n q
  one := fun j l n m q1 q2 => by
    by_cases c : j = i
    · subst c; cases (set_at q1).1
    · by_cases c2 : l = i
      · subst c2; cases (set_at q2).1
      · rw [set_none c] at q1; rw [set_none c2] at q2; exact r.one j l n m q1 q2
  g0 := r.g0
  g1 := r.g1
  gt0 := r.gt0
  gt := r.gt
  gf := r.gf
/-- an own object is written -/
theorem Rp.write {a : Addr} {o : HO} {e : D} {i : Nat} (r : Rp GP K H0 F0 γ0 γ σ H F ρ) (q : ρ[i]? = some (some (.own e))) (ea : σ[i]? = some (some (.ref a))) (h : Own K F (upd H a o) a d) :
    Rp GP K H0 F0 γ0 γ σ (upd H a o) F (ρ.set i (some (.own d))) := by
  obtain ⟨b, b1, b2, b3, b4, b5, b6⟩ := r.own i e q
  rw [ea] at b1
  cases b1
  have hi : i < ρ.length := (List.getElem?_eq_some_iff.mp q).1
  have sub : Same F (upd H a o) := fun b u hb => by
    have : b ≠ a := fun x => by subst x; rw [b3] at hb; cases hb
    rw [upd_ne this]; exact r.sub _ _ hb
  have nba : ∀ b u, H0 b = some u → b ≠ a := fun b u hb x => by
    subst x
    rw [b4] at hb; cases hb
  refine ⟨r.f0, sub, fun b u hb hn => ?_, r.fnew, fun b u hb => ?_, by rw [List.length_set]; exact r.len, fun j f qj => ?_, fun j f qj => ?_, fun j n qj => ?_, fun j l n m q1 q2 => ?_, r.g0, r.g1, r.gt0, fun p hp => ?_, r.gf⟩
  · rw [upd_ne (nba b u hb)]; exact r.keep _ _ hb hn
  · rw [upd_ne (nba b u hb)]; exact r.tr b u hb
  · by_cases c : j = i
    · subst c; cases (set_at qj).1
    · rw [set_none c] at qj; exact r.val j f qj
  · by_cases c : j = i
    · subst c
      have := (set_at qj).1
      cases this
      refine ⟨a, ea, h, b3, b4, b5, fun l hl => ?_⟩
      obtain ⟨⟨e', he⟩, h7⟩ := hl
      by_cases c2 : l = j
      · exact c2
      · rw [set_none c2] at he; exact b6 l ⟨⟨e', he⟩, h7⟩
    · rw [set_none c] at qj
      obtain ⟨b, h1, h2, h3, h4, h5, h6⟩ := r.own j f qj
      have nb : b ≠ a := fun x => c (b6 j ⟨⟨f, qj⟩, x ▸ h1⟩)
      refine ⟨b, h1, h2.move (Same.refl _) (upd_ne nb), h3, h4, h5, fun l hl => ?_⟩
      obtain ⟨⟨e', he⟩, h7⟩ := hl
      by_cases c2 : l = i
      · subst c2
        rw [ea] at h7
        injection h7 with h7; injection h7 with h7; injection h7 with h7
        exact absurd h7.symm nb
      · rw [set_none c2] at he; exact h6 l ⟨⟨e', he⟩, h7⟩
  · by_cases c : j = i
    · subst c; cases (set_at qj).1
    · rw [set_none c] at qj
      obtain ⟨p, h1, h2, h3, h6⟩ := r.gen j n qj
      have nd : p.1 ≠ a := fun x => b5 ⟨p, h1, .inl x.symm⟩
      have ng : p.2.1 ≠ a := fun x => b5 ⟨p, h1, .inr x.symm⟩
      have nc : p.2.2 ≠ a := fun x => h6 (x ▸ b3)
      exact ⟨p, h1, h2, GP.stab h3 (upd_ne nd) (upd_ne ng) (upd_ne nc), h6⟩
  · by_cases c : j = i
    · subst c; cases (set_at q1).1
    · by_cases c2 : l = i
      · subst c2; cases (set_at q2).1
      · rw [set_none c] at q1; rw [set_none c2] at q2; exact r.one j l n m q1 q2
  · obtain ⟨o', u', h1, h2, h3⟩ := r.gt p hp
    have n1 : p.1 ≠ a := fun x => b5 ⟨p, hp, .inl x.symm⟩
    have n2 : p.2.1 ≠ a := fun x => b5 ⟨p, hp, .inr x.symm⟩
    exact ⟨o', u', by rw [upd_ne n1]; exact h1, by rw [upd_ne n2]; exact h2, h3⟩
/-- a slot's own object is frozen -/
theorem Rp.freezeAt {a : Addr} {i : Nat} (r : Rp GP K H0 F0 γ0 γ σ H F ρ) (q : ρ[i]? = some (some (.own d))) (ea : σ[i]? = some (some (.ref a))) :
    ∃ F', Rp GP K H0 F0 γ0 γ σ H F' (ρ.set i (some (.val d))) ∧ Same F F' ∧ Dd K F' (.ref a) d := by
  obtain ⟨b, b1, b2, b3, b4, b5, b6⟩ := r.own i d q
  rw [ea] at b1
  cases b1
  obtain ⟨o, ho⟩ := b2.there
  have r2 := (r.disown i).freeze ho b3 b4 b5 fun j hj => by
    obtain ⟨h1, h2⟩ := ownAt_disown hj
    exact h2 (b6 j h1)
  have dd := b2.frozen b3 ho
  have r3 := r2.valAt i ea dd
  rw [List.set_set] at r3
  exact ⟨_, r3, same_upd b3, dd⟩
/-- the data of a result, frozen; what it was a slot's own is now frozen there -/
def fz (x : RV) (ρ : Rho) (k : D → Rho → Prop) : Prop := match x with
  | .val d => k d ρ
  | .fr d => k d ρ
  | .kon _ => False
  | .sl i => match ρ[i]? with
    | some (some (.val d)) => k d ρ
    | some (some (.own d)) => k d (ρ.set i (some (.val d)))
    | _ => False
theorem fz_ok {x : RV} {k : D → Rho → Prop} (r : Rp GP K H0 F0 γ0 γ σ H F ρ) (h : RVok K H0 γ0 γ σ H F ρ v x) (z : fz x ρ k) :
    ∃ F' ρ' d, Rp GP K H0 F0 γ0 γ σ H F' ρ' ∧ Same F F' ∧ Dd K F' v d ∧ k d ρ' := by
  cases x with
  | val d => exact ⟨F, ρ, d, r, Same.refl _, h, z⟩
  | fr d =>
    obtain ⟨a, rfl, o, h1, h2, h3, h4⟩ := h
    obtain ⟨u, hu⟩ := o.there
    exact ⟨_, ρ, d, r.freeze hu h1 h2 h3 h4, same_upd h1, o.frozen h1 hu, z⟩
  | kon d => exact False.elim z
  | sl i =>
    have h : σ[i]? = some (some v) := h
    dsimp only [fz] at z
    cases q : ρ[i]? with
    | none => rw [q] at z; exact False.elim z
    | some s =>
      rw [q] at z
      cases s with
      | none => exact False.elim z
      | some s =>
        cases s with
        | val d =>
          obtain ⟨u, e1, e2⟩ := r.val i d q
          rw [h] at e1; cases e1
          exact ⟨F, ρ, d, r, Same.refl _, e2, z⟩
        | own d =>
          obtain ⟨a, e1, _⟩ := r.own i d q
          rw [h] at e1; cases e1
          obtain ⟨F', r', s', d'⟩ := r.freezeAt q h
          exact ⟨F', _, d, r', s', d', z⟩
        | gen n => exact False.elim z
/-- no new address is the draws' of the entry -/
theorem Rp.nga {a : Addr} (r : Rp GP K H0 F0 γ0 γ σ H F ρ) (h : H0 a = none) : ¬ GA γ0 a := fun ⟨p, hp, e⟩ => by
  obtain ⟨o, u, h1, h2⟩ := r.gt0 p hp
  rcases e with rfl | rfl
  · rw [h1] at h; cases h
  · rw [h2] at h; cases h
/-- what is tracked no more is new to the entry -/
theorem Rp.new0 {a : Addr} (r : Rp GP K H0 F0 γ0 γ σ H F ρ) (h : H a = none) : H0 a = none := by
  cases q : H0 a with
  | none => rfl
  | some o =>
    obtain ⟨u, hu⟩ := r.tr a o q
    rw [hu] at h; cases h
/-- an own object of no slot is held: it counts as the entry's -/
theorem Rp.hold {a : Addr} {o : HO} (r : Rp GP K H0 F0 γ0 γ σ H F ρ) (e : H a = some o) (n : F a = none) (h0 : H0 a = none) (hg : ¬ GA γ a) (ho : ∀ j, ¬ OwnAt σ ρ a j) : Rp GP K (upd H0 a o) F0 γ0 γ σ H F ρ where
  f0 := r.f0
  sub := r.sub
  keep := fun b u h nb => by
    by_cases c : b = a
    · subst c; rw [upd_same] at h; cases h; exact e
    · rw [upd_ne c] at h; exact r.keep b u h nb
  fnew := fun b u h => by
    rcases r.fnew b u h with z | z | z
    · exact .inl z
    · have c : b ≠ a := fun x => by rw [x, n] at h; cases h
      exact .inr (.inl (by rw [upd_ne c]; exact z))
    · exact .inr (.inr z)
  tr := fun b u h => by
    by_cases c : b = a
    · subst c; exact ⟨o, e⟩
    · rw [upd_ne c] at h; exact r.tr b u h
  len := r.len
  val := r.val
  own := fun i d q => by
    obtain ⟨b, h1, h2, h3, h4, h5⟩ := r.own i d q
    have c : b ≠ a := fun x => ho i ⟨⟨d, q⟩, x ▸ h1⟩
    exact ⟨b, h1, h2, h3, by rw [upd_ne c]; exact h4, h5⟩
  gen := r.gen
  one := r.one
  g0 := fun p hp => by
    obtain ⟨q, hq, e1, e3, e2⟩ := r.g0 p hp
    refine ⟨q, hq, e1, e3, ?_⟩
    rcases e2 with z | z
    · exact .inl z
    · have c : q.2.1 ≠ a := fun x => hg ⟨q, hq, .inr x.symm⟩
      exact .inr (by rw [upd_ne c]; exact z)
  g1 := fun h p hp => by
    have c1 : p.1 ≠ a := fun x => hg ⟨p, hp, .inl x.symm⟩
    have c2 : p.2.1 ≠ a := fun x => hg ⟨p, hp, .inr x.symm⟩
    rw [upd_ne c1, upd_ne c2]
    exact r.g1 h p hp
  gt0 := fun p hp => by
    obtain ⟨o', u', h1, h2⟩ := r.gt0 p hp
    have c1 : p.1 ≠ a := fun x => by rw [x, h0] at h1; cases h1
    have c2 : p.2.1 ≠ a := fun x => by rw [x, h0] at h2; cases h2
    exact ⟨o', u', by rw [upd_ne c1]; exact h1, by rw [upd_ne c2]; exact h2⟩
  gt := r.gt
  gf := r.gf
/-- .. and let go -/
theorem Rp.letgo {a : Addr} {o : HO} (r : Rp GP K (upd H0 a o) F0 γ0 γ σ H F ρ) (h0 : H0 a = none) (f0 : F0 a = none) (ng : ¬ GA γ0 a) (nt : ∀ xs, o ≠ .tup xs) : Rp GP K H0 F0 γ0 γ σ H F ρ ∧ H a = some o ∧ F a = none ∧ (¬ GA γ a) ∧ ∀ j, ¬ OwnAt σ ρ a j := by
  have ne0 : ∀ b u, H0 b = some u → b ≠ a := fun b u h x => by rw [x, h0] at h; cases h
  have nn : ∀ b, upd H0 a o b = none → b ≠ a ∧ H0 b = none := fun b h => by
    by_cases c : b = a
    · subst c; rw [upd_same] at h; cases h
    · rw [upd_ne c] at h; exact ⟨c, h⟩
  refine ⟨⟨r.f0, r.sub, fun b u h nb => r.keep b u (by rw [upd_ne (ne0 b u h)]; exact h) nb, fun b u h => ?_, fun b u h => r.tr b u (by rw [upd_ne (ne0 b u h)]; exact h), r.len, r.val, fun i d q => ?_, r.gen, r.one, fun p hp => ?_, fun h p hp => ?_, fun p hp => ?_, r.gt, r.gf⟩, ?_, ?_, ?_, ?_⟩
  · rcases r.fnew b u h with z | z | z
    · exact .inl z
    · exact .inr (.inl (nn b z).2)
    · exact .inr (.inr z)
  · obtain ⟨b, h1, h2, h3, h4, h5⟩ := r.own i d q
    exact ⟨b, h1, h2, h3, (nn b h4).2, h5⟩
  · obtain ⟨q, hq, e1, e3, e2⟩ := r.g0 p hp
    refine ⟨q, hq, e1, e3, ?_⟩
    rcases e2 with z | z
    · exact .inl z
    · exact .inr (nn _ z).2
  · obtain ⟨z1, z2⟩ := r.g1 h p hp
    exact ⟨(nn _ z1).2, (nn _ z2).2⟩
  · obtain ⟨o', u', h1, h2⟩ := r.gt0 p hp
    have c1 : p.1 ≠ a := fun x => ng ⟨p, hp, .inl x.symm⟩
    have c2 : p.2.1 ≠ a := fun x => ng ⟨p, hp, .inr x.symm⟩
    rw [upd_ne c1] at h1
    rw [upd_ne c2] at h2
    exact ⟨o', u', h1, h2⟩
  · exact r.keep a o upd_same ng
  · cases q : F a with
    | none => rfl
    | some u =>
      rcases r.fnew a u q with z | z | ⟨xs, z⟩
      · rw [z] at f0; cases f0
      · exact absurd rfl (nn a z).1
      · have h1 := r.sub _ _ q
        rw [r.keep a o upd_same ng] at h1
        cases h1
        exact absurd z (nt xs)
  · rintro ⟨p, hp, e⟩
    cases hg : γ0 with
    | none =>
      obtain ⟨z1, z2⟩ := r.g1 hg p hp
      rcases e with e | e
      · exact (nn _ z1).1 e.symm
      · exact (nn _ z2).1 e.symm
    | some p0 =>
      obtain ⟨q, hq, e1, _, e2⟩ := r.g0 p0 hg
      rw [hp] at hq
      cases hq
      rcases e with e | e
      · exact ng ⟨p0, hg, .inl (e.trans e1)⟩
      · rcases e2 with z | z
        · exact ng ⟨p0, hg, .inr (e.trans z)⟩
        · exact (nn _ z).1 e.symm
  · rintro j ⟨⟨e, he⟩, h2⟩
    obtain ⟨b, h1, _, _, h4, _⟩ := r.own j e he
    rw [h2] at h1
    cases h1
    exact (nn _ h4).1 rfl
end
end DL
/-! lifted readings 2: the judgements; expressions -/
namespace DL
open PySem PySem.Spec PyProof.Rows L2 CD
abbrev UE := Rho → (RV → Rho → Prop) → Prop
abbrev UT := Rho → (Bool → Rho → Prop) → Prop
abbrev UA := Rho → (List RV → Rho → Prop) → Prop
structure UEnds where
  nx : Rho → Prop
  rt : D → Rho → Prop
  bk : Rho → Prop := fun _ => False
  ct : Rho → Prop := fun _ => False
abbrev US := UEnds → Rho → Prop
variable {GP : GenP} {K : PySem.W.Frag}
/-- what a finer base tells, the base tells too -/
class FinerC (GP : GenP) (K : PySem.W.Frag) (B : Hp × Hp × GAt) (H0 F0 : Hp) (γ0 : GAt) : Prop where
  fin : ∀ {γ : GAt} {σ : L2.St} {H F : Hp} {ρ : Rho}, Rp GP K H0 F0 γ0 γ σ H F ρ → Rp GP K B.1 B.2.1 B.2.2 γ σ H F ρ
  g : γ0 = B.2.2
variable {B : Hp × Hp × GAt}
variable (GP K) in
def LE (B : Hp × Hp × GAt) (t : TE) (u : UE) : Prop := ∀ ⦃H0 F0 : Hp⦄ ⦃γ0 : GAt⦄ [FinerC GP K B H0 F0 γ0] ⦃γ : GAt⦄ ⦃σ : L2.St⦄ ⦃H F : Hp⦄ ⦃ρ : Rho⦄ (R : VK) (Q : RV → Rho → Prop), Rp GP K H0 F0 γ0 γ σ H F ρ → u ρ Q →
  (∀ H' F' γ' ρ' v x, Rp GP K H0 F0 γ0 γ' σ H' F' ρ' → Same F F' → RVok K H0 γ0 γ' σ H' F' ρ' v x → Q x ρ' → R v H') → t σ H R
variable (GP K) in
def LT (B : Hp × Hp × GAt) (t : TT) (u : UT) : Prop := ∀ ⦃H0 F0 : Hp⦄ ⦃γ0 : GAt⦄ [FinerC GP K B H0 F0 γ0] ⦃γ : GAt⦄ ⦃σ : L2.St⦄ ⦃H F : Hp⦄ ⦃ρ : Rho⦄ (R : Bool → Hp → Prop) (Q : Bool → Rho → Prop), Rp GP K H0 F0 γ0 γ σ H F ρ → u ρ Q →
  (∀ H' F' γ' ρ' b, Rp GP K H0 F0 γ0 γ' σ H' F' ρ' → Same F F' → Q b ρ' → R b H') → t σ H R
/-- results that stay through what comes behind: none of them is new and of no slot -/
def RVs (K : PySem.W.Frag) (σ : L2.St) (F : Hp) : List V → List RV → Prop
  | [], [] => True
  | v :: vs, x :: xs => (match x with
    | .val d => Dd K F v d
    | .fr _ => False
    | .kon d => ∃ a xs ds, v = .ref a ∧ d = .tup ds ∧ SqT K (fun _ => none) a xs ∧ DdL K (fun _ => none) xs ds
    | .sl i => σ[i]? = some (some v)) ∧ RVs K σ F vs xs
  | _, _ => False
variable (GP K) in
def LA (B : Hp × Hp × GAt) (t : TA) (u : UA) : Prop := ∀ ⦃H0 F0 : Hp⦄ ⦃γ0 : GAt⦄ [FinerC GP K B H0 F0 γ0] ⦃γ : GAt⦄ ⦃σ : L2.St⦄ ⦃H F : Hp⦄ ⦃ρ : Rho⦄ (R : List V → Hp → Prop) (Q : List RV → Rho → Prop), Rp GP K H0 F0 γ0 γ σ H F ρ → u ρ Q →
  (∀ H' F' γ' ρ' vs xs, Rp GP K H0 F0 γ0 γ' σ H' F' ρ' → Same F F' → RVs K σ F' vs xs → Q xs ρ' → R vs H') → t σ H R
section
variable {H0 F0 H H' F F' : Hp} {γ0 γ : GAt} {σ : L2.St} {ρ : Rho} {v : V} {d : D}
/-- a new object of no slot is frozen, the rest is as it is -/
def sf : RV → RV
  | .fr d => .val d
  | x => x
theorem sf_ok {x : RV} (r : Rp GP K H0 F0 γ0 γ σ H F ρ) (h : RVok K H0 γ0 γ σ H F ρ v x) : ∃ F', Rp GP K H0 F0 γ0 γ σ H F' ρ ∧ Same F F' ∧ RVs K σ F' [v] [sf x] := by
  cases x with
  | val d => exact ⟨F, r, Same.refl _, h, trivial⟩
  | fr d =>
    obtain ⟨a, rfl, o, h1, h2, h3, h4⟩ := h
    obtain ⟨u, hu⟩ := o.there
    exact ⟨_, r.freeze hu h1 h2 h3 h4, same_upd h1, o.frozen h1 hu, trivial⟩
  | kon d => exact ⟨F, r, Same.refl _, h, trivial⟩
  | sl i => exact ⟨F, r, Same.refl _, h, trivial⟩
theorem RVs.one {x : RV} (h : RVs K σ F [v] [x]) : RVok K H0 γ0 γ σ H F ρ v x := by
  obtain ⟨h, _⟩ := h
  cases x with
  | val d => exact h
  | fr d => exact False.elim h
  | kon d => exact h
  | sl i => exact h
theorem RVs.cons {vs : List V} {x : RV} {xs : List RV} (h : RVs K σ F [v] [x]) (g : RVs K σ F vs xs) : RVs K σ F (v :: vs) (x :: xs) := ⟨h.1, g⟩
theorem RVs.same : ∀ {vs : List V} {xs : List RV}, Same F F' → RVs K σ F vs xs → RVs K σ F' vs xs
  | [], [], _, _ => trivial
  | v :: vs, x :: xs, s, h => by
    obtain ⟨h, g⟩ := h
    refine ⟨?_, RVs.same s g⟩
    cases x with
    | val d => exact h.same s
    | fr d => exact h
    | kon d => exact h
    | sl i => exact h
  | [], _ :: _, _, h => h.elim
  | _ :: _, [], _, h => h.elim
theorem RVs.nil_of {vs : List V} (h : RVs K σ F vs []) : vs = [] := by
  cases vs with
  | nil => rfl
  | cons _ _ => exact h.elim
theorem RVs.cons_of {vs : List V} {x : RV} {xs : List RV} (h : RVs K σ F vs (x :: xs)) : ∃ v ws, vs = v :: ws ∧ RVs K σ F [v] [x] ∧ RVs K σ F ws xs := by
  cases vs with
  | nil => exact h.elim
  | cons v ws => exact ⟨v, ws, rfl, ⟨h.1, trivial⟩, h.2⟩
end
/-! ### names, constants -/
def uVar (i : Nat) : UE := fun ρ Q => match ρ[i]? with
  | some (some (.val d)) => Q (.val d) ρ
  | some (some _) => Q (.sl i) ρ
  | _ => False
theorem le_var (i : Nat) : LE GP K B (tVar i) (uVar i) := fun H0 F0 γ0 _ γ σ H F ρ R Q r u h => by
  dsimp only [uVar] at u
  cases q : ρ[i]? with
  | none => rw [q] at u; exact False.elim u
  | some s =>
    rw [q] at u
    cases s with
    | none => exact False.elim u
    | some s =>
      cases s with
      | val d =>
        obtain ⟨v, h1, h2⟩ := r.val i d q
        exact ⟨v, h1, h _ _ _ _ _ (.val d) r (Same.refl _) h2 u⟩
      | own d =>
        obtain ⟨a, h1, _⟩ := r.own i d q
        exact ⟨_, h1, h _ _ _ _ _ (.sl i) r (Same.refl _) h1 u⟩
      | gen n =>
        obtain ⟨p, _, h1, _⟩ := r.gen i n q
        exact ⟨_, h1, h _ _ _ _ _ (.sl i) r (Same.refl _) h1 u⟩
/-- a flat value -/
def fD : V → Option D
  | .non => some .non
  | .bl b => some (.bl b)
  | .int i => some (.int i)
  | .str s => some (.str s)
  | _ => none
def uC (d : D) : UE := fun ρ Q => Q (.val d) ρ
theorem le_int (i : Int) : LE GP K B (tC (.int i)) (uC (.int i)) := fun H0 F0 γ0 _ γ σ H F ρ R Q r u h => h _ _ _ _ _ (.val _) r (Same.refl _) (Dd.int i) u
theorem le_bl (i : Bool) : LE GP K B (tC (.bl i)) (uC (.bl i)) := fun H0 F0 γ0 _ γ σ H F ρ R Q r u h => h _ _ _ _ _ (.val _) r (Same.refl _) (Dd.bl i) u
theorem le_str (i : Str) : LE GP K B (tC (.str i)) (uC (.str i)) := fun H0 F0 γ0 _ γ σ H F ρ R Q r u h => h _ _ _ _ _ (.val _) r (Same.refl _) (Dd.str i) u
theorem le_non : LE GP K B (tC .non) (uC .non) := fun H0 F0 γ0 _ γ σ H F ρ R Q r u h => h _ _ _ _ _ (.val _) r (Same.refl _) Dd.non u
/-- a tuple that is written in the text -/
def uK (d : D) : UE := fun ρ Q => Q (.kon d) ρ
theorem le_kon {a : Addr} {xs : List V} {ds : List D} (h1 : SqT K (fun _ => none) a xs) (h2 : DdL K (fun _ => none) xs ds) : LE GP K B (tC (.ref a)) (uK (.tup ds)) :=
  fun H0 F0 γ0 _ γ σ H F ρ R Q r u h => h _ _ _ _ _ (.kon _) r (Same.refl _) ⟨a, xs, ds, rfl, rfl, h1, h2⟩ u
/-! ### operators -/
/-- what an operation gives: flat or frozen data, or a new object -/
def Opk (K : PySem.W.Frag) (F H H' : Hp) (v : V) : RV → Prop
  | .val d => Dd K F v d
  | .fr (.tup ds) => ∃ a xs, v = .ref a ∧ H a = none ∧ H' a = some (.tup xs) ∧ DdL K F xs ds
  | .fr d => ∃ a, v = .ref a ∧ H a = none ∧ Own K F H' a d
  | _ => False
/-- a new tuple counts as frozen -/
def nrm : RV → RV
  | .fr (.tup ds) => .val (.tup ds)
  | x => x
theorem fr_ok {H0 F0 H H' F : Hp} {γ0 γ : GAt} {σ : L2.St} {ρ : Rho} {a : Addr} {d : D} (r : Rp GP K H0 F0 γ0 γ σ H F ρ) (s : Same H H') (n : H a = none) (o : Own K F H' a d) : RVok K H0 γ0 γ σ H' F ρ (.ref a) (.fr d) := by
  refine ⟨a, rfl, o, Same.free r.sub n, r.new0 n, fun hg => ?_, fun j hj => ?_⟩
  · obtain ⟨p, hp, e⟩ := hg
    obtain ⟨o', u', h1, h2, _⟩ := r.gt p hp
    rcases e with rfl | rfl
    · rw [h1] at n; cases n
    · rw [h2] at n; cases n
  · obtain ⟨⟨e, he⟩, hs⟩ := hj
    obtain ⟨b, b1, b2, _⟩ := r.own j e he
    rw [hs] at b1; cases b1
    obtain ⟨o', ho⟩ := b2.there
    rw [ho] at n; cases n
/-- a tuple that is tracked is frozen -/
theorem tup_frz {H0 F0 H F : Hp} {γ0 γ : GAt} {σ : L2.St} {ρ : Rho} {a : Addr} {xs : List V} {ds : List D} (r : Rp GP K H0 F0 γ0 γ σ H F ρ) (h : H a = some (.tup xs)) (g : DdL K F xs ds) :
    ∃ F', Rp GP K H0 F0 γ0 γ σ H F' ρ ∧ Same F F' ∧ Dd K F' (.ref a) (.tup ds) := by
  cases q : F a with
  | some o =>
    have := r.sub _ _ q
    rw [h] at this
    cases this
    exact ⟨F, r, Same.refl _, .tup q g⟩
  | none =>
    have s := same_upd (o := .tup xs) q
    have own : ∀ (i : Nat) (d : D), ρ[i]? = some (some (.own d)) → σ[i]? ≠ some (some (.ref a)) := fun i d q e => by
      obtain ⟨b, b1, b2, _⟩ := r.own i d q
      rw [e] at b1; cases b1
      exact b2.nt h
    have ga : ¬ GA γ a := fun ⟨p, hp, e⟩ => by
      obtain ⟨o, u, h1, h2, h3⟩ := r.gt p hp
      rcases e with rfl | rfl
      · rw [h] at h1; cases h1; exact (h3 xs).1 rfl
      · rw [h] at h2; cases h2; exact (h3 xs).2 rfl
    refine ⟨upd F a (.tup xs), ⟨r.f0.trans s, fun b u hb => ?_, r.keep, fun b u hb => ?_, r.tr, r.len, fun i d q => ?_, fun i d q => ?_, fun i n q => ?_, r.one, r.g0, r.g1, r.gt0, r.gt, fun p hp => ?_⟩, s, .tup upd_same (g.same s)⟩
    · by_cases c : b = a
      · subst c; rw [upd_same] at hb; cases hb; exact h
      · rw [upd_ne c] at hb; exact r.sub _ _ hb
    · by_cases c : b = a
      · subst c; rw [upd_same] at hb; cases hb; exact .inr (.inr ⟨xs, rfl⟩)
      · rw [upd_ne c] at hb; exact r.fnew _ _ hb
    · obtain ⟨v, h1, h2⟩ := r.val i d q
      exact ⟨v, h1, h2.same s⟩
    · obtain ⟨b, h1, h2, h3, h4⟩ := r.own i d q
      have nb : b ≠ a := fun x => own i d q (x ▸ h1)
      exact ⟨b, h1, h2.move s rfl, by rw [upd_ne nb]; exact h3, h4⟩
    · obtain ⟨p, h1, h2, h3, h4⟩ := r.gen i n q
      refine ⟨p, h1, h2, h3, ?_⟩
      by_cases c : p.2.2 = a
      · rw [c, upd_same]; exact fun x => nomatch x
      · rw [upd_ne c]; exact h4
    · obtain ⟨f1, f2⟩ := r.gf p hp
      have n1 : p.1 ≠ a := fun x => ga ⟨p, hp, .inl x.symm⟩
      have n2 : p.2.1 ≠ a := fun x => ga ⟨p, hp, .inr x.symm⟩
      rw [upd_ne n1, upd_ne n2]
      exact ⟨f1, f2⟩
/-- .. all of them -/
theorem opk_ok {H0 F0 H H' F : Hp} {γ0 γ : GAt} {σ : L2.St} {ρ : Rho} {v : V} {x : RV} (r : Rp GP K H0 F0 γ0 γ σ H F ρ) (s : Same H H') (h : Opk K F H H' v x) :
    ∃ F', Rp GP K H0 F0 γ0 γ σ H' F' ρ ∧ Same F F' ∧ RVok K H0 γ0 γ σ H' F' ρ v (nrm x) := by
  have r' := r.same s
  cases x with
  | val d => exact ⟨F, r', Same.refl _, h⟩
  | fr d =>
    cases d with
    | tup ds =>
      obtain ⟨a, xs, rfl, n, e, g⟩ := h
      obtain ⟨F', r2, s2, d2⟩ := tup_frz r' e g
      exact ⟨F', r2, s2, d2⟩
    | _ =>
      obtain ⟨a, rfl, n, o⟩ := h
      exact ⟨F, r', Same.refl _, fr_ok r s n o⟩
  | kon d => exact False.elim h
  | sl i => exact False.elim h
abbrev P1 := D → (RV → Prop) → Prop
abbrev P2 := D → D → (RV → Prop) → Prop
abbrev PN := List D → (RV → Prop) → Prop
variable (K) in
def LR (r : R2) (p : P2) : Prop := ∀ ⦃F H : Hp⦄ ⦃x y : V⦄ ⦃dx dy : D⦄ (R : VK) (Q : RV → Prop), Same F H → Cnt K F H x dx → Cnt K F H y dy → p dx dy Q →
  (∀ v H' rv, Same H H' → Opk K F H H' v rv → Q rv → R v H') → r x y H R
variable (K) in
def LU (r : V → Hp → VK → Prop) (p : P1) : Prop := ∀ ⦃F H : Hp⦄ ⦃x : V⦄ ⦃dx : D⦄ (R : VK) (Q : RV → Prop), Same F H → Cnt K F H x dx → p dx Q →
  (∀ v H' rv, Same H H' → Opk K F H H' v rv → Q rv → R v H') → r x H R
def uOp (p : P2) (ua ub : UE) : UE := fun ρ Q => ua ρ fun x ρ1 => ub ρ1 fun y ρ2 => match cn ρ2 (sf x), cn ρ2 y with
  | some dx, some dy => p dx dy fun z => Q (nrm z) ρ2
  | _, _ => False
theorem le_op {r : R2} {p : P2} {ta tb : TE} {ua ub : UE} (hr : LR K r p) (ha : LE GP K B ta ua) (hb : LE GP K B tb ub) : LE GP K B (tOp r ta tb) (uOp p ua ub) := by
  intro H0 F0 γ0 _ γ σ H F ρ R Q r0 u h
  refine ha _ _ r0 u fun H1 F1 γ1 ρ1 v x r1 s1 k1 u1 => ?_
  obtain ⟨F2, r2, s2, k2⟩ := sf_ok r1 k1
  refine hb _ _ r2 u1 fun H3 F3 γ3 ρ3 w y r3 s3 k3 u3 => ?_
  split at u3
  · rename_i dx dy e1 e2
    have c1 := RVok.cnt r3 ((k2.same s3).one) e1
    have c2 := RVok.cnt r3 k3 e2
    exact hr _ _ r3.sub c1 c2 u3 fun v' H' rv sH ok q => let ⟨_, r9, s9, k9⟩ := opk_ok r3 sH ok; h _ _ _ _ _ (nrm rv) r9 (s1.trans (s2.trans (s3.trans s9))) k9 q
  · exact False.elim u3
def uUn (p : P1) (ua : UE) : UE := fun ρ Q => ua ρ fun x ρ1 => match cn ρ1 x with
  | some dx => p dx fun z => Q (nrm z) ρ1
  | _ => False
theorem le_un {r : V → Hp → VK → Prop} {p : P1} {ta : TE} {ua : UE} (hr : LU K r p) (ha : LE GP K B ta ua) : LE GP K B (tUn r ta) (uUn p ua) := by
  intro H0 F0 γ0 _ γ σ H F ρ R Q r0 u h
  refine ha _ _ r0 u fun H1 F1 γ1 ρ1 v x r1 s1 k1 u1 => ?_
  split at u1
  · rename_i dx e1
    exact hr _ _ r1.sub (RVok.cnt r1 k1 e1) u1 fun v' H' rv sH ok q => let ⟨_, r9, s9, k9⟩ := opk_ok r1 sH ok; h _ _ _ _ _ (nrm rv) r9 (s1.trans s9) k9 q
  · exact False.elim u1
/-- ints -/
def pI (C : Int → Int → Prop) (g : Int → Int → D) : P2 := fun x y Q => match x, y with
  | .int i, .int j => C i j ∧ Q (.val (g i j))
  | _, _ => False
def pI0 (g : Int → Int → D) : P2 := fun x y Q => match x, y with
  | .int i, .int j => Q (.val (g i j))
  | _, _ => False
theorem flat_dd {F : Hp} : ∀ {v : V} {d : D}, fD v = some d → Dd K F v d
  | .non, _, h => by cases h; exact .non
  | .bl b, _, h => by cases h; exact .bl b
  | .int i, _, h => by cases h; exact .int i
  | .str s, _, h => by cases h; exact .str s
theorem lr_I {C : Int → Int → Prop} {g : Int → Int → V} {g' : Int → Int → D} (e : ∀ i j, fD (g i j) = some (g' i j)) : LR K (rI C g) (pI C g') := by
  intro F H x y dx dy R Q s c1 c2 p h
  unfold pI at p
  split at p
  · rename_i i j
    exact ⟨i, j, c1.int, c2.int, p.1, h _ _ (.val _) (Same.refl _) (flat_dd (e i j)) p.2⟩
  · exact False.elim p
theorem lr_I0 {g : Int → Int → V} {g' : Int → Int → D} (e : ∀ i j, fD (g i j) = some (g' i j)) : LR K (rI0 g) (pI0 g') := by
  intro F H x y dx dy R Q s c1 c2 p h
  unfold pI0 at p
  split at p
  · rename_i i j
    exact ⟨i, j, c1.int, c2.int, h _ _ (.val _) (Same.refl _) (flat_dd (e i j)) p⟩
  · exact False.elim p
/-! ### tests -/
def uTest (u : UE) : UT := fun ρ Q => u ρ fun x ρ' => match cn ρ' x with
  | some (.bl b) => Q b ρ'
  | _ => False
theorem lt_test {t : TE} {u : UE} (h : LE GP K B t u) : LT GP K B (tTest t) (uTest u) := by
  intro H0 F0 γ0 _ γ σ H F ρ R Q r0 u0 k
  refine h _ _ r0 u0 fun H1 F1 γ1 ρ1 v x r1 s1 k1 u1 => ?_
  split at u1
  · rename_i b e
    exact ⟨b, (RVok.cnt r1 k1 e).bl, k _ _ _ _ _ r1 s1 u1⟩
  · exact False.elim u1
theorem lt_B {t : TE} {u : UE} (h : LE GP K B t u) : LT GP K B (tB t) (uTest u) := lt_test h
def uAnd (a b : UT) : UT := fun ρ Q => a ρ fun c ρ1 => if c = true then b ρ1 Q else Q false ρ1
def uOr (a b : UT) : UT := fun ρ Q => a ρ fun c ρ1 => if c = true then Q true ρ1 else b ρ1 Q
def uNot (a : UT) : UT := fun ρ Q => a ρ fun c ρ1 => Q (!c) ρ1
theorem lt_and {t t' : TT} {u u' : UT} (h : LT GP K B t u) (h' : LT GP K B t' u') : LT GP K B (tAnd t t') (uAnd u u') := by
  intro H0 F0 γ0 _ γ σ H F ρ R Q r0 u0 k
  refine h _ _ r0 u0 fun H1 F1 γ1 ρ1 b r1 s1 u1 => ?_
  split
  · rename_i c
    rw [if_pos c] at u1
    exact h' _ _ r1 u1 fun H2 F2 γ2 ρ2 b r2 s2 u2 => k _ _ _ _ _ r2 (s1.trans s2) u2
  · rename_i c
    rw [if_neg c] at u1
    exact k _ _ _ _ _ r1 s1 u1
theorem lt_or {t t' : TT} {u u' : UT} (h : LT GP K B t u) (h' : LT GP K B t' u') : LT GP K B (tOr t t') (uOr u u') := by
  intro H0 F0 γ0 _ γ σ H F ρ R Q r0 u0 k
  refine h _ _ r0 u0 fun H1 F1 γ1 ρ1 b r1 s1 u1 => ?_
  split
  · rename_i c
    rw [if_pos c] at u1
    exact k _ _ _ _ _ r1 s1 u1
  · rename_i c
    rw [if_neg c] at u1
    exact h' _ _ r1 u1 fun H2 F2 γ2 ρ2 b r2 s2 u2 => k _ _ _ _ _ r2 (s1.trans s2) u2
theorem lt_not {t : TT} {u : UT} (h : LT GP K B t u) : LT GP K B (tNot t) (uNot u) := by
  intro H0 F0 γ0 _ γ σ H F ρ R Q r0 u0 k
  exact h _ _ r0 u0 fun H1 F1 γ1 ρ1 b r1 s1 u1 => k _ _ _ _ _ r1 s1 u1
def uYes : UT := fun ρ Q => Q true ρ
theorem lt_yes : LT GP K B tYes uYes := fun H0 F0 γ0 _ γ σ H F ρ R Q r0 u0 k => k _ _ _ _ _ r0 (Same.refl _) u0
def uAndV (a b : UE) : UE := fun ρ Q => a ρ fun x ρ1 => match cn ρ1 x with
  | some (.bl c) => if c = true then b ρ1 Q else Q (.val (.bl false)) ρ1
  | _ => False
def uOrV (a b : UE) : UE := fun ρ Q => a ρ fun x ρ1 => match cn ρ1 x with
  | some (.bl c) => if c = true then Q (.val (.bl true)) ρ1 else b ρ1 Q
  | _ => False
def uNotV (a : UE) : UE := fun ρ Q => a ρ fun x ρ1 => match cn ρ1 x with
  | some (.bl c) => Q (.val (.bl (!c))) ρ1
  | _ => False
theorem le_and {t t' : TE} {u u' : UE} (h : LE GP K B t u) (h' : LE GP K B t' u') : LE GP K B (tAndV t t') (uAndV u u') := by
  intro H0 F0 γ0 _ γ σ H F ρ R Q r0 u0 k
  refine h _ _ r0 u0 fun H1 F1 γ1 ρ1 v x r1 s1 k1 u1 => ?_
  split at u1
  · rename_i b e
    refine ⟨b, (RVok.cnt r1 k1 e).bl, ?_⟩
    split
    · rename_i c
      rw [if_pos c] at u1
      exact h' _ _ r1 u1 fun H2 F2 γ2 ρ2 v x r2 s2 k2 u2 => k _ _ _ _ _ _ r2 (s1.trans s2) k2 u2
    · rename_i c
      rw [if_neg c] at u1
      exact k _ _ _ _ _ (.val _) r1 s1 (Dd.bl _) u1
  · exact False.elim u1
theorem le_or {t t' : TE} {u u' : UE} (h : LE GP K B t u) (h' : LE GP K B t' u') : LE GP K B (tOrV t t') (uOrV u u') := by
  intro H0 F0 γ0 _ γ σ H F ρ R Q r0 u0 k
  refine h _ _ r0 u0 fun H1 F1 γ1 ρ1 v x r1 s1 k1 u1 => ?_
  split at u1
  · rename_i b e
    refine ⟨b, (RVok.cnt r1 k1 e).bl, ?_⟩
    split
    · rename_i c
      rw [if_pos c] at u1
      exact k _ _ _ _ _ (.val _) r1 s1 (Dd.bl _) u1
    · rename_i c
      rw [if_neg c] at u1
      exact h' _ _ r1 u1 fun H2 F2 γ2 ρ2 v x r2 s2 k2 u2 => k _ _ _ _ _ _ r2 (s1.trans s2) k2 u2
  · exact False.elim u1
theorem le_not {t : TE} {u : UE} (h : LE GP K B t u) : LE GP K B (tNotV t) (uNotV u) := by
  intro H0 F0 γ0 _ γ σ H F ρ R Q r0 u0 k
  refine h _ _ r0 u0 fun H1 F1 γ1 ρ1 v x r1 s1 k1 u1 => ?_
  split at u1
  · rename_i b e
    exact ⟨b, (RVok.cnt r1 k1 e).bl, k _ _ _ _ _ (.val _) r1 s1 (Dd.bl _) u1⟩
  · exact False.elim u1
def uIfE (c : UT) (a b : UE) : UE := fun ρ Q => c ρ fun z ρ1 => if z = true then a ρ1 Q else b ρ1 Q
theorem le_if {t : TT} {u : UT} {ta tb : TE} {ua ub : UE} (h : LT GP K B t u) (ha : LE GP K B ta ua) (hb : LE GP K B tb ub) : LE GP K B (tIf t ta tb) (uIfE u ua ub) := by
  intro H0 F0 γ0 _ γ σ H F ρ R Q r0 u0 k
  refine h _ _ r0 u0 fun H1 F1 γ1 ρ1 b r1 s1 u1 => ?_
  split
  · rename_i c
    rw [if_pos c] at u1
    exact ha _ _ r1 u1 fun H2 F2 γ2 ρ2 v x r2 s2 k2 u2 => k _ _ _ _ _ _ r2 (s1.trans s2) k2 u2
  · rename_i c
    rw [if_neg c] at u1
    exact hb _ _ r1 u1 fun H2 F2 γ2 ρ2 v x r2 s2 k2 u2 => k _ _ _ _ _ _ r2 (s1.trans s2) k2 u2
/-- a op b op' c -/
def uChain (p p' : P2) (ua ub uc : UE) : UE := fun ρ Q => ua ρ fun x ρ1 => ub ρ1 fun y ρ2 => match cn ρ2 (sf x), cn ρ2 (sf y) with
  | some dx, some dy => p dx dy fun z => match z with
    | .val (.bl k) => if k = true then uc ρ2 (fun w ρ3 => match cn ρ3 (sf y), cn ρ3 w with
        | some dy, some dw => p' dy dw fun z => Q (nrm z) ρ3
        | _, _ => False) else Q (.val (.bl false)) ρ2
    | _ => False
  | _, _ => False
theorem le_chain {r r' : R2} {p p' : P2} {ta tb tc : TE} {ua ub uc : UE} (hr : LR K r p) (hr' : LR K r' p') (ha : LE GP K B ta ua) (hb : LE GP K B tb ub) (hc : LE GP K B tc uc) : LE GP K B (tChain r r' ta tb tc) (uChain p p' ua ub uc) := by
  intro H0 F0 γ0 _ γ σ H F ρ R Q r0 u h
  refine ha _ _ r0 u fun H1 F1 γ1 ρ1 v x r1 s1 k1 u1 => ?_
  obtain ⟨F2, r2, s2, k2⟩ := sf_ok r1 k1
  refine hb _ _ r2 u1 fun H3 F3 γ3 ρ3 w y r3 s3 k3 u3 => ?_
  obtain ⟨F4, r4, s4, k4⟩ := sf_ok r3 k3
  split at u3
  · rename_i dx dy e1 e2
    have c1 := RVok.cnt r4 (((k2.same s3).same s4).one) e1
    have c2 := RVok.cnt r4 k4.one e2
    refine hr _ _ r4.sub c1 c2 u3 fun v' H' rv sH ok q => ?_
    split at q
    · rename_i k
      cases ok
      refine ⟨k, rfl, ?_⟩
      split
      · rename_i c
        rw [if_pos c] at q
        refine hc _ _ (r4.same sH) q fun H5 F5 γ5 ρ5 v5 x5 r5 s5 k5 u5 => ?_
        split at u5
        · rename_i dy' dw e3 e4
          have c3 := RVok.cnt r5 ((k4.same s5).one) e3
          have c4 := RVok.cnt r5 k5 e4
          exact hr' _ _ r5.sub c3 c4 u5 fun v' H' rv sH ok q => let ⟨_, r9, s9, k9⟩ := opk_ok r5 sH ok; h _ _ _ _ _ (nrm rv) r9 (s1.trans (s2.trans (s3.trans (s4.trans (s5.trans s9))))) k9 q
        · exact False.elim u5
      · rename_i c
        rw [if_neg c] at q
        exact h _ _ _ _ _ (.val _) (r4.same sH) (s1.trans (s2.trans (s3.trans s4))) (Dd.bl _) q
    · exact False.elim q
  · exact False.elim u3
/-! ### argument lists, displays -/
def uNil : UA := fun ρ Q => Q [] ρ
def uCons (a : UE) (b : UA) : UA := fun ρ Q => a ρ fun x ρ1 => b ρ1 fun xs ρ2 => Q (sf x :: xs) ρ2
theorem la_nil : LA GP K B tNil uNil := fun H0 F0 γ0 _ γ σ H F ρ R Q r0 u0 k => k _ _ _ _ _ [] r0 (Same.refl _) trivial u0
theorem la_cons {ta : TE} {tr : TA} {ua : UE} {ur : UA} (ha : LE GP K B ta ua) (hr : LA GP K B tr ur) : LA GP K B (tCons ta tr) (uCons ua ur) := by
  intro H0 F0 γ0 _ γ σ H F ρ R Q r0 u h
  refine ha _ _ r0 u fun H1 F1 γ1 ρ1 v x r1 s1 k1 u1 => ?_
  obtain ⟨F2, r2, s2, k2⟩ := sf_ok r1 k1
  exact hr _ _ r2 u1 fun H3 F3 γ3 ρ3 vs xs r3 s3 k3 u3 => h _ _ _ _ _ _ r3 (s1.trans (s2.trans s3)) ((k2.same s3).cons k3) u3
/-- all of them frozen -/
def fzs : List RV → Rho → (List D → Rho → Prop) → Prop
  | [], ρ, k => k [] ρ
  | x :: xs, ρ, k => fz x ρ fun d ρ1 => fzs xs ρ1 fun ds ρ2 => k (d :: ds) ρ2
theorem fzs_ok {H0 F0 H : Hp} {γ0 γ : GAt} {σ : L2.St} : ∀ {xs : List RV} {vs : List V} {F : Hp} {ρ : Rho} {k : List D → Rho → Prop}, Rp GP K H0 F0 γ0 γ σ H F ρ → RVs K σ F vs xs → fzs xs ρ k →
    ∃ F' ρ' ds, Rp GP K H0 F0 γ0 γ σ H F' ρ' ∧ Same F F' ∧ DdL K F' vs ds ∧ k ds ρ'
  | [], vs, F, ρ, k, r, h, z => by
    obtain rfl := h.nil_of
    exact ⟨F, ρ, [], r, Same.refl _, .nil, z⟩
  | x :: xs, vs, F, ρ, k, r, h, z => by
    obtain ⟨v, ws, rfl, h1, h2⟩ := h.cons_of
    obtain ⟨F1, ρ1, d, r1, s1, d1, z1⟩ := fz_ok r h1.one z
    obtain ⟨F2, ρ2, ds, r2, s2, d2, z2⟩ := fzs_ok r1 (h2.same s1) z1
    exact ⟨F2, ρ2, d :: ds, r2, s1.trans s2, .cons (d1.same s2) d2, z2⟩
def uTup (a : UA) : UE := fun ρ Q => a ρ fun xs ρ1 => fzs xs ρ1 fun ds ρ2 => ds.length ≤ sizeLine ∧ Q (.val (.tup ds)) ρ2
def uLst (a : UA) : UE := fun ρ Q => a ρ fun xs ρ1 => fzs xs ρ1 fun ds ρ2 => ds.length ≤ sizeLine ∧ Q (.fr (.list ds)) ρ2
theorem fr_new {H0 F0 H F : Hp} {γ0 γ : GAt} {σ : L2.St} {ρ : Rho} {p : Addr} {o : HO} {d : D} (r : Rp GP K H0 F0 γ0 γ σ H F ρ) (n : H p = none) (h : Own K F (upd H p o) p d) :
    RVok K H0 γ0 γ σ (upd H p o) F ρ (.ref p) (.fr d) := fr_ok r (same_upd n) n h
/-- a new tuple frozen at once -/
theorem new_tup {H0 F0 H F : Hp} {γ0 γ : GAt} {σ : L2.St} {ρ : Rho} {p : Addr} {xs : List V} {ds : List D} (r : Rp GP K H0 F0 γ0 γ σ H F ρ) (n : H p = none) (h : DdL K F xs ds) :
    ∃ F', Rp GP K H0 F0 γ0 γ σ (upd H p (.tup xs)) F' ρ ∧ Same F F' ∧ Dd K F' (.ref p) (.tup ds) := tup_frz (r.same (same_upd n)) upd_same h
theorem le_tup {t : TA} {u : UA} (ha : LA GP K B t u) : LE GP K B (tTup t) (uTup u) := by
  intro H0 F0 γ0 _ γ σ H F ρ R Q r0 u0 h
  refine ha _ _ r0 u0 fun H1 F1 γ1 ρ1 vs xs r1 s1 k1 u1 => ?_
  obtain ⟨F2, ρ2, ds, r2, s2, d2, z1, z2⟩ := fzs_ok r1 k1 u1
  refine ⟨by rw [d2.length]; exact z1, fun p np => ?_⟩
  obtain ⟨F3, r3, s3, d3⟩ := new_tup r2 np d2
  exact h _ _ _ _ _ (.val _) r3 (s1.trans (s2.trans s3)) d3 z2
theorem le_lst {t : TA} {u : UA} (ha : LA GP K B t u) : LE GP K B (tLst t) (uLst u) := by
  intro H0 F0 γ0 _ γ σ H F ρ R Q r0 u0 h
  refine ha _ _ r0 u0 fun H1 F1 γ1 ρ1 vs xs r1 s1 k1 u1 => ?_
  obtain ⟨F2, ρ2, ds, r2, s2, d2, z1, z2⟩ := fzs_ok r1 k1 u1
  exact ⟨by rw [d2.length]; exact z1, fun p np => h _ _ _ _ _ (.fr _) (r2.same (same_upd np)) (s1.trans s2) (fr_new r2 np (.lst upd_same d2)) z2⟩
/-! ### built-ins of values -/
def CntL (K : PySem.W.Frag) (F H : Hp) : List V → List D → Prop
  | [], [] => True
  | v :: vs, d :: ds => Cnt K F H v d ∧ CntL K F H vs ds
  | _, _ => False
variable (K) in
def LB (r : List V → Hp → VK → Prop) (p : PN) : Prop := ∀ ⦃F H : Hp⦄ ⦃vs : List V⦄ ⦃ds : List D⦄ (R : VK) (Q : RV → Prop), Same F H → CntL K F H vs ds → p ds Q →
  (∀ v H' rv, Same H H' → Opk K F H H' v rv → Q rv → R v H') → r vs H R
def cns (ρ : Rho) : List RV → Option (List D)
  | [] => some []
  | x :: xs => match cn ρ x, cns ρ xs with
    | some d, some ds => some (d :: ds)
    | _, _ => none
theorem cns_ok {H0 F0 H F : Hp} {γ0 γ : GAt} {σ : L2.St} {ρ : Rho} (r : Rp GP K H0 F0 γ0 γ σ H F ρ) : ∀ {xs : List RV} {vs : List V} {ds : List D}, RVs K σ F vs xs → cns ρ xs = some ds → CntL K F H vs ds
  | [], vs, ds, h, e => by
    obtain rfl := h.nil_of
    cases e
    trivial
  | x :: xs, vs, ds, h, e => by
    obtain ⟨v, ws, rfl, h1, h2⟩ := h.cons_of
    dsimp only [cns] at e
    split at e
    · rename_i d ds' e1 e2
      cases e
      exact ⟨RVok.cnt r h1.one e1, cns_ok r h2 e2⟩
    · cases e
def uCB (p : PN) (a : UA) : UE := fun ρ Q => a ρ fun xs ρ1 => match cns ρ1 xs with
  | some ds => p ds fun z => Q (nrm z) ρ1
  | none => False
theorem le_cb {r : List V → Hp → VK → Prop} {p : PN} {t : TA} {u : UA} (hr : LB K r p) (ha : LA GP K B t u) : LE GP K B (tCB r t) (uCB p u) := by
  intro H0 F0 γ0 _ γ σ H F ρ R Q r0 u0 h
  refine ha _ _ r0 u0 fun H1 F1 γ1 ρ1 vs xs r1 s1 k1 u1 => ?_
  split at u1
  · rename_i ds e
    exact hr _ _ r1.sub (cns_ok r1 k1 e) u1 fun v' H' rv sH ok q => let ⟨_, r9, s9, k9⟩ := opk_ok r1 sH ok; h _ _ _ _ _ (nrm rv) r9 (s1.trans s9) k9 q
  · exact False.elim u1
/-! ### slices -/
abbrev UO := Rho → (Option Int → Rho → Prop) → Prop
variable (GP K) in
def LO (B : Hp × Hp × GAt) (t : TO) (u : UO) : Prop := ∀ ⦃H0 F0 : Hp⦄ ⦃γ0 : GAt⦄ [FinerC GP K B H0 F0 γ0] ⦃γ : GAt⦄ ⦃σ : L2.St⦄ ⦃H F : Hp⦄ ⦃ρ : Rho⦄ (R : Option Int → Hp → Prop) (Q : Option Int → Rho → Prop), Rp GP K H0 F0 γ0 γ σ H F ρ → u ρ Q →
  (∀ H' F' γ' ρ' b, Rp GP K H0 F0 γ0 γ' σ H' F' ρ' → Same F F' → Q b ρ' → R b H') → t σ H R
def uNoPart : UO := fun ρ Q => Q none ρ
def uPart (u : UE) : UO := fun ρ Q => u ρ fun x ρ1 => match cn ρ1 x with
  | some (.int i) => Q (some i) ρ1
  | _ => False
theorem lo_none : LO GP K B tNoPart uNoPart := fun H0 F0 γ0 _ γ σ H F ρ R Q r0 u0 k => k _ _ _ _ _ r0 (Same.refl _) u0
theorem lo_some {t : TE} {u : UE} (h : LE GP K B t u) : LO GP K B (tPart t) (uPart u) := by
  intro H0 F0 γ0 _ γ σ H F ρ R Q r0 u0 k
  refine h _ _ r0 u0 fun H1 F1 γ1 ρ1 v x r1 s1 k1 u1 => ?_
  split at u1
  · rename_i b e
    exact ⟨b, (RVok.cnt r1 k1 e).int, k _ _ _ _ _ r1 s1 u1⟩
  · exact False.elim u1
abbrev PS3 := D → Option Int → Option Int → (RV → Prop) → Prop
variable (K) in
def LSl (r : V → Option Int → Option Int → Hp → VK → Prop) (p : PS3) : Prop := ∀ ⦃F H : Hp⦄ ⦃x : V⦄ ⦃dx : D⦄ (l h : Option Int) (R : VK) (Q : RV → Prop), Same F H → Cnt K F H x dx → p dx l h Q →
  (∀ v H' rv, Same H H' → Opk K F H H' v rv → Q rv → R v H') → r x l h H R
def uSl (p : PS3) (a : UE) (l h : UO) : UE := fun ρ Q => a ρ fun x ρ1 => l ρ1 fun i ρ2 => h ρ2 fun j ρ3 => match cn ρ3 (sf x) with
  | some d => p d i j fun z => Q (nrm z) ρ3
  | none => False
theorem le_sl {r : V → Option Int → Option Int → Hp → VK → Prop} {p : PS3} {te : TE} {tl th : TO} {ue : UE} {ul uh : UO} (hr : LSl K r p) (he : LE GP K B te ue) (hl : LO GP K B tl ul) (hh : LO GP K B th uh) : LE GP K B (tSl r te tl th) (uSl p ue ul uh) := by
  intro H0 F0 γ0 _ γ σ H F ρ R Q r0 u0 h
  refine he _ _ r0 u0 fun H1 F1 γ1 ρ1 v x r1 s1 k1 u1 => ?_
  obtain ⟨F2, r2, s2, k2⟩ := sf_ok r1 k1
  refine hl _ _ r2 u1 fun H3 F3 γ3 ρ3 i r3 s3 u3 => ?_
  refine hh _ _ r3 u3 fun H4 F4 γ4 ρ4 j r4 s4 u4 => ?_
  split at u4
  · rename_i d e
    exact hr _ _ _ _ r4.sub (RVok.cnt r4 ((k2.same s3).same s4).one e) u4 fun v' H' rv sH ok q => let ⟨_, r9, s9, k9⟩ := opk_ok r4 sH ok; h _ _ _ _ _ (nrm rv) r9 (s1.trans (s2.trans (s3.trans (s4.trans s9)))) k9 q
  · exact False.elim u4
end DL
/-! lifted readings 3: calls; statements; loops -/
namespace DL
open PySem PySem.Spec PyProof.Rows L2 CD
variable {GP : GenP} {K : PySem.W.Frag}
variable {B : Hp × Hp × GAt}
/-! ### a def's promise over data -/
def hasG : List SV → Bool
  | [] => false
  | .gen _ :: _ => true
  | _ :: r => hasG r
def noG : List SV → Bool
  | [] => true
  | .gen _ :: _ => false
  | _ :: r => noG r
def oneG : List SV → Bool
  | [] => true
  | .gen _ :: r => noG r
  | _ :: r => oneG r
def ArgsOk (GP : GenP) (K : PySem.W.Frag) (F H : Hp) (γ : GAt) : List V → List SV → Prop
  | [], [] => True
  | v :: vs, s :: as => (match s with
    | .val d => Dd K F v d
    | .gen n => ∃ p, γ = some p ∧ v = .ref p.1 ∧ GP.D H p.1 p.2.1 p.2.2 n ∧ F p.2.2 ≠ none
    | .own _ => False) ∧ ArgsOk GP K F H γ vs as
  | _, _ => False
abbrev QD := D → Option Nat → Prop
abbrev WD := List SV → QD → Prop
def GenAfter (GP : GenP) (H H' F' : Hp) (γ γ' : GAt) : Option Nat → Prop
  | none => γ = none
  | some k => ∃ p q, γ = some p ∧ γ' = some q ∧ q.1 = p.1 ∧ q.2.2 = p.2.2 ∧ (q.2.1 = p.2.1 ∨ H q.2.1 = none) ∧ GP.D H' q.1 q.2.1 q.2.2 k ∧ F' q.1 = none ∧ F' q.2.1 = none
def spL (GP : GenP) (K : PySem.W.Frag) (n : Nat) (W : WD) : Sp := fun vs H R _ => ∃ (F : Hp) (γ : GAt) (as : List SV) (Q : QD), Same F H ∧ ArgsOk GP K F H γ vs as ∧ (hasG as = γ.isSome) ∧ oneG as = true ∧ as.length = n ∧
  (∀ p, γ = some p → F p.1 = none ∧ F p.2.1 = none) ∧ W as Q ∧
  ∀ v H' F' γ' d m, (∀ a o, H a = some o → ¬ GA γ a → H' a = some o) → (∀ a o, H a = some o → ∃ u, H' a = some u) → Same F F' → Same F' H' → (∀ a o, F' a = some o → F a = some o ∨ H a = none ∨ ∃ xs, o = .tup xs) → Dd K F' v d →
    GenAfter GP H H' F' γ γ' m → Q d m → R v H'
theorem ArgsOk.length {F H : Hp} {γ : GAt} : ∀ {vs : List V} {as : List SV}, ArgsOk GP K F H γ vs as → vs.length = as.length
  | [], [], _ => rfl
  | v :: vs, s :: as, h => by rw [List.length_cons, List.length_cons, ArgsOk.length h.2]
  | [], _ :: _, h => h.elim
  | _ :: _, [], h => h.elim
theorem spL_len {n : Nat} {W : WD} {vs : List V} {H : Hp} {Q : VK} {E : XK} (h : spL GP K n W vs H Q E) : vs.length = n := by
  obtain ⟨F, γ, as, Q, _, h2, _, _, h5, _⟩ := h
  rw [h2.length, h5]
def gN : Rho → Option Nat
  | [] => none
  | some (.gen n) :: _ => some n
  | _ :: r => gN r
def outQ (b : Bool) (Q : QD) (d : D) (ρ : Rho) : Prop := if b = true then (match gN ρ with
  | some k => Q d (some k)
  | none => False) else Q d none
/-- the slots at the entry -/
def start0 (n : Nat) (as : List SV) : Rho := as.map some ++ List.replicate (n - as.length) none
theorem gN_at : ∀ {ρ : Rho} {k : Nat}, gN ρ = some k → ∃ i : Nat, ρ[i]? = some (some (.gen k))
  | [], _, h => by cases h
  | none :: r, k, h => by
    obtain ⟨i, hi⟩ := gN_at (ρ := r) (k := k) h
    exact ⟨i + 1, by simpa using hi⟩
  | some (.val d) :: r, k, h => by
    obtain ⟨i, hi⟩ := gN_at (ρ := r) (k := k) h
    exact ⟨i + 1, by simpa using hi⟩
  | some (.own d) :: r, k, h => by
    obtain ⟨i, hi⟩ := gN_at (ρ := r) (k := k) h
    exact ⟨i + 1, by simpa using hi⟩
  | some (.gen n) :: r, k, h => by
    cases h
    exact ⟨0, rfl⟩
theorem gt_of {H : Hp} {d g c : Addr} {n : Nat} (h : GP.D H d g c n) : ∃ o u, H d = some o ∧ H g = some u ∧ ∀ xs, o ≠ .tup xs ∧ u ≠ .tup xs := by
  obtain ⟨n1, n2, _⟩ := GP.dd h
  obtain ⟨o, ho⟩ := Option.ne_none_iff_exists'.mp n1
  obtain ⟨u, hu⟩ := Option.ne_none_iff_exists'.mp n2
  refine ⟨o, u, ho, hu, fun xs => ⟨fun e => (GP.nt (xs := xs) h).1 (by rw [ho, e]), fun e => (GP.nt (xs := xs) h).2 (by rw [hu, e])⟩⟩
/-- the entry -/
theorem start_rp {N : List Str} {vs : List V} {as : List SV} {H F : Hp} {γ : GAt} (s : Same F H) (a : ArgsOk GP K F H γ vs as) (hg : hasG as = γ.isSome) (h1 : oneG as = true) (gf : ∀ p, γ = some p → F p.1 = none ∧ F p.2.1 = none) (hn : vs.length ≤ N.length) :
    Rp GP K H F γ γ (L2.start N vs) H F (start0 N.length as) := by
  have el := a.length
  have at_ : ∀ (i : Nat) (x : SV), (start0 N.length as)[i]? = some (some x) → as[i]? = some x ∧ i < vs.length := fun i x h => by
    unfold start0 at h
    by_cases c : i < as.length
    · rw [List.getElem?_append_left (by simpa using c), List.getElem?_map] at h
      cases q : as[i]? with
      | none => rw [q] at h; cases h
      | some y => rw [q] at h; cases h; exact ⟨rfl, by omega⟩
    · rw [List.getElem?_append_right (by simpa using c), List.getElem?_replicate] at h
      split at h <;> cases h
  have st : ∀ (i : Nat) (v : V), vs[i]? = some v → (L2.start N vs)[i]? = some (some v) := fun i v h => by
    have hi := (List.getElem?_eq_some_iff.mp h).1
    unfold L2.start
    rw [List.getElem?_append_left (by simpa using hi), List.getElem?_map, h]
    rfl
  have arg : ∀ {vs : List V} {as : List SV}, ArgsOk GP K F H γ vs as → ∀ (i : Nat) (x : SV), as[i]? = some x → ∃ v, vs[i]? = some v ∧ (match x with
    | .val d => Dd K F v d
    | .gen n => ∃ p, γ = some p ∧ v = .ref p.1 ∧ GP.D H p.1 p.2.1 p.2.2 n ∧ F p.2.2 ≠ none
    | .own _ => False) := by
    intro vs as
    induction vs generalizing as with
    | nil =>
      intro h i x e
      cases as with
      | nil => simp at e
      | cons _ _ => exact h.elim
    | cons v vs ih =>
      intro h i x e
      cases as with
      | nil => exact h.elim
      | cons a as =>
        cases i with
        | zero => simp at e; subst e; exact ⟨v, rfl, h.1⟩
        | succ i =>
          obtain ⟨w, h1, h2⟩ := ih h.2 i x (by simpa using e)
          exact ⟨w, by simpa using h1, h2⟩
  have none_ : ∀ as : List SV, noG as = true → ∀ (i n : Nat), as[i]? ≠ some (.gen n) := by
    intro as
    induction as with
    | nil => intro _ i n h; simp at h
    | cons a as ih =>
      intro h i n e
      cases a with
      | val d => cases i with
        | zero => simp at e
        | succ i => exact ih h i n (by simpa using e)
      | own d => cases i with
        | zero => simp at e
        | succ i => exact ih h i n (by simpa using e)
      | gen m => cases h
  have one_ : ∀ as : List SV, oneG as = true → ∀ (i j n m : Nat), as[i]? = some (.gen n) → as[j]? = some (.gen m) → i = j := by
    intro as
    induction as with
    | nil => intro _ i j n m h; simp at h
    | cons a as ih =>
      intro h i j n m e1 e2
      cases a with
      | val d =>
        cases i with
        | zero => simp at e1
        | succ i => cases j with
          | zero => simp at e2
          | succ j => exact congrArg _ (ih h i j n m (by simpa using e1) (by simpa using e2))
      | own d =>
        cases i with
        | zero => simp at e1
        | succ i => cases j with
          | zero => simp at e2
          | succ j => exact congrArg _ (ih h i j n m (by simpa using e1) (by simpa using e2))
      | gen k =>
        cases i with
        | zero => cases j with
          | zero => rfl
          | succ j => exact absurd (by simpa using e2) (none_ as h j m)
        | succ i => exact absurd (by simpa using e1) (none_ as h i n)
  have gex : ∀ p, γ = some p → ∃ n, GP.D H p.1 p.2.1 p.2.2 n := by
    intro p hp
    rw [hp] at hg
    have : ∀ as : List SV, hasG as = true → ∃ (i n : Nat), as[i]? = some (.gen n) := by
      intro as
      induction as with
      | nil => intro h; cases h
      | cons a as ih =>
        intro h
        cases a with
        | val d => obtain ⟨i, n, e⟩ := ih h; exact ⟨i + 1, n, by simpa using e⟩
        | own d => obtain ⟨i, n, e⟩ := ih h; exact ⟨i + 1, n, by simpa using e⟩
        | gen n => exact ⟨0, n, rfl⟩
    obtain ⟨i, n, e⟩ := this as hg
    obtain ⟨v, _, q, h1, _, h2, _⟩ := arg a i _ e
    rw [hp] at h1
    cases h1
    exact ⟨n, h2⟩
  have gt : ∀ p, γ = some p → ∃ o u, H p.1 = some o ∧ H p.2.1 = some u ∧ ∀ xs, o ≠ .tup xs ∧ u ≠ .tup xs := fun p hp => by
    obtain ⟨n, h⟩ := gex p hp
    exact gt_of h
  refine ⟨Same.refl _, s, fun _ _ h _ => h, fun _ _ h => .inl h, fun _ o h => ⟨o, h⟩, ?_, fun i d h => ?_, fun i d h => ?_, fun i n h => ?_, fun i j n m k1 k2 => ?_, fun p hp => ⟨p, hp, rfl, rfl, .inl rfl⟩, fun h p hp => ?_, fun p hp => let ⟨o, u, h1, h2, _⟩ := gt p hp; ⟨o, u, h1, h2⟩, gt, gf⟩
  · unfold L2.start start0
    rw [List.length_append, List.length_append, List.length_map, List.length_map, List.length_replicate, List.length_replicate, el]
  · obtain ⟨e1, _⟩ := at_ i _ h
    obtain ⟨v, e2, e3⟩ := arg a i _ e1
    exact ⟨v, st i v e2, e3⟩
  · obtain ⟨e1, _⟩ := at_ i _ h
    obtain ⟨v, e2, e3⟩ := arg a i _ e1
    exact e3.elim
  · obtain ⟨e1, _⟩ := at_ i _ h
    obtain ⟨v, e2, p, h1, h2, h3, h4⟩ := arg a i _ e1
    exact ⟨p, h1, by rw [st i v e2, h2], h3, h4⟩
  · exact one_ as h1 i j n m (at_ i _ k1).1 (at_ j _ k2).1
  · rw [h] at hp; cases hp
/-! ### calls -/
def argsK : List RV → Rho → (List SV → Rho → Prop) → Prop
  | [], ρ, k => k [] ρ
  | .val d :: xs, ρ, k => argsK xs ρ fun as ρ' => k (.val d :: as) ρ'
  | .sl i :: xs, ρ, k => match ρ[i]? with
    | some (some (.val d)) => argsK xs ρ fun as ρ' => k (.val d :: as) ρ'
    | some (some (.own d)) => argsK xs (ρ.set i (some (.val d))) fun as ρ' => k (.val d :: as) ρ'
    | some (some (.gen n)) => argsK xs ρ fun as ρ' => k (.gen n :: as) ρ'
    | _ => False
  | _ :: _, _, _ => False
theorem argsK_ok {H0 F0 H : Hp} {γ0 γ : GAt} {σ : L2.St} : ∀ {xs : List RV} {vs : List V} {F : Hp} {ρ : Rho} {k : List SV → Rho → Prop}, Rp GP K H0 F0 γ0 γ σ H F ρ → RVs K σ F vs xs → argsK xs ρ k →
    ∃ F' ρ' as, Rp GP K H0 F0 γ0 γ σ H F' ρ' ∧ Same F F' ∧ ArgsOk GP K F' H γ vs as ∧ k as ρ' ∧ (∀ (i n : Nat), ρ'[i]? = some (some (.gen n)) ↔ ρ[i]? = some (some (.gen n)))
  | [], vs, F, ρ, k, r, h, z => by
    obtain rfl := h.nil_of
    exact ⟨F, ρ, [], r, Same.refl _, trivial, z, fun _ _ => Iff.rfl⟩
  | .val d :: xs, vs, F, ρ, k, r, h, z => by
    obtain ⟨v, ws, rfl, h1, h2⟩ := h.cons_of
    obtain ⟨F2, ρ2, as, r2, s2, a2, z2, g2⟩ := argsK_ok r h2 z
    exact ⟨F2, ρ2, .val d :: as, r2, s2, ⟨h1.1.same s2, a2⟩, z2, g2⟩
  | .fr d :: xs, vs, F, ρ, k, r, h, z => z.elim
  | .kon d :: xs, vs, F, ρ, k, r, h, z => z.elim
  | .sl i :: xs, vs, F, ρ, k, r, h, z => by
    obtain ⟨v, ws, rfl, h1, h2⟩ := h.cons_of
    have hv : σ[i]? = some (some v) := h1.1
    dsimp only [argsK] at z
    cases q : ρ[i]? with
    | none => rw [q] at z; exact z.elim
    | some s =>
      rw [q] at z
      cases s with
      | none => exact z.elim
      | some s =>
        cases s with
        | val d =>
          obtain ⟨F2, ρ2, as, r2, s2, a2, z2, g2⟩ := argsK_ok r h2 z
          obtain ⟨u, e1, e2⟩ := r.val i d q
          rw [hv] at e1; cases e1
          exact ⟨F2, ρ2, .val d :: as, r2, s2, ⟨e2.same s2, a2⟩, z2, g2⟩
        | own d =>
          obtain ⟨a, e1, _⟩ := r.own i d q
          rw [hv] at e1; cases e1
          obtain ⟨F1, r1, s1, d1⟩ := r.freezeAt q hv
          obtain ⟨F2, ρ2, as, r2, s2, a2, z2, g2⟩ := argsK_ok r1 (h2.same s1) z
          refine ⟨F2, ρ2, .val d :: as, r2, s1.trans s2, ⟨d1.same s2, a2⟩, z2, fun j n => (g2 j n).trans ?_⟩
          by_cases c : j = i
          · subst c
            rw [q, List.getElem?_set_self (List.getElem?_eq_some_iff.mp q).1]
            exact ⟨fun e => (by cases e), fun e => (by cases e)⟩
          · rw [set_none c]
        | gen n =>
          obtain ⟨F2, ρ2, as, r2, s2, a2, z2, g2⟩ := argsK_ok r h2 z
          obtain ⟨p', f1, f2, f3, f4⟩ := r2.gen i n ((g2 i n).mpr q)
          rw [hv] at f2
          injection f2 with f2
          injection f2 with f2
          exact ⟨F2, ρ2, .gen n :: as, r2, s2, ⟨⟨p', f1, f2, f3, f4⟩, a2⟩, z2, g2⟩
def flatD : D → Bool
  | .non => true
  | .bl _ => true
  | .int _ => true
  | .str _ => true
  | _ => false
theorem Dd.flat {F F' : Hp} {v : V} {d : D} (h : Dd K F v d) (f : flatD d = true) : Dd K F' v d := by
  cases h with
  | non => exact .non
  | bl b => exact .bl b
  | int i => exact .int i
  | str x => exact .str x
  | fn _ => cases f
  | lst _ _ => cases f
  | scr _ => cases f
  | tup _ _ => cases f
  | dK _ _ => cases f
  | dT _ _ => cases f
  | set _ _ _ _ => cases f
def setG (m : Option Nat) (ρ : Rho) : Rho := match m with
  | none => ρ
  | some k => ρ.map fun s => match s with
    | some (.gen _) => some (.gen k)
    | s => s
theorem setG_val {m : Option Nat} {ρ : Rho} {i : Nat} {d : D} : (setG m ρ)[i]? = some (some (.val d)) ↔ ρ[i]? = some (some (.val d)) := by
  cases m with
  | none => exact Iff.rfl
  | some k =>
    show (ρ.map _)[i]? = _ ↔ _
    rw [List.getElem?_map]
    cases q : ρ[i]? with
    | none => simp
    | some s => cases s with
      | none => simp
      | some s => cases s <;> simp
theorem setG_own {m : Option Nat} {ρ : Rho} {i : Nat} {d : D} : (setG m ρ)[i]? = some (some (.own d)) ↔ ρ[i]? = some (some (.own d)) := by
  cases m with
  | none => exact Iff.rfl
  | some k =>
    show (ρ.map _)[i]? = _ ↔ _
    rw [List.getElem?_map]
    cases q : ρ[i]? with
    | none => simp
    | some s => cases s with
      | none => simp
      | some s => cases s <;> simp
theorem setG_gen {k n : Nat} {ρ : Rho} {i : Nat} (h : (setG (some k) ρ)[i]? = some (some (.gen n))) : n = k ∧ ∃ j, ρ[i]? = some (some (.gen j)) := by
  have h : (ρ.map _)[i]? = _ := h
  rw [List.getElem?_map] at h
  cases q : ρ[i]? with
  | none => rw [q] at h; simp at h
  | some s => cases s with
    | none => rw [q] at h; simp at h
    | some s => cases s with
      | val d => rw [q] at h; simp at h
      | own d => rw [q] at h; simp at h
      | gen j => rw [q] at h; simp at h; exact ⟨h.symm, j, rfl⟩
theorem setG_len {m : Option Nat} {ρ : Rho} : (setG m ρ).length = ρ.length := by
  cases m with
  | none => rfl
  | some k => exact List.length_map _
/-- behind a call -/
theorem Rp.after {H0 F0 H H' F F' Fc : Hp} {γ0 γ γc γ' : GAt} {σ : L2.St} {ρ : Rho} {m : Option Nat} (r : Rp GP K H0 F0 γ0 γ σ H F ρ) (hc : γc = none ∨ γc = γ) (kp : ∀ a o, H a = some o → ¬ GA γc a → H' a = some o) (tr : ∀ a o, H a = some o → ∃ u, H' a = some u)
    (s : Same F F') (sub : Same F' H') (fnew : ∀ a o, F' a = some o → F a = some o ∨ H a = none ∨ ∃ xs, o = .tup xs) (g : GenAfter GP H H' Fc γc γ' m) (hF : F' = F ∨ F' = Fc) : ∃ γ2, Rp GP K H0 F0 γ0 γ2 σ H' F' (setG m ρ) := by
  have nf : ∀ a o, H a = some o → (∀ xs, H' a ≠ some (.tup xs)) → F a = none → F' a = none := fun a o h nt n => by
    cases q : F' a with
    | none => rfl
    | some u =>
      rcases fnew a u q with z | z | ⟨xs, z⟩
      · rw [n] at z; cases z
      · rw [h] at z; cases z
      · exact absurd (by rw [sub _ _ q, z]) (nt xs)
  have gsub : ∀ a, GA γc a → GA γ a := fun a h => by
    rcases hc with e | e
    · rw [e] at h; obtain ⟨p, hp, _⟩ := h; cases hp
    · rw [← e]; exact h
  have g0sub : ∀ a o, H0 a = some o → ¬ GA γ0 a → ¬ GA γ a := fun a o h n ⟨p, hp, e⟩ => by
    cases q : γ0 with
    | none =>
      obtain ⟨z1, z2⟩ := r.g1 q p hp
      rcases e with rfl | rfl
      · rw [z1] at h; cases h
      · rw [z2] at h; cases h
    | some p0 =>
      obtain ⟨p', hp', e1, _, e2⟩ := r.g0 p0 q
      rw [hp] at hp'
      cases hp'
      rcases e with e | e
      · exact n ⟨p0, q, .inl (e.trans e1)⟩
      · rcases e2 with z | z
        · exact n ⟨p0, q, .inr (e.trans z)⟩
        · rw [e, z] at h; cases h
  have keep : ∀ a o, H0 a = some o → ¬ GA γ0 a → H' a = some o := fun a o h n => kp a o (r.keep a o h n) fun z => g0sub a o h n (gsub a z)
  have fn : ∀ a o, F' a = some o → F0 a = some o ∨ H0 a = none ∨ ∃ xs, o = .tup xs := fun a o h => by
    rcases fnew a o h with z | z | z
    · exact r.fnew a o z
    · exact .inr (.inl (r.new0 z))
    · exact .inr (.inr z)
  have tr2 : ∀ a o, H0 a = some o → ∃ u, H' a = some u := fun a o h => let ⟨u, hu⟩ := r.tr a o h; tr a u hu
  have own : ∀ (γ2 : GAt), (∀ a o, H a = some o → ¬ GA γ a → ¬ GA γ2 a) → ∀ (i : Nat) (d : D), (setG m ρ)[i]? = some (some (.own d)) → ∃ a, σ[i]? = some (some (.ref a)) ∧ Own K F' H' a d ∧ F' a = none ∧ H0 a = none ∧ (¬ GA γ2 a) ∧ ∀ j, OwnAt σ (setG m ρ) a j → j = i := fun γ2 h2 i d q => by
    obtain ⟨a, b1, b2, b3, b4, b5, b6⟩ := r.own i d (setG_own.mp q)
    obtain ⟨o, ho⟩ := b2.there
    have eH : H' a = H a := by rw [ho]; exact kp a o ho fun z => b5 (gsub a z)
    refine ⟨a, b1, b2.move s eH, nf a o ho (fun xs => by rw [eH]; exact b2.nt) b3, b4, h2 a o ho b5, fun j ⟨⟨e, he⟩, hs⟩ => b6 j ⟨⟨e, setG_own.mp he⟩, hs⟩⟩
  have val : ∀ (i : Nat) (d : D), (setG m ρ)[i]? = some (some (.val d)) → ∃ v, σ[i]? = some (some v) ∧ Dd K F' v d := fun i d q => let ⟨v, h1, h2⟩ := r.val i d (setG_val.mp q); ⟨v, h1, h2.same s⟩
  have len : σ.length = (setG m ρ).length := by rw [setG_len]; exact r.len
  cases m with
  | none =>
    have gc : γc = none := g
    have same : Same H H' := fun a o h => kp a o h fun ⟨p, hp, _⟩ => by rw [gc] at hp; cases hp
    refine ⟨γ, r.f0.trans s, sub, keep, fn, tr2, len, val, own γ fun _ _ _ n => n, fun i n q => ?_, r.one, r.g0, r.g1, r.gt0, fun p hp => ?_, fun p hp => ?_⟩
    · obtain ⟨p, h1, h2, h3, h4⟩ := r.gen i n q
      obtain ⟨n1, n2, n3, _⟩ := GP.dd h3
      have st : ∀ a, H a ≠ none → H' a = H a := fun a n => by
        cases q : H a with
        | none => exact absurd q n
        | some o => exact same _ _ q
      refine ⟨p, h1, h2, GP.stab h3 (st _ n1) (st _ n2) (st _ n3), ?_⟩
      cases q2 : F p.2.2 with
      | none => exact absurd q2 h4
      | some o => rw [s _ _ q2]; exact fun x => nomatch x
    · obtain ⟨o, u, h1, h2, h3⟩ := r.gt p hp
      exact ⟨o, u, same _ _ h1, same _ _ h2, h3⟩
    · obtain ⟨o, u, h1, h2, h5⟩ := r.gt p hp
      obtain ⟨h3, h4⟩ := r.gf p hp
      exact ⟨nf _ o h1 (fun xs e => by rw [same _ _ h1] at e; exact (h5 xs).1 (Option.some.inj e)) h3, nf _ u h2 (fun xs e => by rw [same _ _ h2] at e; exact (h5 xs).2 (Option.some.inj e)) h4⟩
  | some k =>
    obtain ⟨p, q, hp, hq, e1, e2, e3, hD, f1, f2⟩ := g
    have hγ : γ = some p := by
      rcases hc with e | e
      · rw [e] at hp; cases hp
      · rw [← e]; exact hp
    obtain ⟨o, u, h1, h2, _⟩ := r.gt p hγ
    obtain ⟨h3, h4⟩ := r.gf p hγ
    have nq : F' q.1 = none ∧ F' q.2.1 = none := by
      rcases hF with e | e
      · rw [e, e1]
        refine ⟨h3, ?_⟩
        rcases e3 with z | z
        · rw [z]; exact h4
        · exact Same.free r.sub z
      · rw [e]; exact ⟨f1, f2⟩
    have q0 : ∀ a o, H a = some o → ¬ GA γ a → ¬ GA (some q) a := fun a o' h n ⟨q', hq', e⟩ => by
      cases hq'
      rcases e with e | e
      · exact n ⟨p, hγ, .inl (e.trans e1)⟩
      · rcases e3 with z | z
        · exact n ⟨p, hγ, .inr (e.trans z)⟩
        · rw [e, z] at h; cases h
    refine ⟨some q, r.f0.trans s, sub, keep, fn, tr2, len, val, own _ q0, fun i n h => ?_, fun i j n n' a1 a2 => ?_, fun p0 h0 => ?_, fun h0 p' hp' => ?_, r.gt0, fun p' hp' => ?_, fun p' hp' => ?_⟩
    · obtain ⟨rfl, j, hj⟩ := setG_gen h
      obtain ⟨p', b1, b2, b3, b4⟩ := r.gen i j hj
      rw [hγ] at b1
      cases b1
      refine ⟨q, rfl, by rw [e1]; exact b2, hD, ?_⟩
      rw [e2]
      cases q2 : F p.2.2 with
      | none => exact absurd q2 b4
      | some o => rw [s _ _ q2]; exact fun x => nomatch x
    · obtain ⟨_, j1, c1⟩ := setG_gen a1
      obtain ⟨_, j2, c2⟩ := setG_gen a2
      exact r.one i j _ _ c1 c2
    · obtain ⟨p', hp', c1, c2, c3⟩ := r.g0 p0 h0
      rw [hγ] at hp'
      cases hp'
      refine ⟨q, rfl, e1.trans c1, e2.trans c2, ?_⟩
      rcases e3 with z | z
      · rw [z]; exact c3
      · exact .inr (r.new0 z)
    · cases hp'
      obtain ⟨c1, c2⟩ := r.g1 h0 p hγ
      refine ⟨by rw [e1]; exact c1, ?_⟩
      rcases e3 with z | z
      · rw [z]; exact c2
      · exact r.new0 z
    · cases hp'
      exact gt_of hD
    · cases hp'
      exact nq
def uCall (n : Nat) (W : WD) (ua : UA) : UE := fun ρ Q => ua ρ fun xs ρ1 => argsK xs ρ1 fun as ρb => as.length = n ∧ oneG as = true ∧ W as fun d m => if flatD d = true then Q (.val d) (setG m ρ1) else Q (.val d) (setG m ρb)
theorem hasG_gen {F H : Hp} {γ : GAt} : ∀ {vs : List V} {as : List SV}, ArgsOk GP K F H γ vs as → hasG as = true → ∃ p, γ = some p
  | [], [], _, h => by cases h
  | v :: vs, .val d :: as, a, h => hasG_gen a.2 h
  | v :: vs, .own d :: as, a, h => a.1.elim
  | v :: vs, .gen n :: as, a, h => let ⟨p, hp, _⟩ := a.1; ⟨p, hp⟩
  | [], _ :: _, a, _ => a.elim
  | _ :: _, [], a, _ => a.elim
theorem noGen_args {F H : Hp} {γ γ' : GAt} : ∀ {vs : List V} {as : List SV}, ArgsOk GP K F H γ vs as → hasG as = false → ArgsOk GP K F H γ' vs as
  | [], [], _, h => trivial
  | v :: vs, .val d :: as, a, h => ⟨a.1, noGen_args a.2 h⟩
  | v :: vs, .own d :: as, a, h => a.1.elim
  | v :: vs, .gen n :: as, a, h => by cases h
  | [], _ :: _, a, _ => a.elim
  | _ :: _, [], a, _ => a.elim
theorem le_call {n : Nat} {W : WD} {E : XK} {t : TA} {u : UA} (ha : LA GP K B t u) : LE GP K B (tCall (spL GP K n W) [] E t) (uCall n W u) := by
  intro H0 F0 γ0 _ γ σ H F ρ R Q r0 u0 h
  refine ha _ _ r0 u0 fun H1 F1 γ1 ρ1 vs xs r1 s1 k1 u1 => ?_
  obtain ⟨F2, ρb, as, r2, s2, a2, ⟨hl, ho, hW⟩, gg⟩ := argsK_ok r1 k1 u1
  show spL GP K n W (vs ++ []) H1 R E
  rw [List.append_nil]
  have fin : ∀ (γc : GAt), (γc = none ∨ γc = γ1) → ∀ v H' F' γ' d m, (∀ a o, H1 a = some o → ¬ GA γc a → H' a = some o) → (∀ a o, H1 a = some o → ∃ u, H' a = some u) → Same F2 F' → Same F' H' → (∀ a o, F' a = some o → F2 a = some o ∨ H1 a = none ∨ ∃ xs, o = .tup xs) → Dd K F' v d →
      GenAfter GP H1 H' F' γc γ' m → (if flatD d = true then Q (.val d) (setG m ρ1) else Q (.val d) (setG m ρb)) → R v H' := by
    intro γc hc v H' F' γ' d m kp tr s3 sub fnew dd ga q
    by_cases f : flatD d = true
    · rw [if_pos f] at q
      have subF : Same F1 H' := (s2.trans s3).trans sub
      obtain ⟨γ2, r3⟩ := r1.after (F' := F1) hc kp tr (Same.refl _) subF (fun a o h => .inl h) ga (.inl rfl)
      exact h _ _ _ _ _ (.val _) r3 s1 (dd.flat f) q
    · rw [if_neg f] at q
      obtain ⟨γ2, r3⟩ := r2.after (F' := F') hc kp tr s3 sub fnew ga (.inr rfl)
      exact h _ _ _ _ _ (.val _) r3 (s1.trans (s2.trans s3)) dd q
  by_cases c : hasG as = true
  · obtain ⟨p, hp⟩ := hasG_gen a2 c
    exact ⟨F2, γ1, as, _, r2.sub, a2, by rw [c, hp]; rfl, ho, hl, r2.gf, hW, fin γ1 (.inr rfl)⟩
  · have c' : hasG as = false := by simpa using c
    exact ⟨F2, none, as, _, r2.sub, noGen_args a2 c', by rw [c']; rfl, ho, hl, fun p hp => (by cases hp), hW, fin none (.inl rfl)⟩
/-! ### statements -/
variable (GP K) in
def LS (B : Hp × Hp × GAt) (t : TS) (u : US) : Prop := ∀ ⦃H0 F0 : Hp⦄ ⦃γ0 : GAt⦄ [FinerC GP K B H0 F0 γ0] ⦃γ : GAt⦄ ⦃σ : L2.St⦄ ⦃H F : Hp⦄ ⦃ρ : Rho⦄ (E : Ends) (Q : UEnds), Rp GP K H0 F0 γ0 γ σ H F ρ → u Q ρ →
  (∀ σ' H' F' γ' ρ', Rp GP K H0 F0 γ0 γ' σ' H' F' ρ' → Q.nx ρ' → E.nx σ' H') → (∀ σ' H' F' γ' ρ', Rp GP K H0 F0 γ0 γ' σ' H' F' ρ' → Q.bk ρ' → E.bk σ' H') → (∀ σ' H' F' γ' ρ', Rp GP K H0 F0 γ0 γ' σ' H' F' ρ' → Q.ct ρ' → E.ct σ' H') →
  (∀ σ' v H' F' γ' ρ' d, Rp GP K H0 F0 γ0 γ' σ' H' F' ρ' → Dd K F' v d → Q.rt d ρ' → E.rt v H') → t E σ H
def uNext : US := fun Q ρ => Q.nx ρ
def uSeq (a b : US) : US := fun Q ρ => a { Q with nx := fun ρ' => b Q ρ' } ρ
def uBreak : US := fun Q ρ => Q.bk ρ
def uCont : US := fun Q ρ => Q.ct ρ
def uDrop (a : UE) : US := fun Q ρ => a ρ fun _ ρ' => Q.nx ρ'
def uRet (a : UE) : US := fun Q ρ => a ρ fun x ρ' => fz x ρ' fun d ρ2 => Q.rt d ρ2
def uRetN : US := fun Q ρ => Q.rt .non ρ
def uIfS (c : UT) (a b : US) : US := fun Q ρ => c ρ fun z ρ' => if z = true then a Q ρ' else b Q ρ'
def uNever : US := fun _ _ => False
theorem ls_next : LS GP K B tNext uNext := fun H0 F0 γ0 _ γ σ H F ρ E Q r u n b c t => n _ _ _ _ _ r u
theorem ls_seq {t t' : TS} {u u' : US} (h : LS GP K B t u) (h' : LS GP K B t' u') : LS GP K B (tSeq t t') (uSeq u u') := fun H0 F0 γ0 _ γ σ H F ρ E Q r z n b c t =>
  h _ _ r z (fun σ' H' F' γ' ρ' r' z' => h' _ _ r' z' n b c t) b c t
theorem ls_break : LS GP K B tBreak uBreak := fun H0 F0 γ0 _ γ σ H F ρ E Q r u n b c t => b _ _ _ _ _ r u
theorem ls_cont : LS GP K B tCont uCont := fun H0 F0 γ0 _ γ σ H F ρ E Q r u n b c t => c _ _ _ _ _ r u
theorem ls_drop {t : TE} {u : UE} (h : LE GP K B t u) : LS GP K B (tDrop t) (uDrop u) := fun H0 F0 γ0 _ γ σ H F ρ E Q r z n b c t => h _ _ r z fun H' F' γ' ρ' v x r' s k q => n _ _ _ _ _ r' q
theorem ls_ret {t : TE} {u : UE} (h : LE GP K B t u) : LS GP K B (tRet t) (uRet u) := fun H0 F0 γ0 _ γ σ H F ρ E Q r z n b c t => h _ _ r z fun H' F' γ' ρ' v x r' s k q => by
  obtain ⟨F2, ρ2, d, r2, s2, d2, q2⟩ := fz_ok r' k q
  exact t _ _ _ _ _ _ _ r2 d2 q2
theorem ls_retN : LS GP K B tRetN uRetN := fun H0 F0 γ0 _ γ σ H F ρ E Q r z n b c t => t _ _ _ _ _ _ _ r Dd.non z
theorem ls_if {c : TT} {t t' : TS} {uc : UT} {u u' : US} (hc : LT GP K B c uc) (h : LS GP K B t u) (h' : LS GP K B t' u') : LS GP K B (tIfS c t t') (uIfS uc u u') := by
  intro H0 F0 γ0 _ γ σ H F ρ E Q r z n b c' t
  refine hc _ _ r z fun H1 F1 γ1 ρ1 k r1 s1 u1 => ?_
  split
  · rename_i c
    rw [if_pos c] at u1
    exact h _ _ r1 u1 n b c' t
  · rename_i c
    rw [if_neg c] at u1
    exact h' _ _ r1 u1 n b c' t
theorem ls_never : LS GP K B tNever uNever := fun H0 F0 γ0 _ γ σ H F ρ E Q r z n b c t => z.elim
/-! ### targets -/
abbrev UG := D → Rho → (Rho → Prop) → Prop
variable (GP K) in
def LG (B : Hp × Hp × GAt) (g : TG) (u : UG) : Prop := ∀ ⦃H0 F0 : Hp⦄ ⦃γ0 : GAt⦄ [FinerC GP K B H0 F0 γ0] ⦃γ : GAt⦄ ⦃σ : L2.St⦄ ⦃H F : Hp⦄ ⦃ρ : Rho⦄ ⦃v : V⦄ ⦃d : D⦄ (R : L2.St → Hp → Prop) (Q : Rho → Prop), Rp GP K H0 F0 γ0 γ σ H F ρ → Dd K F v d → u d ρ Q →
  (∀ σ' H' F' γ' ρ', Rp GP K H0 F0 γ0 γ' σ' H' F' ρ' → Same F F' → Q ρ' → R σ' H') → g v σ H R
abbrev UGs := List D → Rho → (Rho → Prop) → Prop
variable (GP K) in
def LGs (B : Hp × Hp × GAt) (g : TGs) (u : UGs) : Prop := ∀ ⦃H0 F0 : Hp⦄ ⦃γ0 : GAt⦄ [FinerC GP K B H0 F0 γ0] ⦃γ : GAt⦄ ⦃σ : L2.St⦄ ⦃H F : Hp⦄ ⦃ρ : Rho⦄ ⦃vs : List V⦄ ⦃ds : List D⦄ (R : L2.St → Hp → Prop) (Q : Rho → Prop), Rp GP K H0 F0 γ0 γ σ H F ρ → DdL K F vs ds → u ds ρ Q →
  (∀ σ' H' F' γ' ρ', Rp GP K H0 F0 γ0 γ' σ' H' F' ρ' → Same F F' → Q ρ' → R σ' H') → g vs σ H R
def ugName (i : Nat) : UG := fun d ρ Q => Q (ρ.set i (some (.val d)))
theorem lg_name (i : Nat) : LG GP K B (gName i) (ugName i) := fun H0 F0 γ0 _ γ σ H F ρ v d R Q r h u k => k _ _ _ _ _ (r.setVal i h) (Same.refl _) u
def ugNil : UGs := fun ds ρ Q => match ds with
  | [] => Q ρ
  | _ => False
def ugCons (a : UG) (b : UGs) : UGs := fun ds ρ Q => match ds with
  | d :: ds => a d ρ fun ρ' => b ds ρ' Q
  | _ => False
def ugTup (n : Nat) (b : UGs) : UG := fun d ρ Q => match d with
  | .tup ds => ds.length = n ∧ b ds ρ Q
  | _ => False
theorem lgs_nil : LGs GP K B gNil ugNil := fun H0 F0 γ0 _ γ σ H F ρ vs ds R Q r h u k => by
  cases h with
  | nil => exact ⟨rfl, k _ _ _ _ _ r (Same.refl _) u⟩
  | cons _ _ => exact u.elim
theorem lgs_cons {g : TG} {gs : TGs} {u : UG} {us : UGs} (h1 : LG GP K B g u) (h2 : LGs GP K B gs us) : LGs GP K B (gCons g gs) (ugCons u us) := fun H0 F0 γ0 _ γ σ H F ρ vs ds R Q r h z k => by
  cases h with
  | nil => exact z.elim
  | cons a b => exact ⟨_, _, rfl, h1 _ _ r a z fun σ1 H1 F1 γ1 ρ1 r1 s1 z1 => h2 _ _ r1 (b.same s1) z1 fun σ2 H2 F2 γ2 ρ2 r2 s2 z2 => k _ _ _ _ _ r2 (s1.trans s2) z2⟩
theorem lg_tup {n : Nat} {gs : TGs} {us : UGs} (h2 : LGs GP K B gs us) : LG GP K B (gTup K n gs) (ugTup n us) := fun H0 F0 γ0 _ γ σ H F ρ v d R Q r h z k => by
  cases h with
  | tup e g => exact ⟨_, _, rfl, .inl (.inl (r.sub _ _ e)), by rw [g.length]; exact z.1, h2 _ _ r g z.2 k⟩
  | _ => exact z.elim
/-- x = e -/
def uSet (i : Nat) (a : UE) : US := fun Q ρ => a ρ fun x ρ' => match x with
  | .fr d => Q.nx (ρ'.set i (some (.own d)))
  | x => fz x ρ' fun d ρ2 => Q.nx (ρ2.set i (some (.val d)))
theorem ls_set {i : Nat} {t : TE} {u : UE} (h : LE GP K B t u) : LS GP K B (tAsg t (gName i)) (uSet i u) := fun H0 F0 γ0 _ γ σ H F ρ E Q r z n b c t => h _ _ r z fun H' F' γ' ρ' v x r' s k q => by
  have viaFz : ∀ {x : RV}, RVok K H0 γ0 γ' σ H' F' ρ' v x → (fz x ρ' fun d ρ2 => Q.nx (ρ2.set i (some (.val d)))) → gName i v σ H' E.nx := fun {x} k q => by
    obtain ⟨F2, ρ2, d, r2, s2, d2, q2⟩ := fz_ok r' k q
    exact n _ _ _ _ _ (r2.setVal i d2) q2
  have own : ∀ {d : D}, RVok K H0 γ0 γ' σ H' F' ρ' v (.fr d) → Q.nx (ρ'.set i (some (.own d))) → gName i v σ H' E.nx := fun {d} k q => by
    obtain ⟨a, rfl, o, h1, h2, h3, h4⟩ := k
    exact n _ _ _ _ _ (r'.setOwn i o h1 h2 h3 h4) q
  cases x with
  | val d => exact viaFz k q
  | kon d => exact viaFz k q
  | sl j => exact viaFz k q
  | fr d => exact own k q
/-- a, b = e -/
def uAsg (a : UE) (g : UG) : US := fun Q ρ => a ρ fun x ρ' => fz x ρ' fun d ρ2 => g d ρ2 Q.nx
theorem ls_asg {t : TE} {u : UE} {g : TG} {ug : UG} (h : LE GP K B t u) (hg : LG GP K B g ug) : LS GP K B (tAsg t g) (uAsg u ug) := fun H0 F0 γ0 _ γ σ H F ρ E Q r z n b c t => h _ _ r z fun H' F' γ' ρ' v x r' s k q => by
  obtain ⟨F2, ρ2, d, r2, s2, d2, q2⟩ := fz_ok r' k q
  exact hg _ _ r2 d2 q2 fun σ' H' F' γ' ρ' r s q => n _ _ _ _ _ r q
/-- x += e of ints -/
def uAug (g : Int → Int → Int) (i : Nat) (a : UE) : US := fun Q ρ => match ρ[i]? with
  | some (some (.val (.int k))) => a ρ fun y ρ' => match cn ρ' y with
    | some (.int j) => Q.nx (ρ'.set i (some (.val (.int (g k j)))))
    | _ => False
  | _ => False
theorem ls_aug {g : Int → Int → Int} {i : Nat} {t : TE} {u : UE} (h : LE GP K B t u) : LS GP K B (tAug i t (ipI g)) (uAug g i u) := fun H0 F0 γ0 _ γ σ H F ρ E Q r z n b c t => by
  dsimp only [uAug] at z
  split at z
  · rename_i k e
    obtain ⟨v, h1, h2⟩ := r.val i _ e
    cases h2
    refine ⟨_, h1, h _ _ r z fun H' F' γ' ρ' v x r' s k' q => ?_⟩
    split at q
    · rename_i j e2
      have := (RVok.cnt r' k' e2).int
      subst this
      exact ⟨k, j, rfl, rfl, n _ _ _ _ _ (r'.setVal i (Dd.int _)) q⟩
    · exact q.elim
  · exact z.elim
/-! ### loops -/
def goWhile (c : UT) (tb : US) (Q : UEnds) : Nat → Rho → Prop
  | 0, _ => False
  | m + 1, ρ => c ρ fun z ρ' => if z = true then tb { Q with nx := goWhile c tb Q m, ct := goWhile c tb Q m, bk := Q.nx } ρ' else Q.nx ρ'
def uWhile (c : UT) (tb : US) : US := fun Q ρ => ∃ m, goWhile c tb Q m ρ
theorem ls_while {c : TT} {t : TS} {uc : UT} {u : US} (hc : LT GP K B c uc) (h : LS GP K B t u) : LS GP K B (tWhile c t) (uWhile uc u) := fun H0 F0 γ0 _ γ σ H F ρ E Q r z n b ct t => by
  obtain ⟨m, z⟩ := z
  refine ⟨fun m σ H => ∃ F γ ρ, Rp GP K H0 F0 γ0 γ σ H F ρ ∧ goWhile uc u Q m ρ, ⟨m, F, γ, ρ, r, z⟩, ?_⟩
  rintro m σ1 H1 ⟨F1, γ1, ρ1, r1, z1⟩
  cases m with
  | zero => exact z1.elim
  | succ m =>
    refine hc _ _ r1 z1 fun H2 F2 γ2 ρ2 k r2 s2 q2 => ?_
    split
    · rename_i e
      rw [if_pos e] at q2
      refine ⟨fun σ H => ∃ F γ ρ, Rp GP K H0 F0 γ0 γ σ H F ρ ∧ goWhile uc u Q m ρ, fun σ' H' h => ⟨m, Nat.lt_succ_self _, h⟩, ?_⟩
      exact h _ _ r2 q2 (fun σ' H' F' γ' ρ' r' q' => ⟨F', γ', ρ', r', q'⟩) (fun σ' H' F' γ' ρ' r' q' => n _ _ _ _ _ r' q') (fun σ' H' F' γ' ρ' r' q' => ⟨F', γ', ρ', r', q'⟩) t
    · rename_i e
      rw [if_neg e] at q2
      exact n _ _ _ _ _ r2 q2
end DL
/-! lifted readings 4: for, comprehensions, a def's body -/
namespace DL
open PySem PySem.Spec PyProof.Rows L2 CD
variable {GP : GenP} {K : PySem.W.Frag}
variable {B : Hp × Hp × GAt}
section
variable {H0 F0 H H' F F' : Hp} {γ0 γ : GAt} {σ : L2.St} {ρ : Rho} {v : V} {d : D}
theorem Rp.rebase (r : Rp GP K H0 F0 γ0 γ σ H F ρ) : Rp GP K H0 F γ0 γ σ H F ρ := { r with f0 := Same.refl _, fnew := fun a o h => .inl h }
theorem Rp.unbase {F1 : Hp} (r : Rp GP K H0 F1 γ0 γ σ H F ρ) (s : Same F0 F1) (h : ∀ a o, F1 a = some o → F0 a = some o ∨ H0 a = none ∨ ∃ xs, o = .tup xs) : Rp GP K H0 F0 γ0 γ σ H F ρ :=
  { r with f0 := s.trans r.f0, fnew := fun a o e => (r.fnew a o e).elim (h a o) .inr }
/-- an object of no slot is written -/
theorem Rp.poke {a : Addr} {o : HO} (r : Rp GP K H0 F0 γ0 γ σ H F ρ) (n : F a = none) (h0 : H0 a = none) (hg : ¬ GA γ a) (ho : ∀ j, ¬ OwnAt σ ρ a j) : Rp GP K H0 F0 γ0 γ σ (upd H a o) F ρ where
  f0 := r.f0
  sub := fun b u h => by
    have : b ≠ a := fun x => by rw [x, n] at h; cases h
    rw [upd_ne this]; exact r.sub b u h
  keep := fun b u h nb => by
    have : b ≠ a := fun x => by rw [x, h0] at h; cases h
    rw [upd_ne this]; exact r.keep b u h nb
  fnew := r.fnew
  tr := fun b u h => by
    have : b ≠ a := fun x => by rw [x, h0] at h; cases h
    rw [upd_ne this]; exact r.tr b u h
  len := r.len
  val := r.val
  own := fun i d q => by
    obtain ⟨b, h1, h2, h3⟩ := r.own i d q
    have c : b ≠ a := fun x => ho i ⟨⟨d, q⟩, x ▸ h1⟩
    exact ⟨b, h1, h2.move (Same.refl _) (upd_ne c), h3⟩
  gen := fun i m q => by
    obtain ⟨p, h1, h2, h3, h4⟩ := r.gen i m q
    have c1 : p.1 ≠ a := fun x => hg ⟨p, h1, .inl x.symm⟩
    have c2 : p.2.1 ≠ a := fun x => hg ⟨p, h1, .inr x.symm⟩
    have c3 : p.2.2 ≠ a := fun x => h4 (x ▸ n)
    exact ⟨p, h1, h2, GP.stab h3 (upd_ne c1) (upd_ne c2) (upd_ne c3), h4⟩
  one := r.one
  g0 := r.g0
  g1 := r.g1
  gt0 := r.gt0
  gt := fun p hp => by
    obtain ⟨o', u', h1, h2, h3⟩ := r.gt p hp
    have c1 : p.1 ≠ a := fun x => hg ⟨p, hp, .inl x.symm⟩
    have c2 : p.2.1 ≠ a := fun x => hg ⟨p, hp, .inr x.symm⟩
    exact ⟨o', u', by rw [upd_ne c1]; exact h1, by rw [upd_ne c2]; exact h2, h3⟩
  gf := r.gf
/-- slots seen otherwise: those outside vs as they are, those within frozen or none -/
theorem Rp.back {σ2 : L2.St} {ρ2 : Rho} {vs : List Nat} (r : Rp GP K H0 F0 γ0 γ σ2 H F ρ2) (len : σ.length = ρ.length) (hs : ∀ i, i ∉ vs → σ2[i]? = σ[i]?) (hr : ∀ i, i ∉ vs → ρ[i]? = ρ2[i]?)
    (hv : ∀ i, i ∈ vs → ∀ x, ρ[i]? = some (some x) → ∃ d v, x = .val d ∧ σ[i]? = some (some v) ∧ Dd K F v d) : Rp GP K H0 F0 γ0 γ σ H F ρ where
  f0 := r.f0
  sub := r.sub
  keep := r.keep
  fnew := r.fnew
  tr := r.tr
  len := len
  val := fun i d q => by
    by_cases c : i ∈ vs
    · obtain ⟨d', v, e, h1, h2⟩ := hv i c _ q
      cases e
      exact ⟨v, h1, h2⟩
    · rw [hr i c] at q
      rw [← hs i c]
      exact r.val i d q
  own := fun i d q => by
    by_cases c : i ∈ vs
    · obtain ⟨d', v, e, h1, h2⟩ := hv i c _ q
      cases e
    · rw [hr i c] at q
      obtain ⟨a, h1, h2, h3, h4, h5, h6⟩ := r.own i d q
      refine ⟨a, by rw [← hs i c]; exact h1, h2, h3, h4, h5, fun j hj => ?_⟩
      obtain ⟨⟨e, he⟩, hj2⟩ := hj
      by_cases cj : j ∈ vs
      · obtain ⟨d', v, e', _⟩ := hv j cj _ he
        cases e'
      · rw [hr j cj] at he
        rw [← hs j cj] at hj2
        exact h6 j ⟨⟨e, he⟩, hj2⟩
  gen := fun i n q => by
    by_cases c : i ∈ vs
    · obtain ⟨d', v, e, h1, h2⟩ := hv i c _ q
      cases e
    · rw [hr i c] at q
      rw [← hs i c]
      exact r.gen i n q
  one := fun i j n m q1 q2 => by
    by_cases c : i ∈ vs
    · obtain ⟨d', v, e, h1, h2⟩ := hv i c _ q1
      cases e
    · by_cases cj : j ∈ vs
      · obtain ⟨d', v, e, h1, h2⟩ := hv j cj _ q2
        cases e
      · rw [hr i c] at q1
        rw [hr j cj] at q2
        exact r.one i j n m q1 q2
  g0 := r.g0
  g1 := r.g1
  gt0 := r.gt0
  gt := r.gt
  gf := r.gf
end
/-! ### what is walked -/
def YD (K : PySem.W.Frag) (F H H' : Hp) (v : V) (d : D) : Prop :=
  (H' = H ∧ Dd K F v d) ∨ ∃ T xs ds, v = .ref T ∧ H T = none ∧ H' = upd H T (.tup xs) ∧ d = .tup ds ∧ DdL K F xs ds
theorem yd_ok {H0 F0 H H' F : Hp} {γ0 γ : GAt} {σ : L2.St} {ρ : Rho} {v : V} {d : D} (r : Rp GP K H0 F0 γ0 γ σ H F ρ) (y : YD K F H H' v d) : ∃ F', Rp GP K H0 F0 γ0 γ σ H' F' ρ ∧ Same F F' ∧ Dd K F' v d := by
  rcases y with ⟨rfl, h⟩ | ⟨T, xs, ds, rfl, n, rfl, rfl, h⟩
  · exact ⟨F, r, Same.refl _, h⟩
  · obtain ⟨F', r', s', d'⟩ := new_tup r n h
    exact ⟨F', r', s', d'⟩
abbrev UI := Rho → (List D → Rho → Prop) → Prop
variable (GP K) in
def LI (B : Hp × Hp × GAt) (t : TI) (u : UI) : Prop := ∀ ⦃H0 F0 : Hp⦄ ⦃γ0 : GAt⦄ [FinerC GP K B H0 F0 γ0] ⦃γ : GAt⦄ ⦃σ : L2.St⦄ ⦃H F : Hp⦄ ⦃ρ : Rho⦄ (R : It → Hp → Prop) (Q : List D → Rho → Prop), Rp GP K H0 F0 γ0 γ σ H F ρ → u ρ Q →
  (∀ H1 F1 γ1 ρ1 J n G Y (items : List D), Rp GP K H0 F0 γ0 γ1 σ H1 F1 ρ1 → Same F F1 → Walk J n G Y → items.length = n → (∀ H'', Same F1 H'' → G H'') →
    (∀ i H v H' F, i < n → Same F1 F → Same F H → Y i H v H' → ∃ d, items[i]? = some d ∧ YD K F H H' v d) → Q items ρ1 → R J H1) → t σ H R
def goFor (g : UG) (b : US) (Q : UEnds) : List D → Rho → Prop
  | [], ρ => Q.nx ρ
  | d :: ds, ρ => g d ρ fun ρ' => b { Q with nx := goFor g b Q ds, ct := goFor g b Q ds, bk := Q.nx } ρ'
def uFor (i : UI) (g : UG) (b : US) : US := fun Q ρ => i ρ fun items ρ' => goFor g b Q items ρ'
theorem ls_for {wi : TI} {g : TG} {tb : TS} {ui : UI} {ug : UG} {ub : US} (hi : LI GP K B wi ui) (hg : LG GP K B g ug) (hb : LS GP K B tb ub) : LS GP K B (tFor wi g tb) (uFor ui ug ub) := fun H0 F0 γ0 _ γ σ H F ρ E Q r z nx bk ct rt => by
  refine hi _ _ r z fun H1 F1 γ1 ρ1 J n G Y items r1 s1 wk hn hG hY q => ?_
  have un : ∀ {γ σ H F ρ}, Rp GP K H0 F1 γ0 γ σ H F ρ → Rp GP K H0 F0 γ0 γ σ H F ρ := fun r => r.unbase r1.f0 r1.fnew
  haveI : FinerC GP K B H0 F1 γ0 := ⟨fun r => FinerC.fin (un r), FinerC.g (GP := GP) (K := K) H0 F0⟩
  refine for_it wk (fun i σ H => ∃ γ F ρ, Rp GP K H0 F1 γ0 γ σ H F ρ ∧ goFor ug ub Q (items.drop i) ρ) ⟨γ1, F1, ρ1, r1.rebase, by rw [List.drop_zero]; exact q⟩ (fun i σ H _ h => ?_) (fun i x σ H H' hi' h y => ?_) (fun σ H h => ?_)
  · obtain ⟨γ, F, ρ, r, _⟩ := h
    exact hG H (r.f0.trans r.sub)
  · obtain ⟨γ, F, ρ, r, q⟩ := h
    obtain ⟨d, hd, yd⟩ := hY i H x H' F hi' r.f0 r.sub y
    obtain ⟨F2, r2, s2, d2⟩ := yd_ok r yd
    have e : items.drop i = d :: items.drop (i + 1) := by
      obtain ⟨h1, h2⟩ := List.getElem?_eq_some_iff.mp hd
      rw [← h2]
      exact List.drop_eq_getElem_cons h1
    rw [e] at q
    refine hg _ _ r2 d2 q fun σ3 H3 F3 γ3 ρ3 r3 s3 q3 => ?_
    exact hb _ _ r3 q3 (fun _ _ _ _ _ r q => ⟨_, _, _, r, q⟩) (fun _ _ _ _ _ r q => nx _ _ _ _ _ (un r) q) (fun _ _ _ _ _ r q => ⟨_, _, _, r, q⟩) (fun _ _ _ _ _ _ _ r d q => rt _ _ _ _ _ _ _ (un r) d q)
  · obtain ⟨γ, F, ρ, r, q⟩ := h
    rw [← hn, List.drop_length] at q
    exact nx _ _ _ _ _ (un r) q
/-! ### comprehensions -/
def wipeR (ρ : Rho) : List Nat → Rho
  | [] => ρ
  | v :: vs => (wipeR ρ vs).set v none
def restR (ρ0 ρ : Rho) : List Nat → Rho
  | [] => ρ
  | v :: vs => (restR ρ0 ρ vs).set v (ρ0[v]?.getD none)
/-- the block's own names hold nothing of ours outside -/
def okW (ρ : Rho) : List Nat → Bool
  | [] => true
  | v :: vs => (match ρ[v]? with
    | some (some (.own _)) => false
    | some (some (.gen _)) => false
    | _ => true) && okW ρ vs
def goLc (g : UG) (t : UT) (e : UE) (vs : List Nat) (k : List D → Rho → Prop) : List D → List D → Rho → Prop
  | [], acc, ρ => k acc ρ
  | d :: ds, acc, ρ => okW ρ vs = true ∧ g d (wipeR ρ vs) fun ρ1 => t ρ1 fun b ρ2 => if b = true then e ρ2 fun x ρ3 => fz x ρ3 fun y ρ4 => acc.length < sizeLine ∧ goLc g t e vs k ds (acc ++ [y]) (restR ρ ρ4 vs)
    else goLc g t e vs k ds acc (restR ρ ρ2 vs)
def uLc (i : UI) (g : UG) (t : UT) (e : UE) (vs : List Nat) : UE := fun ρ Q => i ρ fun items ρ1 => goLc g t e vs (fun acc ρ2 => Q (.fr (.list acc)) ρ2) items [] ρ1
/-- the target stores to these slots alone -/
def Ons (vs : List Nat) (σ σ' : L2.St) : Prop := σ'.length = σ.length ∧ ∀ i, i ∉ vs → σ'[i]? = σ[i]?
def GW (g : TG) (vs : List Nat) : Prop := ∀ v σ H (R S : L2.St → Hp → Prop), (∀ σ' H', R σ' H' → Ons vs σ σ' → S σ' H') → g v σ H R → g v σ H S
def GWs (g : TGs) (vs : List Nat) : Prop := ∀ v σ H (R S : L2.St → Hp → Prop), (∀ σ' H', R σ' H' → Ons vs σ σ' → S σ' H') → g v σ H R → g v σ H S
theorem gw_name {i : Nat} {vs : List Nat} (h : i ∈ vs) : GW (gName i) vs := fun v σ H R S k r => k _ _ r ⟨List.length_set, fun j hj => set_none fun e => hj (by rw [e]; exact h)⟩
theorem gws_nil {vs : List Nat} : GWs gNil vs := fun v σ H R S k ⟨e, r⟩ => ⟨e, k _ _ r ⟨rfl, fun _ _ => rfl⟩⟩
theorem gw_tup {K : PySem.W.Frag} {n : Nat} {g : TGs} {vs : List Nat} (h : GWs g vs) : GW (gTup K n g) vs := fun v σ H R S k ⟨a, xs, e, s, l, r⟩ => ⟨a, xs, e, s, l, h _ _ _ R S k r⟩
theorem gws_cons {g : TG} {gs : TGs} {vs : List Nat} (h : GW g vs) (hs : GWs gs vs) : GWs (gCons g gs) vs := fun v σ H R S k ⟨x, r, e, q⟩ =>
  ⟨x, r, e, h _ _ _ _ _ (fun σ1 H1 q1 p1 => hs _ _ _ R S (fun σ2 H2 q2 p2 => k _ _ q2 ⟨p2.1.trans p1.1, fun i hi => (p2.2 i hi).trans (p1.2 i hi)⟩) q1) q⟩
theorem wipe_get : ∀ (vs : List Nat) (σ : L2.St) (i : Nat), (wipe σ vs)[i]? = if i ∈ vs ∧ i < σ.length then some none else σ[i]? := by
  intro vs
  induction vs with
  | nil => intro σ i; simp [wipe]
  | cons v vs ih =>
    intro σ i
    unfold wipe
    by_cases c : i = v
    · subst c
      by_cases l : i < σ.length
      · rw [List.getElem?_set_self (by rw [wipe_length]; exact l), if_pos ⟨List.mem_cons_self, l⟩]
      · rw [List.getElem?_eq_none (by rw [List.length_set, wipe_length]; omega), if_neg (fun x => l x.2), List.getElem?_eq_none (by omega)]
    · rw [List.getElem?_set_ne (Ne.symm c), ih]
      simp [c]
theorem wipe_eq {σ σ' : L2.St} {vs : List Nat} (h : Ons vs (wipe σ vs) σ') : wipe σ' vs = wipe σ vs := by
  obtain ⟨hl, h⟩ := h
  rw [wipe_length] at hl
  apply List.ext_getElem?
  intro i
  rw [wipe_get, wipe_get, hl]
  by_cases c : i ∈ vs
  · by_cases l : i < σ.length
    · rw [if_pos ⟨c, l⟩, if_pos ⟨c, l⟩]
    · rw [if_neg (fun x => l x.2), if_neg (fun x => l x.2), List.getElem?_eq_none (by omega), List.getElem?_eq_none (by omega)]
  · have z := h i c
    rw [wipe_get, if_neg (fun x => c x.1)] at z
    rw [if_neg (fun x => c x.1), if_neg (fun x => c x.1), z]
theorem wipe_at {σ : L2.St} {i : Nat} : ∀ {vs : List Nat}, i ∉ vs → (wipe σ vs)[i]? = σ[i]?
  | [], _ => rfl
  | v :: vs, h => by
    unfold wipe
    rw [set_none fun e => h (by rw [e]; exact List.mem_cons_self)]
    exact wipe_at fun m => h (List.mem_cons_of_mem _ m)
theorem wipeR_len {ρ : Rho} : ∀ {vs : List Nat}, (wipeR ρ vs).length = ρ.length
  | [] => rfl
  | v :: vs => by unfold wipeR; rw [List.length_set]; exact wipeR_len
theorem wipeR_at {ρ : Rho} {i : Nat} : ∀ {vs : List Nat}, i ∉ vs → (wipeR ρ vs)[i]? = ρ[i]?
  | [], _ => rfl
  | v :: vs, h => by
    unfold wipeR
    rw [set_none fun e => h (by rw [e]; exact List.mem_cons_self)]
    exact wipeR_at fun m => h (List.mem_cons_of_mem _ m)
theorem wipeR_in {ρ : Rho} {i : Nat} {x : SV} : ∀ {vs : List Nat}, i ∈ vs → (wipeR ρ vs)[i]? ≠ some (some x)
  | v :: vs, h => fun e => by
    unfold wipeR at e
    by_cases c : i = v
    · subst c; cases (set_at e).1
    · rw [set_none c] at e
      exact wipeR_in ((List.mem_cons.mp h).resolve_left c) e
theorem restR_len {ρ0 ρ : Rho} : ∀ {vs : List Nat}, (restR ρ0 ρ vs).length = ρ.length
  | [] => rfl
  | v :: vs => by unfold restR; rw [List.length_set]; exact restR_len
theorem restR_at {ρ0 ρ : Rho} {i : Nat} : ∀ {vs : List Nat}, i ∉ vs → (restR ρ0 ρ vs)[i]? = ρ[i]?
  | [], _ => rfl
  | v :: vs, h => by
    unfold restR
    rw [set_none fun e => h (by rw [e]; exact List.mem_cons_self)]
    exact restR_at fun m => h (List.mem_cons_of_mem _ m)
theorem restR_in {ρ0 ρ : Rho} {i : Nat} {x : SV} : ∀ {vs : List Nat}, i ∈ vs → (restR ρ0 ρ vs)[i]? = some (some x) → ρ0[i]? = some (some x)
  | v :: vs, h, e => by
    unfold restR at e
    by_cases c : i = v
    · subst c
      have := (set_at e).1
      cases q : ρ0[i]? with
      | none => rw [q] at this; cases this
      | some y => rw [q] at this; exact congrArg some this
    · rw [set_none c] at e
      exact restR_in ((List.mem_cons.mp h).resolve_left c) e
theorem okW_in {ρ : Rho} {i : Nat} {x : SV} : ∀ {vs : List Nat}, okW ρ vs = true → i ∈ vs → ρ[i]? = some (some x) → ∃ d, x = .val d
  | v :: vs, h, hi, e => by
    unfold okW at h
    rw [Bool.and_eq_true] at h
    by_cases c : i = v
    · subst c
      rw [e] at h
      cases x with
      | val d => exact ⟨d, rfl⟩
      | own d => cases h.1
      | gen n => cases h.1
    · exact okW_in h.2 ((List.mem_cons.mp hi).resolve_left c) e
theorem le_lc {wi : TI} {g : TG} {tt : TT} {te : TE} {vs : List Nat} {ui : UI} {ug : UG} {ut : UT} {ue : UE} (hi : LI GP K B wi ui) (hg : LG GP K B g ug) (hw : GW g vs) (ht : LT GP K B tt ut) (he : LE GP K B te ue) : LE GP K B (tLc wi g tt te vs) (uLc ui ug ut ue vs) := by
  intro H0 F0 γ0 _ γ σ H F ρ R Q r0 u0 h
  refine hi _ _ r0 u0 fun H1 F1 γ1 ρ1 J n G Y items r1 s1 wk hn hG hY q Dd1 nD => ?_
  have h0D : H0 Dd1 = none := r1.new0 nD
  have f1D : F1 Dd1 = none := Same.free r1.sub nD
  have ngD : ¬ GA γ0 Dd1 := r1.nga h0D
  obtain ⟨a, ea, o1, o2, o3, o4, o5⟩ := fr_new (o := .lst []) (d := .list []) r1 nD (.lst upd_same .nil)
  cases ea
  have rS := (r1.same (same_upd (o := .lst []) nD)).rebase.hold upd_same o2 o3 o4 o5
  obtain ⟨Pv, hPv⟩ : ∃ Pv : Nat → Hp → Prop, Pv = fun i H => ∃ γ F ρ accv acc, Rp GP K (upd H0 Dd1 (.lst accv)) F1 γ0 γ σ H F ρ ∧ DdL K F accv acc ∧ goLc ug ut ue vs (fun acc ρ2 => Q (.fr (.list acc)) ρ2) (items.drop i) acc ρ := ⟨_, rfl⟩
  refine lc_it wk Pv (by rw [hPv]; exact ⟨γ1, F1, ρ1, [], [], rS, .nil, by rw [List.drop_zero]; exact q⟩) (fun i H _ h => ?_) (fun i x H2 H3 hi' h2 y => ?_) (fun H2 h2 => ?_)
  all_goals (try rw [hPv] at h); (try rw [hPv] at h2)
  · obtain ⟨γ, F, ρ, _, _, r, _⟩ := h
    exact hG H (r.f0.trans r.sub)
  · obtain ⟨γ2, F2, ρ2, accv, acc, r2, da, q2⟩ := h2
    obtain ⟨d, hd, yd⟩ := hY i H2 x H3 F2 hi' r2.f0 r2.sub y
    haveI : FinerC GP K B (upd H0 Dd1 (.lst accv)) F1 γ0 := ⟨fun r => FinerC.fin ((r.letgo h0D f1D ngD (fun _ e => nomatch e)).1.unbase r1.f0 r1.fnew), FinerC.g (GP := GP) (K := K) H0 F0⟩
    have ei : items.drop i = d :: items.drop (i + 1) := by
      obtain ⟨a1, a2⟩ := List.getElem?_eq_some_iff.mp hd
      rw [← a2]
      exact List.drop_eq_getElem_cons a1
    rw [ei] at q2
    obtain ⟨okw, q2⟩ := q2
    obtain ⟨F3, r3, s3, d3⟩ := yd_ok r2 yd
    -- the block's own slots forgotten
    have rw3 : Rp GP K (upd H0 Dd1 (.lst accv)) F1 γ0 γ2 (wipe σ vs) H3 F3 (wipeR ρ2 vs) :=
      r3.back (vs := vs) (by rw [wipe_length, wipeR_len]; exact r3.len) (fun i hi => (wipe_at hi).symm) (fun i hi => wipeR_at hi) (fun i hi x e => absurd e (wipeR_in hi))
    -- behind a turn: the slots as they were
    have ret : ∀ {γ4 σ4 H4 F4 ρ4}, Rp GP K (upd H0 Dd1 (.lst accv)) F1 γ0 γ4 σ4 H4 F4 ρ4 → Same F3 F4 → Ons vs (wipe σ vs) σ4 → Rp GP K (upd H0 Dd1 (.lst accv)) F1 γ0 γ4 σ H4 F4 (restR ρ2 ρ4 vs) := by
      intro γ4 σ4 H4 F4 ρ4 r4 s4 hs
      refine r4.back (vs := vs) ?_ (fun i hi => by rw [hs.2 i hi, wipe_at hi]) (fun i hi => restR_at hi) (fun i hi x e => ?_)
      · rw [restR_len, ← r4.len, hs.1, wipe_length]
      · have e0 := restR_in hi e
        obtain ⟨d', rfl⟩ := okW_in okw hi e0
        obtain ⟨w, w1, w2⟩ := r3.val i d' e0
        exact ⟨d', w, rfl, w1, w2.same s4⟩
    refine hw _ _ _ (fun σ2 H2 => Ons vs (wipe σ vs) σ2 → tt σ2 H2 fun b H3 => if b = true then te σ2 H3 fun y H4 => ∃ acc, H4 Dd1 = some (.lst acc) ∧ acc.length < sizeLine ∧ Pv (i + 1) (upd H4 Dd1 (.lst (acc ++ [y]))) else Pv (i + 1) H3) _ (fun σ4 H4 q4 on4 => ⟨wipe_eq on4, q4 on4⟩) ?_
    refine hg _ _ rw3 d3 q2 fun σ4 H4 F4 γ4 ρ4 r4 s4 q4 on4 => ?_
    refine ht _ _ r4 q4 fun H5 F5 γ5 ρ5 b r5 s5 q5 => ?_
    split
    · rename_i c
      rw [if_pos c] at q5
      refine he _ _ r5 q5 fun H6 F6 γ6 ρ6 y x6 r6 s6 k6 q6 => ?_
      obtain ⟨F7, ρ7, d7, r7, s7, dd7, l7, q7⟩ := fz_ok r6 k6 q6
      have rr := ret r7 (s4.trans (s5.trans (s6.trans s7))) on4
      obtain ⟨rg, e1, e2, e3, e4⟩ := rr.letgo h0D f1D ngD (fun _ e => nomatch e)
      have da7 := da.same (s3.trans (s4.trans (s5.trans (s6.trans s7))))
      refine ⟨accv, e1, by rw [da.length]; exact l7, ?_⟩
      rw [hPv]
      refine ⟨γ6, F7, restR ρ2 ρ7 vs, accv ++ [y], acc ++ [d7], ?_, da7.append (.cons dd7 .nil), q7⟩
      exact (rg.poke (o := .lst (accv ++ [y])) e2 h0D e3 e4).hold upd_same e2 h0D e3 e4
    · rename_i c
      rw [if_neg c] at q5
      rw [hPv]
      exact ⟨γ5, F5, restR ρ2 ρ5 vs, accv, acc, ret r5 (s4.trans s5) on4, da.same (s3.trans (s4.trans s5)), q5⟩
  · obtain ⟨γ2, F2, ρ2, accv, acc, r2, da, q2⟩ := h2
    rw [← hn, List.drop_length] at q2
    obtain ⟨rg, e1, e2, e3, e4⟩ := r2.letgo h0D f1D ngD (fun _ e => nomatch e)
    exact h _ _ _ _ _ (.fr (.list acc)) (rg.unbase r1.f0 r1.fnew) (s1.trans rg.f0) ⟨Dd1, rfl, .lst e1 da, e2, h0D, e3, e4⟩ q2
/-! ### a def's body -/
def Wof (n : Nat) (u : US) : WD := fun as Q => u { nx := fun ρ => outQ (hasG as) Q .non ρ, rt := fun d ρ => outQ (hasG as) Q d ρ } (start0 n as)
section
variable {P : Program} {w : World} {mg : Str → Option Value} {base : Heap} {x : Str} {st : Stmt} {N ps : List Str} {k : Nat}
theorem out_ok {H H' F F' : Hp} {γ γ' : GAt} {σ' : L2.St} {ρ' : Rho} {as : List SV} {Q : QD} {d : D} {v : V} {R : VK} (hg : hasG as = γ.isSome) (r : Rp GP K H F γ γ' σ' H' F' ρ') (dd : Dd K F' v d) (o : outQ (hasG as) Q d ρ')
    (q : ∀ v H' F' γ' d m, (∀ a o, H a = some o → ¬ GA γ a → H' a = some o) → (∀ a o, H a = some o → ∃ u, H' a = some u) → Same F F' → Same F' H' → (∀ a o, F' a = some o → F a = some o ∨ H a = none ∨ ∃ xs, o = .tup xs) → Dd K F' v d →
      GenAfter GP H H' F' γ γ' m → Q d m → R v H') : R v H' := by
  unfold outQ at o
  cases e : γ with
  | none =>
    rw [e] at hg
    rw [hg] at o
    exact q v H' F' γ' d none r.keep r.tr r.f0 r.sub r.fnew dd e o
  | some p =>
    rw [e] at hg
    have hg' : hasG as = true := hg
    rw [hg', if_pos rfl] at o
    cases g : gN ρ' with
    | none => rw [g] at o; exact o.elim
    | some m =>
      rw [g] at o
      obtain ⟨i, hi⟩ := gN_at g
      obtain ⟨p', h1, h2, h3, h4⟩ := r.gen i m hi
      obtain ⟨q', g1, g2, g3, g4⟩ := r.g0 p e
      rw [h1] at g1
      cases g1
      obtain ⟨f1, f2⟩ := r.gf p' h1
      exact q v H' F' γ' d (some m) r.keep r.tr r.f0 r.sub r.fnew dd ⟨p, p', e, h1, g2, g3, g4, h3, f1, f2⟩ o
theorem _root_.CD.Def.calD (D : Def K mg x st ps) (S : FnScope N ps (defScope st)) (u : US)
    (body : ∀ (f : Addr) (cdv : Value) (A : Around) (outer : List PySem.Env) (s : Shared) (H : Hp) (E : XK), A.guards = some [] → Room k (A.deeper (envOfC x (defScope st) s.heap.objs.size f cdv)) →
      ∃ t, PSs (cxOf CX0 P w K mg base N x (defScope st) f cdv A outer s H E).nox (defBody st) t ∧ ∀ B, LS GP K B t u) : CalG P w K mg base (k + 1) x ps (spL GP K ps.length (Wof N.length u)) := by
  refine D.calG S (fun vs H Q E h => spL_len h) fun f cdv A outer s H vs Q E hgd hr h => ?_
  obtain ⟨t, ht, hl⟩ := body f cdv A outer s H E hgd hr
  refine ⟨t, ht, ?_⟩
  obtain ⟨F, γ, as, Qd, h1, h2, h3, h4, h5, h6, h7, h8⟩ := h
  have hn : vs.length ≤ N.length := by
    have := congrArg List.length S.pre
    rw [List.length_take] at this
    rw [h2.length, h5]
    omega
  have r := start_rp (N := N) h1 h2 h3 h4 h6 hn
  haveI : FinerC GP K (H, F, γ) H F γ := ⟨id, rfl⟩
  refine hl (H, F, γ) _ _ r h7 (fun σ' H' F' γ' ρ' r' q' => ?_) (fun _ _ _ _ _ _ q' => q'.elim) (fun _ _ _ _ _ _ q' => q'.elim) (fun σ' v H' F' γ' ρ' d r' dd q' => ?_)
  · exact out_ok h3 r' Dd.non q' fun v H' F' γ' d m a1 a2 a3 a4 a5 a6 a7 a8 => h8 v H' F' _ d m a1 a2 a3 a4 a5 a6 a7 a8
  · exact out_ok h3 r' dd q' fun v H' F' γ' d m a1 a2 a3 a4 a5 a6 a7 a8 => h8 v H' F' _ d m a1 a2 a3 a4 a5 a6 a7 a8
/-- the law's: no draws ahead of it -/
theorem _root_.CD.Def.calDL (D : Def K mg x st ps) (S : FnScope N ps (defScope st)) (u : US)
    (body : ∀ (f : Addr) (cdv : Value) (A : Around) (outer : List PySem.Env) (s : Shared) (H : Hp) (E : XK), A.guards = some [] → Room k (A.deeper (envOfC x (defScope st) s.heap.objs.size f cdv)) →
      ∃ t, PSs (cxOf CX0 P w K mg base N x (defScope st) f cdv A outer s H E).nox (defBody st) t ∧ ∀ B, B.2.2 = none → LS GP K B t u) : CalG P w K mg base (k + 1) x ps (spL GP K ps.length fun as Q => hasG as = false ∧ Wof N.length u as Q) := by
  refine D.calG S (fun vs H Q E h => spL_len h) fun f cdv A outer s H vs Q E hgd hr h => ?_
  obtain ⟨t, ht, hl⟩ := body f cdv A outer s H E hgd hr
  refine ⟨t, ht, ?_⟩
  obtain ⟨F, γ, as, Qd, h1, h2, h3, h4, h5, h6, ⟨h0, h7⟩, h8⟩ := h
  have hn : vs.length ≤ N.length := by
    have := congrArg List.length S.pre
    rw [List.length_take] at this
    rw [h2.length, h5]
    omega
  have r := start_rp (N := N) h1 h2 h3 h4 h6 hn
  have g0 : γ = none := by
    rw [h0] at h3
    cases γ with
    | none => rfl
    | some _ => cases h3
  haveI : FinerC GP K (H, F, γ) H F γ := ⟨id, rfl⟩
  refine hl (H, F, γ) g0 _ _ r h7 (fun σ' H' F' γ' ρ' r' q' => ?_) (fun _ _ _ _ _ _ q' => q'.elim) (fun _ _ _ _ _ _ q' => q'.elim) (fun σ' v H' F' γ' ρ' d r' dd q' => ?_)
  · exact out_ok h3 r' Dd.non q' fun v H' F' γ' d m a1 a2 a3 a4 a5 a6 a7 a8 => h8 v H' F' _ d m a1 a2 a3 a4 a5 a6 a7 a8
  · exact out_ok h3 r' dd q' fun v H' F' γ' d m a1 a2 a3 a4 a5 a6 a7 a8 => h8 v H' F' _ d m a1 a2 a3 a4 a5 a6 a7 a8
/-- less asked -/
theorem CalG.impD {n : Nat} {W W' : WD} (C : CalG P w K mg base k x ps (spL GP K n W)) (h : ∀ as Q, W' as Q → W as Q) : CalG P w K mg base k x ps (spL GP K n W') := by
  obtain ⟨f, fd, G, r⟩ := C
  refine ⟨f, fd, ⟨fun vs H Q E q => ?_, fun A outer s H args us vs Q E hg hr e0 hb r q => ?_⟩, r⟩
  · obtain ⟨F, γ, as, Qd, h1, h2, h3, h4, h5, h6, h7, h8⟩ := q
    exact G.len vs H Q E ⟨F, γ, as, Qd, h1, h2, h3, h4, h5, h6, h _ _ h7, h8⟩
  · obtain ⟨F, γ, as, Qd, h1, h2, h3, h4, h5, h6, h7, h8⟩ := q
    exact G.run A outer s H args us vs Q E hg hr e0 hb r ⟨F, γ, as, Qd, h1, h2, h3, h4, h5, h6, h _ _ h7, h8⟩
end
end DL
set_option maxHeartbeats 3200000
/-! own rules 6: set(l), l a list of ints, with its ledger; sorted(set(l)) -/
namespace CD
open PySem PySem.Spec PyProof.Rows L2
def newSet (w : World) : Obj := { cls := .type "set", dict := none, data := .set #[] 0 (.fresh 0 0 (!w.params.followText "set-order")) }
section
variable {P : Program} {w : World} {A : Around} {E : Value → Shared → Prop} {s : Shared}
theorem new_set (a : Value) {Q : Value → Shared → Prop} (h : Q (.ref s.heap.objs.size) { s with heap := s.heap.push (newSet w) }) : codeAny (model P w) A (.call (.builtin "set.__new__") ⟨[.type "set", a], []⟩) (wants Q E) s := code_set_led1 a h
/-- the loop of set(l), over the new iterator -/
theorem fill_set {l : Addr} {its : Array Value} (ns : List Int) {h0 : Heap} {R : Result → Shared → Prop} (hh : A.handled = none) (hl : h0.IsList l its) (hi : IntsAre its.toList ns) (hb : ns.length + 1 < scanBound) (hs : s.heap = ((h0.push (newSet w)).push { cls := .type "list_iterator", data := .fields #[.ref l, .int 0 0] }))
    (h : ∀ s' c, (∀ b o, h0.get? b = some o → s'.heap.get? b = some o) → s'.gens = s.gens → s'.drawn = s.drawn → s'.os = s.os → c ≤ ns.length → SetR w s'.heap h0.objs.size (fun j => decide (j ∈ ns)) c → R (.ok (.ret .none)) s') :
    codeAny (model P w) A (.builtin "set.update.loop" ⟨[.ref h0.objs.size, .ref (h0.push (newSet w)).objs.size], []⟩) R s := by
  rw [show (h0.push (newSet w)).objs.size = h0.objs.size + 1 from Heap.size_push ..]
  have hsz : its.size = ns.length := by
    have q := IntsAre.length hi
    rwa [Array.length_toList] at q
  have z1 : (h0.push (newSet w)).objs.size = h0.objs.size + 1 := Heap.size_push ..
  have hll : l < h0.objs.size := by
    obtain ⟨o, ho, _⟩ := hl
    exact Heap.lt_size ho
  have n1 : l ≠ h0.objs.size + 1 := Nat.ne_of_lt (Nat.lt_succ_of_lt hll)
  have n2 : h0.objs.size ∉ [h0.objs.size + 1, l] := by
    intro m
    rcases List.mem_cons.mp m with e | e
    · exact absurd e (Nat.ne_of_lt (Nat.lt_succ_self _))
    · exact absurd (List.mem_singleton.mp e) (Nat.ne_of_gt hll)
  have g0 : s.heap.get? h0.objs.size = some (newSet w) := by
    rw [hs]
    exact Heap.get?_push_of_some _ (Heap.get?_push_size _ rfl)
  have g1 : s.heap.get? (h0.objs.size + 1) = some { cls := .type "list_iterator", data := .fields #[.ref l, .int 0 0] } := by
    rw [hs, ← z1]
    exact Heap.get?_push_size _ rfl
  have val : ∀ (i : Nat) (v : Value), its[i]? = some v → ∃ k t, ns[i]? = some k ∧ v = .int k t := fun i v hv => by
    have b : i < ns.length := by
      rw [← hsz]
      exact (Array.getElem?_eq_some_iff.mp hv).1
    have q := IntsAre.int_at hi i v (by rw [Array.getElem?_toList]; exact hv)
    obtain ⟨t, e⟩ := q
    rw [List.getD_eq_getElem?_getD, List.getElem?_eq_getElem b] at e
    exact ⟨ns[i], t, List.getElem?_eq_getElem b, e⟩
  have hl2 : s.heap.IsList l its := by
    rw [hs]
    exact (hl.push _).push _
  refine set_update_ints ((Walks.list (by simp [hh]) (h0.objs.size + 1) l n1 its).toS) h0.objs.size n2 ns hsz hb val its.size 0 s (by omega) (Nat.zero_le _) ⟨⟨_, g1, rfl, rfl⟩, hl2⟩ ⟨0, Nat.le_refl 0, setR_new_at g0⟩ fun s' c hm hc hS => ?_
  refine h s' c (fun b o e => ?_) hm.gens hm.drawn hm.os (by omega) hS
  have bl := Heap.lt_size e
  refine hm.heap b o (fun m => ?_) (by rw [hs]; exact Heap.get?_push_of_some _ (Heap.get?_push_of_some _ e))
  rcases List.mem_cons.mp m with x | x
  · exact absurd x (Nat.ne_of_lt bl)
  · rcases List.mem_cons.mp x with y | y
    · exact absurd y (Nat.ne_of_lt (Nat.lt_succ_of_lt bl))
    · cases y
theorem call_set_lst {l : Addr} {its : Array Value} (ns : List Int) {Q : Value → Shared → Prop} (hh : A.handled = none) (hl : s.heap.IsList l its) (hi : IntsAre its.toList ns) (hb : ns.length + 1 < scanBound)
    (h : ∀ (h' : Heap) (tk c : Nat), SetR w h' s.heap.objs.size (fun j => decide (j ∈ ns)) c → c ≤ ns.length → (∀ b o, s.heap.get? b = some o → h'.get? b = some o) → Q (.ref s.heap.objs.size) { s with heap := h', toks := tk }) :
    wpAny (model P w) A (call (.type "set") [.ref l]) Q E s := by
  have f1 := PySem.F.called_set.made
  have f2 := PySem.F.called_set.sub
  obtain ⟨f3, f4, f5⟩ := PySem.F.called_set.mro
  have f6 := PySem.F.called_set.notType
  have f7 := PySem.F.called_set.canCreate
  have f8 := PySem.F.typeCall_set_1 (.ref l)
  refine wpAny_call (codeAny_of_tree ?_)
  show wpAny _ _ (callAny (.type "set") _) _ _ _
  refine wpAny_pure ⟨Code.quiet_builtin _ (by decide +kernel), codeAny_builtin PySem.F.entry_type_call ?_⟩
  rw [Around.under_plain (weight_type_call_type "set" [.ref l] []) rfl]
  repeat any_goals first | assumption | wp_step
  refine codeAny_mono (new_set (.ref l) (E := E) (Q := fun obj t => obj = .ref s.heap.objs.size ∧ t = { s with heap := s.heap.push (newSet w) }) ⟨rfl, rfl⟩) fun r t hr => ?_
  match r, hr with
  | .error _, hr => exact hr
  | .ok .next, hr => exact hr.elim
  | .ok .brk, hr => exact hr.elim
  | .ok .cont, hr => exact hr.elim
  | .ok (.ret obj), hr =>
    obtain ⟨rfl, rfl⟩ := hr
    have gS : (s.heap.push (newSet w)).get? s.heap.objs.size = some (newSet w) := Heap.get?_push_size _ rfl
    have tS : Shared.TypeIs { s with heap := s.heap.push (newSet w) } (.ref s.heap.objs.size) "set" := ⟨_, gS, rfl⟩
    have f9 := PySem.F.called_set.init.lookup
    have f10 := PySem.F.called_set.init.bind (.ref s.heap.objs.size)
    repeat any_goals first | assumption | wp_step
    refine codeAny_mono (codeAny_call_builtin (R := wants (fun u t => u = .none ∧ ∃ h' tk c, t = { s with heap := h', toks := tk } ∧ SetR w h' s.heap.objs.size (fun j => decide (j ∈ ns)) c ∧ c ≤ ns.length ∧ ∀ b o, s.heap.get? b = some o → h'.get? b = some o) E)
      PySem.F.called_set.init.plain PySem.F.entry_set_init (check_set_init_1 tS ?_)) fun r2 t2 hr2 => ?_
    · have g1 := PySem.F.sub_list_set
      have g2 := PySem.F.sub_list_frozenset
      have g3 : (Value.type "list" == Value.type "dict") = false := by decide
      have hl2 : (s.heap.push (newSet w)).IsList l its := hl.push _
      obtain ⟨ob, hob, hcl, en, hda⟩ := id hl2
      obtain ⟨oc, odi, oda, osl⟩ := ob
      dsimp only at hcl hda
      subst hcl hda
      unfold Builtin.«set.__init__» noKeywords Builtin.Frozenset.updateFrom
      generalize hpi : pyIter = pi
      wp_walk
      subst hpi
      refine wpAny_pyIter_list hl2 (wpAny_bind (wpAny_runValue ?_))
      refine fill_set ns (h0 := s.heap) (by simp [hh]) hl hi hb rfl fun t c k e1 e2 e3 hc hS => ?_
      obtain ⟨th, tg, td, tt, tos⟩ := t
      dsimp only at e1 e2 e3 hS k
      subst e1 e2 e3
      show wpAny _ _ _ _ _ _
      refine wpAny_pure ?_
      show wpAny _ _ (ret Value.none) _ _ _
      exact wpAny_pure ⟨rfl, th, tt, c, rfl, hS, hc, k⟩
    · match r2, hr2 with
      | .error _, hr2 => exact hr2
      | .ok .next, hr2 => exact hr2.elim
      | .ok .brk, hr2 => exact hr2.elim
      | .ok .cont, hr2 => exact hr2.elim
      | .ok (.ret u), hr2 =>
        obtain ⟨rfl, h', tk, c, rfl, hS, hc, hk⟩ := hr2
        repeat any_goals first | assumption | wp_step
        exact h _ _ _ hS hc hk
end
section
variable {X : Cx}
/-- set(l), l a list of ints -/
def rSetLs (K : PySem.W.Frag) (w : World) : List V → Hp → VK → Prop := fun vs H Q => ∃ (a : Addr) (ns : List Int), vs = [V.ref a] ∧ SqL K H a (ns.map V.int) ∧ ns.length ≤ 1000 ∧ ∀ p c, H p = none → c ≤ ns.length → Q (.ref p) (upd H p (SetO w p (fun j => decide (j ∈ ns)) c))
theorem cr_setLs (hc : X.calm = true) : CallR X (.type "set") (rSetLs X.K X.w) := by
  intro pins s σ H vs us Q I r h
  obtain ⟨a, ns, rfl, hs, hz, q⟩ := h
  obtain ⟨its, rv, hl, _⟩ := I.list hs
  rw [Vals.ref1 r]
  exact call_set_lst ns (I.ok.hd hc) hl.isList rv.ints (by unfold scanBound; omega) fun h' tk c hS hcl hk => ⟨.ref _, upd H s.heap.objs.size (SetO X.w s.heap.objs.size (fun j => decide (j ∈ ns)) c), I.laid (t' := tk) hk (Nat.le_refl _) (setO_new hS), rfl, q _ c (I.hok.fresh (Nat.le_refl _)) hcl⟩
end
end CD
set_option maxHeartbeats 1000000
/-! own rules 7: enumerate(t), t a tuple -/
namespace CD
open PySem PySem.Spec PyProof.Rows L2
theorem new_enum {v : Value} {o : Obj} {H0 : Heap → Prop} (B : Begins v o H0) :
    Meets (Builtin.«enumerate.__new__» ⟨[.type "enumerate", v], []⟩) (fun _ R s => H0 s.heap ∧ R (.ok (.ret (.ref (s.heap.push o).objs.size)))
      { s with heap := (s.heap.push o).push { cls := .type "enumerate", data := .fields #[.none, .bool false, .ref s.heap.objs.size, rawInt 0, .none, .none] } }) :=
  .of_wp fun prog w A R s hh => by
    obtain ⟨hp, g, d, tk, os⟩ := s
    obtain ⟨h0, hR⟩ := hh
    have sub := sub_enumerate
    have it : ∀ {A' : Around} {E Q : Value → Shared → Prop}, Q (.ref hp.objs.size) ⟨hp.push o, g, d, tk, os⟩ → wpAny (model prog w) A' (pyIter v) Q E ⟨hp, g, d, tk, os⟩ := fun q => B.iter prog w _ _ ⟨hp, g, d, tk, os⟩ _ h0 q
    wp_walk using it
    refine wpAny_stack_any fun below => wpAny_pure ?_
    split
    · rename_i cl _ _ _ _ _
      cases (cl == Value.type "enumerate") <;>
      · wp_walk using it
        exact ⟨_, rfl, hR⟩
    · wp_walk using it
      exact ⟨_, rfl, hR⟩
section
variable {prog : Program} {w : World} {A : Around} {E : Value → Shared → Prop} {s : Shared}
theorem enum_of {v : Value} {o : Obj} {H0 : Heap → Prop} {Q : Value → Shared → Prop} (B : Begins v o H0) (h0 : H0 s.heap)
    (h : ∀ h', IsEnum h' (s.heap.objs.size + 1) s.heap.objs.size 0 .none → h'.get? s.heap.objs.size = some o → (∀ b u, s.heap.get? b = some u → h'.get? b = some u) → Q (.ref (s.heap.objs.size + 1)) { s with heap := h' }) :
    wpAny (model prog w) A (call (.type "enumerate") [v]) Q E s := by
  have sz : (s.heap.push o).objs.size = s.heap.objs.size + 1 := Heap.size_push ..
  refine callType_new F.called_enumerate (by decide) (F.typeCall_enumerate_1 _) (F.newCall_enumerate_1 _) (fun x => F.args_object_init_2 x _) F.entry_enumerate_new (new_enum B) ⟨h0, ?_⟩
  show _ ∧ _
  rw [sz]
  have ie : IsEnum ((s.heap.push o).push { cls := .type "enumerate", data := .fields #[.none, .bool false, .ref s.heap.objs.size, rawInt 0, .none, .none] }) (s.heap.objs.size + 1) s.heap.objs.size 0 .none := by
    have z := Heap.get?_push_size (s.heap.push o) (o := { cls := .type "enumerate", data := .fields #[.none, .bool false, .ref s.heap.objs.size, rawInt 0, .none, .none] }) rfl
    rwa [sz] at z
  exact ⟨⟨_, ie, rfl⟩, h _ ie (Heap.get?_push_of_some _ (Heap.get?_push_size _ B.free)) fun b u x => Heap.get?_push_of_some _ (Heap.get?_push_of_some _ x)⟩
end
def iEnum1 (K : PySem.W.Frag) (ta : TA) : TI := fun σ H R => ta σ H fun vs H1 => ∃ a xs, vs = [.ref a] ∧ SqT K H1 a xs ∧ R (IteT K a 0) H1
theorem pi_enum1 {X : Cx} {e : Expr} {ta : TA} {p pos tpos : Pos} {elts : List Expr} {kk : Nat} (hg : Gl X "enumerate") (hm : X.mg "enumerate" = none) (ha : PA X [e] ta) (hs : starEach [e] X.env = [(false, eval e X.env)] := by rfl) :
    PI X (.Tuple elts kk tpos) (.Call (.Name "enumerate" p) [e] [] pos) (iEnum1 X.K ta) := by
  refine ⟨fun pins s σ H R I h => ?_⟩
  refine Call_ (ld_blt I hg hm boot_enumerate (PyProof.Rows.callWith_type1 (thn (ha.run pos pins s σ H _ I h) fun us s2 ⟨vs, H2, I2, r1, q1⟩ => ?_) hs rfl))
  obtain ⟨a, xs, rfl, hq, q⟩ := q1
  obtain rfl := Vals.ref1 r1
  obtain ⟨its, rv, pt, hz⟩ := I2.tuple hq
  refine enum_of (PySem.begins_tuple a its.toArray) (show s2.heap.IsTuple a its.toArray from pt) fun h' he hit hkeep => wpAny_pyIter_enum he ?_
  have I3 : Inv X pins σ H2 { s2 with heap := h' } := I2.kept (t' := s2.toks) hkeep
  have hit0 : h'.IsTupleIter s2.heap.objs.size a 0 := ⟨_, hit, rfl, rfl⟩
  refine ⟨s2.heap.objs.size + 1, [s2.heap.objs.size + 1, s2.heap.objs.size], _, _, H2, rfl, I3, turn_enumT a (s2.heap.objs.size + 1) s2.heap.objs.size 0, ?_, fun b hb => ?_, q⟩
  · exact ⟨⟨.none, he⟩, hit0, Nat.succ_ne_self _⟩
  · have hle : s2.heap.objs.size ≤ b := by
      rcases (by simpa using hb : b = s2.heap.objs.size + 1 ∨ b = s2.heap.objs.size) with z | z
      · rw [z]; exact Nat.le_succ _
      · rw [z]; exact Nat.le_refl _
    exact I2.fpOk hle (I2.hok.fresh hle)
end CD
set_option maxHeartbeats 400000
/-! lifted readings 5: operators, built-ins, methods -/
namespace DL
open PySem PySem.Spec PyProof.Rows L2 CD
variable {GP : GenP} {K : PySem.W.Frag}
variable {B : Hp × Hp × GAt}
/-! ### == of scalars -/
def scD : D → D → Option Bool
  | .non, .non => some true | .non, .int _ => some false | .int _, .non => some false | .non, .bl _ => some false | .bl _, .non => some false | .non, .str _ => some false | .str _, .non => some false
  | .int i, .int j => some (decide (i = j)) | .bl i, .bl j => some (decide (i = j)) | .str i, .str j => some (decide (i = j))
  | .int _, .str _ => some false | .str _, .int _ => some false | .bl _, .str _ => some false | .str _, .bl _ => some false
  | _, _ => none
def pEq : P2 := fun x y Q => match scD x y with
  | some b => Q (.val (.bl b))
  | none => False
def pNe : P2 := fun x y Q => match scD x y with
  | some b => Q (.val (.bl (!b)))
  | none => False
theorem sc_ok {F H : Hp} {x y : V} {dx dy : D} {b : Bool} (c1 : Cnt K F H x dx) (c2 : Cnt K F H y dy) (e : scD dx dy = some b) : scal x y = true ∧ decide (x = y) = b := by
  cases dx <;> cases dy <;> first
    | (cases e; done)
    | (have e1 := c1.int; have e2 := c2.int; subst e1; subst e2; cases e; exact ⟨rfl, by simp⟩)
    | (have e1 := c1.non; have e2 := c2.non; subst e1; subst e2; cases e; exact ⟨rfl, by simp⟩)
    | (have e1 := c1.bl; have e2 := c2.bl; subst e1; subst e2; cases e; exact ⟨rfl, by simp⟩)
    | (have e1 := c1.str; have e2 := c2.str; subst e1; subst e2; cases e; exact ⟨rfl, by simp⟩)
    | (have e1 := c1.non; have e2 := c2.int; subst e1; subst e2; cases e; exact ⟨rfl, by simp⟩)
    | (have e1 := c1.int; have e2 := c2.non; subst e1; subst e2; cases e; exact ⟨rfl, by simp⟩)
    | (have e1 := c1.non; have e2 := c2.bl; subst e1; subst e2; cases e; exact ⟨rfl, by simp⟩)
    | (have e1 := c1.bl; have e2 := c2.non; subst e1; subst e2; cases e; exact ⟨rfl, by simp⟩)
    | (have e1 := c1.non; have e2 := c2.str; subst e1; subst e2; cases e; exact ⟨rfl, by simp⟩)
    | (have e1 := c1.str; have e2 := c2.non; subst e1; subst e2; cases e; exact ⟨rfl, by simp⟩)
    | (have e1 := c1.int; have e2 := c2.str; subst e1; subst e2; cases e; exact ⟨rfl, by simp⟩)
    | (have e1 := c1.str; have e2 := c2.int; subst e1; subst e2; cases e; exact ⟨rfl, by simp⟩)
    | (have e1 := c1.bl; have e2 := c2.str; subst e1; subst e2; cases e; exact ⟨rfl, by simp⟩)
    | (have e1 := c1.str; have e2 := c2.bl; subst e1; subst e2; cases e; exact ⟨rfl, by simp⟩)
theorem lr_eq : LR K rEq pEq := by
  intro F H x y dx dy R Q s c1 c2 p h
  unfold pEq at p
  cases e : scD dx dy with
  | none => rw [e] at p; exact p.elim
  | some b =>
    rw [e] at p
    obtain ⟨z1, z2⟩ := sc_ok c1 c2 e
    exact ⟨z1, by rw [z2]; exact h _ _ (.val _) (Same.refl _) (Dd.bl b) p⟩
theorem lr_ne : LR K rNe pNe := by
  intro F H x y dx dy R Q s c1 c2 p h
  unfold pNe at p
  cases e : scD dx dy with
  | none => rw [e] at p; exact p.elim
  | some b =>
    rw [e] at p
    obtain ⟨z1, z2⟩ := sc_ok c1 c2 e
    exact ⟨z1, by rw [z2]; exact h _ _ (.val _) (Same.refl _) (Dd.bl _) p⟩
/-- x is None -/
def isNon : D → Bool
  | .non => true
  | _ => false
def pIsN : P2 := fun x y Q => match y with
  | .non => Q (.val (.bl (isNon x)))
  | _ => False
def pNotN : P2 := fun x y Q => match y with
  | .non => Q (.val (.bl (!isNon x)))
  | _ => False
theorem isNon_ok {F H : Hp} {x : V} {dx : D} (c : Cnt K F H x dx) : decide (x = .non) = isNon dx := by
  rcases c with h | ⟨a, rfl, h⟩ | ⟨_, _, _, rfl, rfl, _⟩
  · cases h <;> first | rfl | exact decide_eq_false (fun e => nomatch e)
  · cases h <;> exact decide_eq_false (fun e => nomatch e)
  · exact decide_eq_false (fun e => nomatch e)
theorem lr_isN : LR K (fun x y H Q => y = .non ∧ Q (.bl (decide (x = .non))) H) pIsN := by
  intro F H x y dx dy R Q s c1 c2 p h
  unfold pIsN at p
  split at p
  · exact ⟨c2.non, by rw [isNon_ok c1]; exact h _ _ (.val _) (Same.refl _) (Dd.bl _) p⟩
  · exact p.elim
theorem lr_notN : LR K (fun x y H Q => y = .non ∧ Q (.bl (!decide (x = .non))) H) pNotN := by
  intro F H x y dx dy R Q s c1 c2 p h
  unfold pNotN at p
  split at p
  · exact ⟨c2.non, by rw [isNon_ok c1]; exact h _ _ (.val _) (Same.refl _) (Dd.bl _) p⟩
  · exact p.elim
/-! ### data as data -/
mutual
inductive PyOf : D → PyData → Prop
  | non : PyOf .non .none
  | bl (b : Bool) : PyOf (.bl b) (.bool b)
  | int (i : Int) : PyOf (.int i) (.int i)
  | str (x : Str) : PyOf (.str x) (.str x)
  | list {ds : List D} {ps : List PyData} : PyOfL ds ps → PyOf (.list ds) (.list ps)
  | tup {ds : List D} {ps : List PyData} : PyOfL ds ps → PyOf (.tup ds) (.tuple ps)
inductive PyOfL : List D → List PyData → Prop
  | nil : PyOfL [] []
  | cons {d : D} {ds : List D} {p : PyData} {ps : List PyData} : PyOf d p → PyOfL ds ps → PyOfL (d :: ds) (p :: ps)
end
section
variable {F H : Hp}
mutual
theorem Dd.dp (s : Same F H) : ∀ {d : D} {p : PyData}, PyOf d p → ∀ {v : V}, Dd K F v d → Dp K H v p
  | _, _, .non, _, h => by cases h; exact .non
  | _, _, .bl b, _, h => by cases h; exact .bl b
  | _, _, .int i, _, h => by cases h; exact .int i
  | _, _, .str x, _, h => by cases h; exact .str x
  | _, _, .list q, _, h => by
    cases h with
    | lst h g => exact .lst (.inl (.inl (s _ _ h))) (DdL.dp s q g)
  | _, _, .tup q, _, h => by
    cases h with
    | tup h g => exact .tup (.inl (.inl (s _ _ h))) (DdL.dp s q g)
theorem DdL.dp (s : Same F H) : ∀ {d : List D} {p : List PyData}, PyOfL d p → ∀ {v : List V}, DdL K F v d → DpAll K H v p
  | _, _, .nil, _, h => by cases h; exact .nil
  | _, _, .cons q r, _, h => by
    cases h with
    | cons h g => exact .cons (Dd.dp s q h) (DdL.dp s r g)
end
theorem Cnt.dp {v : V} {d : D} {p : PyData} (s : Same F H) (c : Cnt K F H v d) (q : PyOf d p) : Dp K H v p := by
  rcases c with h | ⟨a, rfl, h⟩ | ⟨a, xs, ds, rfl, rfl, h, g⟩
  · exact Dd.dp s q h
  · cases h with
    | lst h g =>
      cases q with
      | list q => exact .lst (.inl (.inl h)) (DdL.dp s q g)
    | dK _ _ => cases q
    | dT _ _ => cases q
    | set _ _ _ _ => cases q
  · cases q with
    | tup q => exact .tup ((same_none H).tup h) (DdL.dp (same_none H) q g)
end
theorem PyOfL.ints : ∀ ns : List Int, PyOfL (ns.map D.int) (ns.map PyData.int)
  | [] => .nil
  | n :: r => .cons (.int n) (PyOfL.ints r)
def pEqD : P2 := fun x y Q => ∃ p q, PyOf x p ∧ PyOf y q ∧ SeqAt.shaped p = true ∧ SeqAt.shaped q = true ∧ Q (.val (.bl (PyData.eqv p q)))
def pNeD : P2 := fun x y Q => ∃ p q, PyOf x p ∧ PyOf y q ∧ SeqAt.shaped p = true ∧ SeqAt.shaped q = true ∧ Q (.val (.bl (!PyData.eqv p q)))
theorem lr_eqD : LR K (rEqD K) pEqD := by
  intro F H x y dx dy R Q s c1 c2 p h
  obtain ⟨p, q, h1, h2, h3, h4, h5⟩ := p
  exact ⟨p, q, c1.dp s h1, c2.dp s h2, h3, h4, h _ _ (.val _) (Same.refl _) (Dd.bl _) h5⟩
theorem lr_neD : LR K (rNeD K) pNeD := by
  intro F H x y dx dy R Q s c1 c2 p h
  obtain ⟨p, q, h1, h2, h3, h4, h5⟩ := p
  exact ⟨p, q, c1.dp s h1, c2.dp s h2, h3, h4, h _ _ (.val _) (Same.refl _) (Dd.bl _) h5⟩
structure RepOk (d : PyData) : Prop where
  s : d.showable = true
  n : d.hasDict = false
  p : d.depth ≤ 60
  z : d.shown.length ≤ sizeLine
def pRepr : PN := fun ds Q => match ds with
  | [d] => ∃ p, PyOf d p ∧ RepOk p ∧ Q (.val (.str p.shown))
  | _ => False
/-! ### sequences -/
def pIxL : P2 := fun x y Q => match x, y with
  | .list ds, .int i => match atI ds i with
    | some d => Q (.val d)
    | none => False
  | _, _ => False
def pIxT : P2 := fun x y Q => match x, y with
  | .tup ds, .int i => match atI ds i with
    | some d => Q (.val d)
    | none => False
  | _, _ => False
theorem atI_dd {F : Hp} {xs : List V} {ds : List D} {i : Int} {d : D} (g : DdL K F xs ds) (e : atI ds i = some d) : ∃ v, atI xs i = some v ∧ Dd K F v d := by
  unfold atI at e ⊢
  rw [g.length]
  cases q : ixN ds.length i with
  | none => rw [q] at e; cases e
  | some j =>
    rw [q] at e
    exact g.get e
theorem lr_ixL : LR K (rIxL K) pIxL := by
  intro F H x y dx dy R Q s c1 c2 p h
  unfold pIxL at p
  split at p
  · rename_i ds i
    split at p
    · rename_i d e
      obtain ⟨a, xs, rfl, hx, g⟩ := c1.list s
      obtain ⟨v, e1, e2⟩ := atI_dd g e
      exact ⟨a, xs, i, v, rfl, c2.int, .inl (.inl hx), e1, h _ _ (.val _) (Same.refl _) e2 p⟩
    · exact p.elim
  · exact p.elim
theorem lr_ixT : LR K (rIxT K) pIxT := by
  intro F H x y dx dy R Q s c1 c2 p h
  unfold pIxT at p
  split at p
  · rename_i ds i
    split at p
    · rename_i d e
      obtain ⟨a, xs, rfl, hx, g⟩ := c1.tup s
      obtain ⟨v, e1, e2⟩ := atI_dd g e
      exact ⟨a, xs, i, v, rfl, c2.int, hx, e1, h _ _ (.val _) (Same.refl _) e2 p⟩
    · exact p.elim
  · exact p.elim
theorem cutV_dd {F : Hp} {xs : List V} {ds : List D} (l h : Option Int) (g : DdL K F xs ds) : DdL K F (cutV xs l h) ((ds.drop (HT.sIx ds.length 0 l)).take (HT.sIx ds.length ds.length h - HT.sIx ds.length 0 l)) := by
  unfold cutV
  rw [g.length]
  exact (g.drop _).take _
def cutD (ds : List D) (l h : Option Int) : List D := (ds.drop (HT.sIx ds.length 0 l)).take (HT.sIx ds.length ds.length h - HT.sIx ds.length 0 l)
def pSlL : PS3 := fun x l h Q => match x with
  | .list ds => Q (.fr (.list (cutD ds l h)))
  | _ => False
def pSlT : PS3 := fun x l h Q => match x with
  | .tup ds => Q (.fr (.tup (cutD ds l h)))
  | _ => False
theorem lsl_L : LSl K (rSlL K) pSlL := by
  intro F H x dx l hh R Q s k p h
  unfold pSlL at p
  split at p
  · rename_i ds
    obtain ⟨a, xs, rfl, hx, g⟩ := k.list s
    exact ⟨a, xs, rfl, .inl (.inl hx), fun p' np => h _ _ (.fr (.list _)) (same_upd np) ⟨p', rfl, np, .lst upd_same (cutV_dd l hh g)⟩ p⟩
  · exact p.elim
def pCat : P2 := fun x y Q => match x, y with
    | .list a, .list b => a.length + b.length ≤ sizeLine ∧ Q (.fr (.list (a ++ b)))
    | _, _ => False
theorem lr_cat : LR K rCat pCat := by
  intro F H x y dx dy R Q s c1 c2 p h
  unfold pCat at p
  split at p
  · obtain ⟨a, xs, rfl, hx, g⟩ := c1.list s
    obtain ⟨b, ys, rfl, hy, g'⟩ := c2.list s
    exact ⟨a, b, xs, ys, rfl, rfl, hx, hy, by rw [g.length, g'.length]; exact p.1, fun p' np => h _ _ (.fr (.list _)) (same_upd np) ⟨p', rfl, np, .lst upd_same (g.append g')⟩ p.2⟩
  · exact p.elim
theorem rep_dd {F : Hp} {xs : List V} {ds : List D} (g : DdL K F xs ds) : ∀ n : Nat, DdL K F (List.replicate n xs).flatten (List.replicate n ds).flatten
  | 0 => .nil
  | n + 1 => by
    rw [List.replicate_succ, List.replicate_succ, List.flatten_cons, List.flatten_cons]
    exact g.append (rep_dd g n)
def pRep : P2 := fun x y Q => match x, y with
    | .list a, .int k => -(2 ^ 63) ≤ k ∧ k < 2 ^ 63 ∧ a.length * k.toNat ≤ sizeLine ∧ Q (.fr (.list (List.replicate k.toNat a).flatten))
    | _, _ => False
theorem lr_rep : LR K rRep pRep := by
  intro F H x y dx dy R Q s c1 c2 p h
  unfold pRep at p
  split at p
  · obtain ⟨a, xs, rfl, hx, g⟩ := c1.list s
    obtain ⟨p1, p2, p3, p4⟩ := p
    exact ⟨a, _, xs, rfl, c2.int, hx, p1, p2, by rw [g.length]; exact p3, fun p' np => h _ _ (.fr (.list _)) (same_upd np) ⟨p', rfl, np, .lst upd_same (rep_dd g _)⟩ p4⟩
  · exact p.elim
/-- flat data in a list or tuple -/
def eqF : D → D → Option Bool
  | .non, .non => some true
  | .int i, .int j => some (i == j)
  | .str i, .str j => some (i == j)
  | .bl i, .bl j => some (i == j)
  | .non, .int _ => some false
  | .int _, .non => some false
  | .non, .str _ => some false
  | .str _, .non => some false
  | .int _, .str _ => some false
  | .str _, .int _ => some false
  | _, _ => none
/-- x in ys: y's against x -/
def inF (x : D) : List D → Option Bool
  | [] => some false
  | y :: ys => match eqF y x, inF x ys with
    | some a, some b => some (a || b)
    | _, _ => none
theorem eqF_ok {F : Hp} {x y : V} {dx dy : D} {b : Bool} (h1 : Dd K F x dx) (h2 : Dd K F y dy) (e : eqF dx dy = some b) : eqV x y = b ∧ flatV x = true ∧ flatV y = true := by
  cases h1 <;> cases h2 <;> first
    | (cases e; exact ⟨rfl, rfl, rfl⟩)
    | cases e
theorem inF_ok {F : Hp} {x : V} {dx : D} (h1 : Dd K F x dx) (fx : flatV x = true) : ∀ {ys : List V} {ds : List D} {b : Bool}, DdL K F ys ds → inF dx ds = some b → inV x ys = b ∧ ys.all flatV = true
  | _, _, b, .nil, e => by cases e; exact ⟨rfl, rfl⟩
  | _, _, b, .cons (v := v) (vs := vs) (d := d) (ds := ds) h g, e => by
    dsimp only [inF] at e
    cases q1 : eqF d dx with
    | none => rw [q1] at e; cases e
    | some a =>
      cases q2 : inF dx ds with
      | none => rw [q1, q2] at e; cases e
      | some c =>
        rw [q1, q2] at e
        cases e
        obtain ⟨z1, z2, z3⟩ := eqF_ok h h1 q1
        obtain ⟨z4, z5⟩ := inF_ok h1 fx g q2
        unfold inV at z4 ⊢
        rw [List.any_cons, z4, z1, List.all_cons, z2, z5]
        exact ⟨rfl, rfl⟩
def pIn (neg : Bool) : P2 := fun x y Q => flatD x = true ∧ match y with
  | .list ds => match inF x ds with
    | some b => Q (.val (.bl (if neg then !b else b)))
    | none => False
  | .tup ds => match inF x ds with
    | some b => Q (.val (.bl (if neg then !b else b)))
    | none => False
  | _ => False
theorem flat_cnt {F H : Hp} {x : V} {dx : D} (c : Cnt K F H x dx) (f : flatD dx = true) : Dd K F x dx ∧ flatV x = true := by
  cases dx with
  | non => rw [c.non]; exact ⟨.non, rfl⟩
  | bl b => rw [c.bl]; exact ⟨.bl b, rfl⟩
  | int i => rw [c.int]; exact ⟨.int i, rfl⟩
  | str i => rw [c.str]; exact ⟨.str i, rfl⟩
  | _ => cases f
theorem lr_in {neg : Bool} : LR K (rIn K neg) (pIn neg) := by
  intro F H x y dx dy R Q s c1 c2 p h
  obtain ⟨f, p⟩ := p
  obtain ⟨d1, f1⟩ := flat_cnt c1 f
  split at p
  · rename_i ds
    obtain ⟨a, xs, rfl, hx, g⟩ := c2.list s
    split at p
    · rename_i b e
      obtain ⟨z1, z2⟩ := inF_ok d1 f1 g e
      exact ⟨a, xs, rfl, .inl (.inl (.inl hx)), f1, z2, by rw [z1]; exact h _ _ (.val _) (Same.refl _) (Dd.bl _) p⟩
    · exact p.elim
  · rename_i ds
    obtain ⟨a, xs, rfl, hx, g⟩ := c2.tup s
    split at p
    · rename_i b e
      obtain ⟨z1, z2⟩ := inF_ok d1 f1 g e
      exact ⟨a, xs, rfl, .inr hx, f1, z2, by rw [z1]; exact h _ _ (.val _) (Same.refl _) (Dd.bl _) p⟩
    · exact p.elim
  · exact p.elim
/-! ### built-ins -/
theorem cl1 {F H : Hp} {vs : List V} {d : D} (c : CntL K F H vs [d]) : ∃ v, vs = [v] ∧ Cnt K F H v d := by
  cases vs with
  | nil => exact c.elim
  | cons v r =>
    cases r with
    | nil => exact ⟨v, rfl, c.1⟩
    | cons _ _ => exact c.2.elim
theorem cl2 {F H : Hp} {vs : List V} {d e : D} (c : CntL K F H vs [d, e]) : ∃ v w, vs = [v, w] ∧ Cnt K F H v d ∧ Cnt K F H w e := by
  cases vs with
  | nil => exact c.elim
  | cons v r =>
    cases r with
    | nil => exact c.2.elim
    | cons w r =>
      cases r with
      | nil => exact ⟨v, w, rfl, c.1, c.2.1⟩
      | cons _ _ => exact c.2.2.elim
theorem lb_repr : LB K (rRepr K) pRepr := by
  intro F H vs ds R Q s c p h
  unfold pRepr at p
  split at p
  · obtain ⟨v, rfl, k⟩ := cl1 c
    obtain ⟨q, h1, h2, h3⟩ := p
    exact ⟨v, q, rfl, k.dp s h1, h2.s, h2.n, h2.p, h2.z, h _ _ (.val _) (Same.refl _) (Dd.str _) h3⟩
  · exact p.elim
def pLen : PN := fun ds Q => match ds with
  | [.list xs] => Q (.val (.int xs.length))
  | [.tup xs] => Q (.val (.int xs.length))
  | [.scr xs] => Q (.val (.int xs.length))
  | _ => False
theorem lb_len : LB K (fun xs H Q => ∃ p ys, xs = [.ref p] ∧ (SqL K H p ys ∨ SqT K H p ys) ∧ Q (.int ys.length) H) pLen := by
  intro F H vs ds R Q s c p h
  unfold pLen at p
  split at p
  · obtain ⟨v, rfl, k⟩ := cl1 c
    obtain ⟨a, xs, rfl, hx, g⟩ := k.list s
    exact ⟨a, xs, rfl, .inl (.inl (.inl hx)), by rw [g.length]; exact h _ _ (.val _) (Same.refl _) (Dd.int _) p⟩
  · obtain ⟨v, rfl, k⟩ := cl1 c
    obtain ⟨a, xs, rfl, hx, g⟩ := k.tup s
    exact ⟨a, xs, rfl, .inr hx, by rw [g.length]; exact h _ _ (.val _) (Same.refl _) (Dd.int _) p⟩
  · obtain ⟨v, rfl, k⟩ := cl1 c
    obtain ⟨a, rfl, hx⟩ := k.scr s
    exact ⟨a, _, rfl, .inl hx, by rw [List.length_map]; exact h _ _ (.val _) (Same.refl _) (Dd.int _) p⟩
  · exact p.elim
def pTupOf : PN := fun ds Q => match ds with
  | [.list xs] => Q (.fr (.tup xs))
  | _ => False
theorem lb_tupOf : LB K (fun xs H Q => ∃ p ys, xs = [.ref p] ∧ ((SqL K H p ys ∧ ∀ l, H l = none → Q (.ref l) (upd H l (.tup ys))) ∨ (SqT K H p ys ∧ Q (.ref p) H))) pTupOf := by
  intro F H vs ds R Q s c p h
  unfold pTupOf at p
  split at p
  · obtain ⟨v, rfl, k⟩ := cl1 c
    obtain ⟨a, xs, rfl, hx, g⟩ := k.list s
    exact ⟨a, xs, rfl, .inl ⟨.inl (.inl hx), fun l nl => h _ _ (.fr (.tup _)) (same_upd nl) ⟨l, xs, rfl, nl, upd_same, g⟩ p⟩⟩
  · exact p.elim
def pListOf : PN := fun ds Q => match ds with
  | [.list xs] => Q (.fr (.list xs))
  | [.tup xs] => Q (.fr (.list xs))
  | [.scr ns] => Q (.fr (.list (ns.map D.int)))
  | _ => False
theorem lb_listOf : LB K (fun xs H Q => ∃ p ys, xs = [.ref p] ∧ (SqL K H p ys ∨ SqT K H p ys) ∧ ∀ l, H l = none → Q (.ref l) (upd H l (.lst ys))) pListOf := by
  intro F H vs ds R Q s c p h
  unfold pListOf at p
  split at p
  · obtain ⟨v, rfl, k⟩ := cl1 c
    obtain ⟨a, xs, rfl, hx, g⟩ := k.list s
    exact ⟨a, xs, rfl, .inl (.inl (.inl hx)), fun l nl => h _ _ (.fr (.list _)) (same_upd nl) ⟨l, rfl, nl, .lst upd_same g⟩ p⟩
  · obtain ⟨v, rfl, k⟩ := cl1 c
    obtain ⟨a, xs, rfl, hx, g⟩ := k.tup s
    exact ⟨a, xs, rfl, .inr hx, fun l nl => h _ _ (.fr (.list _)) (same_upd nl) ⟨l, rfl, nl, .lst upd_same g⟩ p⟩
  · obtain ⟨v, rfl, k⟩ := cl1 c
    obtain ⟨a, rfl, hx⟩ := k.scr s
    exact ⟨a, _, rfl, .inl hx, fun l nl => h _ _ (.fr (.list _)) (same_upd nl) ⟨l, rfl, nl, .lst upd_same (DdL.of_ints _)⟩ p⟩
  · exact p.elim
def pKeysOf : PN := fun ds Q => match ds with
  | [.dk kvs] => Q (.fr (.list (kvs.map fun kv => match kv.1 with
    | .inl i => D.int i
    | .inr x => D.str x)))
  | _ => False
theorem keys_dd {F : Hp} : ∀ {kvs : List (Key × V)} {ds : List (Key × D)}, DdK K F kvs ds → DdL K F (kvs.map fun kv => kV kv.1) (ds.map fun kv => match kv.1 with
    | .inl i => D.int i
    | .inr x => D.str x)
  | _, _, .nil => .nil
  | _, _, .cons (k := .inl i) _ g => .cons (.int i) (keys_dd g)
  | _, _, .cons (k := .inr x) _ g => .cons (.str x) (keys_dd g)
def pMax2 : PN := fun ds Q => match ds with
  | [.int i, .int j] => Q (.val (.int (if j > i then j else i)))
  | _ => False
def pMin2 : PN := fun ds Q => match ds with
  | [.int i, .int j] => Q (.val (.int (if j < i then j else i)))
  | _ => False
theorem lb_max2 : LB K (fun xs H Q => ∃ i j, xs = [.int i, .int j] ∧ Q (.int (if j > i then j else i)) H) pMax2 := by
  intro F H vs ds R Q s c p h
  unfold pMax2 at p
  split at p
  · obtain ⟨v, w, rfl, c1, c2⟩ := cl2 c
    exact ⟨_, _, by rw [c1.int, c2.int], h _ _ (.val _) (Same.refl _) (Dd.int _) p⟩
  · exact p.elim
theorem lb_min2 : LB K (fun xs H Q => ∃ i j, xs = [.int i, .int j] ∧ Q (.int (if j < i then j else i)) H) pMin2 := by
  intro F H vs ds R Q s c p h
  unfold pMin2 at p
  split at p
  · obtain ⟨v, w, rfl, c1, c2⟩ := cl2 c
    exact ⟨_, _, by rw [c1.int, c2.int], h _ _ (.val _) (Same.refl _) (Dd.int _) p⟩
  · exact p.elim
def pInt1 : PN := fun ds Q => match ds with
  | [.int i] => Q (.val (.int i))
  | [.bl k] => Q (.val (.int (if k then 1 else 0)))
  | _ => False
theorem lb_int1 : LB K (fun xs H Q => (∃ i, xs = [.int i] ∧ Q (.int i) H) ∨ ∃ k, xs = [.bl k] ∧ Q (.int (if k then 1 else 0)) H) pInt1 := by
  intro F H vs ds R Q s c p h
  unfold pInt1 at p
  split at p
  · obtain ⟨v, rfl, c1⟩ := cl1 c
    exact .inl ⟨_, by rw [c1.int], h _ _ (.val _) (Same.refl _) (Dd.int _) p⟩
  · obtain ⟨v, rfl, c1⟩ := cl1 c
    exact .inr ⟨_, by rw [c1.bl], h _ _ (.val _) (Same.refl _) (Dd.int _) p⟩
  · exact p.elim
def pDivmod : PN := fun ds Q => match ds with
  | [.int i, .int j] => CDiv i j ∧ Q (.fr (.tup [.int (i / j), .int (i % j)]))
  | _ => False
theorem lb_divmod : LB K (fun xs H Q => ∃ i j, xs = [.int i, .int j] ∧ CDiv i j ∧ ∀ p, H p = none → Q (.ref p) (upd H p (.tup [.int (i / j), .int (i % j)]))) pDivmod := by
  intro F H vs ds R Q s c p h
  unfold pDivmod at p
  split at p
  · obtain ⟨v, w, rfl, c1, c2⟩ := cl2 c
    exact ⟨_, _, by rw [c1.int, c2.int], p.1, fun l nl => h _ _ (.fr (.tup _)) (same_upd nl) ⟨l, _, rfl, nl, upd_same, .cons (.int _) (.cons (.int _) .nil)⟩ p.2⟩
  · exact p.elim
/-- a list of ints, of bools -/
def pSum : PN := fun ds Q => match ds with
  | [.list xs] => ∃ ns : List Int, xs = ns.map D.int ∧ Q (.val (.int ns.sum))
  | _ => False
theorem lb_sum : LB K (rSum K) pSum := by
  intro F H vs ds R Q s c p h
  unfold pSum at p
  split at p
  · obtain ⟨ns, rfl, p⟩ := p
    obtain ⟨v, rfl, k⟩ := cl1 c
    obtain ⟨a, xs, rfl, hx, g⟩ := k.list s
    rw [g.ints] at hx
    exact ⟨a, ns, rfl, .inl (.inl hx), h _ _ (.val _) (Same.refl _) (Dd.int _) p⟩
  · exact p.elim
def pMax : PN := fun ds Q => match ds with
  | [.list xs] => ∃ ns : List Int, xs = ns.map D.int ∧ 0 < ns.length ∧ ∀ m, m ∈ ns → (∀ y, y ∈ ns → y ≤ m) → Q (.val (.int m))
  | _ => False
def pMin : PN := fun ds Q => match ds with
  | [.list xs] => ∃ ns : List Int, xs = ns.map D.int ∧ 0 < ns.length ∧ ∀ m, m ∈ ns → (∀ y, y ∈ ns → m ≤ y) → Q (.val (.int m))
  | _ => False
theorem lb_max : LB K (rMax K) pMax := by
  intro F H vs ds R Q s c p h
  unfold pMax at p
  split at p
  · obtain ⟨ns, rfl, l, p⟩ := p
    obtain ⟨v, rfl, k⟩ := cl1 c
    obtain ⟨a, xs, rfl, hx, g⟩ := k.list s
    rw [g.ints] at hx
    exact ⟨a, ns, rfl, .inl (.inl hx), l, fun m h1 h2 => h _ _ (.val _) (Same.refl _) (Dd.int _) (p m h1 h2)⟩
  · exact p.elim
theorem lb_min : LB K (rMin K) pMin := by
  intro F H vs ds R Q s c p h
  unfold pMin at p
  split at p
  · obtain ⟨ns, rfl, l, p⟩ := p
    obtain ⟨v, rfl, k⟩ := cl1 c
    obtain ⟨a, xs, rfl, hx, g⟩ := k.list s
    rw [g.ints] at hx
    exact ⟨a, ns, rfl, .inl (.inl hx), l, fun m h1 h2 => h _ _ (.val _) (Same.refl _) (Dd.int _) (p m h1 h2)⟩
  · exact p.elim
theorem DdL.bools {F : Hp} : ∀ {xs : List V} {bs : List Bool}, DdL K F xs (bs.map D.bl) → xs = bs.map V.bl
  | _, [], h => by cases h; rfl
  | _, n :: r, h => by
    cases h with
    | cons h g => cases h; rw [DdL.bools g]; rfl
def pAll : PN := fun ds Q => match ds with
  | [.list xs] => ∃ bs : List Bool, xs = bs.map D.bl ∧ Q (.val (.bl (bs.all id)))
  | _ => False
def pAny : PN := fun ds Q => match ds with
  | [.list xs] => ∃ bs : List Bool, xs = bs.map D.bl ∧ Q (.val (.bl (bs.any id)))
  | _ => False
theorem lb_all : LB K (rAll K) pAll := by
  intro F H vs ds R Q s c p h
  unfold pAll at p
  split at p
  · obtain ⟨ns, rfl, p⟩ := p
    obtain ⟨v, rfl, k⟩ := cl1 c
    obtain ⟨a, xs, rfl, hx, g⟩ := k.list s
    rw [g.bools] at hx
    exact ⟨a, ns, rfl, .inl (.inl hx), h _ _ (.val _) (Same.refl _) (Dd.bl _) p⟩
  · exact p.elim
theorem lb_any : LB K (rAny K) pAny := by
  intro F H vs ds R Q s c p h
  unfold pAny at p
  split at p
  · obtain ⟨ns, rfl, p⟩ := p
    obtain ⟨v, rfl, k⟩ := cl1 c
    obtain ⟨a, xs, rfl, hx, g⟩ := k.list s
    rw [g.bools] at hx
    exact ⟨a, ns, rfl, .inl (.inl hx), h _ _ (.val _) (Same.refl _) (Dd.bl _) p⟩
  · exact p.elim
def pSortI : PN := fun ds Q => match ds with
  | [.list xs] => ∃ ns : List Int, xs = ns.map D.int ∧ ∀ ns' : List Int, ns'.Perm ns → ns'.Pairwise (· ≤ ·) → Q (.fr (.list (ns'.map D.int)))
  | _ => False
theorem lb_sortI : LB K (rSortedI K) pSortI := by
  intro F H vs ds R Q s c p h
  unfold pSortI at p
  split at p
  · obtain ⟨ns, rfl, p⟩ := p
    obtain ⟨v, rfl, k⟩ := cl1 c
    obtain ⟨a, xs, rfl, hx, g⟩ := k.list s
    rw [g.ints] at hx
    exact ⟨a, ns, rfl, .inl (.inl hx), fun ns' l h1 h2 nl => h _ _ (.fr (.list _)) (same_upd nl) ⟨l, rfl, nl, .lst upd_same (DdL.of_ints _)⟩ (p ns' h1 h2)⟩
  · exact p.elim
/-- list(d), keys ints and texts -/
theorem lb_keysOf : LB K rListD pKeysOf := by
  intro F H vs ds R Q s c p h
  unfold pKeysOf at p
  split at p
  · obtain ⟨v, rfl, k⟩ := cl1 c
    obtain ⟨a, kvs, rfl, hx, g⟩ := k.dk s
    exact ⟨a, kvs, rfl, hx, fun l nl => h _ _ (.fr (.list _)) (same_upd nl) ⟨l, rfl, nl, .lst upd_same (keys_dd g)⟩ p⟩
  · exact p.elim
end DL
/-! lifted readings 6: what is walked; stores; dicts; methods -/
namespace DL
open PySem PySem.Spec PyProof.Rows L2 CD
variable {GP : GenP} {K : PySem.W.Frag}
variable {B : Hp × Hp × GAt}
/-! ### walked -/
/-- the data of what is walked, frozen (or written) -/
def fzI (x : RV) (ρ : Rho) (k : D → Rho → Prop) : Prop := match x with
  | .kon d => k d ρ
  | x => fz x ρ k
def uiSeq (u : UE) : UI := fun ρ Q => u ρ fun x ρ1 => fzI x ρ1 fun d ρ2 => match d with
  | .tup ds => Q ds ρ2
  | _ => False
def uiLst (u : UE) : UI := fun ρ Q => u ρ fun x ρ1 => fz x ρ1 fun d ρ2 => match d with
  | .list ds => Q ds ρ2
  | .scr ns => Q (ns.map D.int) ρ2
  | _ => False
theorem yat_ok {F F' H H' : Hp} {xs : List V} {ds : List D} {i : Nat} {v : V} (g : DdL K F xs ds) (s : Same F F') (y : YAt xs i H v H') : ∃ d, ds[i]? = some d ∧ YD K F' H H' v d := by
  obtain ⟨rfl, e⟩ := y
  obtain ⟨d, h1, h2⟩ := g.get' e
  exact ⟨d, h1, .inl ⟨rfl, h2.same s⟩⟩
theorem li_tup {t : TE} {u : UE} (h : LE GP K B t u) : LI GP K B (iTup K t) (uiSeq u) := by
  intro H0 F0 γ0 _ γ σ H F ρ R Q r z k
  refine h _ _ r z fun H1 F1 γ1 ρ1 v x r1 s1 k1 u1 => ?_
  have main : ∀ {F2 : Hp} {ρ2 : Rho} {a : Addr} {xs : List V} {ds : List D}, Rp GP K H0 F0 γ0 γ1 σ H1 F2 ρ2 → Same F1 F2 → v = .ref a → (∀ H, Same F2 H → SqT K H a xs) → DdL K F2 xs ds → Q ds ρ2 → ∃ a, v = .ref a ∧ (∃ xs, SqT K H1 a xs) ∧ R (Itt K a) H1 := by
    intro F2 ρ2 a xs ds r2 s2 ev hS g q
    exact ⟨a, ev, ⟨xs, hS _ r2.sub⟩, k _ _ _ _ _ _ _ _ ds r2 (s1.trans s2) (walk_tup (K := K) (a := a) (xs := xs)) g.length.symm hS (fun i H v H' F _ s _ y => yat_ok g s y) q⟩
  have plain : ∀ {y : RV}, RVok K H0 γ0 γ1 σ H1 F1 ρ1 v y → (fz y ρ1 fun d ρ2 => match d with
    | .tup ds => Q ds ρ2
    | _ => False) → ∃ a, v = V.ref a ∧ (∃ xs, SqT K H1 a xs) ∧ R (Itt K a) H1 := by
    intro y k1 u1
    obtain ⟨F2, ρ2, d, r2, s2, d2, q2⟩ := fz_ok r1 k1 u1
    split at q2
    · cases d2 with
      | tup e g => exact main r2 s2 rfl (fun H s => .inl (.inl (s _ _ e))) g q2
    · exact q2.elim
  cases x with
  | kon d =>
    obtain ⟨a, xs, ds, ev, rfl, hS, g⟩ := k1
    exact main (ds := ds) r1 (Same.refl _) ev (fun H _ => (same_none H).tup hS) (g.same (same_none _)) u1
  | val d => exact plain k1 u1
  | fr d => exact plain k1 u1
  | sl i => exact plain k1 u1
theorem li_list {t : TE} {u : UE} (h : LE GP K B t u) : LI GP K B (iList K t) (uiLst u) := by
  intro H0 F0 γ0 _ γ σ H F ρ R Q r z k
  refine h _ _ r z fun H1 F1 γ1 ρ1 v x r1 s1 k1 u1 => ?_
  obtain ⟨F2, ρ2, d, r2, s2, d2, q2⟩ := fz_ok r1 k1 u1
  split at q2
  · cases d2 with
    | lst e g => exact ⟨_, rfl, ⟨_, .inl (.inl (r2.sub _ _ e))⟩, k _ _ _ _ _ _ _ _ _ r2 (s1.trans s2) walk_list g.length.symm (fun H s => .inl (.inl (s _ _ e))) (fun i H v H' F _ s _ y => yat_ok g s y) q2⟩
  · cases d2 with
    | scr e => exact ⟨_, rfl, ⟨_, r2.sub.seq e⟩, k _ _ _ _ _ _ _ _ _ r2 (s1.trans s2) walk_list (by rw [List.length_map, List.length_map]) (fun H s => s.seq e) (fun i H v H' F _ s _ y => yat_ok (DdL.of_ints _) (same_none F) y) q2⟩
  · exact q2.elim
def rgD (lo : Int) (n : Nat) : List D := (List.range n).map fun i => D.int (lo + (i : Nat))
theorem rgD_len (lo : Int) (n : Nat) : (rgD lo n).length = n := by unfold rgD; rw [List.length_map, List.length_range]
theorem rgD_at {lo : Int} {n i : Nat} (h : i < n) : (rgD lo n)[i]? = some (.int (lo + i)) := by
  unfold rgD
  rw [List.getElem?_map, List.getElem?_range h]
  rfl
def uiRng1 (u : UA) : UI := fun ρ Q => u ρ fun xs ρ1 => match cns ρ1 xs with
  | some [.int j] => -(2 ^ 62) ≤ j ∧ j < 2 ^ 62 ∧ Q (rgD 0 j.toNat) ρ1
  | _ => False
def uiRng2 (u : UA) : UI := fun ρ Q => u ρ fun xs ρ1 => match cns ρ1 xs with
  | some [.int i, .int j] => (-(2 ^ 62) ≤ i ∧ i < 2 ^ 62 ∧ -(2 ^ 62) ≤ j ∧ j < 2 ^ 62) ∧ Q (rgD i (j - i).toNat) ρ1
  | _ => False
theorem rg_yd {F H H' : Hp} {lo : Int} {n i : Nat} {v : V} (h : i < n) (y : YFn (fun i => V.int (lo + i)) i H v H') : ∃ d, (rgD lo n)[i]? = some d ∧ YD K F H H' v d := by
  obtain ⟨rfl, rfl⟩ := y
  exact ⟨_, rgD_at h, .inl ⟨rfl, Dd.int _⟩⟩
theorem li_rng1 {t : TA} {u : UA} (h : LA GP K B t u) : LI GP K B (iRng1 t) (uiRng1 u) := by
  intro H0 F0 γ0 _ γ σ H F ρ R Q r z k
  refine h _ _ r z fun H1 F1 γ1 ρ1 vs xs r1 s1 k1 u1 => ?_
  split at u1
  · rename_i j e
    obtain ⟨v, rfl, c⟩ := cl1 (cns_ok r1 k1 e)
    exact ⟨j, by rw [c.int], u1.1, u1.2.1, k _ _ _ _ _ _ _ _ _ r1 s1 (walk_range (lo := 0) (n := j.toNat)) (rgD_len _ _) (fun _ _ => trivial) (fun i H v H' F hi _ _ y => rg_yd hi y) u1.2.2⟩
  · exact u1.elim
theorem li_rng2 {t : TA} {u : UA} (h : LA GP K B t u) : LI GP K B (iRng2 t) (uiRng2 u) := by
  intro H0 F0 γ0 _ γ σ H F ρ R Q r z k
  refine h _ _ r z fun H1 F1 γ1 ρ1 vs xs r1 s1 k1 u1 => ?_
  split at u1
  · rename_i i j e
    obtain ⟨v, w, rfl, c1, c2⟩ := cl2 (cns_ok r1 k1 e)
    exact ⟨i, j, by rw [c1.int, c2.int], u1.1, k _ _ _ _ _ _ _ _ _ r1 s1 (walk_range (lo := i) (n := (j - i).toNat)) (rgD_len _ _) (fun _ _ => trivial) (fun i H v H' F hi _ _ y => rg_yd hi y) u1.2⟩
  · exact u1.elim
/-- one argument, frozen -/
def uA1 (u : UA) (k : D → Rho → Prop) (ρ : Rho) : Prop := u ρ fun xs ρ1 => match xs with
  | [x] => fz x ρ1 k
  | _ => False
theorem a1_ok {t : TA} {u : UA} (h : LA GP K B t u) {H0 F0 H F : Hp} {γ0 γ : GAt} [FinerC GP K B H0 F0 γ0] {σ : L2.St} {ρ : Rho} {kk : D → Rho → Prop} {R : List V → Hp → Prop} (r : Rp GP K H0 F0 γ0 γ σ H F ρ) (z : uA1 u kk ρ)
    (k : ∀ H1 F1 γ1 ρ1 v d, Rp GP K H0 F0 γ0 γ1 σ H1 F1 ρ1 → Same F F1 → Dd K F1 v d → kk d ρ1 → R [v] H1) : t σ H R := by
  refine h _ _ r z fun H1 F1 γ1 ρ1 vs xs r1 s1 k1 u1 => ?_
  split at u1
  · obtain ⟨v, ws, rfl, h1, h2⟩ := k1.cons_of
    obtain rfl := h2.nil_of
    obtain ⟨F2, ρ2, d, r2, s2, d2, q2⟩ := fz_ok r1 h1.one u1
    exact k _ _ _ _ _ _ r2 (s1.trans s2) d2 q2
  · exact u1.elim
def uiRev (u : UA) : UI := fun ρ Q => uA1 u (fun d ρ1 => match d with
  | .list ds => Q ds.reverse ρ1
  | _ => False) ρ
theorem li_rev {t : TA} {u : UA} (h : LA GP K B t u) : LI GP K B (iRev K t) (uiRev u) := by
  intro H0 F0 γ0 _ γ σ H F ρ R Q r z k
  refine a1_ok h r z fun H1 F1 γ1 ρ1 v d r1 s1 d1 q1 => ?_
  split at q1
  · cases d1 with
    | lst e g =>
      refine ⟨_, _, rfl, .inl (.inl (r1.sub _ _ e)), k _ _ _ _ _ _ _ _ _ r1 s1 walk_rev (by rw [List.length_reverse, g.length]) (fun H s => .inl (.inl (s _ _ e))) (fun i H v H' F hi s _ y => ?_) q1⟩
      obtain ⟨rfl, ex⟩ := y
      obtain ⟨d, h1, h2⟩ := g.get' ex
      refine ⟨d, ?_, .inl ⟨rfl, h2.same s⟩⟩
      rw [List.getElem?_reverse (by rw [← g.length]; exact hi), ← g.length]
      exact h1
  · exact q1.elim
def enumD : Int → List D → List D
  | _, [] => []
  | k, d :: ds => .tup [.int k, d] :: enumD (k + 1) ds
theorem enumD_len : ∀ {k : Int} {ds : List D}, (enumD k ds).length = ds.length
  | _, [] => rfl
  | k, d :: ds => by unfold enumD; rw [List.length_cons, List.length_cons, enumD_len]
theorem enumD_at : ∀ {k : Int} {ds : List D} {i : Nat} {d : D}, ds[i]? = some d → (enumD k ds)[i]? = some (.tup [.int (k + i), d])
  | _, [], _, _, h => by simp at h
  | k, d :: ds, 0, e, h => by simp at h; subst h; simp [enumD]
  | k, d :: ds, i + 1, e, h => by
    unfold enumD
    rw [List.getElem?_cons_succ, enumD_at (k := k + 1) (by simpa using h)]
    congr 4
    omega
def uiEnum (u : UA) : UI := fun ρ Q => uA1 u (fun d ρ1 => match d with
  | .list ds => Q (enumD 0 ds) ρ1
  | _ => False) ρ
def uiEnum1 (u : UA) : UI := fun ρ Q => uA1 u (fun d ρ1 => match d with
  | .tup ds => Q (enumD 0 ds) ρ1
  | _ => False) ρ
theorem enum_yd {F F' H H' : Hp} {xs : List V} {ds : List D} {k : Int} {i : Nat} {v : V} (g : DdL K F xs ds) (s : Same F F') (y : YPair (fun i => some (.int (k + (i : Nat)))) (fun i => xs[i]?) i H v H') : ∃ d, (enumD k ds)[i]? = some d ∧ YD K F' H H' v d := by
  obtain ⟨T, x, y, rfl, n, rfl, e1, e2⟩ := y
  cases e1
  obtain ⟨d, h1, h2⟩ := g.get' e2
  exact ⟨_, enumD_at h1, .inr ⟨T, _, _, rfl, n, rfl, rfl, .cons (.int _) (.cons (h2.same s) .nil)⟩⟩
theorem li_enum {t : TA} {u : UA} (h : LA GP K B t u) : LI GP K B (iEnum K t) (uiEnum u) := by
  intro H0 F0 γ0 _ γ σ H F ρ R Q r z k
  refine a1_ok h r z fun H1 F1 γ1 ρ1 v d r1 s1 d1 q1 => ?_
  split at q1
  · cases d1 with
    | lst e g =>
      refine ⟨_, _, rfl, .inl (.inl (r1.sub _ _ e)), k _ _ _ _ _ _ _ _ _ r1 s1 walk_enum (by rw [enumD_len, g.length]) (fun H s => .inl (.inl (s _ _ e))) (fun i H v H' F hi s _ y => enum_yd g s ?_) q1⟩
      obtain ⟨T, x, y', a1, a2, a3, a4, a5⟩ := y
      exact ⟨T, x, y', a1, a2, a3, (show some (V.int (0 + (i : Nat))) = some x by rw [Int.zero_add]; exact a4), a5⟩
  · exact q1.elim
theorem li_enum1 {t : TA} {u : UA} (h : LA GP K B t u) : LI GP K B (iEnum1 K t) (uiEnum1 u) := by
  intro H0 F0 γ0 _ γ σ H F ρ R Q r z k
  refine a1_ok h r z fun H1 F1 γ1 ρ1 v d r1 s1 d1 q1 => ?_
  split at q1
  · cases d1 with
    | tup e g =>
      exact ⟨_, _, rfl, .inl (.inl (r1.sub _ _ e)), k _ _ _ _ _ _ _ _ _ r1 s1 (walk_enumT (k := 0)) (by rw [enumD_len, g.length]) (fun H s => .inl (.inl (s _ _ e))) (fun i H v H' F hi s _ y => enum_yd g s y) q1⟩
  · exact q1.elim
/-- enumerate(t, start=k) -/
def uiEnumT (u w : UA) : UI := fun ρ Q => u ρ fun xs ρ1 => w ρ1 fun ys ρ2 => match xs, cns ρ2 ys with
  | [x], some [.int k] => -(2 ^ 63) ≤ k ∧ k < 2 ^ 63 ∧ fz x ρ2 fun d ρ3 => match d with
    | .tup ds => Q (enumD k ds) ρ3
    | _ => False
  | _, _ => False
theorem li_enumT {t t' : TA} {u w : UA} (h : LA GP K B t u) (h' : LA GP K B t' w) : LI GP K B (iEnumT K t t') (uiEnumT u w) := by
  intro H0 F0 γ0 _ γ σ H F ρ R Q r z k
  refine h _ _ r z fun H1 F1 γ1 ρ1 vs xs r1 s1 k1 u1 => ?_
  refine h' _ _ r1 u1 fun H2 F2 γ2 ρ2 ws ys r2 s2 k2 u2 => ?_
  split at u2
  · rename_i x kk e
    obtain ⟨w', rfl, c⟩ := cl1 (cns_ok r2 k2 e)
    obtain ⟨v, ws, rfl, h1, h2⟩ := k1.cons_of
    obtain rfl := h2.nil_of
    obtain ⟨b1, b2, u3⟩ := u2
    obtain ⟨F3, ρ3, d, r3, s3, d3, q3⟩ := fz_ok r2 (h1.same s2).one u3
    split at q3
    · cases d3 with
      | tup e g => exact ⟨_, _, kk, rfl, by rw [c.int], b1, b2, .inl (.inl (r3.sub _ _ e)), k _ _ _ _ _ _ _ _ _ r3 (s1.trans (s2.trans s3)) (walk_enumT (k := kk)) (by rw [enumD_len, g.length]) (fun H s => .inl (.inl (s _ _ e))) (fun i H v H' F hi s _ y => enum_yd g s y) q3⟩
    · exact q3.elim
  · exact u2.elim
def zipD (a b : List D) : List D := List.zipWith (fun x y => .tup [x, y]) a b
/-- two arguments, frozen -/
def uiZip (u : UA) : UI := fun ρ Q => u ρ fun xs ρ1 => fzs xs ρ1 fun ds ρ2 => match ds with
  | [.list a, .list b] => Q (zipD a b) ρ2
  | [.tup a, .tup b] => Q (zipD a b) ρ2
  | _ => False
theorem zip_yd {F F' H H' : Hp} {xs ys : List V} {a b : List D} {i : Nat} {v : V} (g : DdL K F xs a) (g' : DdL K F ys b) (s : Same F F') (y : YPair (fun i => xs[i]?) (fun i => ys[i]?) i H v H') : ∃ d, (zipD a b)[i]? = some d ∧ YD K F' H H' v d := by
  obtain ⟨T, x, y, rfl, n, rfl, e1, e2⟩ := y
  obtain ⟨d, h1, h2⟩ := g.get' e1
  obtain ⟨d', h3, h4⟩ := g'.get' e2
  refine ⟨.tup [d, d'], ?_, .inr ⟨T, _, _, rfl, n, rfl, rfl, .cons (h2.same s) (.cons (h4.same s) .nil)⟩⟩
  unfold zipD
  rw [List.getElem?_zipWith, h1, h3]
theorem zipD_len {a b : List D} : (zipD a b).length = min a.length b.length := List.length_zipWith
theorem li_zip {t : TA} {u : UA} (h : LA GP K B t u) : LI GP K B (RZ.iZipA K t) (uiZip u) := by
  intro H0 F0 γ0 _ γ σ H F ρ R Q r z k
  refine h _ _ r z fun H1 F1 γ1 ρ1 vs xs r1 s1 k1 u1 => ?_
  obtain ⟨F2, ρ2, ds, r2, s2, d2, q2⟩ := fzs_ok r1 k1 u1
  split at q2
  · cases d2 with
    | cons x1 d2 => cases d2 with
      | cons x2 d2 =>
        cases d2
        cases x1 with
        | lst e1 g1 => cases x2 with
          | lst e2 g2 =>
            exact ⟨_, _, _, _, rfl, .inl ⟨.inl (.inl (r2.sub _ _ e1)), .inl (.inl (r2.sub _ _ e2)), k _ _ _ _ _ _ _ _ _ r2 (s1.trans s2) (walk_zip rfl) (by rw [zipD_len, g1.length, g2.length]) (fun H s => ⟨.inl (.inl (s _ _ e1)), .inl (.inl (s _ _ e2))⟩) (fun i H v H' F hi s _ y => zip_yd g1 g2 s y) q2⟩⟩
  · cases d2 with
    | cons x1 d2 => cases d2 with
      | cons x2 d2 =>
        cases d2
        cases x1 with
        | tup e1 g1 => cases x2 with
          | tup e2 g2 =>
            exact ⟨_, _, _, _, rfl, .inr ⟨.inl (.inl (r2.sub _ _ e1)), .inl (.inl (r2.sub _ _ e2)), k _ _ _ _ _ _ _ _ _ r2 (s1.trans s2) (walk_zipT rfl) (by rw [zipD_len, g1.length, g2.length]) (fun H s => ⟨.inl (.inl (s _ _ e1)), .inl (.inl (s _ _ e2))⟩) (fun i H v H' F hi s _ y => zip_yd g1 g2 s y) q2⟩⟩
  · exact q2.elim
/-! ### lists of our own -/
/-- xs.append(e) -/
def uAppend (i : Nat) (a : UE) : UE := fun ρ Q => match ρ[i]? with
  | some (some (.own (.list _))) => a ρ fun x ρ1 => fz (sf x) ρ1 fun d ρ2 => match ρ2[i]? with
    | some (some (.own (.list ds))) => ds.length < sizeLine ∧ Q (.val .non) (ρ2.set i (some (.own (.list (ds ++ [d])))))
    | _ => False
  | _ => False
theorem le_append {i : Nat} {t : TE} {u : UE} (h : LE GP K B t u) : LE GP K B (tBM K "list" rAppend (tVar i) (tCons t tNil)) (uAppend i u) := by
  intro H0 F0 γ0 _ γ σ H F ρ R Q r z k
  dsimp only [uAppend] at z
  split at z
  · rename_i ds0 e0
    obtain ⟨a, h1, h2, _⟩ := r.own i _ e0
    cases h2 with
    | lst ha _ =>
      refine ⟨_, h1, .inl ⟨rfl, _, .inl (.inl ha)⟩, ?_⟩
      refine h _ _ r z fun H1 F1 γ1 ρ1 v x r1 s1 k1 u1 => ?_
      obtain ⟨F2, r2, s2, k2⟩ := sf_ok r1 k1
      obtain ⟨F3, ρ3, d, r3, s3, d3, q3⟩ := fz_ok r2 k2.one u1
      split at q3
      · rename_i ds e
        obtain ⟨b, b1, b2, b3, _⟩ := r3.own i _ e
        rw [h1] at b1; cases b1
        cases b2 with
        | lst hb g =>
          refine ⟨a, _, _, rfl, rfl, hb, by rw [g.length]; exact q3.1, ?_⟩
          exact k _ _ _ _ _ (.val .non) (r3.write e h1 (.lst upd_same (g.append (.cons d3 .nil)))) (s1.trans (s2.trans s3)) Dd.non q3.2
      · exact q3.elim
  · exact z.elim
/-- xs.pop() -/
def uPop (i : Nat) : UE := fun ρ Q => match ρ[i]? with
  | some (some (.own (.list ds))) => match ds[ds.length - 1]? with
    | some d => Q (.val d) (ρ.set i (some (.own (.list ds.dropLast))))
    | none => False
  | _ => False
theorem DdL.dropLast {F : Hp} : ∀ {xs : List V} {ds : List D}, DdL K F xs ds → DdL K F xs.dropLast ds.dropLast
  | _, _, .nil => .nil
  | _, _, .cons h .nil => .nil
  | _, _, .cons h (.cons h' g) => .cons h (DdL.dropLast (.cons h' g))
theorem le_pop {i : Nat} : LE GP K B (tBM0 K "list" rPop (tVar i)) (uPop i) := by
  intro H0 F0 γ0 _ γ σ H F ρ R Q r z k
  dsimp only [uPop] at z
  split at z
  · rename_i ds e
    obtain ⟨a, h1, h2, _⟩ := r.own i _ e
    cases h2 with
    | lst ha g =>
      split at z
      · rename_i d ed
        obtain ⟨v, e1, e2⟩ := g.get ed
        refine ⟨_, h1, .inl ⟨rfl, _, .inl (.inl ha)⟩, a, _, v, rfl, rfl, ha, by rw [g.length]; exact e1, ?_⟩
        exact k _ _ _ _ _ (.val d) (r.write e h1 (.lst upd_same g.dropLast)) (Same.refl _) e2 z
      · exact z.elim
  · exact z.elim
/-- xs.extend(new list) -/
def uExtend (i : Nat) (a : UE) : UE := fun ρ Q => match ρ[i]? with
  | some (some (.own (.list _))) => a ρ fun x ρ1 => fz (sf x) ρ1 fun d ρ2 => match ρ2[i]?, d with
    | some (some (.own (.list ds))), .list zs => ds.length + zs.length ≤ sizeLine ∧ Q (.val .non) (ρ2.set i (some (.own (.list (ds ++ zs)))))
    | _, _ => False
  | _ => False
theorem le_extend {i : Nat} {t : TE} {u : UE} (h : LE GP K B t u) : LE GP K B (tBM K "list" rExtend (tVar i) (tCons t tNil)) (uExtend i u) := by
  intro H0 F0 γ0 _ γ σ H F ρ R Q r z k
  dsimp only [uExtend] at z
  split at z
  · rename_i ds0 e0
    obtain ⟨a, h1, h2, _⟩ := r.own i _ e0
    cases h2 with
    | lst ha _ =>
      refine ⟨_, h1, .inl ⟨rfl, _, .inl (.inl ha)⟩, ?_⟩
      refine h _ _ r z fun H1 F1 γ1 ρ1 v x r1 s1 k1 u1 => ?_
      obtain ⟨F2, r2, s2, k2⟩ := sf_ok r1 k1
      obtain ⟨F3, ρ3, d, r3, s3, d3, q3⟩ := fz_ok r2 k2.one u1
      split at q3
      · rename_i ds zs e
        obtain ⟨b, b1, b2, b3, _⟩ := r3.own i _ e
        rw [h1] at b1; cases b1
        cases b2 with
        | lst hb g =>
          cases d3 with
          | lst e3 g3 =>
            refine ⟨a, _, _, _, rfl, rfl, hb, r3.sub _ _ e3, by rw [g.length, g3.length]; exact q3.1, ?_⟩
            exact k _ _ _ _ _ (.val .non) (r3.write e h1 (.lst upd_same (g.append g3))) (s1.trans (s2.trans s3)) Dd.non q3.2
      · exact q3.elim
  · exact z.elim
/-- xs[k] = e -/
def uSetL (i : Nat) (uk uv : UE) : US := fun Q ρ => uv ρ fun x ρ1 => match ρ1[i]? with
  | some (some (.own (.list _))) => uk ρ1 fun y ρ2 => fz (sf x) ρ2 fun d ρ3 => match ρ3[i]?, cn ρ3 (sf y) with
    | some (some (.own (.list ds))), some (.int k) => match ixN ds.length k with
      | some j => Q.nx (ρ3.set i (some (.own (.list (ds.set j d)))))
      | none => False
    | _, _ => False
  | _ => False
theorem ls_setL {i : Nat} {tk tv : TE} {uk uv : UE} (hk : LE GP K B tk uk) (hv : LE GP K B tv uv) : LS GP K B (tAsg tv (gSub (tVar i) tk rSetL)) (uSetL i uk uv) := by
  intro H0 F0 γ0 _ γ σ H F ρ E Q r z n b c t
  refine hv _ _ r z fun H1 F1 γ1 ρ1 v x r1 s1 k1 u1 => ?_
  obtain ⟨F2, r2, s2, k2⟩ := sf_ok r1 k1
  split at u1
  · rename_i ds0 e0
    obtain ⟨a, h1, h2, _⟩ := r2.own i _ e0
    refine ⟨_, h1, hk _ _ r2 u1 fun H3 F3 γ3 ρ3 w y r3 s3 k3 u3 => ?_⟩
    obtain ⟨F4, r4, s4, k4⟩ := sf_ok r3 k3
    obtain ⟨F5, ρ5, d, r5, s5, d5, q5⟩ := fz_ok r4 ((k2.same s3).same s4).one u3
    split at q5
    · rename_i ds kk e ek
      split at q5
      · rename_i j ej
        obtain ⟨b', b1, b2, b3, _⟩ := r5.own i _ e
        rw [h1] at b1; cases b1
        have ci := RVok.cnt r5 (k4.same s5).one ek
        cases b2 with
        | lst hb g =>
          refine ⟨a, _, kk, j, rfl, ci.int, hb, by rw [g.length]; exact ej, ?_⟩
          exact n _ _ _ _ _ (r5.write e h1 (.lst upd_same (DdL.set d5 j g))) q5
      · exact q5.elim
    · exact q5.elim
  · exact u1.elim
/-! ### dicts -/
section
variable {κ : Type} [DecidableEq κ]
def lkD (kvs : List (κ × D)) (k : κ) : Option D := (kvs.find? fun kv => decide (kv.1 = k)).map (·.2)
def putD (kvs : List (κ × D)) (k : κ) (v : D) : List (κ × D) :=
  if kvs.any (fun kv => decide (kv.1 = k)) then kvs.map (fun kv => if kv.1 = k then (kv.1, v) else kv) else kvs ++ [(k, v)]
end
def keyD : D → Option Key
  | .int i => some (.inl i)
  | .str s => some (.inr s)
  | _ => none
def keysD : List D → Option (List Key)
  | [] => some []
  | d :: ds => match keyD d, keysD ds with
    | some k, some ks => some (k :: ks)
    | _, _ => none
theorem keyD_ok {F : Hp} {v : V} {d : D} {k : Key} (h : Dd K F v d) (e : keyD d = some k) : v = kV k := by
  cases h with
  | int i => cases e; rfl
  | str i => cases e; rfl
  | _ => cases e
theorem keysD_ok {F : Hp} : ∀ {vs : List V} {ds : List D} {ks : List Key}, DdL K F vs ds → keysD ds = some ks → vs = ks.map kV
  | _, _, _, .nil, e => by cases e; rfl
  | _, _, _, .cons (d := d) (ds := ds) h g, e => by
    dsimp only [keysD] at e
    cases q1 : keyD d with
    | none => rw [q1] at e; cases e
    | some k =>
      cases q2 : keysD ds with
      | none => rw [q1, q2] at e; cases e
      | some ks =>
        rw [q1, q2] at e
        cases e
        rw [keyD_ok h q1, keysD_ok g q2]
        rfl
theorem lkK_ok {F : Hp} (k : Key) : ∀ {kvs : List (Key × V)} {ds : List (Key × D)}, DdK K F kvs ds → (match lkD ds k with
    | some d => ∃ v, valV kvs k = some v ∧ Dd K F v d
    | none => valV kvs k = none)
  | _, _, .nil => rfl
  | _, _, .cons (k := k') (vs := vs) (d := d0) (ds := ds) h g => by
    by_cases c : k' = k
    · subst c
      have e1 : lkD ((k', d0) :: ds) k' = some d0 := by unfold lkD; rw [List.find?_cons_of_pos (by simp)]; rfl
      rw [e1]
      exact ⟨_, valV_pos rfl, h⟩
    · have e1 : ∀ d, lkD ((k', d) :: ds) k = lkD ds k := fun d => by unfold lkD; rw [List.find?_cons_of_neg (by simpa using c)]
      rw [e1]
      have ih := lkK_ok k g
      cases q : lkD ds k with
      | none => rw [q] at ih; rw [valV_neg c]; exact ih
      | some d => rw [q] at ih; obtain ⟨v, h1, h2⟩ := ih; exact ⟨v, by rw [valV_neg c]; exact h1, h2⟩
theorem lkT_ok {F : Hp} (k : List Key) : ∀ {kvs : List (List Key × V)} {ds : List (List Key × D)}, DdT K F kvs ds → (match lkD ds k with
    | some d => ∃ v, valV kvs k = some v ∧ Dd K F v d
    | none => valV kvs k = none)
  | _, _, .nil => rfl
  | _, _, .cons (k := k') (vs := vs) (d := d0) (ds := ds) h g => by
    by_cases c : k' = k
    · subst c
      have e1 : lkD ((k', d0) :: ds) k' = some d0 := by unfold lkD; rw [List.find?_cons_of_pos (by simp)]; rfl
      rw [e1]
      exact ⟨_, valV_pos rfl, h⟩
    · have e1 : ∀ d, lkD ((k', d) :: ds) k = lkD ds k := fun d => by unfold lkD; rw [List.find?_cons_of_neg (by simpa using c)]
      rw [e1]
      have ih := lkT_ok k g
      cases q : lkD ds k with
      | none => rw [q] at ih; rw [valV_neg c]; exact ih
      | some d => rw [q] at ih; obtain ⟨v, h1, h2⟩ := ih; exact ⟨v, by rw [valV_neg c]; exact h1, h2⟩
theorem DdK.length {F : Hp} : ∀ {kvs : List (Key × V)} {ds : List (Key × D)}, DdK K F kvs ds → kvs.length = ds.length
  | _, _, .nil => rfl
  | _, _, .cons _ g => by rw [List.length_cons, List.length_cons, g.length]
theorem DdT.length {F : Hp} : ∀ {kvs : List (List Key × V)} {ds : List (List Key × D)}, DdT K F kvs ds → kvs.length = ds.length
  | _, _, .nil => rfl
  | _, _, .cons _ g => by rw [List.length_cons, List.length_cons, g.length]
theorem putK_dd {F : Hp} {v : V} {d : D} {k : Key} (h : Dd K F v d) {kvs : List (Key × V)} {ds : List (Key × D)} (g : DdK K F kvs ds) : DdK K F (putK kvs k v) (putD ds k d) := by
  have e : kvs.any (fun kv => decide (kv.1 = k)) = ds.any (fun kv => decide (kv.1 = k)) := by
    clear h
    induction kvs generalizing ds with
    | nil => cases g; rfl
    | cons x r ih => cases g with
      | cons a b => rw [List.any_cons, List.any_cons, ih b]
  have em : DdK K F (kvs.map (fun kv => if kv.1 = k then (kv.1, v) else kv)) (ds.map (fun kv => if kv.1 = k then (kv.1, d) else kv)) := by
    clear e
    induction kvs generalizing ds with
    | nil => cases g; exact .nil
    | cons x r ih => cases g with
      | cons a b =>
        rw [List.map_cons, List.map_cons]
        dsimp only
        split
        · exact .cons h (ih b)
        · exact .cons a (ih b)
  have ea : DdK K F (kvs ++ [(k, v)]) (ds ++ [(k, d)]) := by
    clear e em
    induction kvs generalizing ds with
    | nil => cases g; exact .cons h .nil
    | cons x r ih => cases g with
      | cons a b => exact .cons a (ih b)
  unfold putK putD
  rw [e]
  split
  · exact em
  · exact ea
theorem putT_dd {F : Hp} {v : V} {d : D} {k : List Key} (h : Dd K F v d) {kvs : List (List Key × V)} {ds : List (List Key × D)} (g : DdT K F kvs ds) : DdT K F (putK kvs k v) (putD ds k d) := by
  have e : kvs.any (fun kv => decide (kv.1 = k)) = ds.any (fun kv => decide (kv.1 = k)) := by
    clear h
    induction kvs generalizing ds with
    | nil => cases g; rfl
    | cons x r ih => cases g with
      | cons a b => rw [List.any_cons, List.any_cons, ih b]
  have em : DdT K F (kvs.map (fun kv => if kv.1 = k then (kv.1, v) else kv)) (ds.map (fun kv => if kv.1 = k then (kv.1, d) else kv)) := by
    clear e
    induction kvs generalizing ds with
    | nil => cases g; exact .nil
    | cons x r ih => cases g with
      | cons a b =>
        rw [List.map_cons, List.map_cons]
        dsimp only
        split
        · exact .cons h (ih b)
        · exact .cons a (ih b)
  have ea : DdT K F (kvs ++ [(k, v)]) (ds ++ [(k, d)]) := by
    clear e em
    induction kvs generalizing ds with
    | nil => cases g; exact .cons h .nil
    | cons x r ih => cases g with
      | cons a b => exact .cons a (ih b)
  unfold putK putD
  rw [e]
  split
  · exact em
  · exact ea
/-- what a dict holds at a key -/
inductive LkA
  | some (d : D) | none | bad
def lkA (dx dy : D) : LkA := match dx with
  | .dk kvs => match keyD dy with
    | some k => match lkD kvs k with
      | some d => .some d
      | none => .none
    | none => .bad
  | .dt kvs => match dy with
    | .tup ks => match keysD ks with
      | some k => match lkD kvs k with
        | some d => .some d
        | none => .none
      | none => .bad
    | _ => .bad
  | _ => .bad
theorem Cnt.key {F H : Hp} {v : V} {d : D} {k : Key} (c : Cnt K F H v d) (e : keyD d = some k) : v = kV k := by
  cases d with
  | int i => cases e; exact c.int
  | str i => cases e; exact c.str
  | _ => cases e
/-- the key's content, not one that is written in the text -/
def ck (ρ : Rho) : RV → Option D
  | .kon _ => none
  | x => cn ρ x
theorem ck_ok {H0 F0 H F : Hp} {γ0 γ : GAt} {σ : L2.St} {ρ : Rho} {v : V} {x : RV} {d : D} (r : Rp GP K H0 F0 γ0 γ σ H F ρ) (h : RVok K H0 γ0 γ σ H F ρ v x) (e : ck ρ x = some d) : Dd K F v d ∨ ∃ a, v = .ref a ∧ Own K F H a d := by
  cases x with
  | kon d' => cases e
  | val d' => cases e; exact .inl h
  | fr d' => cases e; obtain ⟨a, h1, h2, _⟩ := h; exact .inr ⟨a, h1, h2⟩
  | sl i =>
    have h : σ[i]? = some (some v) := h
    dsimp only [ck, cn] at e
    cases q : ρ[i]? with
    | none => rw [q] at e; cases e
    | some s =>
      rw [q] at e
      cases s with
      | none => cases e
      | some s =>
        cases s with
        | val d' =>
          cases e
          obtain ⟨u, e1, e2⟩ := r.val i d q
          rw [h] at e1; cases e1
          exact .inl e2
        | own d' =>
          cases e
          obtain ⟨a, e1, e2, _⟩ := r.own i d q
          rw [h] at e1; cases e1
          exact .inr ⟨a, rfl, e2⟩
        | gen n => cases e
theorem dget_ok {F H : Hp} {x y : V} {dx dy : D} (s : Same F H) (c1 : Cnt K F H x dx) (c2 : Dd K F y dy ∨ ∃ a, y = .ref a ∧ Own K F H a dy) (hb : lkA dx dy ≠ .bad) : ∃ a o, x = .ref a ∧ DGet H a y o ∧ (match lkA dx dy with
    | .some d => ∃ v, o = some v ∧ Dd K F v d
    | .none => o = none
    | .bad => False) := by
  have ky : ∀ {k}, keyD dy = some k → y = kV k := fun {k} e => by
    rcases c2 with h | ⟨a, _, h⟩
    · exact keyD_ok h e
    · cases h <;> cases e
  unfold lkA at hb ⊢
  cases dx with
  | dk kvs =>
    obtain ⟨a, kv, rfl, ha, g⟩ := c1.dk s
    cases q : keyD dy with
    | none => rw [q] at hb; exact absurd rfl hb
    | some k =>
      have e := ky q
      have z := lkK_ok k g
      refine ⟨a, valV kv k, rfl, .inl ⟨kv, k, .inl ha, e, rfl⟩, ?_⟩
      simp only [q]
      cases q2 : lkD kvs k with
      | none => rw [q2] at z; exact z
      | some d => rw [q2] at z; exact z
  | dt kvs =>
    obtain ⟨a, kv, rfl, ha, g⟩ := c1.dt s
    cases dy with
    | tup ks =>
      dsimp only at hb ⊢
      cases q : keysD ks with
      | none => rw [q] at hb; exact absurd rfl hb
      | some k =>
        have z := lkT_ok k g
        rcases c2 with h | ⟨b, _, h⟩
        · cases h with
          | tup e1 e2 =>
            rw [keysD_ok e2 q] at e1
            refine ⟨a, valV kv k, rfl, .inr ⟨kv, k, _, .inl ha, rfl, s _ _ e1, rfl⟩, ?_⟩
            simp only [q]
            cases q2 : lkD kvs k with
            | none => rw [q2] at z; exact z
            | some d => rw [q2] at z; exact z
        · cases h
    | _ => exact absurd rfl hb
  | _ => exact absurd rfl hb
def uDGet (ud uy : UE) : UE := fun ρ Q => ud ρ fun x ρ1 => uy ρ1 fun y ρ2 => match cn ρ2 (sf x), ck ρ2 y with
  | some dx, some dy => match lkA dx dy with
    | .some d => Q (.val d) ρ2
    | _ => False
  | _, _ => False
theorem le_dget {td ty : TE} {ud uy : UE} (hd : LE GP K B td ud) (hy : LE GP K B ty uy) : LE GP K B (tDGet td ty) (uDGet ud uy) := by
  intro H0 F0 γ0 _ γ σ H F ρ R Q r z k
  refine hd _ _ r z fun H1 F1 γ1 ρ1 v x r1 s1 k1 u1 => ?_
  obtain ⟨F2, r2, s2, k2⟩ := sf_ok r1 k1
  refine hy _ _ r2 u1 fun H3 F3 γ3 ρ3 w y r3 s3 k3 u3 => ?_
  split at u3
  · rename_i dx dy e1 e2
    split at u3
    · rename_i d ed
      obtain ⟨a, o, rfl, g, m⟩ := dget_ok r3.sub (RVok.cnt r3 (k2.same s3).one e1) (ck_ok r3 k3 e2) (by rw [ed]; exact fun x => nomatch x)
      rw [ed] at m
      obtain ⟨v', rfl, dd⟩ := m
      exact ⟨a, v', rfl, g, k _ _ _ _ _ (.val d) r3 (s1.trans (s2.trans s3)) dd u3⟩
    · exact u3.elim
  · exact u3.elim
def uDIn (neg : Bool) (uy ud : UE) : UE := fun ρ Q => uy ρ fun y ρ1 => ud ρ1 fun x ρ2 => match cn ρ2 x, ck ρ2 (sf y) with
  | some dx, some dy => match lkA dx dy with
    | .some _ => Q (.val (.bl (!neg))) ρ2
    | .none => Q (.val (.bl neg)) ρ2
    | .bad => False
  | _, _ => False
theorem din_any {neg : Bool} {td ty : TE} {ud uy : UE} {tt : TE} (htt : ∀ σ H R, ty σ H (fun y H1 => td σ H1 fun x H2 => ∃ a o, x = .ref a ∧ DGet H2 a y o ∧ R (.bl (if neg then !o.isSome else o.isSome)) H2) → tt σ H R) (hd : LE GP K B td ud) (hy : LE GP K B ty uy) : LE GP K B tt (uDIn neg uy ud) := by
  intro H0 F0 γ0 _ γ σ H F ρ R Q r z k
  refine htt _ _ _ (hy _ _ r z fun H1 F1 γ1 ρ1 w y r1 s1 k1 u1 => ?_)
  obtain ⟨F2, r2, s2, k2⟩ := sf_ok r1 k1
  refine hd _ _ r2 u1 fun H3 F3 γ3 ρ3 v x r3 s3 k3 u3 => ?_
  split at u3
  · rename_i dx dy e1 e2
    have fin : ∀ b, (∀ (hb : lkA dx dy ≠ .bad), True) → Q (.val (.bl b)) ρ3 → R (.bl b) H3 := fun b _ q => k _ _ _ _ _ (.val _) r3 (s1.trans (s2.trans s3)) (Dd.bl b) q
    have go : lkA dx dy ≠ .bad → _ := fun hb => dget_ok r3.sub (RVok.cnt r3 k3 e1) (ck_ok r3 ((k2.same s3).one) e2) hb
    split at u3
    · rename_i d ed
      obtain ⟨a, o, rfl, g, m⟩ := go (by rw [ed]; exact fun x => nomatch x)
      rw [ed] at m
      obtain ⟨v', rfl, dd⟩ := m
      refine ⟨a, _, rfl, g, ?_⟩
      have e : (if neg = true then !(Option.isSome (some v')) else Option.isSome (some v')) = !neg := by cases neg <;> rfl
      rw [e]
      exact fin _ (fun _ => trivial) u3
    · rename_i ed
      obtain ⟨a, o, rfl, g, m⟩ := go (by rw [ed]; exact fun x => nomatch x)
      rw [ed] at m
      cases m
      refine ⟨a, _, rfl, g, ?_⟩
      have e : (if neg = true then !(Option.isSome (none : Option V)) else Option.isSome (none : Option V)) = neg := by cases neg <;> rfl
      rw [e]
      exact fin _ (fun _ => trivial) u3
    · exact u3.elim
  · exact u3.elim
theorem le_din {td ty : TE} {ud uy : UE} (hd : LE GP K B td ud) (hy : LE GP K B ty uy) : LE GP K B (tDIn ty td) (uDIn false uy ud) := din_any (neg := false) (fun σ H R h => h) hd hy
theorem le_dnin {td ty : TE} {ud uy : UE} (hd : LE GP K B td ud) (hy : LE GP K B ty uy) : LE GP K B (tDNotIn ty td) (uDIn true uy ud) := din_any (neg := true) (fun σ H R h => h) hd hy
/-- d[k] = e -/
def putA (dx dy d : D) : Option D := match dx with
  | .dk kvs => match keyD dy with
    | some k => some (.dk (putD kvs k d))
    | none => none
  | .dt kvs => match dy with
    | .tup ks => match keysD ks with
      | some k => some (.dt (putD kvs k d))
      | none => none
    | _ => none
  | _ => none
def dlen : D → Nat
  | .dk kvs => kvs.length
  | .dt kvs => kvs.length
  | _ => 0
theorem dput_ok {F H : Hp} {a : Addr} {y v : V} {dx dy d d' : D} (s : Same F H) (c1 : Own K F H a dx) (c2 : Dd K F y dy ∨ ∃ a, y = .ref a ∧ Own K F H a dy) (h : Dd K F v d) (hl : dlen dx < sizeLine) (e : putA dx dy d = some d') :
    ∃ o, DPut H a y v (upd H a o) ∧ Own K F (upd H a o) a d' := by
  unfold putA at e
  cases c1 with
  | dK ha g =>
    dsimp only at e
    cases q : keyD dy with
    | none => rw [q] at e; cases e
    | some k =>
      rw [q] at e
      cases e
      have ey : y = kV k := by
        rcases c2 with h | ⟨a, _, h⟩
        · exact keyD_ok h q
        · cases h <;> cases q
      exact ⟨_, .inl ⟨_, k, ha, ey, by rw [g.length]; exact hl, rfl⟩, .dK upd_same (putK_dd h g)⟩
  | dT ha g =>
    cases dy with
    | tup ks =>
      dsimp only at e
      cases q : keysD ks with
      | none => rw [q] at e; cases e
      | some k =>
        rw [q] at e
        cases e
        rcases c2 with h2 | ⟨b, _, h2⟩
        · cases h2 with
          | tup e1 e2 =>
            rw [keysD_ok e2 q] at e1
            exact ⟨_, .inr ⟨_, k, _, ha, rfl, s _ _ e1, by rw [g.length]; exact hl, rfl⟩, .dT upd_same (putT_dd h g)⟩
        · cases h2
    | _ => cases e
  | _ => cases e
def uDPut (i : Nat) (uk uv : UE) : US := fun Q ρ => uv ρ fun x ρ1 => match ρ1[i]? with
  | some (some (.own _)) => uk ρ1 fun y ρ2 => fz (sf x) ρ2 fun d ρ3 => match ρ3[i]?, ck ρ3 (sf y) with
    | some (some (.own dx)), some dy => match putA dx dy d with
      | some d' => dlen dx < sizeLine ∧ Q.nx (ρ3.set i (some (.own d')))
      | none => False
    | _, _ => False
  | _ => False
theorem ls_dput {i : Nat} {tk tv : TE} {uk uv : UE} (hk : LE GP K B tk uk) (hv : LE GP K B tv uv) : LS GP K B (sDPut (tVar i) tk tv) (uDPut i uk uv) := by
  intro H0 F0 γ0 _ γ σ H F ρ E Q r z n b c t
  refine hv _ _ r z fun H1 F1 γ1 ρ1 v x r1 s1 k1 u1 => ?_
  obtain ⟨F2, r2, s2, k2⟩ := sf_ok r1 k1
  split at u1
  · rename_i ds0 e0
    obtain ⟨a, h1, h2, _⟩ := r2.own i _ e0
    refine ⟨_, h1, hk _ _ r2 u1 fun H3 F3 γ3 ρ3 w y r3 s3 k3 u3 => ?_⟩
    obtain ⟨F4, r4, s4, k4⟩ := sf_ok r3 k3
    obtain ⟨F5, ρ5, d, r5, s5, d5, q5⟩ := fz_ok r4 ((k2.same s3).same s4).one u3
    split at q5
    · rename_i dx dy e ek
      split at q5
      · rename_i d' ed
        obtain ⟨b', b1, b2, b3, _⟩ := r5.own i _ e
        rw [h1] at b1; cases b1
        obtain ⟨o, p1, p2⟩ := dput_ok r5.sub b2 (ck_ok r5 (k4.same s5).one ek) d5 q5.1 ed
        exact ⟨a, _, rfl, p1, n _ _ _ _ _ (r5.write e h1 p2) q5.2⟩
      · exact q5.elim
    · exact q5.elim
  · exact u1.elim
def uDNewK : UE := fun ρ Q => Q (.fr (.dk [])) ρ
def uDNewT : UE := fun ρ Q => Q (.fr (.dt [])) ρ
theorem le_dnewK : LE GP K B tDNewK uDNewK := fun H0 F0 γ0 _ γ σ H F ρ R Q r z k p np => k _ _ _ _ _ (.fr _) (r.same (same_upd np)) (Same.refl _) (fr_new r np (.dK upd_same .nil)) z
theorem le_dnewT : LE GP K B tDNewT uDNewT := fun H0 F0 γ0 _ γ σ H F ρ R Q r z k p np => k _ _ _ _ _ (.fr _) (r.same (same_upd np)) (Same.refl _) (fr_new r np (.dT upd_same .nil)) z
end DL
/-! the mathematics of scaled rules: who calls whom, when each one is told, how few these hang on -/
namespace CD
theorem nodup_lenT {α : Type} [DecidableEq α] : ∀ (l D : List α), l.Nodup → (∀ x ∈ l, x ∈ D) → l.length ≤ D.length
  | [], _, _, _ => Nat.zero_le _
  | x :: r, D, hn, h => by
    have hx := h x List.mem_cons_self
    have ih := nodup_lenT r (D.erase x) (List.nodup_cons.mp hn).2 fun y hy => (List.mem_erase_of_ne (fun e => (List.nodup_cons.mp hn).1 (by rw [← e]; exact hy))).mpr (h y (List.mem_cons_of_mem _ hy))
    rw [List.length_erase_of_mem hx] at ih
    have : 0 < D.length := List.length_pos_of_mem hx
    rw [List.length_cons]
    omega
theorem fm_congr {α β : Type} {f g : α → Option β} : ∀ {l : List α}, (∀ x ∈ l, f x = g x) → l.filterMap f = l.filterMap g
  | [], _ => rfl
  | x :: r, h => by rw [List.filterMap_cons, List.filterMap_cons, h x List.mem_cons_self, fm_congr fun y hy => h y (List.mem_cons_of_mem _ hy)]
theorem len_flat {α β : Type} (f : α → List β) (k : Nat) (h : ∀ x, (f x).length = k) : ∀ l : List α, (l.flatMap f).length = l.length * k
  | [] => by simp
  | x :: r => by
    rw [List.flatMap_cons, List.length_append, h, len_flat f k h r, List.length_cons, Nat.succ_mul]
    omega
structure IsSc (D : Int) (ads : List Int) : Prop where
  d2 : 2 ≤ D
  d5 : D ≤ 5
  one : 1 ≤ ads.length
  most : ads.length ≤ 5
  rng : ∀ a ∈ ads, 0 ≤ a ∧ a ≤ 20
  nd : ads.Nodup
/-- all who may call n, and the place of that call; those but n itself -/
def callsI (D : Int) (ads : List Int) (n : Int) : List (Int × Int) :=
  ads.zipIdx.filterMap fun e => if e.1 ≤ n ∧ (n - e.1) % D = 0 then some ((n - e.1) / D, 1 + (e.2 : Int)) else none
def callsO (D : Int) (ads : List Int) (n : Int) : List (Int × Int) := (callsI D ads n).filter fun p => decide (p.1 ≠ n)
section
variable {D : Int} {ads : List Int} (S : IsSc D ads)
include S
theorem callsI_mem {n : Int} {p : Int × Int} (h : p ∈ callsI D ads n) : ∃ a ∈ ads, a ≤ n ∧ (n - a) % D = 0 ∧ p.1 = (n - a) / D ∧ 1 ≤ p.2 ∧ p.2 ≤ 5 := by
  obtain ⟨e, he, hp⟩ := List.mem_filterMap.mp h
  have z := List.mem_zipIdx he
  have hm := S.most
  have ha : e.1 ∈ ads := by rw [z.2.2]; exact List.getElem_mem _
  by_cases c : e.1 ≤ n ∧ (n - e.1) % D = 0
  · rw [if_pos c] at hp
    cases hp
    exact ⟨e.1, ha, c.1, c.2, rfl, by show (1 : Int) ≤ 1 + (e.2 : Int); omega, by show 1 + (e.2 : Int) ≤ 5; have := z.2.1; omega⟩
  · rw [if_neg c] at hp; cases hp
theorem callsO_mem {n : Int} (h0 : 0 ≤ n) {p : Int × Int} (h : p ∈ callsO D ads n) : 0 ≤ p.1 ∧ p.1 < n ∧ 1 ≤ p.2 ∧ p.2 ≤ 5 ∧ ∃ a ∈ ads, a ≤ n ∧ p.1 = (n - a) / D := by
  obtain ⟨h1, h2⟩ := List.mem_filter.mp h
  obtain ⟨a, ha, an, md, e, q1, q5⟩ := callsI_mem S h1
  have ne : p.1 ≠ n := of_decide_eq_true h2
  have r := S.rng a ha
  have d2 := S.d2
  have p0 : 0 ≤ p.1 := by rw [e]; exact Int.ediv_nonneg (by omega) (by omega)
  have pl : p.1 ≤ n := by
    rw [e]
    have z := Int.ediv_le_self D (show 0 ≤ n - a by omega)
    omega
  exact ⟨p0, by omega, q1, q5, a, ha, an, e⟩
omit S in
theorem callsI_len (n : Int) : (callsI D ads n).length ≤ ads.length := by
  have := List.length_filterMap_le (fun e : Int × Nat => if e.1 ≤ n ∧ (n - e.1) % D = 0 then some ((n - e.1) / D, 1 + (e.2 : Int)) else none) ads.zipIdx
  rw [List.length_zipIdx] at this
  exact this
theorem callsI_len5 (n : Int) : (callsI D ads n).length ≤ 5 := Nat.le_trans (callsI_len n) S.most
theorem callsO_len5 (n : Int) : (callsO D ads n).length ≤ 5 := Nat.le_trans (List.length_filter_le _ _) (callsI_len5 S n)
end
/-- when n is told, or none -/
def tkF (D : Int) (ads : List Int) : Nat → Int → Option Int
  | 0, _ => some 0
  | f + 1, n => if n = 0 then some 0 else leastO ((callsO D ads n).filterMap fun p => (tkF D ads f p.1).map (· + p.2))
def tk (D : Int) (ads : List Int) (n : Int) : Option Int := tkF D ads n.toNat n
theorem tkF_same {D : Int} {ads : List Int} (S : IsSc D ads) : ∀ (f g : Nat) (n : Int), 0 ≤ n → n ≤ f → n ≤ g → tkF D ads f n = tkF D ads g n
  | 0, 0, _, _, _, _ => rfl
  | 0, g + 1, n, h0, hf, _ => by
    have : n = 0 := by omega
    subst this
    rw [tkF, tkF, if_pos rfl]
  | f + 1, 0, n, h0, _, hg => by
    have : n = 0 := by omega
    subst this
    rw [tkF, tkF, if_pos rfl]
  | f + 1, g + 1, n, h0, hf, hg => by
    rw [tkF, tkF]
    by_cases c : n = 0
    · rw [if_pos c, if_pos c]
    · rw [if_neg c, if_neg c]
      congr 1
      refine fm_congr fun p hp => ?_
      have z := callsO_mem S h0 hp
      rw [tkF_same S f g p.1 z.1 (by omega) (by omega)]
theorem tk_zero (D : Int) (ads : List Int) : tk D ads 0 = some 0 := rfl
theorem tk_eq {D : Int} {ads : List Int} (S : IsSc D ads) {n : Int} (h : 0 < n) : tk D ads n = leastO ((callsO D ads n).filterMap fun p => (tk D ads p.1).map (· + p.2)) := by
  obtain ⟨m, rfl⟩ : ∃ m : Nat, n = ((m + 1 : Nat) : Int) := ⟨(n - 1).toNat, by omega⟩
  unfold tk
  rw [Int.toNat_natCast, tkF, if_neg (by omega)]
  congr 1
  refine fm_congr fun p hp => ?_
  have z := callsO_mem S (by omega) hp
  rw [tkF_same S m p.1.toNat p.1 z.1 (by omega) (by omega)]
/-! ### how few people one hangs on -/
def Near (D n c : Int) : Prop := 0 ≤ c ∧ ∃ d : Nat, c ≤ n / D ^ d ∧ n / D ^ d ≤ c + 20
theorem Near.self {D n : Int} (h : 0 ≤ n) : Near D n n := ⟨h, 0, by rw [Int.pow_zero, Int.ediv_one]; exact Int.le_refl _, by rw [Int.pow_zero, Int.ediv_one]; omega⟩
theorem Near.step {D n c a : Int} (h : Near D n c) (hD : 2 ≤ D) (h0 : 0 ≤ a) (h20 : a ≤ 20) (hc : a ≤ c) : Near D n ((c - a) / D) := by
  obtain ⟨c0, d, h1, h2⟩ := h
  refine ⟨Int.ediv_nonneg (by omega) (by omega), d + 1, ?_⟩
  have e : n / D ^ (d + 1) = n / D ^ d / D := by
    rw [Int.pow_succ, Int.ediv_ediv_of_nonneg (Int.le_of_lt (Int.pow_pos (by omega)))]
  rw [e]
  constructor
  · exact Int.ediv_le_ediv (by omega) (by omega)
  · have z : n / D ^ d ≤ (c - a) + 20 * D := by omega
    have z2 := Int.ediv_le_ediv (c := D) (by omega) z
    rw [Int.add_mul_ediv_right _ _ (by omega)] at z2
    exact z2
def nearL (D n : Int) : List Int := (List.range 101).flatMap fun d => (List.range 21).map fun j : Nat => n / D ^ d - (j : Int)
theorem pow_ge {D : Int} (hD : 2 ≤ D) : ∀ d : Nat, (2 : Int) ^ d ≤ D ^ d
  | 0 => by simp
  | d + 1 => by
    rw [Int.pow_succ, Int.pow_succ]
    exact Int.mul_le_mul (pow_ge hD d) hD (by decide) (Int.le_of_lt (Int.pow_pos (by omega)))
theorem near_mem {D n c : Int} (hD : 2 ≤ D) (h0 : 0 ≤ n) (h30 : n ≤ 10 ^ 30) (h : Near D n c) : c ∈ nearL D n := by
  obtain ⟨c0, d, h1, h2⟩ := h
  refine List.mem_flatMap.mpr ?_
  by_cases hd : d ≤ 100
  · exact ⟨d, List.mem_range.mpr (by omega), List.mem_map.mpr ⟨(n / D ^ d - c).toNat, List.mem_range.mpr (by omega), by omega⟩⟩
  · have big : ∀ e : Nat, 100 ≤ e → n / D ^ e = 0 := fun e he => by
      have z1 := pow_ge hD e
      have z2 : (2 : Int) ^ 100 ≤ 2 ^ e := by
        obtain ⟨k, rfl⟩ : ∃ k, e = 100 + k := ⟨e - 100, by omega⟩
        rw [Int.pow_add]
        have : (1 : Int) ≤ 2 ^ k := Int.pow_pos (by decide)
        have z3 := Int.mul_le_mul_of_nonneg_left this (show (0 : Int) ≤ 2 ^ 100 by decide)
        rw [Int.mul_one] at z3
        exact z3
      have z3 : (10 : Int) ^ 30 < 2 ^ 100 := by decide
      exact Int.ediv_eq_zero_of_lt h0 (by omega)
    rw [big d (by omega)] at h1 h2
    exact ⟨100, List.mem_range.mpr (by decide), List.mem_map.mpr ⟨0, List.mem_range.mpr (by decide), by rw [big 100 (by decide)]; show (0 : Int) - ((0 : Nat) : Int) = c; omega⟩⟩
theorem nearL_len (D n : Int) : (nearL D n).length = 2121 := by
  unfold nearL
  rw [len_flat _ 21 (fun d => by rw [List.length_map, List.length_range]), List.length_range]
theorem few_near {D : Int} (hD : 2 ≤ D) {ns ks : List Int} (hn : ∀ n ∈ ns, 0 ≤ n ∧ n ≤ 10 ^ 30) (nd : ks.Nodup) (h : ∀ k ∈ ks, ∃ n ∈ ns, Near D n k) : ks.length ≤ ns.length * 2121 := by
  have z := nodup_lenT ks (ns.flatMap fun n => nearL D n) nd fun k hk => by
    obtain ⟨n, hm, hN⟩ := h k hk
    exact List.mem_flatMap.mpr ⟨n, hm, near_mem hD (hn n hm).1 (hn n hm).2 hN⟩
  rw [len_flat _ 2121 (fun n => nearL_len D n)] at z
  exact z
end CD
/-! own words: dicts with ints as keys; lists of tuples -/
namespace CD
open PySem PySem.Spec PyProof.Rows L2
def dkV (es : List (Int × V)) : List (Key × V) := es.map fun e => (Sum.inl e.1, e.2)
theorem dkV_len (es : List (Int × V)) : (dkV es).length = es.length := List.length_map _
theorem dkV_keys (es : List (Int × V)) : (dkV es).map (fun kv => kV kv.1) = (es.map (·.1)).map V.int := by
  unfold dkV
  rw [List.map_map, List.map_map]
  rfl
theorem dv_get : ∀ {es : List (Int × V)} {k : Int} {v : V}, (es.map (·.1)).Nodup → (k, v) ∈ es → valV (dkV es) (.inl k) = some v
  | [], _, _, _, h => by cases h
  | (k1, v1) :: r, k, v, nd, h => by
    obtain ⟨n1, n2⟩ := List.nodup_cons.mp nd
    unfold dkV valV
    rw [List.map_cons, List.find?_cons]
    rcases List.mem_cons.mp h with e | m
    · cases e
      rw [show decide ((Sum.inl k1 : Key) = Sum.inl k1) = true from decide_eq_true rfl]
      rfl
    · have ne : k1 ≠ k := fun e => n1 (by rw [e]; exact List.mem_map.mpr ⟨(k, v), m, rfl⟩)
      rw [show decide ((Sum.inl k1 : Key) = Sum.inl k) = false from decide_eq_false fun e => ne (Sum.inl.inj e)]
      exact dv_get n2 m
theorem dv_none : ∀ {es : List (Int × V)} {k : Int}, k ∉ es.map (·.1) → valV (dkV es) (.inl k) = none
  | [], _, _ => rfl
  | (k1, v1) :: r, k, h => by
    have ne : k1 ≠ k := fun e => h (by rw [List.map_cons, e]; exact List.mem_cons_self)
    unfold dkV valV
    rw [List.map_cons, List.find?_cons, show decide ((Sum.inl k1 : Key) = Sum.inl k) = false from decide_eq_false fun e => ne (Sum.inl.inj e)]
    exact dv_none fun m => h (by rw [List.map_cons]; exact List.mem_cons_of_mem _ m)
theorem dv_put {es : List (Int × V)} {k : Int} {v : V} (h : k ∉ es.map (·.1)) : putK (dkV es) (.inl k) v = dkV (es ++ [(k, v)]) := by
  unfold putK
  have e : (dkV es).any (fun kv => decide (kv.1 = (Sum.inl k : Key))) = false := by
    rw [List.any_eq_false]
    intro x hx
    obtain ⟨y, hy, rfl⟩ := List.mem_map.mp hx
    exact fun z => h (List.mem_map.mpr ⟨y, hy, Sum.inl.inj (of_decide_eq_true z)⟩)
  rw [e, if_neg Bool.false_ne_true]
  unfold dkV
  rw [List.map_append]
  rfl
theorem at_key {es : List (Int × V)} {k : Int} (h : k ∈ es.map (·.1)) : ∃ v, (k, v) ∈ es := by
  obtain ⟨⟨k', v⟩, m, e⟩ := List.mem_map.mp h
  exact ⟨v, by cases e; exact m⟩
/-- all that was tracked stays, but two objects -/
def Keep2 (H H' : Hp) (c f : Addr) : Prop := ∀ b o, H b = some o → b ≠ c → b ≠ f → H' b = some o
theorem _root_.L2.Same.keep2 {H H' : Hp} {c f : Addr} (s : Same H H') : Keep2 H H' c f := fun b o e _ _ => s b o e
theorem Keep2.trans {H H' H2 : Hp} {c f : Addr} (s : Keep2 H H' c f) (t : Keep2 H' H2 c f) : Keep2 H H2 c f := fun b o e n1 n2 => t b o (s b o e n1 n2) n1 n2
theorem keep2_c {H : Hp} {c f : Addr} {o : HO} : Keep2 H (upd H c o) c f := fun b x e n1 _ => by rw [upd_ne n1]; exact e
theorem keep2_f {H : Hp} {c f : Addr} {o : HO} : Keep2 H (upd H f o) c f := fun b x e _ n2 => by rw [upd_ne n2]; exact e
/-- a list of tuples -/
abbrev EntT := List V × Addr
def RowsAt (H : Hp) (l : Addr) (rows : List (List V)) : Prop := ∃ es : List EntT, H l = some (.lst (es.map fun e => V.ref e.2)) ∧ es.map (·.1) = rows ∧ ∀ e ∈ es, H e.2 = some (.tup e.1)
theorem RowsAt.same {H H' : Hp} {l : Addr} {rows : List (List V)} (h : RowsAt H l rows) (s : Same H H') : RowsAt H' l rows := let ⟨es, h1, h2, h3⟩ := h; ⟨es, s _ _ h1, h2, fun e he => s _ _ (h3 e he)⟩
theorem RowsAt.keep {H H' : Hp} {l c f : Addr} {rows : List (List V)} (h : RowsAt H l rows) (s : Keep2 H H' c f) (nc : l ≠ c) (nf : l ≠ f) (tc : ∀ t, H c ≠ some (.tup t)) (tf : ∀ t, H f ≠ some (.tup t)) : RowsAt H' l rows :=
  let ⟨es, h1, h2, h3⟩ := h
  ⟨es, s _ _ h1 nc nf, h2, fun e he => s _ _ (h3 e he) (fun x => tc e.1 (by rw [← x]; exact h3 e he)) (fun x => tf e.1 (by rw [← x]; exact h3 e he))⟩
theorem RowsAt.refs {H : Hp} {l : Addr} {rows : List (List V)} (h : RowsAt H l rows) : ∃ rs : List Addr, H l = some (.lst (rs.map V.ref)) ∧ rs.length = rows.length ∧ ∀ (i : Nat) (r : Addr) (row : List V), rs[i]? = some r → rows[i]? = some row → H r = some (.tup row) := by
  obtain ⟨es, h1, h2, h3⟩ := h
  refine ⟨es.map (·.2), by rw [h1, List.map_map]; rfl, by rw [List.length_map, ← h2, List.length_map], fun i r row hr hw => ?_⟩
  rw [← h2, List.getElem?_map] at hw
  rw [List.getElem?_map] at hr
  cases e : es[i]? with
  | none => rw [e] at hr; cases hr
  | some y =>
    rw [e] at hr hw
    cases hr
    cases hw
    exact h3 y (List.mem_of_getElem? e)
theorem dget_of {H : Hp} {c : Addr} {es : List (Int × V)} {k : Int} {v : V} (h : H c = some (.dK (dkV es))) (nd : (es.map (·.1)).Nodup) (m : (k, v) ∈ es) : DGet H c (.int k) (some v) := by
  have z := DGet.k (k := .inl k) h
  rw [dv_get nd m] at z
  exact z
theorem dput_of {H : Hp} {c : Addr} {es : List (Int × V)} {k : Int} {v : V} (h : H c = some (.dK (dkV es))) (n : k ∉ es.map (·.1)) (hl : es.length < sizeLine) : DPut H c (.int k) v (upd H c (.dK (dkV (es ++ [(k, v)])))) := by
  have z := DPut.k (k := .inl k) (v := v) h (by rw [dkV_len]; exact hl)
  rw [dv_put n] at z
  exact z
/-- k in d -/
theorem din_of {H : Hp} {c : Addr} {es : List (Int × V)} (k : Int) (h : H c = some (.dK (dkV es))) : ∃ o : Option V, DGet H c (.int k) o ∧ (o.isSome = true ↔ k ∈ es.map (·.1)) := by
  refine ⟨_, DGet.k (k := .inl k) h, ?_⟩
  constructor
  · intro e
    refine Decidable.by_contra fun n => ?_
    rw [dv_none n] at e
    cases e
  · intro m
    obtain ⟨v, hv⟩ := at_key m
    have e : (dkV es).find? (fun kv => decide (kv.1 = (Sum.inl k : Key))) ≠ none := fun z => by
      have z2 := List.find?_eq_none.mp z (Sum.inl k, v) (List.mem_map.mpr ⟨(k, v), hv, rfl⟩)
      exact z2 (decide_eq_true rfl)
    unfold valV
    cases c : (dkV es).find? (fun kv => decide (kv.1 = (Sum.inl k : Key))) with
    | none => exact absurd c e
    | some y => rfl
theorem orD_non (o : Option Int) : orD .non o = oV o := by cases o <;> rfl
theorem srt_take {ns : List Int} {i : Nat} {k c : Int} (hs : ns.Pairwise (· ≤ ·)) (hi : ns[i]? = some k) (hc : c ∈ ns) (hl : c < k) : c ∈ ns.take i := by
  obtain ⟨j, hj, rfl⟩ := List.mem_iff_getElem.mp hc
  have hi' := (List.getElem?_eq_some_iff.mp hi)
  obtain ⟨li, ei⟩ := hi'
  by_cases c2 : j < i
  · exact List.mem_take_iff_getElem.mpr ⟨j, by omega, rfl⟩
  · exfalso
    rcases Nat.lt_or_eq_of_le (Nat.le_of_not_lt c2) with l | e
    · have z := (List.pairwise_iff_getElem.mp hs) i j li hj l
      omega
    · subst e
      omega
/-! ### len(set(l)), l a list of ints -/
def tLenSetGL (K : PySem.W.Frag) (ta : TE) : TE := fun σ H Q => ta σ H fun x H1 => ∃ (l : Addr) (ns : List Int), x = .ref l ∧ SqL K H1 l (ns.map V.int) ∧ ns.length ≤ 1000 ∧
  ∀ ks : List Int, ks.Nodup → (∀ x, x ∈ ks ↔ x ∈ ns) → Q (.int (ks.length : Nat)) H1
theorem pe_lenSetGL {X : Cx} {a : Expr} {ta : TE} {p p2 q pos : Pos} (hg : Gl X "len") (hm : X.mg "len" = none) (hg2 : Gl X "set") (hm2 : X.mg "set" = none) (ha : PE X a ta) (hc : X.calm = true := by rfl)
    (na : starEach [a] X.env = (false, eval a X.env) :: starEach [] X.env := by rfl) : PE X (.Call (.Name "len" p) [.Call (.Name "set" p2) [a] [] q] [] pos) (tLenSetGL X.K ta) := by
  refine ⟨fun pins s σ H Q I h => ?_⟩
  refine Call_ (ld_blt I hg hm boot_len (PyProof.Rows.callWith_builtin1 (PyProof.Rows.args_cons ?_ rfl) rfl rfl))
  refine Call_ (ld_blt I hg2 hm2 boot_set (PyProof.Rows.callWith_type1 (PyProof.Rows.args_cons (thn (ha.run pins s σ H _ I h) fun v s1 ⟨x, H1, I1, r1, l, ns, ex, hq, hl, q1⟩ => PyProof.Rows.args_nil ?_) na) na rfl))
  subst ex
  cases r1
  obtain ⟨its, r, pl, hz⟩ := I1.list hq
  refine call_set_lst ns (I1.ok.hd hc) pl.isList r.ints (by unfold scanBound; omega) fun h' tk c hS hcl hk => PyProof.Rows.args_nil ?_
  obtain ⟨o, es, ep, t, ho, hex, hdt, g, nd, hm3, hb, hf, hn, _, _⟩ := hS
  have hmem : ∀ x, x ∈ es.toList.map keyOf ↔ x ∈ ns := fun j => by
    have z : decide (j ∈ ns) = true ↔ j ∈ es.toList.map keyOf := hm3 j
    rw [decide_eq_true_eq] at z
    exact z.symm
  have hlen : (es.toList.map keyOf).length = es.size := by simp
  have hle := nodup_lenT _ ns nd fun x hx => (hmem x).mp hx
  have I2 : Inv X pins σ H1 { s1 with heap := h', toks := tk } := I1.kept hk
  exact call_len_set ho hex hdt hf (by omega) ⟨.int (es.toList.map keyOf).length, H1, I2.tok _, ⟨_, by rw [hlen]⟩, q1 _ nd hmem⟩
/-! ### max(xs, default=d) -/
def maxO : List Int → Option Int
  | [] => none
  | n :: ns => some (ns.foldl max n)
def rMaxDf (K : PySem.W.Frag) : List V → List V → Hp → VK → Prop := fun vs zs H Q => ∃ (a : Addr) (ns : List Int) (d : V), vs = [V.ref a] ∧ zs = [d] ∧ SqL K H a (ns.map V.int) ∧ Q (orD d (maxO ns)) H
theorem cr_maxDef {X : Cx} (hc : X.calm = true) (hu : X.A.units + 1 < cLine) : CallRK X (.builtin "max") [Str.ofString "default"] (rMaxDf X.K) := by
  intro pins s σ H vs zs us ws Q I r rz h
  obtain ⟨a, ns, d, rfl, rfl, hs, q⟩ := h
  obtain rfl := Vals.ref1 r
  obtain ⟨w1, rfl, e1⟩ := vals1 rz
  obtain ⟨its, rv, hl, _⟩ := I.list hs
  have hi := rv.ints
  refine PySem.W.max_list_default (I.ok.hd hc) hl.isList (xs := ns.map PyData.int) (as := []) (by simpa using reads_ints hi) (alike_ints ns) (by rw [depth_ints]; exact hu) (fun e h' tk hk => ?_) fun y ys i v h' tk bs e hv hr hk => ?_
  · have e2 : ns = [] := List.map_eq_nil_iff.mp e
    subst e2
    exact ⟨d, H, I.kept hk, e1, q⟩
  · cases ns with
    | nil => cases e
    | cons n ns =>
      rw [List.map_cons] at e
      injection e with e2 e3
      subst e2 e3
      rw [PySem.W.maxD_ints] at hr
      cases hr with
      | int i t => exact ⟨.int _, H, I.kept hk, ⟨t, rfl⟩, q⟩
end CD
/-! lifted readings 7: more of them -/
namespace DL
open PySem PySem.Spec PyProof.Rows L2 CD
variable {GP : GenP} {K : PySem.W.Frag}
variable {B : Hp × Hp × GAt}
/-! ### tuples -/
def pCatT : P2 := fun x y Q => match x, y with
  | .tup a, .tup b => a.length + b.length ≤ sizeLine ∧ Q (.val (.tup (a ++ b)))
  | _, _ => False
def pRepT : P2 := fun x y Q => match x, y with
  | .tup a, .int k => a ≠ [] ∧ 0 ≤ k ∧ k ≤ 1000 ∧ a.length ≤ 1000 ∧ Q (.val (.tup (List.replicate k.toNat a).flatten))
  | _, _ => False
/-- an operation that gives a tuple, new or one that was there: told by what is tracked -/
def OpT (K : PySem.W.Frag) (F H H' : Hp) (v : V) (ds : List D) : Prop := ∃ a xs, v = .ref a ∧ SqT K H' a xs ∧ DdL K F xs ds
/-- operands that are tracked tuples: none of them written in the text -/
def uOpT (p : D → D → (D → Prop) → Prop) (ua ub : UE) : UE := fun ρ Q => ua ρ fun x ρ1 => ub ρ1 fun y ρ2 => match ck ρ2 (sf x), ck ρ2 (sf y) with
  | some dx, some dy => p dx dy fun z => Q (.val z) ρ2
  | _, _ => False
theorem ck_tup {H0 F0 H F : Hp} {γ0 γ : GAt} {σ : L2.St} {ρ : Rho} {v : V} {x : RV} {ds : List D} (r : Rp GP K H0 F0 γ0 γ σ H F ρ) (h : RVok K H0 γ0 γ σ H F ρ v x) (e : ck ρ x = some (.tup ds)) : ∃ a xs, v = .ref a ∧ F a = some (.tup xs) ∧ DdL K F xs ds := by
  rcases ck_ok r h e with h9 | ⟨a, _, h9⟩
  · cases h9 with
    | tup e9 g => exact ⟨_, _, rfl, e9, g⟩
  · cases h9
theorem ck_dd {H0 F0 H F : Hp} {γ0 γ : GAt} {σ : L2.St} {ρ : Rho} {v : V} {x : RV} {d : D} (r : Rp GP K H0 F0 γ0 γ σ H F ρ) (h : RVok K H0 γ0 γ σ H F ρ v x) (e : ck ρ x = some d) (f : flatD d = true) : Dd K F v d := by
  rcases ck_ok r h e with h | ⟨a, _, h⟩
  · exact h
  · cases h <;> cases f
theorem le_catT {ta tb : TE} {ua ub : UE} (ha : LE GP K B ta ua) (hb : LE GP K B tb ub) : LE GP K B (tOp (rCatA K) ta tb) (uOpT (fun x y Q => match x, y with
    | .tup a, .tup b => a.length + b.length ≤ sizeLine ∧ Q (.tup (a ++ b))
    | _, _ => False) ua ub) := by
  intro H0 F0 γ0 _ γ σ H F ρ R Q r z k
  refine ha _ _ r z fun H1 F1 γ1 ρ1 v x r1 s1 k1 u1 => ?_
  obtain ⟨F2, r2, s2, k2⟩ := sf_ok r1 k1
  refine hb _ _ r2 u1 fun H3 F3 γ3 ρ3 w y r3 s3 k3 u3 => ?_
  obtain ⟨F4, r4, s4, k4⟩ := sf_ok r3 k3
  dsimp only at u3
  split at u3
  · rename_i dx dy e1 e2
    split at u3
    · rename_i a b
      obtain ⟨p, xs, rfl, hp, gp⟩ := ck_tup r4 (((k2.same s3).same s4).one) e1
      obtain ⟨q, ys, rfl, hq, gq⟩ := ck_tup r4 k4.one e2
      have S := s1.trans (s2.trans (s3.trans s4))
      have hp' := r4.sub _ _ hp
      have hq' := r4.sub _ _ hq
      refine ⟨p, q, xs, ys, rfl, rfl, .inl (.inl hp'), .inl (.inl hq'), by rw [gp.length, gq.length]; exact u3.1, fun e => ?_, fun _ e => ?_, fun _ _ l nl => ?_⟩
      · subst e
        have ea : a = [] := by cases gp; rfl
        subst ea
        exact k _ _ _ _ _ (.val _) r4 S (.tup hq gq) u3.2
      · subst e
        have eb : b = [] := by cases gq; rfl
        subst eb
        have := u3.2
        rw [List.append_nil] at this
        exact k _ _ _ _ _ (.val _) r4 S (.tup hp gp) this
      · obtain ⟨F5, r5, s5, d5⟩ := new_tup r4 nl (gp.append gq)
        exact k _ _ _ _ _ (.val _) r5 (S.trans s5) d5 u3.2
    · exact u3.elim
  · exact u3.elim
theorem le_repT {ta tb : TE} {ua ub : UE} (ha : LE GP K B ta ua) (hb : LE GP K B tb ub) : LE GP K B (tOp (rRepA K) ta tb) (uOpT (fun x y Q => match x, y with
    | .tup a, .int k => a ≠ [] ∧ 0 ≤ k ∧ k ≤ 1000 ∧ a.length ≤ 1000 ∧ Q (.tup (List.replicate k.toNat a).flatten)
    | _, _ => False) ua ub) := by
  intro H0 F0 γ0 _ γ σ H F ρ R Q r z k
  refine ha _ _ r z fun H1 F1 γ1 ρ1 v x r1 s1 k1 u1 => ?_
  obtain ⟨F2, r2, s2, k2⟩ := sf_ok r1 k1
  refine hb _ _ r2 u1 fun H3 F3 γ3 ρ3 w y r3 s3 k3 u3 => ?_
  obtain ⟨F4, r4, s4, k4⟩ := sf_ok r3 k3
  dsimp only at u3
  split at u3
  · rename_i dx dy e1 e2
    split at u3
    · rename_i a n
      obtain ⟨p, xs, rfl, hp, gp⟩ := ck_tup r4 (((k2.same s3).same s4).one) e1
      have hw := ck_dd r4 k4.one e2 rfl
      cases hw
      obtain ⟨n1, n2, n3, n4, q⟩ := u3
      have S := s1.trans (s2.trans (s3.trans s4))
      have hp' := r4.sub _ _ hp
      obtain ⟨m, rfl⟩ : ∃ m : Nat, n = m := ⟨_, (Int.toNat_of_nonneg n2).symm⟩
      rw [Int.toNat_natCast] at q
      refine ⟨p, xs, m, rfl, rfl, .inl (.inl hp'), ?_, by omega, by rw [gp.length]; omega, fun e => ?_, fun _ l nl => ?_⟩
      · intro e
        subst e
        cases gp
        exact n1 rfl
      · subst e
        have := q
        rw [show (List.replicate 1 a).flatten = a by simp] at this
        exact k _ _ _ _ _ (.val _) r4 S (.tup hp gp) this
      · obtain ⟨F5, r5, s5, d5⟩ := new_tup r4 nl (rep_dd gp m)
        exact k _ _ _ _ _ (.val _) r5 (S.trans s5) d5 q
    · exact u3.elim
  · exact u3.elim
/-- t[i:j] -/
def uSlT (a : UE) (l h : UO) : UE := fun ρ Q => a ρ fun x ρ1 => l ρ1 fun i ρ2 => h ρ2 fun j ρ3 => match ck ρ3 (sf x) with
  | some (.tup ds) => Q (.val (.tup (cutD ds i j))) ρ3
  | _ => False
theorem cutD_all {ds : List D} {i j : Option Int} (h : HT.sIx ds.length 0 i = 0 ∧ HT.sIx ds.length ds.length j = ds.length) : cutD ds i j = ds := by
  unfold cutD
  rw [h.1, h.2, List.drop_zero, Nat.sub_zero, List.take_length]
theorem le_slT {te : TE} {tl th : TO} {ue : UE} {ul uh : UO} (he : LE GP K B te ue) (hl : LO GP K B tl ul) (hh : LO GP K B th uh) : LE GP K B (tSl (rSlA K) te tl th) (uSlT ue ul uh) := by
  intro H0 F0 γ0 _ γ σ H F ρ R Q r z k
  refine he _ _ r z fun H1 F1 γ1 ρ1 v x r1 s1 k1 u1 => ?_
  obtain ⟨F2, r2, s2, k2⟩ := sf_ok r1 k1
  refine hl _ _ r2 u1 fun H3 F3 γ3 ρ3 i r3 s3 u3 => ?_
  refine hh _ _ r3 u3 fun H4 F4 γ4 ρ4 j r4 s4 u4 => ?_
  split at u4
  · rename_i ds e
    obtain ⟨p, xs, rfl, hp, gp⟩ := ck_tup r4 (((k2.same s3).same s4).one) e
    have S := s1.trans (s2.trans (s3.trans s4))
    refine ⟨p, xs, rfl, .inl (.inl (r4.sub _ _ hp)), fun e => ?_, fun _ l nl => ?_⟩
    · rw [gp.length] at e
      rw [cutD_all e] at u4
      exact k _ _ _ _ _ (.val _) r4 S (.tup hp gp) u4
    · obtain ⟨F5, r5, s5, d5⟩ := new_tup r4 nl (cutV_dd i j gp)
      exact k _ _ _ _ _ (.val _) r5 (S.trans s5) d5 u4
  · exact u4.elim
/-! ### lists -/
def uRevL (a : UE) : UE := fun ρ Q => a ρ fun x ρ1 => match cn ρ1 x with
  | some (.list ds) => Q (.fr (.list ds.reverse)) ρ1
  | _ => False
theorem le_revL {te : TE} {ue : UE} (he : LE GP K B te ue) : LE GP K B (tRevL K te) (uRevL ue) := by
  intro H0 F0 γ0 _ γ σ H F ρ R Q r z k
  refine he _ _ r z fun H1 F1 γ1 ρ1 v x r1 s1 k1 u1 => ?_
  split at u1
  · rename_i ds e
    obtain ⟨a, xs, rfl, hx, g⟩ := (RVok.cnt r1 k1 e).list r1.sub
    exact ⟨a, xs, rfl, .inl (.inl hx), fun p np => k _ _ _ _ _ (.fr _) (r1.same (same_upd np)) s1 (fr_new r1 np (.lst upd_same g.reverse)) u1⟩
  · exact u1.elim
/-- list(range(..)) -/
def uLstRg1 (a : UE) : UE := fun ρ Q => a ρ fun x ρ1 => match cn ρ1 x with
  | some (.int n) => RgOk 0 n ∧ Q (.fr (.list (rgD 0 n.toNat))) ρ1
  | _ => False
def uLstRg2 (a b : UE) : UE := fun ρ Q => a ρ fun x ρ1 => b ρ1 fun y ρ2 => match cn ρ2 (sf x), cn ρ2 y with
  | some (.int i), some (.int j) => RgOk i j ∧ Q (.fr (.list (rgD i (j - i).toNat))) ρ2
  | _, _ => False
theorem rg_dd {F : Hp} (a b : Int) : DdL K F (rgV a b) (rgD a (b - a).toNat) := by
  unfold rgV rgD
  generalize List.range (b - a).toNat = l
  induction l with
  | nil => exact .nil
  | cons i r ih => exact .cons (.int _) ih
theorem le_lstRg1 {ta : TE} {ua : UE} (ha : LE GP K B ta ua) : LE GP K B (tLstRg (tRg1 ta)) (uLstRg1 ua) := by
  intro H0 F0 γ0 _ γ σ H F ρ R Q r z k
  refine ha _ _ r z fun H1 F1 γ1 ρ1 v x r1 s1 k1 u1 => ?_
  split at u1
  · rename_i n e
    refine ⟨n, (RVok.cnt r1 k1 e).int, u1.1, fun p np => ?_⟩
    have g := rg_dd (K := K) (F := F1) 0 n
    rw [Int.sub_zero] at g
    exact k _ _ _ _ _ (.fr _) (r1.same (same_upd np)) s1 (fr_new r1 np (.lst upd_same g)) u1.2
  · exact u1.elim
theorem le_lstRg2 {ta tb : TE} {ua ub : UE} (ha : LE GP K B ta ua) (hb : LE GP K B tb ub) : LE GP K B (tLstRg (tRg2 ta tb)) (uLstRg2 ua ub) := by
  intro H0 F0 γ0 _ γ σ H F ρ R Q r z k
  refine ha _ _ r z fun H1 F1 γ1 ρ1 v x r1 s1 k1 u1 => ?_
  obtain ⟨F2, r2, s2, k2⟩ := sf_ok r1 k1
  refine hb _ _ r2 u1 fun H3 F3 γ3 ρ3 w y r3 s3 k3 u3 => ?_
  split at u3
  · rename_i i j e1 e2
    exact ⟨i, j, (RVok.cnt r3 (k2.same s3).one e1).int, (RVok.cnt r3 k3 e2).int, u3.1, fun p np => k _ _ _ _ _ (.fr _) (r3.same (same_upd np)) (s1.trans (s2.trans s3)) (fr_new r3 np (.lst upd_same (rg_dd i j))) u3.2⟩
  · exact u3.elim
/-! ### more built-ins -/
def pLenD : PN := fun ds Q => match ds with
  | [.dk kvs] => Q (.val (.int kvs.length))
  | _ => False
theorem lb_lenD : LB K (fun xs H Q => ∃ a kvs, xs = [V.ref a] ∧ H a = some (.dK kvs) ∧ Q (.int kvs.length) H) pLenD := by
  intro F H vs ds R Q s c p h
  unfold pLenD at p
  split at p
  · obtain ⟨v, rfl, k⟩ := cl1 c
    obtain ⟨a, kvs, rfl, hx, g⟩ := k.dk s
    exact ⟨a, kvs, rfl, hx, by rw [g.length]; exact h _ _ (.val _) (Same.refl _) (Dd.int _) p⟩
  · exact p.elim
def pMaxT : PN := fun ds Q => match ds with
  | [.tup xs] => ∃ (n : Int) (ns : List Int), xs = (n :: ns).map D.int ∧ Q (.val (.int (ns.foldl max n)))
  | _ => False
theorem lb_maxT : LB K (rMaxT K) pMaxT := by
  intro F H vs ds R Q s c p h
  unfold pMaxT at p
  split at p
  · obtain ⟨n, ns, rfl, p⟩ := p
    obtain ⟨v, rfl, k⟩ := cl1 c
    obtain ⟨a, xs, rfl, hx, g⟩ := k.tup s
    rw [g.ints] at hx
    exact ⟨a, n, ns, rfl, hx, h _ _ (.val _) (Same.refl _) (Dd.int _) p⟩
  · exact p.elim
/-- max(xs, default=d), min(..) -/
def uMaxD (a d : UA) : UE := fun ρ Q => a ρ fun xs ρ1 => d ρ1 fun ys ρ2 => match cns ρ2 xs, cns ρ2 ys with
  | some [.list ds], some [.int e] => ∃ ns : List Int, ds = ns.map D.int ∧ Q (.val (.int ((maxO ns).getD e))) ρ2
  | _, _ => False
/-- min(xs, default=None) -/
def oD2 : Option Int → D
  | none => .non
  | some i => .int i
def uMinD (a d : UA) : UE := fun ρ Q => a ρ fun xs ρ1 => d ρ1 fun ys ρ2 => match cns ρ2 xs, cns ρ2 ys with
  | some [.list ds], some [.non] => ∃ ns : List Int, ds = ns.map D.int ∧ Q (.val (oD2 (leastO ns))) ρ2
  | _, _ => False
def tBK (r : List V → List V → Hp → VK → Prop) (t tk : TA) : TE := fun σ H Q => t σ H fun vs H1 => tk σ H1 fun zs H2 => r vs zs H2 Q
/-- x, y = e1, e2 -/
def uPar (i j : Nat) (a b : UE) : US := fun Q ρ => a ρ fun x ρ1 => match x with
  | .fr d => b ρ1 fun y ρ2 => (match y with
    | .fr e => Q.nx ((ρ2.set i (some (.own d))).set j (some (.own e)))
    | y => fz y ρ2 fun dy ρ3 => Q.nx ((ρ3.set i (some (.own d))).set j (some (.val dy))))
  | x => fz x ρ1 fun d ρ1' => b ρ1' fun y ρ2 => (match y with
    | .fr e => Q.nx ((ρ2.set i (some (.val d))).set j (some (.own e)))
    | y => fz y ρ2 fun dy ρ3 => Q.nx ((ρ3.set i (some (.val d))).set j (some (.val dy))))
theorem ownAt_set {σ : L2.St} {ρ : Rho} {i j : Nat} {w : V} {s : SV} {b : Addr} (h : OwnAt (σ.set i (some w)) (ρ.set i (some s)) b j) (hl : σ.length = ρ.length) : (j = i ∧ w = .ref b ∧ ∃ e, s = .own e) ∨ OwnAt σ ρ b j := by
  obtain ⟨⟨e, he⟩, h2⟩ := h
  by_cases c : j = i
  · subst c
    obtain ⟨h3, h4⟩ := set_at he
    refine .inl ⟨rfl, ?_, e, by injection h3⟩
    rw [List.getElem?_set_self (by rw [hl]; exact h4)] at h2
    injection h2 with h2
    injection h2
  · rw [set_none c] at he h2
    exact .inr ⟨⟨e, he⟩, h2⟩
theorem ls_par {i j : Nat} {ta tb : TE} {ua ub : UE} (ha : LE GP K B ta ua) (hb : LE GP K B tb ub) : LS GP K B (tPar i j (tCons ta (tCons tb tNil))) (uPar i j ua ub) := by
  intro H0 F0 γ0 _ γ σ H F ρ E Q r z n bk ct rt
  refine ha _ _ r z fun H1 F1 γ1 ρ1 v x r1 s1 k1 u1 => ?_
  have other : ∀ {x : RV}, RVok K H0 γ0 γ1 σ H1 F1 ρ1 v x → (fz x ρ1 fun d ρ1' => ub ρ1' fun y ρ2 => (match y with
    | .fr e => Q.nx ((ρ2.set i (some (.val d))).set j (some (.own e)))
    | y => fz y ρ2 fun dy ρ3 => Q.nx ((ρ3.set i (some (.val d))).set j (some (.val dy))))) → tCons tb tNil σ H1 fun xs H2 => ∃ v' w, v :: xs = [v', w] ∧ E.nx ((σ.set i (some v')).set j (some w)) H2 := by
    intro x k1 u1
    obtain ⟨F2, ρ2, d, r2, s2, d2, q2⟩ := fz_ok r1 k1 u1
    refine hb _ _ r2 q2 fun H3 F3 γ3 ρ3 w y r3 s3 k3 u3 => ?_
    refine ⟨v, w, rfl, ?_⟩
    have via : ∀ {y : RV}, RVok K H0 γ0 γ3 σ H3 F3 ρ3 w y → (fz y ρ3 fun dy ρ3 => Q.nx ((ρ3.set i (some (.val d))).set j (some (.val dy)))) → E.nx ((σ.set i (some v)).set j (some w)) H3 := by
      intro y k3 u3
      obtain ⟨F4, ρ4, dy, r4, s4, d4, q4⟩ := fz_ok r3 k3 u3
      exact n _ _ _ _ _ ((r4.setVal i (d2.same (s3.trans s4))).setVal j d4) q4
    cases y with
    | val d' => exact via k3 u3
    | kon d' => exact via k3 u3
    | sl l => exact via k3 u3
    | fr e =>
      obtain ⟨b, rfl, o, h1, h2, h3, h4⟩ := k3
      exact n _ _ _ _ _ ((r3.setVal i (d2.same s3)).setOwn j o h1 h2 h3 (fun l hl => by
        rcases ownAt_set hl r3.len with ⟨_, _, e, he⟩ | hl
        · cases he
        · exact h4 l hl)) u3
  cases x with
  | val d' => exact other k1 u1
  | kon d' => exact other k1 u1
  | sl l => exact other k1 u1
  | fr d =>
    obtain ⟨a, rfl, o, h1, h2, h3, h4⟩ := k1
    obtain ⟨ob, hob⟩ := o.there
    have nt : ∀ xs, ob ≠ .tup xs := fun xs e => o.nt (by rw [hob, e])
    have nga := r1.nga h2
    have f0a : F0 a = none := Same.free r1.f0 h1
    haveI : FinerC GP K B (upd H0 a ob) F0 γ0 := ⟨fun r => FinerC.fin (r.letgo h2 f0a nga nt).1, FinerC.g (GP := GP) (K := K) H0 F0⟩
    refine hb _ _ (r1.hold hob h1 h2 h3 h4) u1 fun H3 F3 γ3 ρ3 w y r3 s3 k3 u3 => ?_
    refine ⟨_, w, rfl, ?_⟩
    have own2 : ∀ {F4 H4}, Same F1 F4 → H4 a = some ob → Own K F4 H4 a d := fun s e => o.move s (e.trans hob.symm)
    have via : ∀ {y : RV}, RVok K (upd H0 a ob) γ0 γ3 σ H3 F3 ρ3 w y → (fz y ρ3 fun dy ρ3 => Q.nx ((ρ3.set i (some (.own d))).set j (some (.val dy)))) → E.nx ((σ.set i (some (.ref a))).set j (some w)) H3 := by
      intro y k3 u3
      obtain ⟨F4, ρ4, dy, r4, s4, d4, q4⟩ := fz_ok r3 k3 u3
      obtain ⟨rg, e1, e2, e3, e4⟩ := r4.letgo h2 f0a nga nt
      exact n _ _ _ _ _ ((rg.setOwn i (own2 (s3.trans s4) e1) e2 h2 e3 e4).setVal j d4) q4
    cases y with
    | val d' => exact via k3 u3
    | kon d' => exact via k3 u3
    | sl l => exact via k3 u3
    | fr e =>
      obtain ⟨b, rfl, o', b1, b2, b3, b4⟩ := k3
      obtain ⟨rg, e1, e2, e3, e4⟩ := r3.letgo h2 f0a nga nt
      have nab : b ≠ a := fun x => by rw [x, upd_same] at b2; cases b2
      rw [upd_ne nab] at b2
      exact n _ _ _ _ _ ((rg.setOwn i (own2 s3 e1) e2 h2 e3 e4).setOwn j o' b1 b2 b3 (fun l hl => by
        rcases ownAt_set hl rg.len with ⟨_, e, _⟩ | hl
        · injection e with e
          exact nab e.symm
        · exact b4 l hl)) u3
/-! ### truth of a value -/
def trD : D → Option Bool
  | .non => some false
  | .bl b => some b
  | .int i => some (i != 0)
  | .list ds => some (!ds.isEmpty)
  | .tup ds => some (!ds.isEmpty)
  | _ => none
def uTruth (u : UE) : UT := fun ρ Q => u ρ fun x ρ1 => match cn ρ1 x with
  | some d => match trD d with
    | some b => Q b ρ1
    | none => False
  | none => False
theorem empty_dd {F : Hp} {xs : List V} {ds : List D} (g : DdL K F xs ds) : xs.isEmpty = ds.isEmpty := by cases g <;> rfl
theorem lt_truth {t : TE} {u : UE} (h : LE GP K B t u) : LT GP K B (fun σ H Q => t σ H fun x H' => ∃ k, TruV K x H' k ∧ Q k H') (uTruth u) := by
  intro H0 F0 γ0 _ γ σ H F ρ R Q r z k
  refine h _ _ r z fun H1 F1 γ1 ρ1 v x r1 s1 k1 u1 => ?_
  split at u1
  · rename_i d e
    have c := RVok.cnt r1 k1 e
    split at u1
    · rename_i b eb
      refine ⟨b, ?_, k _ _ _ _ _ r1 s1 u1⟩
      cases d with
      | non => rw [c.non]; cases eb; rfl
      | bl b' => rw [c.bl]; cases eb; rfl
      | int i => rw [c.int]; cases eb; rfl
      | list ds =>
        obtain ⟨a, xs, rfl, hx, g⟩ := c.list r1.sub
        cases eb
        exact .inl ⟨xs, .inl (.inl hx), by rw [empty_dd g]⟩
      | tup ds =>
        obtain ⟨a, xs, rfl, hx, g⟩ := c.tup r1.sub
        cases eb
        exact .inr (.inl ⟨xs, hx, by rw [empty_dd g]⟩)
      | _ => cases eb
    · exact u1.elim
  · exact u1.elim
/-! ### isinstance of ints, bools, tuples, texts -/
def tyD : D → String
  | .non => "NoneType"
  | .bl _ => "bool"
  | .int _ => "int"
  | .str _ => "str"
  | .list _ => "list"
  | .tup _ => "tuple"
  | .dk _ => "dict"
  | .dt _ => "dict"
  | .set _ => "set"
  | .scr _ => "list"
  | .fn _ => "function"
/-- a built-in class -/
def uTyK (n : String) (k : Option Bool → Option Bool) : UE := fun _ _ => False
/-! ### a def without arguments -/
section
variable {X : Cx} {k : Nat} {sp : Sp} {x : Str} {p pos : Pos}
theorem pe_calG0 (C : CalG X.prog X.w X.K X.mg X.base k x [] sp) (hgd : X.A.guards = some []) (hr : Room k X.A) (hg : Gl X x) (hdb : (x == ("__debug__" : Str)) = false := by decide) : PE X (.Call (.Name x p) [] [] pos) (tCall sp [] E0 tNil) := by
  obtain ⟨f, fd, G, m, kp, b⟩ := C
  refine ⟨fun pins s σ H Q I h => wpAny_Call_Name_kw (ld_glob I hg m ?_ hdb)⟩
  have h' : sp [] H Q E0 := h
  have hbb := b s [] I.kIn rfl
  refine PySem.W.callWith_K0 I.kIn kp (wpAny_call (codeAny_mono (G.run X.A X.stack s H ⟨[], []⟩ [] [] Q E0 hgd hr I.env0 (by simpa using hbb) .nil h') fun r s' hq => ?_))
  match r, hq with
  | .error _, hq => exact False.elim hq
  | .ok (.ret u), hq => exact I.after hq
  | .ok .next, hq => exact False.elim hq
  | .ok .brk, hq => exact False.elim hq
  | .ok .cont, hq => exact False.elim hq
end
/-- an old promise as one of the new kind -/
theorem toG {P : Program} {w : World} {mg : Str → Option Value} {base : Heap} {k : Nat} {x : Str} {ps : List Str} {sp sp' : Sp} (C : Cal P w K mg base k x ps sp) (h : ∀ vs H Q E, sp' vs H Q E → sp vs H Q E) : CalG P w K mg base k x ps sp' := by
  obtain ⟨f, fd, F, r⟩ := C
  exact ⟨f, fd, ⟨fun vs H Q E q => F.len vs H Q E (h _ _ _ _ q), fun A outer s H args us vs Q E _ hr e0 hb hv q => F.run A outer s H args us vs Q E hr e0 hb hv (h _ _ _ _ q)⟩, r⟩
end DL
/-! lifted readings 8: defs that raise; what may come out of a call; raise -/
namespace DL
open PySem PySem.Spec PyProof.Rows L2 CD
/-! ### a def that may raise, asked where nothing is under repr -/
structure GX (P : Program) (w : World) (K : PySem.W.Frag) (mg : Str → Option Value) (base : Heap) (k : Nat) (f : Addr) (fd : FuncData) (ps : List Str) (sp : Sp) : Prop where
  len : ∀ vs H Q E, sp vs H Q E → vs.length = ps.length
  run : ∀ (A : Around) (outer : List PySem.Env) (s : Shared) (H : Hp) (args : Args) (us : List Value) (vs : List V) (Q : VK) (E : XK), A.guards = some [] → Room k A → Env0 P w K mg base A outer s H → BindsTo s fd args (ps.zip us) → Vals vs us → sp vs H Q E →
    codeAny (model P w) A (.call (.ref f) args) (CR (L2.CX P w) outer P w H s Q E) s
def CalX (P : Program) (w : World) (K : PySem.W.Frag) (mg : Str → Option Value) (base : Heap) (k : Nat) (x : Str) (ps : List Str) (sp : Sp) : Prop :=
  ∃ f fd, GX P w K mg base k f fd ps sp ∧ mg x = some (.ref f) ∧ PySem.W.keepIn K (.ref f) = true ∧ Binds K fd ps []
section
variable {P : Program} {w : World} {K : PySem.W.Frag} {mg : Str → Option Value} {base : Heap}
theorem gx_ok {x qual : Str} {st : Stmt} {f : Addr} {fd : FuncData} {N ps : List Str} {k : Nat} {sp : Sp} (F : Fun K x qual st f fd) (S : FnScope N ps (defScope st)) (len : ∀ vs H Q E, sp vs H Q E → vs.length = ps.length)
    (body : ∀ (cdv : Value) (A : Around) (outer : List PySem.Env) (s : Shared) (H : Hp) (vs : List V) (Q : VK) (E : XK), A.guards = some [] → Room k (A.deeper (envOfC qual (defScope st) s.heap.objs.size f cdv)) → sp vs H Q E →
      ∃ t, PSs (cxOf (L2.CX P w) P w K mg base N qual (defScope st) f cdv A outer s H E) (defBody st) t ∧ t { nx := fun _ H' => Q .non H', rt := Q } (start N vs) H) : GX P w K mg base (k + 1) f fd ps sp := by
  obtain ⟨oc, od, kV, doc, pm, an, cdv, ct, osl, rfl, lk, hcd⟩ := F.ex
  refine ⟨len, fun A outer s H args us vs Q E hg hr e0 hb r hsp => ?_⟩
  have keepB : ∀ b o, base.get? b = some o → s.heap.get? b = some o := fun b o e => (e0.bs b o e).1
  refine codeAny_call_function hr.depth ((e0.mod.kin.keeps keepB) _ _ lk) rfl S.co S.gen rfl (PySem.W.codeRec_of (e0.mod.kin.keeps keepB) hcd) (hb _ _ _ _ ?_)
  refine wpAny_newFunctionEnv_cells S.kind (fun y hy => ?_) fun env he s1 x1 => ?_
  · rcases S.par y.1 (List.of_mem_zip hy).1 with q | q
    · exact .inl q
    · exact .inr ⟨q, PySem.W.cellsFrom_some _ _ _ (.inl q)⟩
  subst he
  refine ⟨(e0.mod.nolimit.keeps keepB).keeps x1.toInCall.keep, codeAny_func ?_⟩
  obtain ⟨t, ht, hq⟩ := body cdv A outer s H vs Q E hg (hr.deeper _) hsp
  refine wpAny_mono (ht.run [] s1 (start N vs) H _ (inv_start S hr.hd e0 (len _ _ _ _ hsp) r x1) hq) (fun fl s' hs => ?_) fun e s' hs => hs
  match fl, hs with
  | .ret u, ⟨v, σ', H', J, rv, q⟩ => exact ⟨v, H', J.os, J.bare, J.base, J.hok, rv, q⟩
  | .next, ⟨σ', H', J, q⟩ => exact ⟨V.non, H', J.os, J.bare, J.base, J.hok, rfl, q⟩
  | .brk, ⟨_, _, _, q⟩ => exact False.elim q
  | .cont, ⟨_, _, _, q⟩ => exact False.elim q
variable {x : Str} {st : Stmt} {N ps : List Str} {k : Nat} {sp : Sp}
theorem _root_.CD.Def.calX (D : Def K mg x st ps) (S : FnScope N ps (defScope st)) (len : ∀ vs H Q E, sp vs H Q E → vs.length = ps.length)
    (body : ∀ (f : Addr) (cdv : Value) (A : Around) (outer : List PySem.Env) (s : Shared) (H : Hp) (vs : List V) (Q : VK) (E : XK), A.guards = some [] → Room k (A.deeper (envOfC x (defScope st) s.heap.objs.size f cdv)) → sp vs H Q E →
      ∃ t, PSs (cxOf (L2.CX P w) P w K mg base N x (defScope st) f cdv A outer s H E) (defBody st) t ∧ t { nx := fun _ H' => Q .non H', rt := Q } (start N vs) H) : CalX P w K mg base (k + 1) x ps sp := by
  obtain ⟨f, fd, F, m, b⟩ := D
  exact ⟨f, fd, gx_ok F S len fun cdv A outer s H vs Q E => body f cdv A outer s H vs Q E, m, F.kp, b⟩
end
section
variable {X : Cx} {k : Nat} {ps : List Str} {sp : Sp} {x : Str} {p pos : Pos} {e : Expr} {es : List Expr} {t : TA} {E : L2.St → XK}
theorem pe_calX (C : CalX X.prog X.w X.K X.mg X.base k x ps sp) (hgd : X.A.guards = some []) (hr : Room k X.A) (hx : ∀ σ, PassesAt (L2.CX X.prog X.w) X σ (E σ)) (hg : Gl X x) (ha : PA X (e :: es) t) (hdb : (x == ("__debug__" : Str)) = false := by decide)
    (he : starEach (e :: es) X.env = (false, eval e X.env) :: starEach es X.env := by rfl) (hpl : (backTo pos (starEach es X.env)).any (·.1) = false := by rfl) : PE X (.Call (.Name x p) (e :: es) [] pos) (tCallS sp E t) := by
  obtain ⟨f, fd, G, hm, hk, hb⟩ := C
  refine ⟨fun pins s σ H Q I h => wpAny_Call_Name_kw (ld_glob I hg hm ?_ hdb)⟩
  refine PySem.W.callWith_K (h₀ := X.base) I.ok.mod.kin hk (thn (ha.run pos pins s σ H _ I h) fun us s1 ⟨vs, H1, I1, r, q⟩ => ⟨I1.kIn, ?_⟩) he hpl
  have hl : us.length = ps.length := by rw [← r.length]; exact G.len _ _ _ _ q
  have b := hb s1 us I1.kIn (by rw [List.append_nil]; exact hl)
  rw [List.append_nil] at b
  refine wpAny_call (codeAny_mono (G.run X.A X.stack s1 H1 ⟨us, []⟩ us vs Q (E σ) hgd hr I1.env0 b r q) fun r s' hq => ?_)
  match r, hq with
  | .error e, hq => exact hx σ pins H1 s1 e s' I1 hq
  | .ok (.ret u), hq => exact I1.after hq
  | .ok .next, hq => exact False.elim hq
  | .ok .brk, hq => exact False.elim hq
  | .ok .cont, hq => exact False.elim hq
end
/-! ### errors as data -/
/-- an error: its class's name, and its one field if it has one -/
abbrev EX := Str × Option (Str × D)
abbrev QX := EX → Option Nat → Prop
def ExD (K : PySem.W.Frag) (F : Hp) : Option Addr → Option (Str × D) → Prop
  | none, none => True
  | some a, some (f, x) => ∃ v, F a = some (.xd [(f, v)]) ∧ Dd K F v x
  | _, _ => False
def flatX : Option (Str × D) → Bool
  | none => true
  | some (_, x) => flatD x
section
variable {GP : GenP} {K : PySem.W.Frag} {mg : Str → Option Value} {B : Hp × Hp × GAt}
/-- no error is let out -/
def noX : EX → Rho → Prop := fun _ _ => False
theorem ExD.same {F F' : Hp} {d : Option Addr} {x : Option (Str × D)} (s : Same F F') (h : ExD K F d x) : ExD K F' d x := by
  cases d with
  | none => cases x with
    | none => trivial
    | some y => exact h
  | some a => cases x with
    | none => exact h
    | some y => obtain ⟨v, h1, h2⟩ := h; exact ⟨v, s _ _ h1, h2.same s⟩
/-- what is wished of an error, told over data -/
def WOk (GP : GenP) (K : PySem.W.Frag) (mg : Str → Option Value) (B : Hp × Hp × GAt) (W : WX) (QE : EX → Rho → Prop) : Prop :=
  ∀ (γ : GAt) (σ : L2.St) (H F : Hp) (ρ : Rho) (nm : Str) (C : Addr) (d : Option Addr) (x : Option (Str × D)), Rp GP K B.1 B.2.1 B.2.2 γ σ H F ρ → ExD K F d x → mg nm = some (.ref C) → QE (nm, x) ρ → W (.ref C) d σ H
theorem wok_no {W : WX} : WOk GP K mg B W noX := fun _ _ _ _ _ _ _ _ _ _ _ _ h => h.elim
abbrev WDX := List SV → QD → QX → Prop
def spX (GP : GenP) (K : PySem.W.Frag) (mg : Str → Option Value) (n : Nat) (W : WDX) : Sp := fun vs H R E => ∃ (F : Hp) (γ : GAt) (as : List SV) (Q : QD) (QE : QX), Same F H ∧ ArgsOk GP K F H γ vs as ∧ (hasG as = γ.isSome) ∧ oneG as = true ∧ as.length = n ∧
  (∀ p, γ = some p → F p.1 = none ∧ F p.2.1 = none) ∧ W as Q QE ∧
  (∀ v H' F' γ' d m, (∀ a o, H a = some o → ¬ GA γ a → H' a = some o) → (∀ a o, H a = some o → ∃ u, H' a = some u) → Same F F' → Same F' H' → (∀ a o, F' a = some o → F a = some o ∨ H a = none ∨ ∃ xs, o = .tup xs) → Dd K F' v d →
    GenAfter GP H H' F' γ γ' m → Q d m → R v H') ∧
  (∀ nm C e x H' F' γ' m, (∀ a o, H a = some o → ¬ GA γ a → H' a = some o) → (∀ a o, H a = some o → ∃ u, H' a = some u) → Same F F' → Same F' H' → (∀ a o, F' a = some o → F a = some o ∨ H a = none ∨ ∃ xs, o = .tup xs) → ExD K F' e x → mg nm = some (.ref C) →
    GenAfter GP H H' F' γ γ' m → QE (nm, x) m → E (.ref C) e H')
theorem spX_len {n : Nat} {W : WDX} {vs : List V} {H : Hp} {Q : VK} {E : XK} (h : spX GP K mg n W vs H Q E) : vs.length = n := by
  obtain ⟨F, γ, as, Q, QE, _, h2, _, _, h5, _⟩ := h
  rw [h2.length, h5]
def uCallX (n : Nat) (W : WDX) (QE : EX → Rho → Prop) (ua : UA) : UE := fun ρ Q => ua ρ fun xs ρ1 => argsK xs ρ1 fun as ρb => as.length = n ∧ oneG as = true ∧
  W as (fun d m => if flatD d = true then Q (.val d) (setG m ρ1) else Q (.val d) (setG m ρb)) (fun x m => QE x (setG m ρb))
theorem le_callX {n : Nat} {Wd : WDX} {W : WX} {QE : EX → Rho → Prop} {t : TA} {u : UA} (hW : WOk GP K mg B W QE) (ha : LA GP K B t u) : LE GP K B (tCallS (spX GP K mg n Wd) (WE W) t) (uCallX n Wd QE u) := by
  intro H0 F0 γ0 _ γ σ H F ρ R Q r0 u0 h
  refine ha _ _ r0 u0 fun H1 F1 γ1 ρ1 vs xs r1 s1 k1 u1 => ?_
  obtain ⟨F2, ρb, as, r2, s2, a2, ⟨hl, ho, hWd⟩, gg⟩ := argsK_ok r1 k1 u1
  show spX GP K mg n Wd vs H1 R (WE W σ)
  have fin : ∀ (γc : GAt), (γc = none ∨ γc = γ1) → ∀ v H' F' γ' d m, (∀ a o, H1 a = some o → ¬ GA γc a → H' a = some o) → (∀ a o, H1 a = some o → ∃ u, H' a = some u) → Same F2 F' → Same F' H' → (∀ a o, F' a = some o → F2 a = some o ∨ H1 a = none ∨ ∃ xs, o = .tup xs) → Dd K F' v d →
      GenAfter GP H1 H' F' γc γ' m → (if flatD d = true then Q (.val d) (setG m ρ1) else Q (.val d) (setG m ρb)) → R v H' := by
    intro γc hc v H' F' γ' d m kp tr s3 sub fnew dd ga q
    by_cases f : flatD d = true
    · rw [if_pos f] at q
      have subF : Same F1 H' := (s2.trans s3).trans sub
      obtain ⟨γ2, r3⟩ := r1.after (F' := F1) hc kp tr (Same.refl _) subF (fun a o h => .inl h) ga (.inl rfl)
      exact h _ _ _ _ _ (.val _) r3 s1 (dd.flat f) q
    · rw [if_neg f] at q
      obtain ⟨γ2, r3⟩ := r2.after (F' := F') hc kp tr s3 sub fnew ga (.inr rfl)
      exact h _ _ _ _ _ (.val _) r3 (s1.trans (s2.trans s3)) dd q
  have finX : ∀ (γc : GAt), (γc = none ∨ γc = γ1) → ∀ nm C e x H' F' γ' m, (∀ a o, H1 a = some o → ¬ GA γc a → H' a = some o) → (∀ a o, H1 a = some o → ∃ u, H' a = some u) → Same F2 F' → Same F' H' → (∀ a o, F' a = some o → F2 a = some o ∨ H1 a = none ∨ ∃ xs, o = .tup xs) → ExD K F' e x → mg nm = some (.ref C) →
      GenAfter GP H1 H' F' γc γ' m → QE (nm, x) (setG m ρb) → W (.ref C) e σ H' := by
    intro γc hc nm C e x H' F' γ' m kp tr s3 sub fnew dd hm ga q
    obtain ⟨γ2, r3⟩ := r2.after (F' := F') hc kp tr s3 sub fnew ga (.inr rfl)
    exact hW _ _ _ _ _ _ _ _ _ (FinerC.fin r3) dd hm q
  by_cases c : hasG as = true
  · obtain ⟨p, hp⟩ := hasG_gen a2 c
    exact ⟨F2, γ1, as, _, _, r2.sub, a2, by rw [c, hp]; rfl, ho, hl, r2.gf, hWd, fin γ1 (.inr rfl), finX γ1 (.inr rfl)⟩
  · have c' : hasG as = false := by simpa using c
    exact ⟨F2, none, as, _, _, r2.sub, noGen_args a2 c', by rw [c']; rfl, ho, hl, fun p hp => (by cases hp), hWd, fin none (.inl rfl), finX none (.inl rfl)⟩
/-! ### a def's body -/
def outX (b : Bool) (Q : QX) (x : EX) (ρ : Rho) : Prop := if b = true then (match gN ρ with
  | some k => Q x (some k)
  | none => False) else Q x none
def WofX (n : Nat) (u : (EX → Rho → Prop) → US) : WDX := fun as Q QE => u (outX (hasG as) QE) { nx := fun ρ => outQ (hasG as) Q .non ρ, rt := fun d ρ => outQ (hasG as) Q d ρ } (start0 n as)
section
variable {P : Program} {w : World} {base : Heap} {x : Str} {st : Stmt} {N ps : List Str} {k : Nat}
theorem outX_ok {H H' F F' : Hp} {γ γ' : GAt} {σ' : L2.St} {ρ' : Rho} {as : List SV} {QE : QX} {e : Option Addr} {nm : Str} {C : Addr} {xx : Option (Str × D)} {E : XK} (hg : hasG as = γ.isSome) (r : Rp GP K H F γ γ' σ' H' F' ρ') (dd : ExD K F' e xx) (o : outX (hasG as) QE (nm, xx) ρ') (hm : mg nm = some (.ref C))
    (q : ∀ nm C e x H' F' γ' m, (∀ a o, H a = some o → ¬ GA γ a → H' a = some o) → (∀ a o, H a = some o → ∃ u, H' a = some u) → Same F F' → Same F' H' → (∀ a o, F' a = some o → F a = some o ∨ H a = none ∨ ∃ xs, o = .tup xs) → ExD K F' e x → mg nm = some (.ref C) →
      GenAfter GP H H' F' γ γ' m → QE (nm, x) m → E (.ref C) e H') : E (.ref C) e H' := by
  unfold outX at o
  cases e1 : γ with
  | none =>
    rw [e1] at hg
    rw [hg] at o
    exact q nm C e xx H' F' γ' none r.keep r.tr r.f0 r.sub r.fnew dd hm e1 o
  | some p =>
    rw [e1] at hg
    have hg' : hasG as = true := hg
    rw [hg', if_pos rfl] at o
    cases g : gN ρ' with
    | none => rw [g] at o; exact o.elim
    | some m =>
      rw [g] at o
      obtain ⟨i, hi⟩ := gN_at g
      obtain ⟨p', h1, h2, h3, h4⟩ := r.gen i m hi
      obtain ⟨q', g1, g2, g3, g4⟩ := r.g0 p e1
      rw [h1] at g1
      cases g1
      obtain ⟨f1, f2⟩ := r.gf p' h1
      exact q nm C e xx H' F' γ' (some m) r.keep r.tr r.f0 r.sub r.fnew dd hm ⟨p, p', e1, h1, g2, g3, g4, h3, f1, f2⟩ o
theorem _root_.CD.Def.calDX (D : Def K mg x st ps) (S : FnScope N ps (defScope st)) (u : (EX → Rho → Prop) → US)
    (body : ∀ (f : Addr) (cdv : Value) (A : Around) (outer : List PySem.Env) (s : Shared) (H : Hp) (E : XK), A.guards = some [] → Room k (A.deeper (envOfC x (defScope st) s.heap.objs.size f cdv)) →
      ∃ t, PSs (cxOf (L2.CX P w) P w K mg base N x (defScope st) f cdv A outer s H E) (defBody st) t ∧ ∀ B QE, WOk GP K mg B (fun cls d _ H => E cls d H) QE → LS GP K B t (u QE)) : CalX P w K mg base (k + 1) x ps (spX GP K mg ps.length (WofX N.length u)) := by
  refine D.calX S (fun vs H Q E h => spX_len h) fun f cdv A outer s H vs Q E hgd hr h => ?_
  obtain ⟨t, ht, hl⟩ := body f cdv A outer s H E hgd hr
  refine ⟨t, ht, ?_⟩
  obtain ⟨F, γ, as, Qd, QE, h1, h2, h3, h4, h5, h6, h7, h8, h9⟩ := h
  have hn : vs.length ≤ N.length := by
    have := congrArg List.length S.pre
    rw [List.length_take] at this
    rw [h2.length, h5]
    omega
  have r := start_rp (N := N) h1 h2 h3 h4 h6 hn
  haveI : FinerC GP K (H, F, γ) H F γ := ⟨id, rfl⟩
  refine hl (H, F, γ) (outX (hasG as) QE) (fun γ' σ' H' F' ρ' nm C d xx r' dd hm q' => ?_) _ _ r h7 (fun σ' H' F' γ' ρ' r' q' => ?_) (fun _ _ _ _ _ _ q' => q'.elim) (fun _ _ _ _ _ _ q' => q'.elim) (fun σ' v H' F' γ' ρ' d r' dd q' => ?_)
  · exact outX_ok h3 r' dd q' hm fun nm C e x H' F' γ' m a1 a2 a3 a4 a5 a6 a7 a8 a9 => h9 nm C e x H' F' _ m a1 a2 a3 a4 a5 a6 a7 a8 a9
  · exact out_ok h3 r' Dd.non q' fun v H' F' γ' d m a1 a2 a3 a4 a5 a6 a7 a8 => h8 v H' F' _ d m a1 a2 a3 a4 a5 a6 a7 a8
  · exact out_ok h3 r' dd q' fun v H' F' γ' d m a1 a2 a3 a4 a5 a6 a7 a8 => h8 v H' F' _ d m a1 a2 a3 a4 a5 a6 a7 a8
/-- less asked -/
theorem CalX.impD {n : Nat} {W W' : WDX} (C : CalX P w K mg base k x ps (spX GP K mg n W)) (h : ∀ as Q QE, W' as Q QE → W as Q QE) : CalX P w K mg base k x ps (spX GP K mg n W') := by
  obtain ⟨f, fd, G, r⟩ := C
  refine ⟨f, fd, ⟨fun vs H Q E q => ?_, fun A outer s H args us vs Q E hg hr e0 hb r q => ?_⟩, r⟩
  · obtain ⟨F, γ, as, Qd, QE, h1, h2, h3, h4, h5, h6, h7, h8⟩ := q
    exact G.len vs H Q E ⟨F, γ, as, Qd, QE, h1, h2, h3, h4, h5, h6, h _ _ _ h7, h8⟩
  · obtain ⟨F, γ, as, Qd, QE, h1, h2, h3, h4, h5, h6, h7, h8⟩ := q
    exact G.run A outer s H args us vs Q E hg hr e0 hb r ⟨F, γ, as, Qd, QE, h1, h2, h3, h4, h5, h6, h _ _ _ h7, h8⟩
end
end
end DL
/-! lifted readings 9: errors made and raised -/
namespace DL
open PySem PySem.Spec PyProof.Rows L2 CD
/-! ### an own error without a field of its own: its __init__ tells its base alone -/
section
variable {X : Cx}
/-- one new object less on both sides -/
theorem un_less {fs : List Addr} {H1 H2 : Hp} {h h1 h2 G : Heap} {a : Addr} {o : HO} (n : H1 a = none) (off : ∀ b ob, h.get? b = some ob → b ≠ a) (more : ∀ b ob, h.get? b = some ob → h1.get? b = some ob) (u : Un fs [] (upd H1 a o) H2 h1 h2)
    (g : ∀ b, b ≠ a → G.get? b = h2.get? b) : Un fs [] H1 (del H2 a) h G := by
  have z1 : ∀ b ob, h.get? b = some ob → H1 b = none → upd H1 a o b = none := fun b ob e z => (upd_ne (off b ob e)).trans z
  have z2 : ∀ b t, H1 b = some t → upd H1 a o b = some t ∧ del H2 a b = H2 b := fun b t e => ⟨(upd_ne (ne_of_none e n)).trans e, del_ne (ne_of_none e n)⟩
  constructor
  · exact fun b ob e z f x => (g b (off b ob e)).trans (u.keep b ob (more b ob e) (z1 b ob e z) f x)
  · intro b ob e z f x
    obtain ⟨sl, q⟩ := u.slot b ob (more b ob e) (z1 b ob e z) f x
    exact ⟨sl, (g b (off b ob e)).trans q⟩
  · exact fun b ob e z x => (del_ne (off b ob e)).trans (u.free b ob (more b ob e) (z1 b ob e z) x)
  · intro b ob e x
    obtain ⟨o', q⟩ := u.there b ob (more b ob e) x
    exact ⟨o', (g b (off b ob e)).trans q⟩
  · exact fun b xs e => (z2 b _ e).2.trans (u.tups b xs (z2 b _ e).1)
  · exact fun b ob v e => (z2 b _ e).2.trans (u.frzs b ob v (z2 b _ e).1)
  · intro b ps e
    obtain ⟨m, q⟩ := u.tbls b ps (z2 b _ e).1
    exact ⟨m, (z2 b _ e).2.trans q⟩
/-- an error's object is taken out of what is tracked -/
theorem hok_less {P : Program} {w : World} {H : Hp} {h G : Heap} {a C : Addr} {d : Option Addr} (ok : HOk P w H h) (e : H a = some (exo a C d)) (g : ∀ b, b ≠ a → G.get? b = h.get? b) : HOk P w (del H a) G := by
  intro b o z
  have nb : b ≠ a := by
    rintro rfl
    rw [del_same] at z
    cases z
  have own : ∀ c, H c = some (.own b) → c ≠ a := fun c hc => at_ne e hc exo_own
  refine (ok b o ((del_ne nb).symm.trans z)).stay (fun c v hc y => (g c ?_).trans y) (fun c hc => (del_ne (own c hc)).trans hc) (fun c xs hc => (del_ne (at_ne e hc exo_tup)).trans hc)
  rcases hc with rfl | hc
  · exact nb
  · exact own c hc
def tMkO0 (C : Addr) (sp : Sp) (ta : TA) : L2.St → Hp → XK → Prop := fun σ H Q => ta σ H fun vs H1 => vs.length ≤ 1000 ∧ ∀ a, H1 a = none → sp (.ref a :: vs) (upd H1 a (exo a C none))
  (fun v H2 => v = .non ∧ H2 a = some (exo a C none) ∧ Q (.ref C) none (del H2 a)) (fun _ _ _ => False)
theorem pmk_oex0 {CX : CXT} {x : Str} {C fI : Addr} {k : Nat} {fd : FuncData} {ps : List Str} {sp : Sp} {e : Expr} {es : List Expr} {ta : TA} {p pos : Pos} (T : OexC X.K C) (iC : PySem.W.findIn X.K (.ref C) "__init__" = some (some (.ref fI))) (tI : PySem.W.typeIn X.K (.ref fI) = some (.type "function"))
    (F1 : FnOk X.prog X.w X.K X.mg X.base CX k fI fd ps sp) (hr : Room (k + 1) X.A) (hb : Binds X.K fd ps []) (hx : Passes CX X (fun _ _ _ => False)) (hg : Gl X x) (hm : X.mg x = some (.ref C)) (ha : PA X (e :: es) ta)
    (hdb : (x == ("__debug__" : Str)) = false := by decide) (he : starEach (e :: es) X.env = (false, eval e X.env) :: starEach es X.env := by rfl) (hpl : (backTo pos (starEach es X.env)).any (·.1) = false := by rfl) :
    PMk X (.Call (.Name x p) (e :: es) [] pos) (tMkO0 C sp ta) := by
  intro pins s σ H Q I h
  refine wpAny_Call_Name_kw (ld_glob I hg hm ?_ hdb)
  refine PySem.W.callWith_K (h₀ := X.base) I.ok.mod.kin T.kC (thn (ha.run pos pins s σ H _ I h) fun us s1 ⟨vs, H1, I1, rel, hz, asked⟩ => ⟨I1.kIn, ?_⟩) he hpl
  obtain ⟨nm, q, N, bs, bm, sn, sub, ab, col, dd, k0, k1, k2, k3, k5, hC, hbm⟩ := T.cls
  obtain ⟨h1, g1, d1, t1, o1⟩ := s1
  have le : h1.objs.size ≤ h1.objs.size + 1 := Nat.le_succ _
  have new := I1.hok.fresh le
  have asked := asked _ new
  have more : ∀ b o, h1.get? b = some o → ((h1.push (PySem.W.kdv_tup us)).push (PySem.HandSPX.excO C h1.objs.size)).get? b = some o := fun b o e => Heap.get?_push_of_some _ (Heap.get?_push_of_some _ e)
  have made := I1.laid (t' := t1) (a := h1.objs.size + 1) (o := exo (h1.objs.size + 1) C none) more le (exo_ok (by heap_get))
  have len : (Value.ref (h1.objs.size + 1) :: us).length = ps.length := by rw [List.length_cons, ← Paired.length rel, ← F1.len _ _ _ _ asked, List.length_cons]
  have few : us.length ≤ sizeLine := by rw [← Paired.length rel, sizeLine_eq]; omega
  have bound := hb _ (Value.ref (h1.objs.size + 1) :: us) made.kIn (by rw [List.append_nil]; exact len)
  rw [List.append_nil] at bound
  have rel2 : Vals (V.ref (h1.objs.size + 1) :: vs) (Value.ref (h1.objs.size + 1) :: us) := .cons rfl rel
  have ran := F1.run _ X.stack _ _ ⟨Value.ref (h1.objs.size + 1) :: us, []⟩ _ _ _ (fun _ _ _ => False) (hr.make C us []) (made.env0.make C us []) bound rel2 asked
  refine wpAny_call (PySem.HandSPX.call_own F.excBase_ValueError (fun _ => PySem.HandSPX.refsVE_contains _ bm hbm) (I1.kIn _ _ hC) (PySem.W.looks_findIn I1.kIn iC) (fun self => PySem.W.bind_fn I1.kIn self tI) few (codeAny_mono ran fun r s' z => ?_))
  match r, z with
  | .error er, z => exact hx pins σ _ _ er s' made z
  | .ok .next, z => exact z.elim
  | .ok .brk, z => exact z.elim
  | .ok .cont, z => exact z.elim
  | .ok (.ret u), ⟨v, H2, os, bare, un, ok, rv, ev, ea, last⟩ =>
    subst ev
    obtain ⟨t0, obj⟩ := exo_at ok ea
    obtain ⟨G, there, gone⟩ := restrict s'.heap fun b => decide (b ≠ h1.objs.size + 1)
    have as : ∀ b, b ≠ h1.objs.size + 1 → G.get? b = s'.heap.get? b := fun b z => there b (by simpa using z)
    have J : Inv X pins σ (del H2 (h1.objs.size + 1)) ⟨G, s'.gens, s'.drawn, s'.toks, s'.os⟩ := I1.call' (ch := []) os (un_less new (fun b ob e => Nat.ne_of_lt (Nat.lt_succ_of_lt (Heap.lt_size e))) more un as) (hok_less ok ea as) bare (fun b z => by cases z)
    have off := gone (h1.objs.size + 1) (by simp)
    refine ⟨rv, h1.objs.size + 1, _, _, ⟨G, s'.gens, s'.drawn, s'.toks, s'.os⟩, _, .ref C, none, rfl, J, fun b o z => ?_, off, obj, ⟨rfl, rfl⟩, rfl, rfl, del_same, rfl, bare, raises_own T.exC T.tyC, last⟩
    by_cases c : b = h1.objs.size + 1
    · subst c
      have z' : G.get? (h1.objs.size + 1) = some o := z
      rw [off] at z'
      cases z'
    · exact (as b c).symm.trans z
end
end DL
/-! lifted readings 10: try whose clauses may bear names or not -/
namespace DL
open PySem PySem.Spec PyProof.Rows L2 CD
/-- a clause: what it names, its own name's slot if it has one, its suite -/
structure ClM where
  c : Value
  slot : Option Nat
  ts : Addr → Value → Option Addr → TS
/-- behind a suite its name holds nothing -/
def ends0 (i : Nat) (D : Ends) : Ends := { nx := fun τ J => D.nx (τ.set i none) J, rt := D.rt, bk := fun τ J => D.bk (τ.set i none) J, ct := fun τ J => D.ct (τ.set i none) J }
def wSuite (i : Option Nat) (ts : Addr → Value → Option Addr → TS) (D : Ends) (a : Addr) (cls : Value) (d : Option Addr) (σ : L2.St) (H : Hp) : Prop := match i with
  | none => ts a cls d D σ H
  | some i => ts a cls d (ends0 i D) (σ.set i (some (.ref a))) H
def wM (K : PySem.W.Frag) (Wout : WX) (D : Ends) : List ClM → WX
  | [] => Wout
  | c :: r => fun cls d σ H => ∃ b, PySem.W.exmOne K cls c.c = some b ∧ (b = true → ∀ a, H a = none → wSuite c.slot c.ts D a cls d σ H) ∧ (b = false → wM K Wout D r cls d σ H)
/-- a suite's reading, whatever error it is given -/
def SuiteOk (X : Cx) (b₀ : Stmt) (suite : List Stmt) (ts : Addr → Value → Option Addr → TS) : Prop :=
  ∀ (a : Addr) (oe : Obj) (cls : Value) (d : Option Addr) (pn : List (Addr × Obj)), Zc cls d oe → (∃ vs, oe.data = .fields vs) → PSs (X.suite a ((a, oe) :: pn)) (b₀ :: suite) (ts a cls d)
def NameOk (X : Cx) (i : Nat) (n : Str) : Prop := X.N.Nodup ∧ X.N[i]? = some n ∧ X.env.kindOf n = some .local
inductive HdsM (X : Cx) : List ExceptHandler → List ClM → Prop
  | nil : HdsM X [] []
  | cons {x : Str} {c : Value} {ts : Addr → Value → Option Addr → TS} {b₀ : Stmt} {suite : List Stmt} {p q : Pos} {hds : List ExceptHandler} {l : List ClM} : Names X x c → SuiteOk X b₀ suite ts → HdsM X hds l →
      HdsM X (.ExceptHandler (some (.Name x p)) none (b₀ :: suite) q :: hds) (⟨c, none, ts⟩ :: l)
  | consAs {x n : Str} {c : Value} {i : Nat} {ts : Addr → Value → Option Addr → TS} {b₀ : Stmt} {suite : List Stmt} {p q : Pos} {hds : List ExceptHandler} {l : List ClM} : NameOk X i n → Names X x c → SuiteOk X b₀ suite ts → HdsM X hds l →
      HdsM X (.ExceptHandler (some (.Name x p)) (some n) (b₀ :: suite) q :: hds) (⟨c, some i, ts⟩ :: l)
section
variable {X : Cx} {pins : List (Addr × Obj)} {σ : L2.St} {H : Hp} {a : Addr} {B : Heap} {cls : Value} {d : Option Addr} {s : Shared}
/-- an error that this frame has in its hand; whatever happens to the traces, the rest stands -/
structure Hand (X : Cx) (pins : List (Addr × Obj)) (σ : L2.St) (H : Hp) (a : Addr) (B : Heap) (cls : Value) (d : Option Addr) (s : Shared) : Prop where
  ok : X.Ok
  fly : HandSPX.FlyingZ B (X.env :: X.outer) a (Zc cls d) s.heap
  inv : ∀ h, HandSPX.FlyingZ B (X.env :: X.outer) a (Zc cls d) h → s.heap.UpToSlots h → Inv X pins σ H { s with heap := h }
  gone : H a = none
  fr : X.env.frame = some X.env.locals
  /-- it goes on from here -/
  out : ∀ h, HandSPX.HeldZ B (X.env :: X.outer) a (Zc cls d) X.env.locals h → s.heap.UpToSlots h → ∀ W : WX, Takes X W → W cls d σ H → X.xe (.ref a) { s with heap := h }
theorem Hand.self (h : Hand X pins σ H a B cls d s) : Inv X pins σ H s := h.inv s.heap h.fly (Heap.UpToSlots.refl _)
theorem Hand.notFrame (h : Hand X pins σ H a B cls d s) {g : Heap} {o : Obj} {vs : Array Value} (fl : HandSPX.FlyingZ B (X.env :: X.outer) a (Zc cls d) g) (e : g.get? a = some o) (hd : o.data = .fields vs) : a ≠ X.env.locals ∧ a ∉ X.fs := by
  have no : a ∉ frs (X.env :: X.outer) := fun hm => by
    obtain ⟨_, o2, e2, nf⟩ := fl.2.2.1.mem hm
    exact nf vs (by rw [← Option.some.inj (e.symm.trans e2)]; exact hd)
  constructor
  · rintro rfl
    exact no (List.mem_filterMap.mpr ⟨_, List.mem_cons_self, h.fr⟩)
  · intro hm
    obtain ⟨e1, h1, h2⟩ := List.mem_filterMap.mp hm
    exact no (List.mem_filterMap.mpr ⟨e1, List.mem_cons_of_mem _ h1, h2⟩)
/-- the suite's frame of mind -/
theorem Hand.suite (h : Hand X pins σ H a B cls d s) {g : Heap} (fl : HandSPX.FlyingZ B (X.env :: X.outer) a (Zc cls d) g) (up : s.heap.UpToSlots g) :
    ∃ oe, g.get? a = some oe ∧ Zc cls d oe ∧ (∃ vs, oe.data = .fields vs) ∧ Inv (X.suite a ((a, oe) :: (X.pn ++ pins))) [] σ H { s with heap := g } := by
  obtain ⟨oe, vs, h1, h2, h3⟩ := fl.there
  obtain ⟨n1, n2⟩ := h.notFrame fl h1 h3
  exact ⟨oe, h1, h2, ⟨vs, h3⟩, (h.inv g fl up).suite h1 h3 h.gone n1 n2⟩
/-- what a clause names is looked at -/
theorem Hand.asks {x : Str} {p q : Pos} {c : Value} {b : Bool} {R : Result → Shared → Prop} (h : Hand X pins σ H a B cls d s) (hc : Names X x c) (e : PySem.W.exmOne X.K cls c = some b) (k : R (.ok (if b then .brk else .next)) s) :
    codeAny (model X.prog X.w) (X.A.mark (some (.ref a))) (.handlers (.ref a) [.ExceptHandler (some (.Name x p)) none [] q] X.env) R s := by
  obtain ⟨oe, h1, h2, _, S⟩ := h.suite h.fly (Heap.UpToSlots.refl _)
  have ty : PySem.W.Looks (model X.prog X.w) s.heap (typeOf (.ref a)) cls := fun _ _ _ _ st z => wpAny_typeOf_ref (st _ _ h1) (h2.1 ▸ z)
  have asks := PySem.W.exm_one (M := model X.prog X.w) h.self.kIn ty e
  refine codeAny_handlers_test ?_
  obtain ⟨c1, c2, c3⟩ := hc
  rcases c3 with c3 | ⟨c3, c4, c5⟩
  · exact ld_glob S c1 c3 (asks.here k) c2
  · exact ld_blt S c1 c3 c4 (asks.here k) c5 c2
/-- a clause without a name -/
theorem Hand.runs {b₀ : Stmt} {suite : List Stmt} {ts : Addr → Value → Option Addr → TS} {q : Pos} {D : Ends} (h : Hand X pins σ H a B cls d s) (hs : SuiteOk X b₀ suite ts) (w : ts a cls d D σ H) :
    codeAny (model X.prog X.w) (X.A.mark (some (.ref a))) (.handlers (.ref a) [.ExceptHandler none none (b₀ :: suite) q] X.env) (fun r s' => match r with
      | .ok f => SP X pins D f s'
      | .error _ => False) s := by
  refine codeAny_handlers_suite (HandSPX.lands_againZ h.fly fun g fl up => ?_)
  obtain ⟨oe, _, h2, h3, S⟩ := h.suite fl up
  refine wpAny_mono ((hs a oe cls d _ h2 h3).run [] _ σ H D S w) (fun f s6 z => ?_) (fun _ _ z => z.elim)
  cases f with
  | next => exact let ⟨_, _, z1, z2⟩ := z; ⟨_, _, z1.unsuite h.ok, z2⟩
  | brk => exact let ⟨_, _, z1, z2⟩ := z; ⟨_, _, z1.unsuite h.ok, z2⟩
  | cont => exact let ⟨_, _, z1, z2⟩ := z; ⟨_, _, z1.unsuite h.ok, z2⟩
  | ret u => exact let ⟨_, _, _, z1, z2, z3⟩ := z; ⟨_, _, _, z1.unsuite h.ok, z2, z3⟩
/-- a clause with a name -/
theorem Hand.runsAs {b₀ : Stmt} {suite : List Stmt} {ts : Addr → Value → Option Addr → TS} {q : Pos} {D : Ends} {i : Nat} {n : Str} {R : Result → Shared → Prop} (h : Hand X pins σ H a B cls d s) (hn : NameOk X i n) (hs : SuiteOk X b₀ suite ts) (w : ts a cls d (ends0 i D) (σ.set i (some (.ref a))) H)
    (k : ∀ f s6, (∀ Q : Shared → Prop, (∀ s7, SP X pins D f s7 → Q s7) → wpAny (model X.prog X.w) X.A (do bindName X.env n .none; unbindBehindTheSuite X.env n q) (fun _ s7 => Q s7) X.xe s6) → R (.ok f) s6) :
    codeAny (model X.prog X.w) (X.A.mark (some (.ref a))) (.handlers (.ref a) [.ExceptHandler none (some n) (b₀ :: suite) q] X.env) R s := by
  obtain ⟨n1, n2, n3⟩ := hn
  refine codeAny_handlers_suite_as (HandSPX.lands_againZ h.fly fun g fl up => ?_)
  obtain ⟨oe, _, h2, h3, S⟩ := h.suite fl up
  refine store_ok (X := X.suite a ((a, oe) :: (X.pn ++ pins))) (v := .ref a) S n1 n2 (.inl n3) rfl (fun s5 S5 => ?_) (.inr n3)
  refine wpAny_mono ((hs a oe cls d _ h2 h3).run [] s5 _ H _ S5 w) (fun f s6 z => k f s6 fun Q hQ => ?_) (fun _ _ z => z.elim)
  have unbound : ∀ {τ : L2.St} {J : Hp}, Inv (X.suite a ((a, oe) :: (X.pn ++ pins))) [] τ J s6 → (∀ s7, Inv X pins (τ.set i none) J s7 → Q s7) → wpAny (model X.prog X.w) X.A (do bindName X.env n .none; unbindBehindTheSuite X.env n q) (fun _ s7 => Q s7) X.xe s6 :=
    fun z q => gone_ok (z.unsuite h.ok) n1 n2 n3 q
  cases f with
  | next => exact let ⟨_, _, z1, z2⟩ := z; unbound z1 fun s7 y => hQ s7 ⟨_, _, y, z2⟩
  | brk => exact let ⟨_, _, z1, z2⟩ := z; unbound z1 fun s7 y => hQ s7 ⟨_, _, y, z2⟩
  | cont => exact let ⟨_, _, z1, z2⟩ := z; unbound z1 fun s7 y => hQ s7 ⟨_, _, y, z2⟩
  | ret u => exact let ⟨_, _, _, z1, z2, z3⟩ := z; unbound z1 fun s7 y => hQ s7 ⟨_, _, _, y, z2, z3⟩
/-- no clause is left -/
theorem Hand.leaves {Wout : WX} {P : Flow → Shared → Prop} (h : Hand X pins σ H a B cls d s) (tk : Takes X Wout) (w : Wout cls d σ H) : wpAny (model X.prog X.w) X.A (handleBy (.ref a) X.env []) P X.xe s := by
  obtain ⟨oe, vs, T, oT, ts, e1, e2, e3, e4, e5⟩ := h.fly.2.2.2
  have up : wpAny (model X.prog X.w) X.A (setFlight (.ref a) X.env.frame) (fun _ s4 => wpAny (model X.prog X.w) X.A (throw (.ref a) : Sem Flow) P X.xe s4) X.xe s := by
    rw [h.fr]
    exact HandSPX.setFlight_upZ h.fly fun g hg ug => wpAny_throw (h.out g hg ug Wout tk w)
  refine wpAny_handleBy_nil ?_
  unfold PySem.passOn
  refine wpAny_bind (wpAny_field e1 e3 e4 ?_)
  rw [if_neg (by simp)]
  first
    | exact wpAny_bind (wpAny_pure (wpAny_bind up))
    | exact wpAny_bind up
/-- the clauses, one after the other -/
theorem Hand.all {Wout : WX} {D : Ends} (h : Hand X pins σ H a B cls d s) (tk : Takes X Wout) : ∀ {hds : List ExceptHandler} {l : List ClM}, HdsM X hds l → wM X.K Wout D l cls d σ H → wpAny (model X.prog X.w) X.A (handleBy (.ref a) X.env hds) (SP X pins D) X.xe s := by
  intro hds l hk
  induction hk with
  | nil => exact fun w => h.leaves tk w
  | cons hc hs _ ih =>
    rintro ⟨b, e, y, n⟩
    refine wpAny_handleBy_cons (h.asks hc e ?_) (fun q => nomatch q)
    cases b with
    | true =>
      refine codeAny_mono (h.runs hs (y rfl a h.gone)) fun r s' z => ?_
      cases r with
      | ok f => exact z
      | error _ => exact z.elim
    | false => exact ih (n rfl)
  | consAs hn hc hs _ ih =>
    rintro ⟨b, e, y, n⟩
    refine wpAny_handleBy_cons (h.asks hc e ?_) (fun q => nomatch q)
    cases b with
    | true => exact h.runsAs hn hs (y rfl a h.gone) fun f s6 z => z _ fun _ y => y
    | false => exact ih (n rfl)
/-- an error out of the body comes into this frame's hand -/
theorem hand_of {l : List ClM} {Wout : WX} {D : Ends} {h₀ : ExceptHandler} {hds : List ExceptHandler} {xe : Value → Shared → Prop} {u : Value} (ok : X.Ok) (hs : X.stack = X.env :: X.outer) (hf : X.env.frame = some X.env.locals) (tk : Takes X Wout) (hh : HdsM X (h₀ :: hds) l)
    (x : XE (X.tr (X.pn ++ pins) xe) (wM X.K Wout D l) u s) :
    wpAny (model X.prog X.w) X.A (noteFrame u X.env) (fun _ s₂ => wpAny (model X.prog X.w) X.A (setFlight u none) (fun _ s₃ => wpAny (model X.prog X.w) X.A (handleBy u X.env (h₀ :: hds)) (SP X pins D) X.xe s₃) X.xe s₂) X.xe s := by
  obtain ⟨a, B, sI, pins2, σ, H, cls, d, rfl, J, nb, up, sky, na, os, ag, w⟩ := x
  have I : Inv X pins σ H sI := J.ofTry ok
  have fr : X.A.frames = some (X.env :: X.outer) := ok.frames.trans (congrArg some hs)
  refine Sky.land Zc.steady fr hf (hs ▸ sky) fun g fl up2 => ?_
  have lands : ∀ h, HandSPX.FlyingZ B (X.env :: X.outer) a (Zc cls d) h → g.UpToSlots h → Inv X pins σ H { s with heap := h } := fun h f u => I.landed nb f.1 ((up.trans up2).trans u) os ag
  have hand : Hand X pins σ H a B cls d { s with heap := g } := ⟨ok, fl, lands, na, hf, fun h hh u W t w => t _ _ ⟨a, B, sI, pins, σ, H, cls, d, rfl, I, nb, (up.trans up2).trans u, .inr (.inr (hs ▸ hh)), na, os, ag, w⟩⟩
  exact hand.all tk hh w
theorem ps_tryM {body : List Stmt} {h₀ : ExceptHandler} {hds : List ExceptHandler} {l : List ClM} {pos : Pos} {tb : WX → TS} {Wout : WX} (hs : X.stack = X.env :: X.outer) (hf : X.env.frame = some X.env.locals) (tk : Takes X Wout)
    (hb : ∀ (W : WX) (pn : List (Addr × Obj)) (xe : Value → Shared → Prop), Takes (X.tr pn xe) W → PassesOwn (model X.prog X.w) X.A X.env xe → PSs (X.tr pn xe) body (tb W)) (hh : HdsM X (h₀ :: hds) l) :
    PS X (.Try body (h₀ :: hds) [] [] pos) (fun D σ H => tb (wM X.K Wout D l) D σ H) := by
  refine ⟨fun pins s σ H D I w => wpAny_Try_except ?_⟩
  have run := (hb (wM X.K Wout D l) (X.pn ++ pins) _ (fun u s' x => hand_of I.ok hs hf tk hh x) PassesOwn.looking).run [] s σ H D (I.toTry _) w
  refine wpAny_mono run (fun f s1 z => ?_) fun _ _ z => z
  cases f with
  | next => exact let ⟨_, _, z1, z2⟩ := z; wpAny_execs_nil ⟨_, _, z1.ofTry I.ok, z2⟩
  | brk => exact let ⟨_, _, z1, z2⟩ := z; ⟨_, _, z1.ofTry I.ok, z2⟩
  | cont => exact let ⟨_, _, z1, z2⟩ := z; ⟨_, _, z1.ofTry I.ok, z2⟩
  | ret u => exact let ⟨_, _, _, z1, z2, z3⟩ := z; ⟨_, _, _, z1.ofTry I.ok, z2, z3⟩
end
end DL
/-! lifted readings 11: raise and try over data -/
namespace DL
open PySem PySem.Spec PyProof.Rows L2 CD
/-! ### __init__ of an own error -/
def spIn1 (K : PySem.W.Frag) (f : Str) : Sp := fun vs H R _ => ∃ (a C : Addr) (v : V), vs = [.ref a, v] ∧ OexC K C ∧ PySem.W.findIn K (.ref C) f = some none ∧ H a = some (exo a C none) ∧
  ∀ d, H d = none → d ≠ a → R .non (upd (upd H d (exd d [(f, v)])) a (exo a C (some d)))
def spIn0 (K : PySem.W.Frag) : Sp := fun vs H R _ => ∃ (a C : Addr) (v : V), vs = [.ref a, v] ∧ OexC K C ∧ H a = some (exo a C none) ∧ R .non H
def tIn0 (K : PySem.W.Frag) : TS := tSeq (tDrop (tVeI K (tCons (tVar 0) (tCons (tVar 1) tNil)))) tNext
def tIn1 (K : PySem.W.Frag) (f : Str) : TS := tSeq (tDrop (tVeI K (tCons (tVar 0) (tCons (tVar 1) tNil)))) (tSeq (tOst K f (tVar 0) (tVar 1)) tNext)
theorem in1_pure {K : PySem.W.Frag} {f : Str} {N : List Str} {vs : List V} {H : Hp} {Q : VK} {E : XK} (hN : N.length = 2) (h : spIn1 K f vs H Q E) : tIn1 K f { nx := fun _ H' => Q .non H', rt := Q } (L2.start N vs) H := by
  obtain ⟨a, C, v, rfl, h1, h2, h3, h4⟩ := h
  have e : L2.start N [V.ref a, v] = [some (.ref a), some v] := by
    unfold L2.start
    rw [hN]
    rfl
  rw [e]
  refine ⟨_, rfl, _, rfl, a, C, [v], rfl, by simp, h1, h3, ?_⟩
  exact ⟨_, rfl, _, rfl, a, C, rfl, h1, h2, .inl ⟨h3, fun d n ne => h4 d n ne⟩⟩
theorem in0_pure {K : PySem.W.Frag} {N : List Str} {vs : List V} {H : Hp} {Q : VK} {E : XK} (hN : N.length = 2) (h : spIn0 K vs H Q E) : tIn0 K { nx := fun _ H' => Q .non H', rt := Q } (L2.start N vs) H := by
  obtain ⟨a, C, v, rfl, h1, h3, h4⟩ := h
  have e : L2.start N [V.ref a, v] = [some (.ref a), some v] := by
    unfold L2.start
    rw [hN]
    rfl
  rw [e]
  exact ⟨_, rfl, _, rfl, a, C, [v], rfl, by simp, h1, h3, h4⟩
/-- what is known of an own error's class -/
structure ErrC (P : Program) (w : World) (K : PySem.W.Frag) (mg : Str → Option Value) (base : Heap) (x : Str) (C : Addr) (f : Option Str) : Prop where
  m : mg x = some (.ref C)
  oex : OexC K C
  xf : XfC K C
  no : ∀ g, f = some g → PySem.W.findIn K (.ref C) g = some none
  init : ∃ (fI : Addr) (fd : FuncData) (ps : List Str), PySem.W.findIn K (.ref C) "__init__" = some (some (.ref fI)) ∧ PySem.W.typeIn K (.ref fI) = some (.type "function") ∧
    FnOk P w K mg base (L2.CX P w) 1 fI fd ps (match f with | some f => spIn1 K f | none => spIn0 K) ∧ Binds K fd ps []
/-- raise C(e) -/
def tRz (K : PySem.W.Frag) (W : WX) (C : Addr) : Option Str → TA → TS
  | some f, ta => fun _ σ H => tMkO C (spIn1 K f) [] ta σ H fun cls d H' => W cls d σ H'
  | none, ta => fun _ σ H => tMkO0 C (spIn0 K) ta σ H fun cls d H' => W cls d σ H'
section
variable {X : Cx} {x : Str} {C : Addr} {f : Option Str} {W : WX} {e : Expr} {ta : TA} {p pos pos2 : Pos}
theorem ps_raiseE (T : ErrC X.prog X.w X.K X.mg X.base x C f) (hc : X.calm = true) (tk : Takes X W) (hr : Room 2 X.A) (hg : Gl X x) (ha : PA X [e] ta) (hdb : (x == ("__debug__" : Str)) = false := by decide)
    (he : starEach (e :: []) X.env = (false, eval e X.env) :: starEach [] X.env := by rfl) (hpl : (backTo pos (starEach [] X.env)).any (·.1) = false := by rfl) : PS X (.Raise (some (.Call (.Name x p) [e] [] pos)) none pos2) (tRz X.K W C f ta) := by
  obtain ⟨fI, fd, ps, h1, h2, h3, h4⟩ := T.init
  cases f with
  | some f => exact ps_raise hc tk (pmk_oex T.oex h1 h2 h3 hr h4 .nil passL hg T.m ha hdb he hpl)
  | none => exact ps_raise hc tk (pmk_oex0 T.oex h1 h2 h3 hr h4 passL hg T.m ha hdb he hpl)
end
section
variable {GP : GenP} {K : PySem.W.Frag} {mg : Str → Option Value} {B : Hp × Hp × GAt}
theorem Rp.newAt {H0 F0 H F : Hp} {γ0 γ : GAt} {σ : L2.St} {ρ : Rho} {a : Addr} (r : Rp GP K H0 F0 γ0 γ σ H F ρ) (n : H a = none) : F a = none ∧ H0 a = none ∧ (¬ GA γ a) ∧ ∀ j, ¬ OwnAt σ ρ a j := by
  refine ⟨Same.free r.sub n, r.new0 n, fun ⟨p, hp, e⟩ => ?_, fun j ⟨⟨d, h1⟩, h2⟩ => ?_⟩
  · obtain ⟨o, u, h1, h2, _⟩ := r.gt p hp
    rcases e with rfl | rfl
    · rw [h1] at n; cases n
    · rw [h2] at n; cases n
  · obtain ⟨b, e1, e2, _⟩ := r.own j d h1
    rw [h2] at e1
    cases e1
    obtain ⟨o, ho⟩ := e2.there
    rw [ho] at n
    cases n
def uRaise (QE : EX → Rho → Prop) (x : Str) (f : Option Str) (ua : UA) : US := fun _ ρ => uA1 ua (fun d ρ1 => QE (x, f.map fun g => (g, d)) ρ1) ρ
theorem ls_raise {P : Program} {w : World} {base : Heap} {x : Str} {C : Addr} {f : Option Str} {W : WX} {QE : EX → Rho → Prop} {ta : TA} {ua : UA} (T : ErrC P w K mg base x C f) (hW : WOk GP K mg B W QE) (ha : LA GP K B ta ua) : LS GP K B (tRz K W C f ta) (uRaise QE x f ua) := by
  intro H0 F0 γ0 _ γ σ H F ρ E Q r z _ _ _ _
  cases f with
  | none =>
    refine a1_ok ha r z fun H1 F1 γ1 ρ1 v dd r1 s1 d1 q => ⟨by simp, fun a na => ⟨a, C, v, rfl, T.oex, upd_same, rfl, upd_same, ?_⟩⟩
    have e : del (upd H1 a (exo a C none)) a = H1 := by
      funext b
      by_cases c : b = a
      · subst c; rw [del_same, na]
      · rw [del_ne c, upd_ne c]
    rw [e]
    exact hW _ _ _ _ _ _ _ none none (FinerC.fin r1) trivial T.m q
  | some f =>
    refine a1_ok ha r z fun H1 F1 γ1 ρ1 v dd r1 s1 d1 q => ⟨by simp, fun a na => ⟨a, C, v, rfl, T.oex, T.no f rfl, upd_same, fun d nd ne => ?_⟩⟩
    have nd1 : H1 d = none := (upd_ne ne).symm.trans nd
    refine ⟨rfl, d, [(f, v)], upd_same, by rw [upd_ne ne, upd_same], nd1, ?_⟩
    have e : upd (del (upd (upd (upd H1 a (exo a C none)) d (exd d [(f, v)])) a (exo a C (some d))) a) d (.xd [(f, v)]) = upd H1 d (.xd [(f, v)]) := by
      funext b
      by_cases c : b = d
      · subst c; rw [upd_same, upd_same]
      · rw [upd_ne c, upd_ne c]
        by_cases c2 : b = a
        · subst c2; rw [del_same, na]
        · rw [del_ne c2, upd_ne c2, upd_ne c, upd_ne c2]
    rw [e]
    obtain ⟨n1, n2, n3, n4⟩ := r1.newAt nd1
    exact hW _ _ _ _ _ _ _ (some d) (some (f, dd)) (FinerC.fin ((r1.same (same_upd nd1)).freeze upd_same n1 n2 n3 n4)) ⟨v, upd_same, d1.same (same_upd n1)⟩ T.m q
/-! ### try -/
/-- a suite over data -/
def LSU (GP : GenP) (K : PySem.W.Frag) (mg : Str → Option Value) (B : Hp × Hp × GAt) (i : Option Nat) (ts : Addr → Value → Option Addr → TS) (u : EX → US) : Prop :=
  ∀ ⦃H0 F0 : Hp⦄ ⦃γ0 : GAt⦄ [FinerC GP K B H0 F0 γ0] ⦃γ : GAt⦄ ⦃σ : L2.St⦄ ⦃H F : Hp⦄ ⦃ρ : Rho⦄ ⦃a : Addr⦄ ⦃nm : Str⦄ ⦃C : Addr⦄ ⦃d : Option Addr⦄ ⦃x : Option (Str × D)⦄ (E : Ends) (Q : UEnds), Rp GP K H0 F0 γ0 γ σ H F ρ → ExD K F d x → mg nm = some (.ref C) → u (nm, x) Q ρ →
  (∀ σ' H' F' γ' ρ', Rp GP K H0 F0 γ0 γ' σ' H' F' ρ' → Q.nx ρ' → E.nx σ' H') → (∀ σ' H' F' γ' ρ', Rp GP K H0 F0 γ0 γ' σ' H' F' ρ' → Q.bk ρ' → E.bk σ' H') → (∀ σ' H' F' γ' ρ', Rp GP K H0 F0 γ0 γ' σ' H' F' ρ' → Q.ct ρ' → E.ct σ' H') →
  (∀ σ' v H' F' γ' ρ' d, Rp GP K H0 F0 γ0 γ' σ' H' F' ρ' → Dd K F' v d → Q.rt d ρ' → E.rt v H') → wSuite i ts E a (.ref C) d σ H
theorem lsu_plain {t : TS} {u : US} (h : LS GP K B t u) : LSU GP K mg B none (fun _ _ _ => t) (fun _ => u) := fun H0 F0 γ0 _ γ σ H F ρ a nm C d x E Q r _ _ z n b c t => h E Q r z n b c t
/-- a slot is told anew, of what is not ours -/
theorem Rp.blind {H0 F0 H F : Hp} {γ0 γ : GAt} {σ : L2.St} {ρ : Rho} (r : Rp GP K H0 F0 γ0 γ σ H F ρ) (i : Nat) (w : Option V) : Rp GP K H0 F0 γ0 γ (σ.set i w) H F (ρ.set i none) := by
  have q := r.disown i
  have off : ∀ {j : Nat} {y : SV}, (ρ.set i none)[j]? = some (some y) → j ≠ i := fun {j y} h e => by subst e; cases (set_at h).1
  refine ⟨q.f0, q.sub, q.keep, q.fnew, q.tr, by rw [List.length_set]; exact q.len, fun j d h => ?_, fun j d h => ?_, fun j n h => ?_, q.one, q.g0, q.g1, q.gt0, q.gt, q.gf⟩
  · obtain ⟨v, e1, e2⟩ := q.val j d h
    exact ⟨v, by rw [set_none (off h)]; exact e1, e2⟩
  · obtain ⟨b, e1, e2, e3, e4, e5, e6⟩ := q.own j d h
    refine ⟨b, by rw [set_none (off h)]; exact e1, e2, e3, e4, e5, fun l ⟨⟨e, hl⟩, h2⟩ => e6 l ⟨⟨e, hl⟩, ?_⟩⟩
    rw [set_none (off hl)] at h2
    exact h2
  · obtain ⟨p, e1, e2, e3, e4⟩ := q.gen j n h
    exact ⟨p, e1, by rw [set_none (off h)]; exact e2, e3, e4⟩
def uEnds0 (i : Nat) (Q : UEnds) : UEnds := { nx := fun ρ => Q.nx (ρ.set i none), rt := Q.rt, bk := fun ρ => Q.bk (ρ.set i none), ct := fun ρ => Q.ct (ρ.set i none) }
def uBlind (i : Nat) (u : US) : EX → US := fun _ Q ρ => u (uEnds0 i Q) (ρ.set i none)
/-- a named clause whose name is not read -/
theorem lsu_blind {i : Nat} {t : TS} {u : US} (h : LS GP K B t u) : LSU GP K mg B (some i) (fun _ _ _ => t) (uBlind i u) := fun H0 F0 γ0 _ γ σ H F ρ a nm C d x E Q r _ _ z n b c t =>
  h _ _ (r.blind i _) z (fun _ _ _ _ _ r' q' => n _ _ _ _ _ (r'.blind i none) q') (fun _ _ _ _ _ r' q' => b _ _ _ _ _ (r'.blind i none) q') (fun _ _ _ _ _ r' q' => c _ _ _ _ _ (r'.blind i none) q') t
def uFieldS (en f : Str) (i j : Nat) : EX → US := fun x Q ρ => i < ρ.length ∧ x.1 = en ∧ ∃ y, x.2 = some (f, y) ∧ Q.nx (((ρ.set i none).set j (some (.val y))).set i none)
def uFieldR (en f : Str) (i : Nat) : EX → US := fun x Q ρ => i < ρ.length ∧ x.1 = en ∧ ∃ y, x.2 = some (f, y) ∧ Q.rt y (ρ.set i none)
/-- x = e.f -/
theorem lsu_field {C : Addr} {en : Str} (hC : mg en = some (.ref C)) {f : Str} {i j : Nat} : LSU GP K mg B (some i) (fun a cls d => tAsg (tXf a cls d C f (tVar i)) (gName j)) (uFieldS en f i j) := by
  intro H0 F0 γ0 _ γ σ H F ρ a nm C2 d x E Q r ex hm ⟨hi, h1, y, h2, z⟩ n _ _ _
  cases d with
  | none => dsimp only at h2; subst h2; exact ex.elim
  | some d =>
    dsimp only at h1 h2
    subst h1 h2
    rw [hC] at hm
    cases hm
    obtain ⟨v, e1, e2⟩ := ex
    have r2 := ((r.blind i (some (.ref a))).setVal j e2).blind i none
    exact ⟨_, List.getElem?_set_self (by rw [r.len]; exact hi), rfl, rfl, d, _, v, rfl, r.sub _ _ e1, by simp [List.lookup], n _ _ _ _ _ r2 z⟩
/-- return e.f -/
theorem lsu_ret {C : Addr} {en : Str} (hC : mg en = some (.ref C)) {f : Str} {i : Nat} : LSU GP K mg B (some i) (fun a cls d => tRet (tXf a cls d C f (tVar i))) (uFieldR en f i) := by
  intro H0 F0 γ0 _ γ σ H F ρ a nm C2 d x E Q r ex hm ⟨hi, h1, y, h2, z⟩ _ _ _ t
  cases d with
  | none => dsimp only at h2; subst h2; exact ex.elim
  | some d =>
    dsimp only at h1 h2
    subst h1 h2
    rw [hC] at hm
    cases hm
    obtain ⟨v, e1, e2⟩ := ex
    exact ⟨_, List.getElem?_set_self (by rw [r.len]; exact hi), rfl, rfl, d, _, v, rfl, r.sub _ _ e1, by simp [List.lookup], t _ _ _ _ _ _ _ (r.blind i (some (.ref a))) e2 z⟩
/-- the clauses: what they name, their suites; all of the names are siblings -/
abbrev UCl := Str × (EX → US)
def uCls (names : List Str) (QE : EX → Rho → Prop) (Q : UEnds) : List UCl → EX → Rho → Prop
  | [] => QE
  | c :: r => fun x ρ => x.1 ∈ names ∧ if x.1 = c.1 then c.2 x Q ρ else uCls names QE Q r x ρ
/-- errors of the text: none is above another -/
def ErrT (K : PySem.W.Frag) (mg : Str → Option Value) (names : List Str) : Prop := ∀ n1 ∈ names, ∀ n2 ∈ names, ∀ C1 C2, mg n1 = some (.ref C1) → mg n2 = some (.ref C2) → PySem.W.exmOne K (.ref C1) (.ref C2) = some (decide (n1 = n2))
inductive LCls (GP : GenP) (K : PySem.W.Frag) (mg : Str → Option Value) (B : Hp × Hp × GAt) (names : List Str) : List ClM → List UCl → Prop
  | nil : LCls GP K mg B names [] []
  | cons {n : Str} {C : Addr} {s : Option Nat} {ts : Addr → Value → Option Addr → TS} {u : EX → US} {l : List ClM} {ul : List UCl} : mg n = some (.ref C) → n ∈ names → LSU GP K mg B s ts u → LCls GP K mg B names l ul → LCls GP K mg B names (⟨.ref C, s, ts⟩ :: l) ((n, u) :: ul)
def uTry (names : List Str) (QE : EX → Rho → Prop) (ub : (EX → Rho → Prop) → US) (ul : List UCl) : US := fun Q ρ => ub (uCls names QE Q ul) Q ρ
theorem wM_ok {names : List Str} (eT : ErrT K mg names) {Wout : WX} {QE : EX → Rho → Prop} {H0 F0 : Hp} {γ0 : GAt} [FinerC GP K B H0 F0 γ0] (hW : WOk GP K mg B Wout QE) {E : Ends} {Q : UEnds} (n : ∀ σ' H' F' γ' ρ', Rp GP K H0 F0 γ0 γ' σ' H' F' ρ' → Q.nx ρ' → E.nx σ' H') (b : ∀ σ' H' F' γ' ρ', Rp GP K H0 F0 γ0 γ' σ' H' F' ρ' → Q.bk ρ' → E.bk σ' H')
    (c : ∀ σ' H' F' γ' ρ', Rp GP K H0 F0 γ0 γ' σ' H' F' ρ' → Q.ct ρ' → E.ct σ' H') (t : ∀ σ' v H' F' γ' ρ' d, Rp GP K H0 F0 γ0 γ' σ' H' F' ρ' → Dd K F' v d → Q.rt d ρ' → E.rt v H') {l : List ClM} {ul : List UCl} (h : LCls GP K mg B names l ul) :
    ∀ {γ : GAt} {σ : L2.St} {H F : Hp} {ρ : Rho} {nm : Str} {C : Addr} {d : Option Addr} {x : Option (Str × D)}, Rp GP K H0 F0 γ0 γ σ H F ρ → ExD K F d x → mg nm = some (.ref C) → uCls names QE Q ul (nm, x) ρ → wM K Wout E l (.ref C) d σ H := by
  induction h with
  | nil => exact fun r ex hm z => hW _ _ _ _ _ _ _ _ _ (FinerC.fin r) ex hm z
  | cons hc hn hs _ ih =>
    intro γ σ H F ρ nm C d x r ex hm ⟨k, z⟩
    refine ⟨_, eT _ k _ hn _ _ hm hc, fun y a _ => ?_, fun y => ?_⟩
    · rw [if_pos (of_decide_eq_true y)] at z
      exact hs E Q r ex hm z n b c t
    · rw [if_neg (of_decide_eq_false y)] at z
      exact ih r ex hm z
/-- the body is read at the base of here: what its errors leave is told from here on -/
theorem ls_try {names : List Str} (eT : ErrT K mg names) {Wout : WX} {QE : EX → Rho → Prop} {tb : WX → TS} {ub : (EX → Rho → Prop) → US} {l : List ClM} {ul : List UCl} (hW : WOk GP K mg B Wout QE) (hb : ∀ B W QE, WOk GP K mg B W QE → LS GP K B (tb W) (ub QE)) (hl : LCls GP K mg B names l ul) : LS GP K B (fun E σ H => tb (wM K Wout E l) E σ H) (uTry names QE ub ul) := by
  intro H0 F0 γ0 _ γ σ H F ρ E Q r z n b c t
  haveI : FinerC GP K (H0, F0, γ0) H0 F0 γ0 := ⟨id, rfl⟩
  exact hb (H0, F0, γ0) _ _ (fun γ' σ' H' F' ρ' nm C d x r' ex hm q' => wM_ok eT hW n b c t hl r' ex hm q') E Q r z n b c t
end
end DL
/-! lifted readings 12: isinstance -/
namespace DL
open PySem PySem.Spec PyProof.Rows L2 CD
def isB (t n : String) : Bool := decide (t = n) || (decide (t = "bool") && decide (n = "int"))
theorem kitB_ok : ∀ t ∈ ["NoneType", "bool", "int", "str", "list", "tuple", "dict", "set"], ∀ n ∈ ["int", "bool", "str", "tuple", "list", "dict"], kitB t n = some (isB t n) := by decide +kernel
def uIsi (n : String) (u : UE) : UE := fun ρ Q => u ρ fun x ρ1 => match cn ρ1 x with
  | some (.scr _) => False
  | some (.fn _) => False
  | some d => n ∈ ["int", "bool", "str", "tuple", "list", "dict"] ∧ Q (.val (.bl (isB (tyD d) n))) ρ1
  | none => False
section
variable {GP : GenP} {K : PySem.W.Frag} {B : Hp × Hp × GAt}
theorem tyx_of {F H : Hp} {v : V} {d : D} (s : Same F H) (c : Cnt K F H v d) (n : ∀ ns, d ≠ .scr ns) (n2 : ∀ a, d ≠ .fn a) : TyX K H v (.type (tyD d)) := by
  cases d with
  | non => rw [c.non]; exact .base .non
  | bl b => rw [c.bl]; exact .base (.bl b)
  | int i => rw [c.int]; exact .base (.int i)
  | str x => rw [c.str]; exact .base (.str x)
  | list ds => obtain ⟨a, xs, rfl, h, _⟩ := c.list s; exact .base (.lst h)
  | tup ds => obtain ⟨a, xs, rfl, h, _⟩ := c.tup s; exact tyx_tup h
  | dk ds => obtain ⟨a, xs, rfl, h, _⟩ := c.dk s; exact .base (.dK h)
  | dt ds => obtain ⟨a, xs, rfl, h, _⟩ := c.dt s; exact .base (.dT h)
  | set xs =>
    rcases c with c | ⟨a, rfl, c⟩ | ⟨_, _, _, _, e, _⟩
    · cases c with
      | set h _ _ _ => exact .set (s _ _ h)
    · cases c with
      | set h _ _ _ => exact .set h
    · cases e
  | scr ns => exact absurd rfl (n ns)
  | fn a => exact absurd rfl (n2 a)
theorem le_isi {n : String} {t : TE} {u : UE} (h : LE GP K B t u) : LE GP K B (tCB (rIsi K) (tCons t (tCons (tC (.ty n)) tNil))) (uIsi n u) := by
  intro H0 F0 γ0 _ γ σ H F ρ R Q r z k
  refine h _ _ r z fun H1 F1 γ1 ρ1 v x r1 s1 k1 u1 => ?_
  have fin : ∀ d, cn ρ1 x = some d → (∀ ns, d ≠ .scr ns) → (∀ a, d ≠ .fn a) → n ∈ ["int", "bool", "str", "tuple", "list", "dict"] → Q (.val (.bl (isB (tyD d) n))) ρ1 → tCons (tC (.ty n)) tNil σ H1 fun xs H2 => rIsi K (v :: xs) H2 R := by
    intro d e ns nf hn q
    refine ⟨v, .ty n, .type (tyD d), .type n, isB (tyD d) n, rfl, .ty _, tyx_of r1.sub (RVok.cnt r1 k1 e) ns nf, kit_ty (kitB_ok _ ?_ _ hn), k _ _ _ _ _ (.val _) r1 s1 (.bl _) q⟩
    cases d with
    | fn a => exact absurd rfl (nf a)
    | _ => simp [tyD]
  split at u1
  · exact u1.elim
  · exact u1.elim
  · rename_i d ns nf e
    exact fin d e (fun z hz => by subst hz; exact ns z rfl) (fun z hz => by subst hz; exact nf z rfl) u1.1 u1.2
  · exact u1.elim
def pNeg : P1 := fun x Q => match x with
  | .int i => Q (.val (.int (-i)))
  | _ => False
theorem lu_neg : LU K (rU fun i => .int (-i)) pNeg := by
  intro F H x dx R Q s c z k
  cases dx with
  | int i => rw [c.int]; exact ⟨i, rfl, k _ _ (.val _) (Same.refl _) (.int _) z⟩
  | _ => exact z.elim
end
end DL
set_option maxHeartbeats 1000000
/-! lifted readings 13: evaluation of what was read -/
namespace DL
open PySem PySem.Spec PyProof.Rows L2 CD
theorem at0 {x : D} {r : List D} : atI (x :: r) 0 = some x := atI_nat (j := 0) rfl
theorem at1 {x y : D} {r : List D} : atI (x :: y :: r) 1 = some y := atI_nat (j := 1) rfl
theorem at2 {x y z : D} {r : List D} : atI (x :: y :: z :: r) 2 = some z := atI_nat (j := 2) rfl
theorem at3 {x y z a : D} {r : List D} : atI (x :: y :: z :: a :: r) 3 = some a := atI_nat (j := 3) rfl
theorem isn_non : DL.isNon .non = true := rfl
theorem isn_int {i : Int} : DL.isNon (.int i) = false := rfl
theorem isn_bl {i : Bool} : DL.isNon (.bl i) = false := rfl
theorem isn_str {i : Str} : DL.isNon (.str i) = false := rfl
theorem isn_tup {i : List D} : DL.isNon (.tup i) = false := rfl
theorem isn_list {i : List D} : DL.isNon (.list i) = false := rfl
theorem start_cons {n : Nat} {a : SV} {as : List SV} : start0 (n + 1) (a :: as) = some a :: start0 n as := by
  simp [start0]
theorem start_nil {n : Nat} : start0 n [] = List.replicate n none := by simp [start0]
theorem cut_tl (ds : List D) : cutD ds (some 1) none = ds.tail := by
  unfold cutD
  rw [show HT.sIx ds.length 0 (some 1) = min 1 ds.length from HT.sIx_nat ds.length 0 1, HT.sIx_none]
  cases ds with
  | nil => rfl
  | cons d r =>
    have e : min 1 (d :: r).length = 1 := by rw [List.length_cons]; omega
    rw [e]
    show List.take ((d :: r).length - 1) r = r
    rw [List.length_cons, Nat.add_sub_cancel, List.take_length]
theorem itD {c : Prop} [Decidable c] {A B : Prop} (h1 : c → A) (h2 : ¬ c → B) : if c then A else B := by
  split
  · exact h1 ‹_›
  · exact h2 ‹_›
def scrD : D → Bool
  | .scr _ => true
  | .fn _ => true
  | _ => false

end DL
/-! lifted readings 14: the end of a law; what the top has written, own errors with it -/
namespace DL
open PySem PySem.Spec PyProof.Rows L2 CD
/-- the law's end over a def that is told of by its name -/
theorem law_c {P : Program} {w : World} {K : PySem.W.Frag} {mg mb : Str → Option Value} {k : Nat} {fa a : Addr} {x y : Str} {sp : Sp} {s₁ : Shared} {vs : List Value} {ns : List Int}
    (KX : K.In s₁.heap) (hns : s₁.heap.Ns mainGlobals mg) (hb : s₁.heap.Ns builtinsNs mb) (hbb : ∀ x : Str, x ≠ "__name__" → mb x = bootBuiltins x) (hlim : s₁.heap.NoLimit) (hg : s₁.gens = #[])
    (ha : s₁.heap.get? a = some { cls := .type "list", data := .seq vs.toArray }) (hi : IntsAre vs ns) (hl : ns.length ≤ sizeLine) (hr : Room k callerA) (hy : mg y = some (.ref fa))
    (F : ∀ base : Heap, K.In base → base.Ns mainGlobals mg → CalG P w K mg base k y [x] sp)
    (hsp : ∀ H : Hp, SqL K H a (ns.map V.int) → sp [.ref a] H (fun v _ => v = .bl true) fun _ _ _ => False) :
    codeAny (model P w) callerA (.call (.ref fa) ⟨[.ref a], []⟩) (fun r s' => r = .ok (.ret (.bool true)) ∧ OldK s₁.heap s'.heap ∧ s'.os = s₁.os ∧ AllBare s'.gens) s₁ := by
  have rv := vals_ints hi
  generalize hO : ({ cls := .type "list", data := .seq vs.toArray } : Obj) = o at ha
  generalize hH : H00 K a o ns = H
  have tr : ∀ b u, H b = some u → b = a ∧ K.lookup a = none ∧ u = .frz o (.lst (ns.map V.int)) := fun b u e => by
    rw [← hH] at e
    unfold H00 at e
    by_cases c : b = a ∧ K.lookup a = none
    · rw [if_pos c] at e; exact ⟨c.1, c.2, (Option.some.inj e).symm⟩
    · rw [if_neg c] at e; cases e
  have own : s₁.heap.get? a = some { cls := .type "list", data := .seq vs.toArray } := by rw [hO]; exact ha
  have okF : HOk P w H s₁.heap := fun b u e => by
    obtain ⟨rfl, _, rfl⟩ := tr b u e
    exact ⟨ha, by rw [List.length_map]; exact hl, vs, _, rv, own⟩
  have free : ∀ {b : Addr} {u : Obj}, s₁.heap.get? b = some u → (∀ es ep, o.data = .dict es ep → False) → (b = a → False) → H b = none := fun {b u} _ _ n => by
    cases q : H b with
    | none => rfl
    | some z => exact absurd (tr b z q).1 n
  have ndata : ∀ es ep, o.data = Data.dict es ep → False := fun es ep e => by rw [← hO] at e; cases e
  have hidn : ∀ {b : Addr} {m : Str → Option Value}, s₁.heap.Ns b m → (hidT s₁.heap H).Ns b m := fun {b m} ⟨u, es, ep, e, d, r⟩ => ⟨u, es, ep, hidT_get e (free e ndata fun z => by
    subst z
    rw [ha] at e
    cases e
    exact ndata _ _ d), d, r⟩
  have kin : K.In (hidT s₁.heap H) := fun b u e => hidT_get (KX b u e) (by
    cases q : H b with
    | none => rfl
    | some z =>
      obtain ⟨rfl, n, _⟩ := tr b z q
      rw [n] at e; cases e)
  have sq : SqL K H a (ns.map V.int) := by
    cases hk : K.lookup a with
    | none => exact .inl (.inr ⟨o, by rw [← hH]; unfold H00; rw [if_pos ⟨rfl, hk⟩]⟩)
    | some u =>
      have e := KX a u hk
      rw [own] at e
      cases e
      exact .inr ⟨_, vs.toArray, _, hk, rfl, rfl, rfl, by rw [List.size_toArray, hi.length]; exact hl, by simpa using rv⟩
  have hM : Mod K mg (hidT s₁.heap H) := ⟨kin, hidn hns, ⟨mb, hidn hb, hbb⟩, let ⟨mc, h1, h2⟩ := hlim; ⟨mc, hidn h1, h2⟩⟩
  have e0 : Env0 P w K mg (hidT s₁.heap H) callerA [] s₁ H := ⟨rfl, hM, fun b u e => of_hidT e, Nat.le_of_eq (hidT_size _ _), trivial, fun b hm => (by cases hm), okF, .of_eq hg⟩
  obtain ⟨f', fd, G, hf, _, hbd⟩ := F _ kin (hidn hns)
  rw [hy] at hf
  cases hf
  have hb1 := hbd s₁ [.ref a] KX rfl
  rw [List.append_nil] at hb1
  refine codeAny_mono (G.run callerA [] s₁ H ⟨[.ref a], []⟩ [.ref a] [.ref a] _ _ rfl hr e0 hb1 (.cons rfl .nil) (hsp H sq)) fun r s' h => ?_
  match r, h with
  | .error _, h => exact False.elim h
  | .ok .next, h => exact False.elim h
  | .ok .brk, h => exact False.elim h
  | .ok .cont, h => exact False.elim h
  | .ok (.ret u), ⟨v, H', os, bare, un, ok', r', q⟩ =>
    obtain rfl : v = .bl true := q
    obtain rfl : u = Value.bool true := r'
    refine ⟨rfl, OldK.of_keep fun b u e => ?_, os, bare⟩
    cases q : H b with
    | none => exact un.keep b u e q (fun z => by cases z) (fun z => by cases z)
    | some z =>
      obtain ⟨rfl, _, rfl⟩ := tr b z q
      obtain ⟨e1, _⟩ := okF b _ q
      obtain ⟨e2, _⟩ := ok' b _ (un.frzs b o _ q)
      rw [e] at e1; cases e1
      exact e2
theorem walk_c {l : PySem.W.OpenLaw} {n k : Nat} {q : Program} {loose : List Str} {XP : (Str → Option Value) → Heap → Prop} {YP : World → Heap → Prop} {d : DefRec} {K : Params → PySem.W.Frag} {sp : World → Sp} {x : Str}
    (hn : l.most = some n) (hn2 : n ≤ sizeLine) (hdf : d.params.defaults = []) (hr : Room k callerA)
    (hY : ∀ (w : World) (h : Heap), YP w h → (K w.params).In h)
    (F : ∀ (w : World) (mg : Str → Option Value) (fa : Addr) (h : Heap), (K w.params).In h → h.Ns mainGlobals mg → mg d.name = some (.ref fa) →
        ∀ base : Heap, (K w.params).In base → base.Ns mainGlobals mg → CalG l.prog w (K w.params) mg base k d.name [x] (sp w))
    (hsp : ∀ (w : World) (H : Hp) (a : Addr) (ns : List Int), ns.length ≤ n → SqL (K w.params) H a (ns.map V.int) → sp w [.ref a] H (fun v _ => v = .bl true) fun _ _ _ => False) :
    PySem.W.WalkO q loose XP YP l.row.toRowW d [] (fun f vs => PySem.call f vs) := by
  refine Att.attach_call hn hdf fun w s₀ s₁ mg mb fa o pm cd doc a vs ns G Y ho hd hcd hmg hobj hints hlen hg => ?_
  exact law_c (hY w _ Y) G.T.g G.T.b G.T.builtins G.T.nolimit hg hobj hints (Nat.le_trans hlen hn2) hr hmg (F w mg fa _ (hY w _ Y) G.T.g hmg) fun H hS => hsp w H a ns hlen hS
theorem spL_law {GP : GenP} {K : PySem.W.Frag} {W : WD} {n : Nat} (h : ∀ ns : List Int, ns.length ≤ n → W [.val (.scr ns)] fun d _ => d = .bl true) (H : Hp) (a : Addr) (ns : List Int) (l : ns.length ≤ n) (s : SqL K H a (ns.map V.int)) : spL GP K 1 (fun as Q => hasG as = false ∧ W as Q) [.ref a] H (fun v _ => v = .bl true) fun _ _ _ => False := by
  refine ⟨H, none, [.val (.scr ns)], fun d _ => d = .bl true, Same.refl _, ⟨.scr s, trivial⟩, rfl, rfl, rfl, fun p hp => (by cases hp), ⟨rfl, h ns l⟩, fun v H' F' γ' d m _ _ _ _ _ e _ q => ?_⟩
  subst q
  cases e
  rfl
/-! ### what the top has written -/
section
variable {P : Program} {w : World} {K : PySem.W.Frag} {h : Heap} {mg : Str → Option Value} {base : Heap}
theorem mg_int (X : K.In h) (G : h.Ns mainGlobals mg) {x : Str} {i j : Int} {t : Tok} (a : PySem.W.nsIn K mainGlobals x = some (some (.int i t))) (e : i = j) : ∃ t, mg x = some (.int j t) := ⟨t, e ▸ PySem.W.mg_of X G a⟩
def TupIs (o : Obj) (xs : List V) : Prop := o.cls = .type "tuple" ∧ ∃ its n, o.data = .seq its n ∧ its.size ≤ sizeLine ∧ Vals xs its.toList
theorem mg_tup (X : K.In h) (G : h.Ns mainGlobals mg) {x : Str} {a : Addr} {o : Obj} {xs : List V} (m : PySem.W.nsIn K mainGlobals x = some (some (.ref a))) (l : K.lookup a = some o) (t : TupIs o xs) : ∃ a, mg x = some (.ref a) ∧ SqT K (fun _ => none) a xs :=
  ⟨a, PySem.W.mg_of X G m, .inr (let ⟨h1, its, n, h2, h3, h4⟩ := t; ⟨o, its, n, l, h1, h2, h3, h4⟩)⟩
theorem def_mk (X : K.In h) (G : h.Ns mainGlobals mg) {x : Str} {st : Stmt} {ps : List Str} {f : Addr} {od an : Option Addr} {sl : Array (Option Value)} {oc kV dc pm cd ct : Value}
    (a : PySem.W.nsIn K mainGlobals x = some (some (.ref f))) (l : K.lookup f = some ⟨oc, od, .func (PySem.W.fnOf x x (defArgs st) (defBody st) (defScope st) .none kV dc pm an cd ct), sl⟩) (c : PySem.W.codeIn K cd x = true) (k : PySem.W.keepIn K (.ref f) = true)
    (hb : ∀ (kV doc pm : Value) (an : Option Addr) (cdv ct : Value) (us : List Value), us.length = ps.length → bindArgs (PySem.W.fnOf x x (defArgs st) (defBody st) (defScope st) .none kV doc pm an cdv ct) ⟨us, []⟩ = pure (ps.zip us)) : Def K mg x st ps :=
  ⟨f, _, fun_mk (st := st) l c k, PySem.W.mg_of X G a, (fun_mk (st := st) l c k).binds (ps := ps) hb⟩
/-- what stands written of an own error's class -/
structure ErrW (K : PySem.W.Frag) (x : Str) (C fI : Addr) : Prop where
  a : PySem.W.nsIn K mainGlobals x = some (some (.ref C))
  cls : ∃ nm q N bs bm sn sub ab col dd k0 k1 k2 k3 k5, K.lookup C = some (excClassObj nm q C N bs bm true sn sub ab col dd k0 k1 k2 k3 k5 "ValueError.__new__") ∧ PySem.HandSPX.refsVE bm = true
  sa : PySem.W.findIn K (.ref C) "__setattr__" = some (some (.builtin "object.__setattr__"))
  ga : PySem.W.findIn K (.ref C) "__getattribute__" = some (some (.builtin "BaseException.__getattribute__"))
  gg : PySem.W.findIn K (.ref C) "__getattr__" = some none
  ex : PySem.W.subIn K (.ref C) (.type "BaseException") = some true
  ty : PySem.W.typeIn K (.ref C) = some (.type "type")
  hd : PySem.W.hasDictIn K C = true
  kp : PySem.W.keepIn K (.ref C) = true
  i : PySem.W.findIn K (.ref C) "__init__" = some (some (.ref fI))
  ti : PySem.W.typeIn K (.ref fI) = some (.type "function")
theorem ErrW.oex {x : Str} {C fI : Addr} (E : ErrW K x C fI) : OexC K C := ⟨E.cls, E.sa, E.ex, E.ty, E.kp⟩
theorem ErrW.xf {x : Str} {C fI : Addr} (E : ErrW K x C fI) : XfC K C := ⟨E.ga, E.gg, E.ex, E.hd⟩
theorem ErrW.errC (X : K.In h) (G : h.Ns mainGlobals mg) {x : Str} {C fI : Addr} {f : Option Str} {fd : FuncData} {ps : List Str} (E : ErrW K x C fI) (no : ∀ g, f = some g → PySem.W.findIn K (.ref C) g = some none)
    (fo : FnOk P w K mg base (L2.CX P w) 1 fI fd ps (match f with | some f => spIn1 K f | none => spIn0 K)) (b : Binds K fd ps []) : ∃ C, ErrC P w K mg base x C f :=
  ⟨C, PySem.W.mg_of X G E.a, E.oex, E.xf, no, fI, fd, ps, E.i, E.ti, fo, b⟩
/-- one error's name against another's -/
theorem ErrW.exm {x : Str} {C fI : Addr} (E : ErrW K x C fI) {cls : Value} {b : Bool} (s : PySem.W.subIn K cls (.ref C) = some b) : PySem.W.exmOne K cls (.ref C) = some b := PySem.W.exm_ref E.ex E.hd E.ty s
end
end DL
set_option maxHeartbeats 400000
/-! the mathematics of plain scaled rules: how many are told, and when the last one -/
namespace CD
def Plain (N : Int) (ads : List Int) : Prop := (ads.map (· % N)).Nodup
instance (N : Int) (ads : List Int) : Decidable (Plain N ads) := inferInstanceAs (Decidable (List.Nodup _))
def partsI (N : Int) (ads : List Int) (n : Int) : List (Int × Int × Int) :=
  ads.zipIdx.filterMap fun e => if e.1 < n ∧ 1 < n then some (1 + (e.2 : Int), e.1, (n - 1 - e.1) / N + 1) else none
def cnt (N : Int) (ads : List Int) : Nat → Int
  | 0 => 0
  | k + 1 => cnt N ads k + if (tk N ads k).isSome then 1 else 0
def mx (N : Int) (ads : List Int) : Nat → Int
  | 0 => 0
  | k + 1 => max (mx N ads k) ((tk N ads k).getD 0)
def cI (N : Int) (ads : List Int) (n : Int) : Int := cnt N ads n.toNat
def mI (N : Int) (ads : List Int) (n : Int) : Int := mx N ads n.toNat
/-! ### sums and greatest ones -/
theorem sum_if {α : Type} (p : α → Prop) [DecidablePred p] (f : α → Int) : ∀ l : List α, (l.map fun e => if p e then f e else 0).sum = ((l.filter fun e => decide (p e)).map f).sum
  | [] => rfl
  | x :: r => by
    rw [List.map_cons, List.sum_cons, List.filter_cons, sum_if p f r]
    by_cases c : p x
    · rw [if_pos c, if_pos (decide_eq_true c), List.map_cons, List.sum_cons]
    · rw [if_neg c, if_neg (by simpa using c), Int.zero_add]
theorem sum_add {α : Type} (f g h : α → Int) : ∀ l : List α, (∀ e ∈ l, h e = f e + g e) → (l.map h).sum = (l.map f).sum + (l.map g).sum
  | [], _ => rfl
  | x :: r, k => by
    rw [List.map_cons, List.map_cons, List.map_cons, List.sum_cons, List.sum_cons, List.sum_cons, sum_add f g h r fun e he => k e (List.mem_cons_of_mem _ he), k x List.mem_cons_self]
    omega
def top (l : List Int) : Int := l.foldl max 0
theorem fold_max : ∀ (l : List Int) (a : Int), l.foldl max a = max a (l.foldl max a) ∧ a ≤ l.foldl max a
  | [], a => ⟨by show a = max a a; omega, Int.le_refl _⟩
  | x :: r, a => by
    have z := fold_max r (max a x)
    rw [List.foldl_cons]
    exact ⟨by omega, by omega⟩
theorem fold_from : ∀ (l : List Int) (a : Int), 0 ≤ a → l.foldl max a = max a (l.foldl max 0)
  | [], a, h => by show a = max a 0; omega
  | x :: r, a, h => by
    rw [List.foldl_cons, List.foldl_cons, fold_from r (max a x) (by omega), fold_from r (max 0 x) (by omega)]
    omega
theorem top_nn (l : List Int) : 0 ≤ top l := (fold_max l 0).2
theorem top_cons (x : Int) (r : List Int) : top (x :: r) = max (max 0 x) (top r) := by
  unfold top
  rw [List.foldl_cons, fold_from r (max 0 x) (by omega)]
theorem top_max {α : Type} (f g h : α → Int) : ∀ l : List α, (∀ e ∈ l, h e = max (f e) (g e)) → top (l.map h) = max (top (l.map f)) (top (l.map g))
  | [], _ => rfl
  | x :: r, k => by
    rw [List.map_cons, List.map_cons, List.map_cons, top_cons, top_cons, top_cons, top_max f g h r fun e he => k e (List.mem_cons_of_mem _ he), k x List.mem_cons_self]
    omega
theorem top_if {α : Type} (p : α → Prop) [DecidablePred p] (f : α → Int) : ∀ l : List α, top (l.map fun e => if p e then f e else 0) = top ((l.filter fun e => decide (p e)).map f)
  | [] => rfl
  | x :: r => by
    rw [List.map_cons, top_cons, List.filter_cons, top_if p f r]
    by_cases c : p x
    · rw [if_pos c, if_pos (decide_eq_true c), List.map_cons, top_cons]
    · rw [if_neg c, if_neg (by simpa using c)]
      have := top_nn ((r.filter fun e => decide (p e)).map f)
      omega
theorem top_fm {α : Type} (f : α → Option Int) : ∀ l : List α, top (l.filterMap f) = top (l.map fun e => (f e).getD 0)
  | [] => rfl
  | x :: r => by
    rw [List.map_cons, top_cons, List.filterMap_cons, ← top_fm f r]
    cases c : f x with
    | none =>
      have := top_nn (r.filterMap f)
      show top (r.filterMap f) = max (max 0 0) _
      omega
    | some y => exact top_cons _ _
theorem sum_fm {α : Type} (f : α → Option Int) : ∀ l : List α, (l.filterMap f).sum = (l.map fun e => (f e).getD 0).sum
  | [] => rfl
  | x :: r => by
    rw [List.map_cons, List.sum_cons, List.filterMap_cons, ← sum_fm f r]
    cases c : f x with
    | none => show (r.filterMap f).sum = 0 + _; omega
    | some y => rw [List.sum_cons]; rfl
/-! ### the one call -/
def hits (N : Int) (ads : List Int) (n : Int) : List (Int × Nat) := ads.zipIdx.filter fun e => decide (e.1 ≤ n ∧ (n - e.1) % N = 0)
theorem fm_if {α β : Type} (p : α → Prop) [DecidablePred p] (f : α → β) : ∀ l : List α, (l.filterMap fun e => if p e then some (f e) else none) = (l.filter fun e => decide (p e)).map f
  | [] => rfl
  | x :: r => by
    rw [List.filterMap_cons, List.filter_cons, fm_if p f r]
    by_cases c : p x
    · rw [if_pos c, if_pos (decide_eq_true c), List.map_cons]
    · rw [if_neg c, if_neg (by simpa using c)]
section
variable {N : Int} {ads : List Int} (S : IsSc N ads)
include S
theorem calls_hits {n : Int} (h : 1 ≤ n) : callsO N ads n = (hits N ads n).map fun e => ((n - e.1) / N, 1 + (e.2 : Int)) := by
  have e1 : callsI N ads n = (hits N ads n).map fun e => ((n - e.1) / N, 1 + (e.2 : Int)) := fm_if (fun e : Int × Nat => e.1 ≤ n ∧ (n - e.1) % N = 0) _ _
  rw [← e1]
  unfold callsO
  refine List.filter_eq_self.mpr fun p hp => decide_eq_true fun e => ?_
  obtain ⟨a, ha, an, _, ep, _⟩ := callsI_mem S hp
  have r := S.rng a ha
  have d2 := S.d2
  rw [e] at ep
  have z := Int.ediv_mul_le (n - a) (b := N) (by omega)
  rw [← ep] at z
  have z2 := Int.mul_le_mul_of_nonneg_left d2 (show (0 : Int) ≤ n by omega)
  omega
theorem hits_one (P : Plain N ads) (n : Int) : hits N ads n = [] ∨ ∃ e, hits N ads n = [e] ∧ e ∈ ads.zipIdx ∧ e.1 ≤ n ∧ (n - e.1) % N = 0 := by
  have e0 : (ads.zipIdx.map fun e => e.1 % N) = ads.map (· % N) := by
    have z : ads.zipIdx.map (fun e : Int × Nat => e.1) = ads := by simp
    rw [← z, List.map_map]
    simp
  have nd : ((hits N ads n).map fun e => e.1 % N).Nodup := by
    have z : ((hits N ads n).map fun e => e.1 % N).Sublist (ads.zipIdx.map fun e => e.1 % N) := List.filter_sublist.map _
    rw [e0] at z
    exact P.sublist z
  have all : ∀ e ∈ hits N ads n, e ∈ ads.zipIdx ∧ e.1 ≤ n ∧ (n - e.1) % N = 0 := fun e he => by
    obtain ⟨h1, h2⟩ := List.mem_filter.mp he
    exact ⟨h1, of_decide_eq_true h2⟩
  cases c : hits N ads n with
  | nil => exact .inl rfl
  | cons e r =>
    refine .inr ⟨e, ?_, all e (by rw [c]; exact List.mem_cons_self)⟩
    cases r with
    | nil => rfl
    | cons e2 r2 =>
      rw [c] at nd all
      have h1 := (all e List.mem_cons_self).2.2
      have h2 := (all e2 (List.mem_cons_of_mem _ List.mem_cons_self)).2.2
      have q1 := Int.emod_eq_emod_iff_emod_sub_eq_zero.mpr h1
      have q2 := Int.emod_eq_emod_iff_emod_sub_eq_zero.mpr h2
      rw [List.map_cons, List.map_cons] at nd
      exact absurd (by rw [← q1, ← q2]; exact List.mem_cons_self) (List.nodup_cons.mp nd).1
theorem tk_none {n : Int} (h : 1 ≤ n) (e : hits N ads n = []) : tk N ads n = none := by
  rw [tk_eq S (by omega), calls_hits S h, e]
  rfl
theorem tk_one {n : Int} (h : 1 ≤ n) {e : Int × Nat} (eh : hits N ads n = [e]) : tk N ads n = (tk N ads ((n - e.1) / N)).map (· + (1 + (e.2 : Int))) := by
  rw [tk_eq S (by omega), calls_hits S h, eh, List.map_cons, List.map_nil, List.filterMap_cons]
  cases c : tk N ads ((n - e.1) / N) with
  | none => rfl
  | some x => rfl
theorem hits_all {n : Int} {e : Int × Nat} (he : e ∈ ads.zipIdx) : 0 ≤ e.1 ∧ e.1 ≤ 20 := by
  have z := List.mem_zipIdx he
  have ha : e.1 ∈ ads := by rw [z.2.2]; exact List.getElem_mem _
  exact S.rng _ ha
omit S in
theorem cI_next {c : Int} (h : 0 ≤ c) : cI N ads (c + 1) = cI N ads c + if (tk N ads c).isSome then 1 else 0 := by
  unfold cI
  rw [show (c + 1).toNat = c.toNat + 1 by omega, cnt, show ((c.toNat : Nat) : Int) = c by omega]
omit S in
theorem mI_next {c : Int} (h : 0 ≤ c) : mI N ads (c + 1) = max (mI N ads c) ((tk N ads c).getD 0) := by
  unfold mI
  rw [show (c + 1).toNat = c.toNat + 1 by omega, mx, show ((c.toNat : Nat) : Int) = c by omega]
omit S in
theorem mI_nn (c : Int) : 0 ≤ mI N ads c := by
  unfold mI
  generalize c.toNat = k
  induction k with
  | zero => exact Int.le_refl _
  | succ k ih => rw [mx]; omega
def gC (N : Int) (ads : List Int) (n : Int) (e : Int × Nat) : Int := if e.1 < n then cI N ads ((n - 1 - e.1) / N + 1) - (if 0 < e.1 then 0 else 1) else 0
omit S in
theorem div_hit {N : Int} (d2 : 2 ≤ N) (d5 : N ≤ 5) (b : Int) : (b % N = 0 → (b - 1) / N + 1 = b / N) ∧ (b % N ≠ 0 → (b - 1) / N = b / N) := by
  have : N = 2 ∨ N = 3 ∨ N = 4 ∨ N = 5 := by omega
  rcases this with h | h | h | h <;> subst h <;> constructor <;> intro z <;> omega
theorem gC_next {n : Int} (h : 1 ≤ n) {e : Int × Nat} (he : e ∈ ads.zipIdx) : gC N ads (n + 1) e = gC N ads n e + if e.1 ≤ n ∧ (n - e.1) % N = 0 then (if (tk N ads ((n - e.1) / N)).isSome then 1 else 0) else 0 := by
  have r := hits_all S (n := n) he
  have dv := div_hit S.d2 S.d5 (n - e.1)
  have e1 : n + 1 - 1 - e.1 = n - e.1 := by omega
  have e2 : n - 1 - e.1 = n - e.1 - 1 := by omega
  unfold gC
  rw [e1, e2]
  have d2 := S.d2
  by_cases c : e.1 < n
  · have nn : 0 ≤ (n - e.1) / N := Int.ediv_nonneg (by omega) (by omega)
    rw [if_pos c, if_pos (by omega : e.1 < n + 1)]
    by_cases m : (n - e.1) % N = 0
    · rw [if_pos (show e.1 ≤ n ∧ (n - e.1) % N = 0 from ⟨by omega, m⟩), dv.1 m, cI_next nn]
      omega
    · rw [if_neg (show ¬ (e.1 ≤ n ∧ (n - e.1) % N = 0) from fun x => m x.2), dv.2 m]
      omega
  · rw [if_neg c]
    by_cases c2 : e.1 = n
    · rw [if_pos (by omega : e.1 < n + 1), c2, Int.sub_self, Int.zero_ediv, if_pos (show n ≤ n ∧ (0 : Int) % N = 0 from ⟨Int.le_refl _, Int.zero_emod _⟩), if_pos (show 0 < n by omega), cI_next (Int.le_refl 0), tk_zero]
      show cI N ads 0 + 1 - 0 = _
      have : cI N ads 0 = 0 := rfl
      rw [this]
      rfl
    · rw [if_neg (by omega : ¬ e.1 < n + 1), if_neg (fun x => by omega)]
      rfl
theorem sum_told (P : Plain N ads) {n : Int} (h : 1 ≤ n) : (ads.zipIdx.map fun e => if e.1 ≤ n ∧ (n - e.1) % N = 0 then (if (tk N ads ((n - e.1) / N)).isSome then (1 : Int) else 0) else 0).sum = if (tk N ads n).isSome then 1 else 0 := by
  rw [sum_if (fun e : Int × Nat => e.1 ≤ n ∧ (n - e.1) % N = 0)]
  show ((hits N ads n).map _).sum = _
  rcases hits_one S P n with e | ⟨e, eh, _⟩
  · rw [e, tk_none S h e]
    rfl
  · rw [eh, tk_one S h eh]
    cases c : tk N ads ((n - e.1) / N) with
    | none => simp [c]
    | some x => simp [c]
theorem many_sum (P : Plain N ads) : ∀ k : Nat, cI N ads ((k + 1 : Nat) : Int) = 1 + (ads.zipIdx.map (gC N ads ((k + 1 : Nat) : Int))).sum
  | 0 => by
    have z : ads.zipIdx.map (gC N ads 1) = ads.zipIdx.map fun _ => 0 := by
      refine List.map_congr_left fun e he => ?_
      have r := hits_all S (n := 1) he
      unfold gC
      by_cases c : e.1 < 1
      · have e0 : e.1 = 0 := by omega
        rw [if_pos c, e0, if_neg (by decide)]
        show cI N ads ((0 : Int) / N + 1) - 1 = 0
        rw [Int.zero_ediv, cI_next (Int.le_refl 0)]
        rfl
      · rw [if_neg c]
    have z2 : ∀ l : List (Int × Nat), (l.map fun _ => (0 : Int)).sum = 0 := fun l => by
      induction l with
      | nil => rfl
      | cons x r ih => rw [List.map_cons, List.sum_cons, ih]; rfl
    show cI N ads 1 = 1 + (ads.zipIdx.map (gC N ads 1)).sum
    rw [z, z2]
    rfl
  | k + 1 => by
    have ih := many_sum P k
    have h1 : (1 : Int) ≤ ((k + 1 : Nat) : Int) := by omega
    rw [show ((k + 1 + 1 : Nat) : Int) = ((k + 1 : Nat) : Int) + 1 by omega, cI_next (by omega), ih, sum_add (gC N ads ((k + 1 : Nat) : Int)) _ (gC N ads (((k + 1 : Nat) : Int) + 1)) ads.zipIdx fun e he => gC_next S h1 he, sum_told S P h1]
    omega
theorem many_eq (P : Plain N ads) {n : Int} (h : 1 ≤ n) : cI N ads n = 1 + ((partsI N ads n).map fun p => cI N ads p.2.2 - (if 0 < p.2.1 then 0 else 1)).sum := by
  obtain ⟨k, rfl⟩ : ∃ k : Nat, n = ((k + 1 : Nat) : Int) := ⟨(n - 1).toNat, by omega⟩
  rw [many_sum S P k]
  congr 1
  unfold partsI
  rw [List.map_filterMap, sum_fm]
  congr 1
  refine List.map_congr_left fun e he => ?_
  have r := hits_all S (n := 1) he
  unfold gC
  by_cases c : e.1 < ((k + 1 : Nat) : Int)
  · by_cases c1 : 1 < ((k + 1 : Nat) : Int)
    · rw [if_pos c, if_pos (show e.1 < ((k + 1 : Nat) : Int) ∧ 1 < ((k + 1 : Nat) : Int) from ⟨c, c1⟩)]
      rfl
    · have ek : k = 0 := by omega
      subst ek
      have e0 : e.1 = 0 := by omega
      rw [if_pos c, if_neg (show ¬ (e.1 < ((0 + 1 : Nat) : Int) ∧ 1 < ((0 + 1 : Nat) : Int)) from fun x => c1 x.2), e0]
      show cI N ads ((0 : Int) / N + 1) - 1 = 0
      rw [Int.zero_ediv, cI_next (Int.le_refl 0)]
      rfl
  · rw [if_neg c, if_neg (show ¬ (e.1 < ((k + 1 : Nat) : Int) ∧ 1 < ((k + 1 : Nat) : Int)) from fun x => c x.1)]
    rfl
omit S in
theorem least_memT : ∀ {l : List Int} {t : Int}, leastO l = some t → t ∈ l
  | n :: ns, t, h => by
    have key : ∀ (l : List Int) (a : Int), l.foldl min a = a ∨ l.foldl min a ∈ l := by
      intro l
      induction l with
      | nil => intro a; exact .inl rfl
      | cons x r ih =>
        intro a
        rw [List.foldl_cons]
        rcases ih (min a x) with e | m
        · rw [e]
          rcases (show min a x = a ∨ min a x = x by omega) with z | z
          · exact .inl z
          · exact .inr (by rw [z]; exact List.mem_cons_self)
        · exact .inr (List.mem_cons_of_mem _ m)
    have e : ns.foldl min n = t := Option.some.inj h
    rw [← e]
    rcases key ns n with z | z
    · rw [z]; exact List.mem_cons_self
    · exact List.mem_cons_of_mem _ z
theorem tk_low : ∀ (k : Nat) (c t : Int), c ≤ k → 0 ≤ c → tk N ads c = some t → 0 ≤ t ∧ (0 < c → 1 ≤ t)
  | 0, c, t, h, h0, e => by
    have : c = 0 := by omega
    subst this
    rw [tk_zero] at e
    cases e
    exact ⟨Int.le_refl _, fun x => by omega⟩
  | k + 1, c, t, h, h0, e => by
    by_cases c0 : c = 0
    · subst c0
      rw [tk_zero] at e
      cases e
      exact ⟨Int.le_refl _, fun x => by omega⟩
    · rw [tk_eq S (by omega)] at e
      obtain ⟨p, hp, ep⟩ := List.mem_filterMap.mp (least_memT e)
      have z := callsO_mem S h0 hp
      cases q : tk N ads p.1 with
      | none => rw [q] at ep; cases ep
      | some x =>
        rw [q] at ep
        have e2 : x + p.2 = t := Option.some.inj ep
        have ih := tk_low k p.1 x (by omega) z.1 q
        exact ⟨by omega, fun _ => by omega⟩
def hM (N : Int) (ads : List Int) (n : Int) (e : Int × Nat) : Int := if e.1 < n ∧ 1 < n ∧ (0 < e.1 ∨ 0 < mI N ads ((n - 1 - e.1) / N + 1)) then mI N ads ((n - 1 - e.1) / N + 1) + (1 + (e.2 : Int)) else 0
omit S in
theorem mI_one : mI N ads 1 = 0 := by
  have z := mI_next (N := N) (ads := ads) (Int.le_refl 0)
  rw [tk_zero] at z
  exact z
theorem hM_next {n : Int} (h : 1 ≤ n) {e : Int × Nat} (he : e ∈ ads.zipIdx) : hM N ads (n + 1) e = max (hM N ads n e) (if e.1 ≤ n ∧ (n - e.1) % N = 0 then ((tk N ads ((n - e.1) / N)).map (· + (1 + (e.2 : Int)))).getD 0 else 0) := by
  have r := hits_all S (n := n) he
  have dv := div_hit S.d2 S.d5 (n - e.1)
  have e1 : n + 1 - 1 - e.1 = n - e.1 := by omega
  have e2 : n - 1 - e.1 = n - e.1 - 1 := by omega
  have d2 := S.d2
  have d5 := S.d5
  unfold hM
  rw [e1, e2]
  by_cases c : e.1 < n
  · have nn : 0 ≤ (n - e.1) / N := Int.ediv_nonneg (by omega) (by omega)
    by_cases n1 : n = 1
    · have e0 : e.1 = 0 := by omega
      have q1 : ((1 : Int) - 0) / N = 0 := Int.ediv_eq_zero_of_lt (by omega) (by omega)
      have q2 : ((1 : Int) - 0) % N ≠ 0 := by
        rw [Int.emod_eq_of_lt (by omega) (by omega)]
        decide
      rw [n1, e0, q1, show (0 : Int) + 1 = 1 from rfl, mI_one, if_neg (show ¬ ((0 : Int) < 1 + 1 ∧ (1 : Int) < 1 + 1 ∧ ((0 : Int) < 0 ∨ (0 : Int) < 0)) by omega), if_neg (show ¬ ((0 : Int) < 1 ∧ (1 : Int) < 1 ∧ _) from fun x => by have := x.2.1; omega), if_neg (show ¬ ((0 : Int) ≤ 1 ∧ ((1 : Int) - 0) % N = 0) from fun x => q2 x.2)]
      rfl
    · by_cases m : (n - e.1) % N = 0
      · rw [if_pos (show e.1 ≤ n ∧ (n - e.1) % N = 0 from ⟨by omega, m⟩), dv.1 m, mI_next nn]
        have mn := mI_nn (N := N) (ads := ads) ((n - e.1) / N)
        cases q : tk N ads ((n - e.1) / N) with
        | none =>
          have z0 : (none : Option Int).getD 0 = 0 := rfl
          rw [Option.map_none, z0, show max (mI N ads ((n - e.1) / N)) 0 = mI N ads ((n - e.1) / N) by omega]
          by_cases g : 0 < e.1 ∨ 0 < mI N ads ((n - e.1) / N)
          · rw [if_pos ⟨by omega, by omega, g⟩, if_pos ⟨c, by omega, g⟩]
            omega
          · rw [if_neg (fun x => g x.2.2), if_neg (fun x => g x.2.2)]
            rfl
        | some t =>
          have tl := tk_low S ((n - e.1) / N).toNat _ t (by omega) nn q
          have z0 : ((some t).map (· + (1 + (e.2 : Int)))).getD 0 = t + (1 + (e.2 : Int)) := rfl
          have z1 : (some t).getD 0 = t := rfl
          rw [z0, z1]
          have gpos : 0 < e.1 ∨ 0 < max (mI N ads ((n - e.1) / N)) t := by
            by_cases a0 : 0 < e.1
            · exact .inl a0
            · have cp : 0 < (n - e.1) / N := by
                have : N = 2 ∨ N = 3 ∨ N = 4 ∨ N = 5 := by omega
                rcases this with h | h | h | h <;> subst h <;> omega
              have := tl.2 cp
              exact .inr (by omega)
          rw [if_pos ⟨by omega, by omega, gpos⟩]
          by_cases g : 0 < e.1 ∨ 0 < mI N ads ((n - e.1) / N)
          · rw [if_pos ⟨c, by omega, g⟩]
            omega
          · rw [if_neg (fun x => g x.2.2)]
            omega
      · rw [if_neg (show ¬ (e.1 ≤ n ∧ (n - e.1) % N = 0) from fun x => m x.2), dv.2 m]
        have mn := mI_nn (N := N) (ads := ads) ((n - e.1) / N + 1)
        by_cases g : 0 < e.1 ∨ 0 < mI N ads ((n - e.1) / N + 1)
        · rw [if_pos ⟨by omega, by omega, g⟩, if_pos ⟨c, by omega, g⟩]
          omega
        · rw [if_neg (fun x => g x.2.2), if_neg (fun x => g x.2.2)]
          rfl
  · rw [if_neg (show ¬ (e.1 < n ∧ _) from fun x => c x.1)]
    by_cases c2 : e.1 = n
    · rw [c2, Int.sub_self, Int.zero_ediv, show (0 : Int) + 1 = 1 from rfl, mI_one, if_pos (show n < n + 1 ∧ 1 < n + 1 ∧ (0 < n ∨ (0 : Int) < 0) from ⟨by omega, by omega, .inl (by omega)⟩), if_pos (show n ≤ n ∧ (0 : Int) % N = 0 from ⟨Int.le_refl _, Int.zero_emod _⟩), tk_zero]
      show (0 : Int) + (1 + (e.2 : Int)) = max 0 (0 + (1 + (e.2 : Int)))
      omega
    · rw [if_neg (show ¬ (e.1 < n + 1 ∧ _) from fun x => by have := x.1; omega), if_neg (show ¬ (e.1 ≤ n ∧ (n - e.1) % N = 0) from fun x => by have := x.1; omega)]
      rfl
theorem top_told (P : Plain N ads) {n : Int} (h : 1 ≤ n) : top (ads.zipIdx.map fun e => if e.1 ≤ n ∧ (n - e.1) % N = 0 then ((tk N ads ((n - e.1) / N)).map (· + (1 + (e.2 : Int)))).getD 0 else 0) = (tk N ads n).getD 0 := by
  rw [top_if (fun e : Int × Nat => e.1 ≤ n ∧ (n - e.1) % N = 0)]
  show top ((hits N ads n).map _) = _
  rcases hits_one S P n with e | ⟨e, eh, _, en, _⟩
  · rw [e, tk_none S h e]
    rfl
  · rw [eh, List.map_cons, List.map_nil, top_cons]
    rw [← tk_one S h eh]
    show max (max 0 _) 0 = _
    cases c : tk N ads n with
    | none => rfl
    | some x =>
      have := (tk_low S n.toNat n x (by omega) (by omega) c).1
      show max (max 0 x) 0 = x
      omega
theorem last_top (P : Plain N ads) : ∀ k : Nat, mI N ads ((k + 1 : Nat) : Int) = top (ads.zipIdx.map (hM N ads ((k + 1 : Nat) : Int)))
  | 0 => by
    have z : ads.zipIdx.map (hM N ads 1) = ads.zipIdx.map fun _ => 0 := by
      refine List.map_congr_left fun e he => ?_
      unfold hM
      rw [if_neg fun x => by have := x.2.1; omega]
    have z2 : ∀ l : List (Int × Nat), top (l.map fun _ => (0 : Int)) = 0 := fun l => by
      induction l with
      | nil => rfl
      | cons x r ih => rw [List.map_cons, top_cons, ih]; rfl
    show mI N ads 1 = top (ads.zipIdx.map (hM N ads 1))
    rw [z, z2]
    exact mI_one
  | k + 1 => by
    have ih := last_top P k
    have h1 : (1 : Int) ≤ ((k + 1 : Nat) : Int) := by omega
    rw [show ((k + 1 + 1 : Nat) : Int) = ((k + 1 : Nat) : Int) + 1 by omega, mI_next (by omega), ih, top_max (hM N ads ((k + 1 : Nat) : Int)) _ (hM N ads (((k + 1 : Nat) : Int) + 1)) ads.zipIdx fun e he => hM_next S h1 he, top_told S P h1]
theorem last_eq (P : Plain N ads) {n : Int} (h : 1 ≤ n) : mI N ads n = top ((partsI N ads n).filterMap fun p => if 0 < p.2.1 ∨ 0 < mI N ads p.2.2 then some (mI N ads p.2.2 + p.1) else none) := by
  obtain ⟨k, rfl⟩ : ∃ k : Nat, n = ((k + 1 : Nat) : Int) := ⟨(n - 1).toNat, by omega⟩
  rw [last_top S P k]
  unfold partsI
  rw [List.filterMap_filterMap, top_fm]
  congr 1
  refine List.map_congr_left fun e he => ?_
  unfold hM
  by_cases c : e.1 < ((k + 1 : Nat) : Int) ∧ 1 < ((k + 1 : Nat) : Int)
  · rw [if_pos c]
    by_cases g : 0 < e.1 ∨ 0 < mI N ads ((((k + 1 : Nat) : Int) - 1 - e.1) / N + 1)
    · rw [if_pos (show _ ∧ _ ∧ _ from ⟨c.1, c.2, g⟩)]
      show _ = (if _ then some _ else none : Option Int).getD 0
      rw [if_pos g]
      rfl
    · rw [if_neg (fun x => g x.2.2)]
      show _ = (if _ then some _ else none : Option Int).getD 0
      rw [if_neg g]
      rfl
  · rw [if_neg c, if_neg (fun x => c ⟨x.1, x.2.1⟩)]
    rfl
omit S in
theorem fm_filter {α β : Type} (p : α → Prop) [DecidablePred p] (f : α → Option β) : ∀ l : List α, (l.filter fun e => decide (p e)).filterMap f = l.filterMap fun e => if p e then f e else none
  | [] => rfl
  | x :: r => by
    rw [List.filter_cons, List.filterMap_cons, ← fm_filter p f r]
    by_cases c : p x
    · rw [if_pos (decide_eq_true c), if_pos c, List.filterMap_cons]
    · rw [if_neg (by simpa using c), if_neg c]
def callT (N : Int) (ads : List Int) (n : Int) (e : Int × Nat) : Option Int := if e.1 ≤ n ∧ (n - e.1) % N = 0 then (tk N ads ((n - e.1) / N)).map (· + (1 + (e.2 : Int))) else none
theorem tk_calls {n : Int} (h : 1 ≤ n) : tk N ads n = leastO (ads.zipIdx.filterMap (callT N ads n)) := by
  rw [tk_eq S (by omega), calls_hits S h, List.filterMap_map]
  unfold hits
  rw [fm_filter (fun e : Int × Nat => e.1 ≤ n ∧ (n - e.1) % N = 0)]
  rfl
def filmT (N : Int) (ads : List Int) (n : Nat) : List (Option Int) := (List.range (n + 1)).map fun k : Nat => tk N ads (k : Int)
omit S in
theorem filmT_len (n : Nat) : (filmT N ads n).length = n + 1 := by unfold filmT; rw [List.length_map, List.length_range]
omit S in
theorem filmT_next (n : Nat) : filmT N ads (n + 1) = filmT N ads n ++ [tk N ads ((n + 1 : Nat) : Int)] := by
  unfold filmT
  rw [List.range_succ, List.map_append]
  rfl
omit S in
theorem filmT_at {n k : Nat} (h : k ≤ n) : (filmT N ads n)[k]? = some (tk N ads (k : Int)) := by
  unfold filmT
  rw [List.getElem?_map, List.getElem?_range (by omega)]
  rfl
omit S in
theorem div_eq {N : Int} (d2 : 2 ≤ N) (d5 : N ≤ 5) (k st : Int) : (k = (k - st) / N * N + st ↔ (k - st) % N = 0) ∧ (0 ≤ (k - st) / N ↔ st ≤ k) := by
  have : N = 2 ∨ N = 3 ∨ N = 4 ∨ N = 5 := by omega
  rcases this with h | h | h | h <;> subst h <;> refine ⟨⟨fun _ => ?_, fun _ => ?_⟩, fun _ => ?_, fun _ => ?_⟩ <;> omega
omit S in
theorem div_lt {N : Int} (d2 : 2 ≤ N) (d5 : N ≤ 5) (k st : Int) (h1 : 1 ≤ k) (h0 : 0 ≤ st) : (k - st) / N < k := by
  have : N = 2 ∨ N = 3 ∨ N = 4 ∨ N = 5 := by omega
  rcases this with h | h | h | h <;> subst h <;> omega
def toldT (N : Int) (ads : List Int) (n : Nat) : List Int := (List.range n).filterMap fun k : Nat => tk N ads (k : Int)
omit S in
theorem toldT_next (n : Nat) : toldT N ads (n + 1) = toldT N ads n ++ (tk N ads (n : Int)).toList := by
  unfold toldT
  rw [List.range_succ, List.filterMap_append]
  cases e : tk N ads (n : Int) <;> simp [e]
omit S in
theorem toldT_len : ∀ n : Nat, ((toldT N ads n).length : Int) = cnt N ads n
  | 0 => rfl
  | n + 1 => by
    rw [toldT_next, List.length_append, cnt, ← toldT_len n]
    cases e : tk N ads (n : Int) with
    | none => simp
    | some x => simp
theorem toldT_le : ∀ n : Nat, (∀ x ∈ toldT N ads n, x ≤ mx N ads n) ∧ (1 ≤ n → mx N ads n ∈ toldT N ads n)
  | 0 => ⟨fun _ h => (by cases h), fun h => absurd h (by decide)⟩
  | n + 1 => by
    obtain ⟨h1, h2⟩ := toldT_le n
    rw [toldT_next, mx]
    have nn : 0 ≤ mx N ads n := mI_nn (N := N) (ads := ads) (n : Int)
    refine ⟨fun x hx => ?_, fun _ => ?_⟩
    · rcases List.mem_append.mp hx with m | m
      · have := h1 x m
        omega
      · cases e : tk N ads (n : Int) with
        | none => rw [e] at m; cases m
        | some t =>
          rw [e] at m
          have : x = t := by simpa using m
          show x ≤ max _ t
          omega
    · cases n with
      | zero => exact List.mem_append_right _ (by show max (0 : Int) ((tk N ads 0).getD 0) ∈ (tk N ads 0).toList; rw [tk_zero]; decide)
      | succ n =>
        have m := h2 (by omega)
        cases e : tk N ads ((n + 1 : Nat) : Int) with
        | none =>
          show max (mx N ads (n + 1)) 0 ∈ _
          rw [show max (mx N ads (n + 1)) 0 = mx N ads (n + 1) by omega]
          exact List.mem_append_left _ m
        | some t =>
          show max (mx N ads (n + 1)) t ∈ _
          by_cases c : t ≤ mx N ads (n + 1)
          · rw [show max (mx N ads (n + 1)) t = mx N ads (n + 1) by omega]
            exact List.mem_append_left _ m
          · rw [show max (mx N ads (n + 1)) t = t by omega]
            exact List.mem_append_right _ (by simp)
theorem tk_up : ∀ (k : Nat) (c t : Int), c ≤ k → 0 ≤ c → tk N ads c = some t → t ≤ 5 * c
  | 0, c, t, h, h0, e => by
    have : c = 0 := by omega
    subst this
    rw [tk_zero] at e
    cases e
    decide
  | k + 1, c, t, h, h0, e => by
    by_cases c0 : c = 0
    · subst c0
      rw [tk_zero] at e
      cases e
      decide
    · rw [tk_eq S (by omega)] at e
      obtain ⟨p, hp, ep⟩ := List.mem_filterMap.mp (least_memT e)
      have z := callsO_mem S h0 hp
      cases q : tk N ads p.1 with
      | none => rw [q] at ep; cases ep
      | some x =>
        rw [q] at ep
        have e2 : x + p.2 = t := Option.some.inj ep
        have ih := tk_up k p.1 x (by omega) z.1 q
        omega
theorem mx_up : ∀ n : Nat, mx N ads n ≤ 5 * (n : Int)
  | 0 => Int.le_refl _
  | n + 1 => by
    have ih := mx_up n
    rw [mx]
    cases e : tk N ads (n : Int) with
    | none => show max _ 0 ≤ _; omega
    | some t =>
      have := tk_up S n (n : Int) t (by omega) (by omega) e
      show max _ t ≤ _
      omega
omit S in
theorem cnt_up : ∀ n : Nat, 0 ≤ cnt N ads n ∧ cnt N ads n ≤ (n : Int)
  | 0 => ⟨Int.le_refl _, Int.le_refl _⟩
  | n + 1 => by
    have ih := cnt_up n
    rw [cnt]
    split <;> omega
omit S in
theorem filmT_take {n k : Nat} (h : k ≤ n + 1) : (filmT N ads n).take k = (List.range k).map fun k : Nat => tk N ads (k : Int) := by
  unfold filmT
  rw [← List.map_take, List.take_range, Nat.min_eq_left h]
/-! ### all of them are told by the steps 1 to 5 at scale 5 -/
theorem all_told (h5 : N = 5) (ha : ∀ r : Int, 0 ≤ r → r < 5 → ∃ a ∈ ads, 1 ≤ a ∧ a ≤ 5 ∧ a % 5 = r) : ∀ (k : Nat) (c : Int), c ≤ k → 0 ≤ c → (tk N ads c).isSome = true
  | 0, c, h, h0 => by
    have : c = 0 := by omega
    subst this
    rfl
  | k + 1, c, h, h0 => by
    by_cases c0 : c = 0
    · subst c0
      rfl
    · obtain ⟨a, am, a1, a2, ar⟩ := ha (c % 5) (by omega) (by omega)
      obtain ⟨i, hi, ei⟩ := List.mem_iff_getElem.mp am
      have ac : a ≤ c := by omega
      have md : (c - a) % N = 0 := by rw [h5]; omega
      have ih := all_told h5 ha k ((c - a) / N) (by rw [h5]; omega) (by rw [h5]; omega)
      have mem : (a, i) ∈ ads.zipIdx := by
        refine List.mem_iff_getElem?.mpr ⟨i, ?_⟩
        rw [List.getElem?_zipIdx, List.getElem?_eq_getElem hi, ei]
        simp
      rw [tk_calls S (by omega)]
      cases e : tk N ads ((c - a) / N) with
      | none => rw [e] at ih; cases ih
      | some x =>
        have m2 : x + (1 + (i : Int)) ∈ ads.zipIdx.filterMap (callT N ads c) := by
          refine List.mem_filterMap.mpr ⟨(a, i), mem, ?_⟩
          unfold callT
          rw [if_pos (show a ≤ c ∧ (c - a) % N = 0 from ⟨ac, md⟩), e]
          rfl
        cases l : ads.zipIdx.filterMap (callT N ads c) with
        | nil => rw [l] at m2; cases m2
        | cons y r => rfl
theorem cnt_all (h5 : N = 5) (ha : ∀ r : Int, 0 ≤ r → r < 5 → ∃ a ∈ ads, 1 ≤ a ∧ a ≤ 5 ∧ a % 5 = r) : ∀ n : Nat, cnt N ads n = (n : Int)
  | 0 => rfl
  | n + 1 => by
    rw [cnt, cnt_all h5 ha n, if_pos (all_told S h5 ha n (n : Int) (by omega) (by omega))]
    omega
end
end CD
namespace CD
/-! few -/
theorem few_succ (rule : List Int) : ∀ (n : Nat) (st : LState), few rule (n + 1) st = behindP (few rule n st) (calledAt rule (few rule n st).1)
  | 0, _ => rfl
  | n + 1, st => by
    show few rule (n + 1) (behindP st (calledAt rule st.1)) = _
    rw [few_succ rule n]
    rfl
theorem few_add (rule : List Int) : ∀ (a b : Nat) (st : LState), few rule (a + b) st = few rule b (few rule a st)
  | 0, b, st => by rw [Nat.zero_add]; rfl
  | a + 1, b, st => by
    rw [Nat.add_right_comm]
    show few rule (a + b) (behindP st _) = few rule b (few rule a (behindP st _))
    exact few_add rule a b _
theorem behindP_len (st : LState) (t : Option Int) (h : 1 ≤ st.1.length) : (behindP st t).1.length = st.1.length := by
  show (st.1.tail ++ [t]).length = _
  rw [List.length_append, List.length_tail, List.length_singleton]
  omega
theorem few_len (rule : List Int) : ∀ (n : Nat) (st : LState), 1 ≤ st.1.length → (few rule n st).1.length = st.1.length
  | 0, _, _ => rfl
  | n + 1, st, h => by
    show (few rule n (behindP st _)).1.length = _
    rw [few_len rule n _ (by rw [behindP_len st _ h]; exact h), behindP_len st _ h]
/-! later -/
theorem laterW_len (ws : Win) (m : Int) : (laterW ws m).length = ws.length := List.length_map ..
theorem laterW_add (ws : Win) (a b : Int) : laterW (laterW ws a) b = laterW ws (a + b) := by
  unfold laterW
  rw [List.map_map]
  refine List.map_congr_left fun o _ => ?_
  cases o with
  | none => rfl
  | some t => show some (t + a + b) = some (t + (a + b)); rw [Int.add_assoc]
theorem laterW_zero (ws : Win) : laterW ws 0 = ws := by
  unfold laterW
  conv => rhs; rw [← List.map_id ws]
  refine List.map_congr_left fun o _ => ?_
  cases o with
  | none => rfl
  | some t => show some (t + 0) = some t; rw [Int.add_zero]
theorem back_later (ws : Win) (s m : Int) : back (laterW ws m) s = (back ws s).map (· + m) := by
  unfold back
  rw [laterW_len]
  unfold laterW
  rw [List.getD_eq_getElem?_getD, List.getD_eq_getElem?_getD, List.getElem?_map]
  cases ws[ws.length - s.toNat]? <;> rfl
theorem foldmin_add (m : Int) : ∀ (ns : List Int) (n : Int), (ns.map (· + m)).foldl min (n + m) = ns.foldl min n + m
  | [], _ => rfl
  | k :: r, n => by
    rw [List.map_cons, List.foldl_cons, List.foldl_cons, ← foldmin_add m r]
    congr 1
    omega
theorem leastO_add (m : Int) (ns : List Int) : leastO (ns.map (· + m)) = (leastO ns).map (· + m) := by
  cases ns with
  | nil => rfl
  | cons n r => show some ((r.map (· + m)).foldl min (n + m)) = some (r.foldl min n + m); rw [foldmin_add]
theorem calls_later (rule : List Int) (ws : Win) (m : Int) : calls rule (laterW ws m) = (calls rule ws).map (· + m) := by
  unfold calls
  rw [List.map_filterMap]
  congr 1
  funext p
  unfold callAt
  rw [back_later]
  cases back ws p.1 with
  | none => rfl
  | some t => show some (t + m + _) = some (t + _ + m); rw [Int.add_right_comm]
theorem called_later (rule : List Int) (ws : Win) (m : Int) : calledAt rule (laterW ws m) = (calledAt rule ws).map (· + m) := by
  unfold calledAt
  rw [calls_later, leastO_add]
/-! ticks -/
def nextW (rule : List Int) (ws : Win) : Win := ws.tail ++ [calledAt rule ws]
def winN (rule : List Int) : Nat → Win → Win
  | 0, ws => ws
  | n + 1, ws => winN rule n (nextW rule ws)
def ticks (rule : List Int) : Nat → Win → List (Option Int)
  | 0, _ => []
  | n + 1, ws => calledAt rule ws :: ticks rule n (nextW rule ws)
def lastL (l : Int) (ts : List (Option Int)) : Int := ts.foldl (fun l t => lastOf t l) l
theorem few_eq (rule : List Int) : ∀ (n : Nat) (st : LState), few rule n st = (winN rule n st.1, lastL st.2 (ticks rule n st.1))
  | 0, _ => rfl
  | n + 1, st => by
    show few rule n (behindP st (calledAt rule st.1)) = _
    rw [few_eq rule n]
    rfl
theorem nextW_later (rule : List Int) (ws : Win) (m : Int) : nextW rule (laterW ws m) = laterW (nextW rule ws) m := by
  unfold nextW
  rw [called_later]
  unfold laterW
  rw [List.map_append, List.map_tail]
  rfl
theorem winN_later (rule : List Int) (m : Int) : ∀ (n : Nat) (ws : Win), winN rule n (laterW ws m) = laterW (winN rule n ws) m
  | 0, _ => rfl
  | n + 1, ws => by
    show winN rule n (nextW rule (laterW ws m)) = laterW (winN rule n (nextW rule ws)) m
    rw [nextW_later, winN_later rule m n]
theorem ticks_later (rule : List Int) (m : Int) : ∀ (n : Nat) (ws : Win), ticks rule n (laterW ws m) = (ticks rule n ws).map (·.map (· + m))
  | 0, _ => rfl
  | n + 1, ws => by
    show calledAt rule (laterW ws m) :: ticks rule n (nextW rule (laterW ws m)) = _
    rw [called_later, nextW_later, ticks_later rule m n]
    rfl
theorem winN_add (rule : List Int) : ∀ (a b : Nat) (ws : Win), winN rule (a + b) ws = winN rule b (winN rule a ws)
  | 0, b, ws => by rw [Nat.zero_add]; rfl
  | a + 1, b, ws => by
    rw [Nat.add_right_comm]
    exact winN_add rule a b _
theorem ticks_add (rule : List Int) : ∀ (a b : Nat) (ws : Win), ticks rule (a + b) ws = ticks rule a ws ++ ticks rule b (winN rule a ws)
  | 0, b, ws => by rw [Nat.zero_add]; rfl
  | a + 1, b, ws => by
    rw [Nat.add_right_comm]
    show calledAt rule ws :: ticks rule (a + b) (nextW rule ws) = calledAt rule ws :: (ticks rule a (nextW rule ws) ++ _)
    rw [ticks_add rule a b]
    rfl
/-! the greatest -/
theorem lastOf_ge (t : Option Int) (l : Int) : l ≤ lastOf t l := by
  cases t with
  | none => exact Int.le_refl _
  | some t => show l ≤ if l < t then t else l; split <;> omega
theorem lastL_ge : ∀ (ts : List (Option Int)) (l : Int), l ≤ lastL l ts
  | [], _ => Int.le_refl _
  | t :: r, l => Int.le_trans (lastOf_ge t l) (lastL_ge r (lastOf t l))
theorem lastL_mem : ∀ (ts : List (Option Int)) (l x : Int), some x ∈ ts → x ≤ lastL l ts
  | t :: r, l, x, h => by
    rcases List.mem_cons.mp h with e | h
    · subst e
      refine Int.le_trans ?_ (lastL_ge r (lastOf (some x) l))
      show x ≤ if l < x then x else l
      split <;> omega
    · exact lastL_mem r _ x h
theorem lastL_is : ∀ (ts : List (Option Int)) (l : Int), lastL l ts = l ∨ some (lastL l ts) ∈ ts
  | [], _ => .inl rfl
  | t :: r, l => by
    show lastL (lastOf t l) r = l ∨ _
    rcases lastL_is r (lastOf t l) with e | e
    · cases t with
      | none => exact .inl e
      | some x =>
        by_cases h : l < x
        · have e2 : lastOf (some x) l = x := if_pos h
          rw [e2] at e
          refine .inr ?_
          show some (lastL (lastOf (some x) l) r) ∈ _
          rw [e2, e]
          exact List.mem_cons_self
        · have e2 : lastOf (some x) l = l := if_neg h
          rw [e2] at e
          exact .inl (by rw [e2]; exact e)
    · exact .inr (List.mem_cons_of_mem _ e)
theorem lastL_append (a b : List (Option Int)) (l : Int) : lastL l (a ++ b) = lastL (lastL l a) b := List.foldl_append ..
/-- what comes ahead does not matter where something as great comes behind -/
theorem lastL_absorb {a b : List (Option Int)} (l : Int) (h : ∀ x, some x ∈ a → ∃ y, some y ∈ b ∧ x ≤ y) : lastL l (a ++ b) = lastL l b := by
  rw [lastL_append]
  refine Int.le_antisymm ?_ ?_
  · rcases lastL_is b (lastL l a) with e | e
    · rw [e]
      rcases lastL_is a l with e2 | e2
      · rw [e2]; exact lastL_ge b l
      · obtain ⟨y, hy, le⟩ := h _ e2
        exact Int.le_trans le (lastL_mem b l y hy)
    · exact lastL_mem b l _ e
  · rcases lastL_is b l with e | e
    · rw [e]
      exact Int.le_trans (lastL_ge a l) (lastL_ge b _)
    · exact lastL_mem b _ _ e
/-! rounds -/
theorem winN_rounds (rule : List Int) {ws : Win} {z : Nat} {m : Int} (h : winN rule z ws = laterW ws m) : ∀ r : Nat, winN rule (r * z) ws = laterW ws (r * m)
  | 0 => by rw [Nat.zero_mul]; show ws = laterW ws _; rw [show ((0 : Nat) : Int) * m = 0 by simp, laterW_zero]
  | r + 1 => by
    rw [Nat.add_mul, Nat.one_mul, winN_add, winN_rounds rule h r, winN_later, h, laterW_add]
    congr 1
    rw [show ((r + 1 : Nat) : Int) = (r : Int) + 1 by omega, Int.add_mul, Int.one_mul, Int.add_comm]
/-- the ticks of whole rounds are those of the first one, later -/
theorem ticks_rounds (rule : List Int) {ws : Win} {z : Nat} {m : Int} (h : winN rule z ws = laterW ws m) : ∀ (r : Nat) (x : Int), some x ∈ ticks rule (r * z) ws → ∃ (a : Nat) (y : Int), a < r ∧ some y ∈ ticks rule z ws ∧ x = y + a * m
  | 0, x, hx => by rw [Nat.zero_mul] at hx; cases hx
  | r + 1, x, hx => by
    rw [Nat.add_mul, Nat.one_mul, ticks_add, List.mem_append] at hx
    rcases hx with hx | hx
    · obtain ⟨a, y, ha, hy, e⟩ := ticks_rounds rule h r x hx
      exact ⟨a, y, by omega, hy, e⟩
    · rw [winN_rounds rule h r, ticks_later, List.mem_map] at hx
      obtain ⟨o, ho, e⟩ := hx
      cases o with
      | none => cases e
      | some y =>
        have e2 : some (y + r * m) = some x := e
        exact ⟨r, y, by omega, ho, (Option.some.inj e2).symm⟩
/-- THE ROUNDS: whole rounds may be left out -/
theorem few_rounds (rule : List Int) {ws : Win} {z : Nat} {m : Int} (hz : 1 ≤ z) (hm : 0 ≤ m) (h : winN rule z ws = laterW ws m) (L : Nat) (last : Int) :
    few rule L (ws, last) = few rule (L - (L / z - 1) * z) (laterW ws (((L / z - 1 : Nat) : Int) * m), last) := by
  generalize hr : L / z - 1 = r
  by_cases r0 : r = 0
  · subst r0
    rw [Nat.zero_mul, Nat.sub_zero, show ((0 : Nat) : Int) * m = 0 by simp, laterW_zero]
  have hdiv : z * (L / z) ≤ L := Nat.mul_div_le L z
  have hq : L / z = r + 1 := by omega
  have hL : r * z + z ≤ L := by
    have e : z * (r + 1) = r * z + z := by rw [Nat.mul_comm, Nat.add_mul, Nat.one_mul]
    rw [hq, e] at hdiv
    exact hdiv
  generalize hn : L - r * z = n
  have eL : L = r * z + n := by omega
  have hzn : z ≤ n := by omega
  rw [eL, few_eq, few_eq]
  have hw := winN_rounds rule h r
  refine Prod.ext ?_ ?_
  · show winN rule (r * z + n) ws = winN rule n (laterW ws (r * m))
    rw [winN_add, hw]
  · show lastL last (ticks rule (r * z + n) ws) = lastL last (ticks rule n (laterW ws (r * m)))
    rw [ticks_add, hw]
    refine lastL_absorb last fun x hx => ?_
    obtain ⟨a, y, ha, hy, rfl⟩ := ticks_rounds rule h r x hx
    refine ⟨y + r * m, ?_, ?_⟩
    · obtain ⟨k, rfl⟩ : ∃ k, n = z + k := ⟨n - z, by omega⟩
      rw [ticks_later, ticks_add]
      refine List.mem_map.mpr ⟨some y, List.mem_append_left _ hy, rfl⟩
    · have : (a : Int) * m ≤ r * m := Int.mul_le_mul_of_nonneg_right (by omega) hm
      omega
end CD
namespace CD
/-! base and shape -/
theorem told_mem {ws : Win} {t : Int} : t ∈ told ws ↔ some t ∈ ws := by
  unfold told
  rw [List.mem_filterMap]
  exact ⟨fun ⟨o, h, e⟩ => by rw [show o = some t from e] at h; exact h, fun h => ⟨_, h, rfl⟩⟩
theorem foldmin_le : ∀ (ns : List Int) (n : Int), ns.foldl min n ≤ n ∧ (∀ k ∈ ns, ns.foldl min n ≤ k) ∧ (ns.foldl min n = n ∨ ns.foldl min n ∈ ns)
  | [], n => ⟨Int.le_refl _, fun k h => (by cases h), .inl rfl⟩
  | k :: r, n => by
    obtain ⟨h1, h2, h3⟩ := foldmin_le r (min n k)
    rw [List.foldl_cons]
    refine ⟨by omega, fun j hj => ?_, ?_⟩
    · rcases List.mem_cons.mp hj with rfl | hj
      · omega
      · exact h2 j hj
    · rcases h3 with e | e
      · by_cases c : n ≤ k
        · exact .inl (by rw [e]; omega)
        · refine .inr ?_
          rw [e, show min n k = k by omega]
          exact List.mem_cons_self
      · exact .inr (List.mem_cons_of_mem _ e)
theorem leastO_spec {ns : List Int} {m : Int} (h : leastO ns = some m) : m ∈ ns ∧ ∀ k ∈ ns, m ≤ k := by
  cases ns with
  | nil => cases h
  | cons n r =>
    obtain ⟨h1, h2, h3⟩ := foldmin_le r n
    have e : r.foldl min n = m := Option.some.inj h
    rw [e] at h1 h2 h3
    refine ⟨?_, fun k hk => ?_⟩
    · rcases h3 with q | q
      · rw [q]; exact List.mem_cons_self
      · exact List.mem_cons_of_mem _ q
    · rcases List.mem_cons.mp hk with rfl | hk
      · exact h1
      · exact h2 k hk
theorem leastO_none {ns : List Int} (h : leastO ns = none) : ns = [] := by
  cases ns with
  | nil => rfl
  | cons n r => cases h
theorem told_later (ws : Win) (m : Int) : told (laterW ws m) = (told ws).map (· + m) := by
  unfold told laterW
  rw [List.filterMap_map, List.map_filterMap]
  congr 1
theorem base_later {ws : Win} (h : told ws ≠ []) (m : Int) : baseOf (laterW ws m) = baseOf ws + m := by
  unfold baseOf
  rw [told_later, leastO_add]
  cases e : told ws with
  | nil => exact absurd e h
  | cons n r => rfl
theorem later_shape (ws : Win) : laterW (shapeOf ws) (baseOf ws) = ws := by
  unfold shapeOf
  rw [laterW_add, Int.add_left_neg, laterW_zero]
theorem shape_eq {a b : Win} (h : shapeOf a = shapeOf b) : b = laterW a (baseOf b - baseOf a) := by
  have e := later_shape b
  rw [← h] at e
  unfold shapeOf at e
  rw [laterW_add] at e
  rw [← e]
  congr 1
  have q : baseOf (laterW a (-baseOf a + baseOf b)) = baseOf b := by rw [e]
  omega
/-! bounds -/
theorem back_mem {ws : Win} {s t : Int} (h : back ws s = some t) : some t ∈ ws := by
  unfold back at h
  rw [List.getD_eq_getElem?_getD] at h
  cases e : ws[ws.length - s.toNat]? with
  | none => rw [e] at h; cases h
  | some o =>
    rw [e] at h
    have h2 : o = some t := h
    subst h2
    exact List.mem_of_getElem? e
theorem called_bounds {rule : List Int} (hl : rule.length ≤ 4) {ws : Win} {lo hi t : Int} (h : ∀ x ∈ told ws, lo ≤ x ∧ x ≤ hi) (ht : calledAt rule ws = some t) : lo ≤ t ∧ t ≤ hi + 4 := by
  obtain ⟨hm, _⟩ := leastO_spec ht
  unfold calls at hm
  obtain ⟨p, hp, e⟩ := List.mem_filterMap.mp hm
  unfold callAt at e
  cases eb : back ws p.1 with
  | none => rw [eb] at e; cases e
  | some x =>
    rw [eb] at e
    have e2 : x + (p.2 : Int) = t := Option.some.inj e
    obtain ⟨b1, b2⟩ := h x (told_mem.mpr (back_mem eb))
    obtain ⟨i, hi2⟩ := List.mem_iff_getElem?.mp hp
    rw [List.getElem?_zipIdx] at hi2
    cases er : rule[i]? with
    | none => rw [er] at hi2; cases hi2
    | some s =>
      rw [er] at hi2
      have e3 : (s, 1 + i) = p := Option.some.inj hi2
      have hlt := (List.getElem?_eq_some_iff.mp er).1
      have e4 : p.2 = 1 + i := by rw [← e3]
      omega
theorem winN_bounds {rule : List Int} (hl : rule.length ≤ 4) {lo : Int} : ∀ (n : Nat) (ws : Win) (hi : Int), (∀ x ∈ told ws, lo ≤ x ∧ x ≤ hi) → ∀ x ∈ told (winN rule n ws), lo ≤ x ∧ x ≤ hi + 4 * (n : Int)
  | 0, ws, hi, h => fun x hx => by have := h x hx; omega
  | n + 1, ws, hi, h => fun x hx => by
    have step : ∀ y ∈ told (nextW rule ws), lo ≤ y ∧ y ≤ hi + 4 := fun y hy => by
      have hy' := told_mem.mp hy
      unfold nextW at hy'
      rcases List.mem_append.mp hy' with q | q
      · have := h y (told_mem.mpr (List.mem_of_mem_tail q))
        omega
      · exact called_bounds hl h (List.mem_singleton.mp q).symm
    have := winN_bounds hl n (nextW rule ws) (hi + 4) step x hx
    omega
theorem exists_max : ∀ (ns : List Int), ns ≠ [] → ∃ m ∈ ns, ∀ k ∈ ns, k ≤ m
  | [], h => absurd rfl h
  | [n], _ => ⟨n, List.mem_cons_self, fun k hk => by rw [List.mem_singleton.mp hk]; exact Int.le_refl _⟩
  | n :: k :: r, _ => by
    obtain ⟨m, hm, h⟩ := exists_max (k :: r) (by simp)
    by_cases c : n ≤ m
    · exact ⟨m, List.mem_cons_of_mem _ hm, fun j hj => by
        rcases List.mem_cons.mp hj with rfl | hj
        · exact c
        · exact h j hj⟩
    · exact ⟨n, List.mem_cons_self, fun j hj => by
        rcases List.mem_cons.mp hj with rfl | hj
        · exact Int.le_refl _
        · have := h j hj; omega⟩
/-- where a shape comes again, by how much it is later -/
theorem more_bounds {rule : List Int} (hl : rule.length ≤ 4) {ws : Win} {z : Nat} (h : shapeOf ws = shapeOf (winN rule z ws)) :
    winN rule z ws = laterW ws (baseOf (winN rule z ws) - baseOf ws) ∧ 0 ≤ baseOf (winN rule z ws) - baseOf ws ∧ baseOf (winN rule z ws) - baseOf ws ≤ 4 * (z : Int) := by
  have e := shape_eq h
  refine ⟨e, ?_⟩
  generalize hm : baseOf (winN rule z ws) - baseOf ws = m at e
  by_cases hn : told ws = []
  · have : baseOf ws = 0 := by unfold baseOf; rw [hn]; rfl
    have h2 : baseOf (winN rule z ws) = 0 := by
      rw [e]
      unfold baseOf
      rw [told_later, hn]
      rfl
    omega
  · have hb : ∃ b, leastO (told ws) = some b := by
      cases q : told ws with
      | nil => exact absurd q hn
      | cons n r => exact ⟨_, rfl⟩
    obtain ⟨b, hb⟩ := hb
    obtain ⟨b1, b2⟩ := leastO_spec hb
    obtain ⟨x, x1, x2⟩ := exists_max _ hn
    have bd := winN_bounds hl z ws x (lo := b) fun y hy => ⟨b2 y hy, x2 y hy⟩
    rw [e, told_later] at bd
    have c1 := bd (b + m) (List.mem_map.mpr ⟨b, b1, rfl⟩)
    have c2 := bd (x + m) (List.mem_map.mpr ⟨x, x1, rfl⟩)
    omega
/-! the film of all people -/
def backF (fs : List (Option Int)) (s : Int) : Option Int := if s.toNat ≤ fs.length then fs.getD (fs.length - s.toNat) none else none
def callF (fs : List (Option Int)) (p : Int × Nat) : Option Int := (backF fs p.1).map (· + (p.2 : Int))
def nextF (rule gone : List Int) (fs : List (Option Int)) : Option Int := if (fs.length : Int) ∈ gone then none else leastO ((rule.zipIdx 1).filterMap (callF fs))
def film (rule gone : List Int) : Nat → List (Option Int)
  | 0 => [some 0]
  | n + 1 => film rule gone n ++ [nextF rule gone (film rule gone n)]
theorem film_len (rule gone : List Int) : ∀ n, (film rule gone n).length = n + 1
  | 0 => rfl
  | n + 1 => by
    show (film rule gone n ++ [_]).length = _
    rw [List.length_append, film_len rule gone n]
    rfl
def winOf (R : Nat) (fs : List (Option Int)) : Win := (List.replicate R none ++ fs).drop fs.length
theorem winOf_len (R : Nat) (fs : List (Option Int)) : (winOf R fs).length = R := by
  unfold winOf
  rw [List.length_drop, List.length_append, List.length_replicate]
  omega
theorem winOf_snoc {R : Nat} (fs : List (Option Int)) (t : Option Int) (h : 1 ≤ R) : winOf R (fs ++ [t]) = (winOf R fs).tail ++ [t] := by
  unfold winOf
  rw [← List.append_assoc, List.length_append, List.length_singleton, List.drop_append_of_le_length (by rw [List.length_append, List.length_replicate]; omega), List.tail_drop]
theorem back_winOf {R : Nat} {fs : List (Option Int)} {s : Int} (h1 : 1 ≤ s) (h2 : s ≤ R) : back (winOf R fs) s = backF fs s := by
  unfold back backF
  rw [winOf_len, List.getD_eq_getElem?_getD]
  unfold winOf
  rw [List.getElem?_drop]
  by_cases c : s.toNat ≤ fs.length
  · rw [if_pos c, List.getElem?_append_right (by rw [List.length_replicate]; omega), List.length_replicate, List.getD_eq_getElem?_getD]
    congr 2
    omega
  · rw [if_neg c, List.getElem?_append_left (by rw [List.length_replicate]; omega), List.getElem?_replicate]
    split <;> rfl
structure Fits (rule : List Int) (R : Nat) : Prop where
  r1 : 1 ≤ R
  st : ∀ s ∈ rule, 1 ≤ s ∧ s ≤ (R : Int)
theorem filterMap_same {α β : Type} {f g : α → Option β} : ∀ {xs : List α}, (∀ x ∈ xs, f x = g x) → xs.filterMap f = xs.filterMap g
  | [], _ => rfl
  | x :: r, h => by
    rw [List.filterMap_cons, List.filterMap_cons, h x List.mem_cons_self, filterMap_same fun y hy => h y (List.mem_cons_of_mem _ hy)]
theorem called_winOf {rule : List Int} {R : Nat} (F : Fits rule R) (fs : List (Option Int)) : calledAt rule (winOf R fs) = leastO ((rule.zipIdx 1).filterMap (callF fs)) := by
  unfold calledAt calls
  congr 1
  refine filterMap_same fun p hp => ?_
  have hm : p.1 ∈ rule := by
    obtain ⟨i, hi⟩ := List.mem_iff_getElem?.mp hp
    rw [List.getElem?_zipIdx] at hi
    cases er : rule[i]? with
    | none => rw [er] at hi; cases hi
    | some s =>
      rw [er] at hi
      have e3 : (s, 1 + i) = p := Option.some.inj hi
      rw [← e3]
      exact List.mem_of_getElem? er
  unfold callAt callF
  rw [back_winOf (F.st _ hm).1 (F.st _ hm).2]
/-- the state behind the people 0 to n -/
def stF (rule gone : List Int) (R n : Nat) : LState := (winOf R (film rule gone n), lastL 0 (film rule gone n))
theorem stF_succ {rule gone : List Int} {R : Nat} (F : Fits rule R) (n : Nat) : stF rule gone R (n + 1) = behindP (stF rule gone R n) (nextF rule gone (film rule gone n)) := by
  unfold stF behindP
  refine Prod.ext ?_ ?_
  · exact winOf_snoc _ _ F.r1
  · show lastL 0 (film rule gone n ++ [_]) = _
    rw [lastL_append]
    rfl
theorem stF_few {rule gone : List Int} {R : Nat} (F : Fits rule R) (n : Nat) : ∀ k : Nat, (∀ j : Nat, n < j → j ≤ n + k → (j : Int) ∉ gone) → few rule k (stF rule gone R n) = stF rule gone R (n + k)
  | 0, _ => rfl
  | k + 1, h => by
    rw [few_succ, stF_few F n k fun j h1 h2 => h j h1 (by omega), ← Nat.add_assoc, stF_succ F]
    congr 1
    show calledAt rule (winOf R (film rule gone (n + k))) = nextF rule gone (film rule gone (n + k))
    rw [called_winOf F]
    unfold nextF
    rw [if_neg]
    rw [film_len]
    exact h _ (by omega) (by omega)
/-! the walk over those who are missing -/
def behindAll (rule : List Int) : List Int → Int → Int → LState → LState
  | [], person, people, st => few rule (people - person).toNat st
  | g :: gs, person, people, st => if g < people then behindAll rule gs (g + 1) people (behindP (few rule (g - person).toNat st) none) else behindAll rule gs person people st
theorem asc_cons {g : Int} {gs : List Int} (h : ascB (g :: gs) = true) : ascB gs = true ∧ ∀ k ∈ gs, g < k := by
  induction gs generalizing g with
  | nil => exact ⟨rfl, fun k hk => by cases hk⟩
  | cons k r ih =>
    have e : ascB (g :: k :: r) = (decide (g < k) && ascB (k :: r)) := rfl
    rw [e, Bool.and_eq_true, decide_eq_true_eq] at h
    refine ⟨h.2, fun j hj => ?_⟩
    rcases List.mem_cons.mp hj with rfl | hj
    · exact h.1
    · have := (ih h.2).2 j hj
      omega
theorem behindAll_film {rule G : List Int} {R : Nat} (F : Fits rule R) : ∀ (gs : List Int) (p n : Nat), ascB gs = true → (∀ k ∈ gs, (p : Int) < k) → (∀ k : Int, (p : Int) < k → (k ∈ G ↔ k ∈ gs)) → p ≤ n →
    behindAll rule gs ((p : Int) + 1) ((n : Int) + 1) (stF rule G R p) = stF rule G R n
  | [], p, n, _, _, hG, hn => by
    show few rule (((n : Int) + 1) - ((p : Int) + 1)).toNat _ = _
    obtain ⟨k, rfl⟩ : ∃ k, n = p + k := ⟨n - p, by omega⟩
    rw [show (((p + k : Nat) : Int) + 1 - ((p : Int) + 1)).toNat = k by omega]
    refine stF_few F p k fun j h1 h2 hm => ?_
    have := (hG (j : Int) (by omega)).mp hm
    cases this
  | g :: gs, p, n, ha, hp, hG, hn => by
    obtain ⟨a1, a2⟩ := asc_cons ha
    have hg := hp g List.mem_cons_self
    show (if g < (n : Int) + 1 then _ else _) = _
    by_cases c : g < (n : Int) + 1
    · rw [if_pos c]
      obtain ⟨q, hq⟩ : ∃ q : Nat, g = (q : Int) + 1 := ⟨(g - 1).toNat, by omega⟩
      obtain ⟨k, hk⟩ : ∃ k, q = p + k := ⟨q - p, by omega⟩
      have e1 : (g - ((p : Int) + 1)).toNat = k := by omega
      rw [e1, stF_few F p k (fun j h1 h2 hm => by
        have := (hG (j : Int) (by omega)).mp hm
        rcases List.mem_cons.mp this with e | e
        · omega
        · have := a2 _ e; omega), ← hk]
      have e2 : behindP (stF rule G R q) none = stF rule G R (q + 1) := by
        rw [stF_succ F]
        congr 1
        unfold nextF
        rw [film_len, if_pos]
        rw [show ((q + 1 : Nat) : Int) = g by omega]
        exact (hG g hg).mpr List.mem_cons_self
      have e3 : g + 1 = ((q + 1 : Nat) : Int) + 1 := by omega
      rw [e2, e3]
      refine behindAll_film F gs (q + 1) n a1 (fun k hk => by have := a2 k hk; omega) (fun k hk => ?_) (by omega)
      rw [hG k (by omega)]
      exact ⟨fun h => (List.mem_cons.mp h).resolve_left (by omega), List.mem_cons_of_mem _⟩
    · rw [if_neg c]
      -- g and all behind are beyond
      have : ∀ (l : List Int), (∀ k ∈ l, (n : Int) < k) → behindAll rule l ((p : Int) + 1) ((n : Int) + 1) (stF rule G R p) = few rule (n - p) (stF rule G R p) := by
        intro l
        induction l with
        | nil =>
          intro _
          show few rule (((n : Int) + 1) - ((p : Int) + 1)).toNat _ = _
          congr 1
          omega
        | cons x r ih =>
          intro hx
          show (if x < (n : Int) + 1 then _ else _) = _
          have := hx x List.mem_cons_self
          rw [if_neg (by omega)]
          exact ih fun k hk => hx k (List.mem_cons_of_mem _ hk)
      rw [this gs fun k hk => by have := a2 k hk; omega, stF_few F p (n - p) (fun j h1 h2 hm => by
        have := (hG (j : Int) (by omega)).mp hm
        rcases List.mem_cons.mp this with e | e
        · omega
        · have := a2 _ e; omega)]
      congr 1
      omega
def stInit (R : Nat) : LState := (List.replicate (R - 1) none ++ [some 0], 0)
theorem stInit_film {rule gone : List Int} {R : Nat} (h : 1 ≤ R) : stInit R = stF rule gone R 0 := by
  obtain ⟨r, rfl⟩ : ∃ r, R = r + 1 := ⟨R - 1, by omega⟩
  refine Prod.ext ?_ rfl
  show (List.replicate (r + 1 - 1) none ++ [some 0] : Win) = (List.replicate (r + 1) none ++ [some 0] : Win).drop 1
  rw [List.replicate_succ]
  rfl
theorem behindAll_eq {rule gone : List Int} {R : Nat} (F : Fits rule R) (ha : ascB gone = true) (h1 : ∀ k ∈ gone, 1 ≤ k) (n : Nat) : behindAll rule gone 1 ((n : Int) + 1) (stInit R) = stF rule gone R n := by
  rw [stInit_film (rule := rule) (gone := gone) F.r1]
  have := behindAll_film (G := gone) F gone 0 n ha (fun k hk => by have := h1 k hk; omega) (fun k _ => Iff.rfl) (Nat.zero_le _)
  exact this
end CD
/-! lifted readings 15: texts; a def held in a slot; xs.pop(i) -/
namespace DL
open PySem PySem.Spec PyProof.Rows L2 CD
section
variable {GP : GenP} {K : PySem.W.Frag} {B : Hp × Hp × GAt}
/-! ### methods of texts -/
variable (K) in
def LM (r : V → List V → Hp → VK → Prop) (p : Str → PN) : Prop := ∀ ⦃F H : Hp⦄ ⦃s : Str⦄ ⦃vs : List V⦄ ⦃ds : List D⦄ (R : VK) (Q : RV → Prop), Same F H → CntL K F H vs ds → p s ds Q →
  (∀ v H' rv, Same H H' → Opk K F H H' v rv → Q rv → R v H') → r (.str s) vs H R
def uM0 (p : Str → PN) (u : UE) : UE := fun ρ Q => u ρ fun x ρ1 => match cn ρ1 (sf x) with
  | some (.str s) => p s [] fun z => Q (nrm z) ρ1
  | _ => False
def uM1 (p : Str → PN) (u ua : UE) : UE := fun ρ Q => u ρ fun x ρ1 => match cn ρ1 (sf x) with
  | some (.str s) => ua ρ1 fun y ρ2 => match cn ρ2 y with
    | some d => p s [d] fun z => Q (nrm z) ρ2
    | none => False
  | _ => False
theorem le_m0 {r : V → List V → Hp → VK → Prop} {p : Str → PN} {t : TE} {u : UE} (hr : LM K r p) (ha : LE GP K B t u) : LE GP K B (tM0 r t) (uM0 p u) := by
  intro H0 F0 γ0 _ γ σ H F ρ R Q r0 u0 h
  refine ha _ _ r0 u0 fun H1 F1 γ1 ρ1 v x r1 s1 k1 u1 => ?_
  obtain ⟨F2, r2, s2, k2⟩ := sf_ok r1 k1
  split at u1
  · rename_i s e
    obtain rfl := (RVok.cnt r2 k2.one e).str
    exact ⟨⟨_, rfl⟩, hr _ _ r2.sub (ds := []) trivial u1 fun v' H' rv sH ok q => let ⟨_, r9, s9, k9⟩ := opk_ok r2 sH ok; h _ _ _ _ _ (nrm rv) r9 (s1.trans (s2.trans s9)) k9 q⟩
  · exact u1.elim
theorem le_m1 {r : V → List V → Hp → VK → Prop} {p : Str → PN} {t t2 : TE} {u u2 : UE} (hr : LM K r p) (ha : LE GP K B t u) (hb : LE GP K B t2 u2) : LE GP K B (tM1 r t t2) (uM1 p u u2) := by
  intro H0 F0 γ0 _ γ σ H F ρ R Q r0 u0 h
  refine ha _ _ r0 u0 fun H1 F1 γ1 ρ1 v x r1 s1 k1 u1 => ?_
  obtain ⟨F2, r2, s2, k2⟩ := sf_ok r1 k1
  split at u1
  · rename_i s e
    obtain rfl := (RVok.cnt r2 k2.one e).str
    refine ⟨⟨_, rfl⟩, hb _ _ r2 u1 fun H3 F3 γ3 ρ3 w y r3 s3 k3 u3 => ?_⟩
    split at u3
    · rename_i d e3
      exact hr _ _ r3.sub (ds := [d]) ⟨RVok.cnt r3 k3 e3, trivial⟩ u3 fun v' H' rv sH ok q => let ⟨_, r9, s9, k9⟩ := opk_ok r3 sH ok; h _ _ _ _ _ (nrm rv) r9 (s1.trans (s2.trans (s3.trans s9))) k9 q
    · exact u3.elim
  · exact u1.elim
theorem DdL.of_strs {F : Hp} : ∀ ns : List Str, DdL K F (ns.map V.str) (ns.map D.str)
  | [] => .nil
  | n :: r => .cons (.str n) (DdL.of_strs r)
theorem DdL.strs {F : Hp} : ∀ {xs : List V} {ns : List Str}, DdL K F xs (ns.map D.str) → xs = ns.map V.str
  | _, [], h => by cases h; rfl
  | _, n :: r, h => by
    cases h with
    | cons h g => cases h; rw [DdL.strs g]; rfl
def pSplit : Str → PN := fun s ds Q => match ds with
  | [.str b] => (b.length == 0) = false ∧ s.length + 2 ≤ sizeLine ∧ Q (.fr (.list ((Txt.split s b).map D.str)))
  | _ => False
theorem lm_split : LM K (fun x xs H Q => ∃ a b, x = .str a ∧ xs = [.str b] ∧ (b.length == 0) = false ∧ a.length + 2 ≤ sizeLine ∧ rNewStrs (Txt.split a b) H Q) pSplit := by
  intro F H x vs ds R Q s c p h
  unfold pSplit at p
  split at p
  · obtain ⟨v, rfl, k⟩ := cl1 c
    exact ⟨_, _, rfl, by rw [k.str], p.1, p.2.1, fun l nl => h _ _ (.fr (.list _)) (same_upd nl) ⟨l, rfl, nl, .lst upd_same (DdL.of_strs _)⟩ p.2.2⟩
  · exact p.elim
def pPartition : Str → PN := fun s ds Q => match ds with
  | [.str b] => (b.length == 0) = false ∧ s.length ≤ sizeLine ∧ Q (.fr (.tup [.str (Txt.partition s b).1, .str (Txt.partition s b).2.1, .str (Txt.partition s b).2.2]))
  | _ => False
theorem lm_partition : LM K (fun x xs H Q => ∃ a b, x = .str a ∧ xs = [.str b] ∧ (b.length == 0) = false ∧ a.length ≤ sizeLine ∧ ∀ p, H p = none → Q (.ref p) (upd H p (.tup [.str (Txt.partition a b).1, .str (Txt.partition a b).2.1, .str (Txt.partition a b).2.2]))) pPartition := by
  intro F H x vs ds R Q s c p h
  unfold pPartition at p
  split at p
  · obtain ⟨v, rfl, k⟩ := cl1 c
    exact ⟨_, _, rfl, by rw [k.str], p.1, p.2.1, fun l nl => h _ _ (.fr (.tup _)) (same_upd nl) ⟨l, _, rfl, nl, upd_same, .cons (.str _) (.cons (.str _) (.cons (.str _) .nil))⟩ p.2.2⟩
  · exact p.elim
def pJoin : Str → PN := fun s ds Q => match ds with
  | [.list xs] => ∃ ys : List Str, xs = ys.map D.str ∧ (ys.map (·.length)).sum + ys.length * s.length ≤ 16777216 ∧ Q (.val (.str (Txt.join s ys)))
  | _ => False
theorem lm_join : LM K (fun x xs H Q => ∃ a p, ∃ ys : List Str, x = .str a ∧ xs = [.ref p] ∧ (SqL K H p (ys.map V.str) ∨ SqT K H p (ys.map V.str)) ∧ (ys.map (·.length)).sum + ys.length * a.length ≤ 16777216 ∧ Q (.str (Txt.join a ys)) H) pJoin := by
  intro F H x vs ds R Q s c p h
  unfold pJoin at p
  split at p
  · obtain ⟨ys, rfl, p1, p2⟩ := p
    obtain ⟨v, rfl, k⟩ := cl1 c
    obtain ⟨a, xs, rfl, hx, g⟩ := k.list s
    rw [g.strs] at hx
    exact ⟨_, a, ys, rfl, rfl, .inl (.inl (.inl hx)), p1, h _ _ (.val _) (Same.refl _) (Dd.str _) p2⟩
  · exact p.elim
def pNo (f : Str → Bool) : Str → PN := fun s ds Q => match ds with
  | [] => Q (.val (.bl (f s)))
  | _ => False
theorem lm_no {f : Str → Bool} : LM K (fun x xs H Q => ∃ a, x = .str a ∧ xs = [] ∧ True ∧ Q (.bl (f a)) H) (pNo f) := by
  intro F H x vs ds R Q s c p h
  unfold pNo at p
  split at p
  · cases vs with
    | nil => exact ⟨_, rfl, rfl, trivial, h _ _ (.val _) (Same.refl _) (Dd.bl _) p⟩
    | cons _ _ => exact c.elim
  · exact p.elim
/-! ### operators, built-ins -/
def pAddS : P2 := fun x y Q => match x, y with
  | .str a, .str b => a.length + b.length ≤ sizeLine ∧ Q (.val (.str (a ++ b)))
  | _, _ => False
theorem lr_addS : LR K (fun x y H Q => ∃ i j, x = .str i ∧ y = .str j ∧ i.length + j.length ≤ sizeLine ∧ Q (.str (i ++ j)) H) pAddS := by
  intro F H x y dx dy R Q s c1 c2 p h
  unfold pAddS at p
  split at p
  · exact ⟨_, _, c1.str, c2.str, p.1, h _ _ (.val _) (Same.refl _) (Dd.str _) p.2⟩
  · exact p.elim
def pIxS : P2 := fun x y Q => match x, y with
  | .str z, .int i => z.length ≤ sizeLine ∧ ∃ c, atI z.cps.toList i = some c ∧ Q (.val (.str ⟨#[c]⟩))
  | _, _ => False
theorem lr_ixS : LR K rIxS pIxS := by
  intro F H x y dx dy R Q s c1 c2 p h
  unfold pIxS at p
  split at p
  · obtain ⟨p1, c, p2, p3⟩ := p
    exact ⟨_, _, c, c1.str, c2.int, p1, p2, h _ _ (.val _) (Same.refl _) (Dd.str _) p3⟩
  · exact p.elim
def pLenS : PN := fun ds Q => match ds with
  | [.str z] => z.length ≤ sizeLine ∧ Q (.val (.int z.length))
  | _ => False
theorem lb_lenS : LB K (fun xs H Q => ∃ z, xs = [.str z] ∧ z.length ≤ sizeLine ∧ Q (.int z.length) H) pLenS := by
  intro F H vs ds R Q s c p h
  unfold pLenS at p
  split at p
  · obtain ⟨v, rfl, k⟩ := cl1 c
    exact ⟨_, by rw [k.str], p.1, h _ _ (.val _) (Same.refl _) (Dd.int _) p.2⟩
  · exact p.elim
def rStrU : List V → Hp → VK → Prop := fun xs H Q => (∃ i, xs = [.int i] ∧ i.natAbs.log2 < 1920 ∧ Q (.str (toString i)) H) ∨ ∃ a, xs = [.str a] ∧ Q (.str a) H
theorem call_strU {X : Cx} : CallR X (.type "str") rStrU := by
  intro pins s σ H xs us Q I r h
  rcases h with ⟨i, e, l, q⟩ | ⟨a, e, q⟩
  · exact call_str_int pins s σ H xs us Q I r ⟨i, e, l, q⟩
  · exact SkE.call_str_str pins s σ H xs us Q I r ⟨a, e, q⟩
def pStr : PN := fun ds Q => match ds with
  | [.int i] => i.natAbs.log2 < 1920 ∧ Q (.val (.str (toString i)))
  | [.str a] => Q (.val (.str a))
  | _ => False
theorem lb_str : LB K rStrU pStr := by
  intro F H vs ds R Q s c p h
  unfold pStr at p
  split at p
  · obtain ⟨v, rfl, k⟩ := cl1 c
    exact .inl ⟨_, by rw [k.int], p.1, h _ _ (.val _) (Same.refl _) (Dd.str _) p.2⟩
  · obtain ⟨v, rfl, k⟩ := cl1 c
    exact .inr ⟨_, by rw [k.str], h _ _ (.val _) (Same.refl _) (Dd.str _) p⟩
  · exact p.elim
def pIntS : PN := fun ds Q => match ds with
  | [.str a] => a.length ≤ 640 ∧ ∃ n, PySem.intText? a = some n ∧ Q (.val (.int n))
  | _ => False
theorem lb_intS : LB K (fun xs H Q => ∃ a n, xs = [.str a] ∧ PySem.intText? a = some n ∧ a.length ≤ 640 ∧ Q (.int n) H) pIntS := by
  intro F H vs ds R Q s c p h
  unfold pIntS at p
  split at p
  · obtain ⟨p1, n, p2, p3⟩ := p
    obtain ⟨v, rfl, k⟩ := cl1 c
    exact ⟨_, n, by rw [k.str], p2, p1, h _ _ (.val _) (Same.refl _) (Dd.int _) p3⟩
  · exact p.elim
/-! ### xs.pop(i) -/
def uPopAt (i : Nat) (a : UE) : UE := fun ρ Q => match ρ[i]? with
  | some (some (.own (.list _))) => a ρ fun x ρ1 => match ρ1[i]?, cn ρ1 x with
    | some (some (.own (.list ds))), some (.int j) => 0 ≤ j ∧ j < 2 ^ 63 ∧ (match ds[j.toNat]? with
      | some d => Q (.val d) (ρ1.set i (some (.own (.list (ds.eraseIdx j.toNat)))))
      | none => False)
    | _, _ => False
  | _ => False
theorem DdL.erase {F : Hp} : ∀ {xs : List V} {ds : List D} (n : Nat), DdL K F xs ds → DdL K F (xs.eraseIdx n) (ds.eraseIdx n)
  | _, _, _, .nil => .nil
  | _, _, 0, .cons _ t => t
  | _, _, n + 1, .cons h t => .cons h (DdL.erase n t)
theorem le_popAt {i : Nat} {t : TE} {u : UE} (h : LE GP K B t u) : LE GP K B (tBM K "list" rPopAt (tVar i) (tCons t tNil)) (uPopAt i u) := by
  intro H0 F0 γ0 _ γ σ H F ρ R Q r z k
  dsimp only [uPopAt] at z
  split at z
  · rename_i ds0 e0
    obtain ⟨a, h1, h2, _⟩ := r.own i _ e0
    cases h2 with
    | lst ha _ =>
      refine ⟨_, h1, .inl ⟨rfl, _, .inl (.inl ha)⟩, ?_⟩
      refine h _ _ r z fun H1 F1 γ1 ρ1 v x r1 s1 k1 u1 => ?_
      split at u1
      · rename_i ds j e ej
        obtain ⟨j0, j1, u1⟩ := u1
        split at u1
        · rename_i d ed
          obtain rfl := (RVok.cnt r1 k1 ej).int
          obtain ⟨b, b1, b2, b3, _⟩ := r1.own i _ e
          rw [h1] at b1; cases b1
          cases b2 with
          | lst hb g =>
            obtain ⟨y, y1, y2⟩ := g.get ed
            have hl := (List.getElem?_eq_some_iff.mp y1).1
            refine ⟨a, _, j, j.toNat, y, rfl, rfl, hb, by omega, j1, ?_, y1, ?_⟩
            · unfold seqIndex?
              rw [if_neg (by omega : ¬ j < 0)]
              rw [if_pos (by rw [Bool.and_eq_true]; exact ⟨decide_eq_true j0, decide_eq_true (by omega)⟩)]
            · exact k _ _ _ _ _ (.val d) (r1.write e h1 (.lst upd_same (g.erase _))) s1 y2 u1
        · exact u1.elim
      · exact u1.elim
  · exact z.elim
/-! ### len(set(t)) of a tuple without likes -/
def uLenSet (u : UE) : UE := fun ρ Q => u ρ fun x ρ1 => match cn ρ1 x with
  | some (.tup ds) => ∃ ns : List Int, ds = ns.map D.int ∧ ns.Nodup ∧ ns.length ≤ 1000 ∧ Q (.val (.int (ns.length : Nat))) ρ1
  | _ => False
theorem le_lenSetT {t : TE} {u : UE} (h : LE GP K B t u) : LE GP K B (tLenSetT K t) (uLenSet u) := by
  intro H0 F0 γ0 _ γ σ H F ρ R Q r z k
  refine h _ _ r z fun H1 F1 γ1 ρ1 v x r1 s1 k1 u1 => ?_
  split at u1
  · rename_i ds e
    obtain ⟨ns, rfl, h1, h2, q⟩ := u1
    obtain ⟨a, xs, rfl, hx, g⟩ := (RVok.cnt r1 k1 e).tup r1.sub
    rw [g.ints] at hx
    exact ⟨a, ns, rfl, hx, h1, h2, k _ _ _ _ _ (.val _) r1 s1 (Dd.int _) q⟩
  · exact u1.elim
theorem op_catAK {X : Cx} {K : PySem.W.Frag} (h : X.K = K) : OpR X (binaryOp .Add) (rCatA K) := h ▸ op_catA
/-! ### a def held in a slot -/
theorem le_fn {a : Addr} : LE GP K B (tC (.ref a)) (uC (.fn a)) := fun H0 F0 γ0 _ γ σ H F ρ R Q r z k => k _ _ _ _ _ (.val _) r (Same.refl _) (Dd.fn a) z
def uCallV (i : Nat) (f : Addr) (n : Nat) (W : WD) (ua : UA) : UE := fun ρ Q => ρ[i]? = some (some (.val (.fn f))) ∧ uCall n W ua ρ Q
theorem le_callV {i n : Nat} {f : Addr} {W : WD} {E : XK} {t : TA} {u : UA} (ha : LA GP K B t u) : LE GP K B (tCallL i f (spL GP K n W) [] E t) (uCallV i f n W u) := by
  intro H0 F0 γ0 _ γ σ H F ρ R Q r ⟨e, z⟩ k
  obtain ⟨v, e1, e2⟩ := r.val i _ e
  cases e2
  exact ⟨e1, le_call (E := E) ha _ _ r z k⟩
end
section
variable {X : Cx} {k i : Nat} {f : Addr} {fd : FuncData} {ps : List Str} {sp : Sp} {x : Str} {p pos : Pos} {e : Expr} {es : List Expr} {t : TA}
theorem pe_callLG (G : GOk X.prog X.w X.K X.mg X.base k f fd ps sp) (hk : PySem.W.keepIn X.K (.ref f) = true) (hb : Binds X.K fd ps []) (hgd : X.A.guards = some []) (hr : Room k X.A) (hN : X.N[i]? = some x) (hv : Vis X.env.scope x)
    (ha : PA X (e :: es) t) (hdb : (x == ("__debug__" : Str)) = false := by decide) (hcd : (x == ("__classdict__" : Str)) = false := by decide) (he : starEach (e :: es) X.env = (false, eval e X.env) :: starEach es X.env := by rfl) (hpl : (backTo pos (starEach es X.env)).any (·.1) = false := by rfl) :
    PE X (.Call (.Name x p) (e :: es) [] pos) (tCallL i f sp [] E0 t) := by
  refine ⟨fun pins s σ H Q I h => ?_⟩
  obtain ⟨hs, ht⟩ := h
  have nm := (pe_var (X := X) (pos := p) (i := i) hN hv hdb hcd).run pins s σ H (fun v H1 => v = .ref f ∧ H1 = H) I ⟨.ref f, hs, rfl, rfl⟩
  refine wpAny_Call_Name_kw (thn nm fun u s1 ⟨v, H1, I1, r1, q1⟩ => ?_)
  obtain ⟨rfl, rfl⟩ := q1
  cases r1
  refine PySem.W.callWith_K (h₀ := X.base) I.ok.mod.kin hk (thn (ha.run pos pins s1 σ _ _ I1 ht) fun us s2 ⟨vs, H2, I2, r, q⟩ => ⟨I2.kIn, ?_⟩) he hpl
  have q : sp vs H2 Q E0 := by
    have z : sp (vs ++ []) H2 Q E0 := q
    rwa [List.append_nil] at z
  have hl : (us ++ []).length = ps.length := by rw [List.append_nil, ← r.length]; exact G.len _ _ _ _ q
  have hbb := hb s2 us I2.kIn hl
  rw [List.append_nil] at hbb
  refine wpAny_call (codeAny_mono (G.run X.A X.stack s2 H2 ⟨us, []⟩ us vs Q E0 hgd hr I2.env0 hbb r q) fun r s' hq => ?_)
  match r, hq with
  | .error _, hq => exact False.elim hq
  | .ok (.ret u), hq => exact I2.after hq
  | .ok .next, hq => exact False.elim hq
  | .ok .brk, hq => exact False.elim hq
  | .ok .cont, hq => exact False.elim hq
end
end DL
set_option maxHeartbeats 1000000
/-! lifted readings 16: loops and blocks over symbolic data -/
namespace DL
open PySem PySem.Spec PyProof.Rows L2 CD
theorem set_back {ρ : Rho} {i : Nat} {x : Option SV} : (ρ.set i x).set i (ρ[i]?.getD none) = ρ := by
  rw [List.set_set]
  by_cases h : i < ρ.length
  · rw [List.getElem?_eq_getElem h]
    exact List.set_getElem_self h
  · exact List.set_eq_of_length_le (by omega)
/-- [e for x in ds], e of x alone -/
theorem goLc_map {i : Nat} {e : UE} {k : List D → Rho → Prop} {f : D → D} {ρ : Rho} (p : D → Prop) (hi : okW ρ [i] = true) (he : ∀ d K, p d → K (.val (f d)) (ρ.set i (some (.val d))) → e (ρ.set i (some (.val d))) K) : ∀ (ds acc : List D), (∀ d ∈ ds, p d) → acc.length + ds.length ≤ sizeLine → k (acc ++ ds.map f) ρ → goLc (ugName i) uYes e [i] k ds acc ρ
  | [], acc, _, _, q => by
    rw [List.map_nil, List.append_nil] at q
    exact q
  | d :: r, acc, hp, hl, q => by
    refine ⟨hi, ?_⟩
    dsimp only [ugName, uYes, wipeR]
    rw [List.set_set, if_pos rfl]
    refine he d _ (hp d List.mem_cons_self) ?_
    rw [List.length_cons] at hl
    refine ⟨by omega, ?_⟩
    have er : restR ρ (ρ.set i (some (.val d))) [i] = ρ := set_back
    rw [er]
    refine goLc_map p hi he r _ (fun x hx => hp x (List.mem_cons_of_mem _ hx)) (by rw [List.length_append, List.length_singleton]; omega) ?_
    rw [List.append_assoc]
    exact q
theorem drec {c : Prop} {inst : Decidable c} {A B : Prop} (h1 : c → A) (h2 : ¬ c → B) : @Decidable.rec c (fun _ => Prop) (fun _ => B) (fun _ => A) inst := by
  cases inst with
  | isTrue h => exact h1 h
  | isFalse h => exact h2 h
theorem sz {ds : List D} (h : Nat.ble ds.length 100 = true) : ds.length ≤ sizeLine := by
  have := Nat.le_of_ble_eq_true h
  rw [sizeLine_eq]
  omega
theorem sl {ds : List D} (h : Nat.ble ds.length 100 = true) : ds.length < sizeLine := by
  have := Nat.le_of_ble_eq_true h
  rw [sizeLine_eq]
  omega
theorem seq_of {a b : US} {Q : UEnds} {ρ : Rho} (h : a { Q with nx := fun ρ' => b Q ρ' } ρ) : uSeq a b Q ρ := h
theorem goFor_inv {i : Nat} {b : US} {Q : UEnds} {I : Nat → Rho → Prop} (p : D → Prop) (N : Nat) (hb : ∀ n d ρ (Q' : UEnds), n < N → p d → I n ρ → (∀ ρ', I (n + 1) ρ' → Q'.nx ρ') → b Q' (ρ.set i (some (.val d)))) : ∀ (items : List D) (n : Nat) (ρ : Rho), n + items.length ≤ N → (∀ d ∈ items, p d) → I n ρ → (∀ ρ', I (n + items.length) ρ' → Q.nx ρ') → goFor (ugName i) b Q items ρ
  | [], n, ρ, _, _, h, q => q ρ h
  | d :: r, n, ρ, hN, hp, h, q => by
    rw [List.length_cons] at hN
    show b { Q with nx := goFor (ugName i) b Q r, ct := goFor (ugName i) b Q r, bk := Q.nx } (ρ.set i (some (.val d)))
    refine hb n d ρ _ (by omega) (hp d List.mem_cons_self) h fun ρ' h' => ?_
    exact goFor_inv p N hb r (n + 1) ρ' (by omega) (fun x hx => hp x (List.mem_cons_of_mem _ hx)) h' fun ρ'' h'' => q ρ'' (by rw [List.length_cons, Nat.add_comm r.length 1, ← Nat.add_assoc]; exact h'')
theorem rg_len (lo : Int) (n : Nat) : (rgD lo n).length = n := by
  unfold rgD
  rw [List.length_map, List.length_range]
end DL
set_option maxHeartbeats 400000
/-! lifted readings: list.insert, list.index -/
namespace DL
open PySem PySem.Spec PyProof.Rows L2 CD
/-! ### xs.insert(i, y), i from 0 to len(xs) -/
section
variable {X : Cx}
def rInsert : V → List V → Hp → VK → Prop := fun x vs H Q => ∃ l xs i y, x = .ref l ∧ vs = [.int i, y] ∧ H l = some (.lst xs) ∧ 0 ≤ i ∧ i ≤ xs.length ∧ xs.length < sizeLine ∧ Q .non (upd H l (.lst (xs.take i.toNat ++ y :: xs.drop i.toNat)))
theorem mt_insert : MtM X "list.insert" rInsert := by
  intro pins s σ H x vs v us Q I rx rv h
  obtain ⟨l, xs, i, y, rfl, rfl, hH, h0, h1, hz, q⟩ := h
  cases rx
  cases rv with
  | cons ri rt => cases rt with
    | cons ry rt =>
      rename_i uy _
      cases rt
      obtain ⟨t, rfl⟩ := ri
      obtain ⟨z, its, n, r, hl, e⟩ := I.lstM hH
      have hs := sizeLine_eq
      refine call_meets F.slot_list_insert ⟨_, e, rfl⟩ F.entry_list_insert (F.args_list_insert_3 _ _ _)
        (PySem.AutoSeq1.list_insert_list_int_val_1 l its.toArray n i t uy (by simp [fitsIndex_of h0 (by omega)]) (by rw [List.size_toArray]; omega)) ⟨e, ?_⟩
      refine ⟨.non, _, I.lset (its' := its.take i.toNat ++ uy :: its.drop i.toNat) hH e ?_ ((r.take _).append (.cons ry (r.drop _))) ?_, rfl, q⟩
      · have e1 : min i.toNat its.length = i.toNat := by omega
        have e2 : (if i < 0 then (i + (its.toArray.size : Int)).toNat else min i.toNat its.toArray.size) = i.toNat := by
          rw [if_neg (by omega), List.size_toArray]; exact e1
        show (its.toArray.extract 0 (if i < 0 then (i + (its.toArray.size : Int)).toNat else min i.toNat its.toArray.size)).push uy ++ its.toArray.extract (if i < 0 then (i + (its.toArray.size : Int)).toNat else min i.toNat its.toArray.size) = _
        rw [e2]
        apply Array.toList_inj.mp
        simp [List.take_of_length_le]
      · rw [List.length_append, List.length_cons, List.length_take, List.length_drop]
        omega
end
section
variable {GP : GenP} {K : PySem.W.Frag} {B : Hp × Hp × GAt}
def uInsert (i : Nat) (a : UA) : UE := fun ρ Q => match ρ[i]? with
  | some (some (.own (.list _))) => a ρ fun xs ρ1 => fzs xs ρ1 fun ds ρ2 => match ρ2[i]?, ds with
    | some (some (.own (.list es))), [.int k, d] => 0 ≤ k ∧ k ≤ es.length ∧ es.length < sizeLine ∧ Q (.val .non) (ρ2.set i (some (.own (.list (es.take k.toNat ++ d :: es.drop k.toNat)))))
    | _, _ => False
  | _ => False
theorem DdL.takeN {F : Hp} : ∀ {xs : List V} {ds : List D} (n : Nat), DdL K F xs ds → DdL K F (xs.take n) (ds.take n)
  | _, _, 0, _ => .nil
  | _, _, n + 1, .nil => .nil
  | _, _, n + 1, .cons h t => .cons h (DdL.takeN n t)
theorem DdL.dropN {F : Hp} : ∀ {xs : List V} {ds : List D} (n : Nat), DdL K F xs ds → DdL K F (xs.drop n) (ds.drop n)
  | _, _, 0, h => h
  | _, _, n + 1, .nil => .nil
  | _, _, n + 1, .cons h t => DdL.dropN n t
theorem le_insert {i : Nat} {t : TA} {u : UA} (h : LA GP K B t u) : LE GP K B (tBM K "list" rInsert (tVar i) t) (uInsert i u) := by
  intro H0 F0 γ0 _ γ σ H F ρ R Q r z k
  dsimp only [uInsert] at z
  split at z
  · rename_i ds0 e0
    obtain ⟨a, h1, h2, _⟩ := r.own i _ e0
    cases h2 with
    | lst ha _ =>
      refine ⟨_, h1, .inl ⟨rfl, _, .inl (.inl ha)⟩, ?_⟩
      refine h _ _ r z fun H1 F1 γ1 ρ1 vs xs r1 s1 k1 u1 => ?_
      obtain ⟨F3, ρ3, ds, r3, s3, d3, q3⟩ := fzs_ok r1 k1 u1
      split at q3
      · rename_i es kk d e
        obtain ⟨q0, q1, q2, q3⟩ := q3
        obtain ⟨b, b1, b2, b3, _⟩ := r3.own i _ e
        rw [h1] at b1; cases b1
        cases b2 with
        | lst hb g =>
          cases d3 with
          | cons g1 d3 => cases d3 with
            | cons g2 d3 =>
              cases d3
              cases g1
              refine ⟨a, _, _, _, rfl, rfl, hb, q0, by rw [g.length]; exact q1, by rw [g.length]; exact q2, ?_⟩
              exact k _ _ _ _ _ (.val .non) (r3.write e h1 (.lst upd_same ((g.takeN _).append (.cons g2 (g.dropN _))))) (s1.trans s3) Dd.non q3
      · exact q3.elim
  · exact z.elim
/-! ### xs.index(n), whole numbers, n there -/
def firstAt (n : Int) : List Int → Option Nat
  | [] => none
  | x :: r => if x = n then some 0 else (firstAt n r).map (· + 1)
theorem firstAt_ok {n : Int} : ∀ {l : List Int} {j : Nat}, firstAt n l = some j → l[j]? = some n ∧ ∀ m z, m < j → l[m]? = some z → z ≠ n
  | x :: r, j, h => by
    unfold firstAt at h
    split at h
    · rename_i e
      cases h
      exact ⟨by rw [e]; rfl, fun m z hm => absurd hm (Nat.not_lt_zero _)⟩
    · rename_i e
      obtain ⟨j', h1, rfl⟩ := Option.map_eq_some_iff.mp h
      obtain ⟨a, b⟩ := firstAt_ok h1
      refine ⟨a, fun m z hm hz => ?_⟩
      cases m with
      | zero => cases hz; exact e
      | succ m => exact b m z (by omega) hz
def uIndex (u v : UE) : UE := fun ρ Q => u ρ fun x ρ1 => ∃ ns : List Int, cn ρ1 (sf x) = some (.list (ns.map D.int)) ∧ v ρ1 fun y ρ2 => cn ρ2 (sf x) = some (.list (ns.map D.int)) ∧ ∃ n j, cn ρ2 y = some (.int n) ∧ firstAt n ns = some j ∧ Q (.val (.int (j : Nat))) ρ2
theorem le_index {to t : TE} {u v : UE} (ho : LE GP K B to u) (ht : LE GP K B t v) : LE GP K B (tBM K "list" (rIndex K) to (tCons t tNil)) (uIndex u v) := by
  intro H0 F0 γ0 _ γ σ H F ρ R Q r z k
  refine ho _ _ r z fun H1 F1 γ1 ρ1 w x r1 s1 k1 u1 => ?_
  obtain ⟨F2, r2, s2, k2⟩ := sf_ok r1 k1
  obtain ⟨ns, e1, u1⟩ := u1
  obtain ⟨a, xs, rfl, hx, g⟩ := (RVok.cnt r2 k2.one e1).list r2.sub
  refine ⟨.inl ⟨rfl, _, .inl (.inl hx)⟩, ?_⟩
  refine ht _ _ r2 u1 fun H3 F3 γ3 ρ3 w y r3 s3 k3 u3 => ?_
  obtain ⟨e2, n, j, e3, fj, q⟩ := u3
  obtain ⟨b, ys, hb, hy, g2⟩ := (RVok.cnt r3 (k2.same s3).one e2).list r3.sub
  cases hb
  obtain rfl := (RVok.cnt r3 k3 e3).int
  rw [g2.ints] at hy
  obtain ⟨f1, f2⟩ := firstAt_ok fj
  refine ⟨a, _, _, j, .int n, rfl, rfl, .inl (.inl hy), rfl, ?_, by rw [List.getElem?_map, f1]; rfl, ?_, fun m z' hm hz => ?_, ?_⟩
  · simp [flatV]
  · simp [eqV]
  · rw [List.getElem?_map] at hz
    obtain ⟨i, hi, rfl⟩ := Option.map_eq_some_iff.mp hz
    simpa [eqV] using f2 m i hm hi
  · exact k _ _ _ _ _ (.val _) r3 (s1.trans (s2.trans s3)) (Dd.int _) q
end
end DL
/-! lifted readings: comprehensions with two for -/
namespace DL
open PySem PySem.Spec PyProof.Rows L2 CD
/-- a walk, whatever its turns do -/
theorem it_gen {J : It} {n : Nat} {G : Hp → Prop} {Y : Nat → Hp → V → Hp → Prop} (w : Walk J n G Y) {body : V → Hp → (Hp → Prop) → Prop} {Qd : Hp → Prop} {Hs : Hp} (Pv : Nat → Hp → Prop) (h0 : Pv 0 Hs) (hG : ∀ i H, i ≤ n → Pv i H → G H)
    (hs : ∀ i x H H', i < n → Pv i H → Y i H x H' → body x H' (Pv (i + 1))) (hd : ∀ H, Pv n H → Qd H) :
    ∃ W : Nat → Nat → Hp → Prop, (∃ m, W 0 m Hs) ∧ ∀ i m H, W i m H →
      (J.stop i H ∧ Qd H) ∨ (J.go i H ∧ ∃ Nx : Hp → Prop, (∀ H', Nx H' → ∃ m', m' < m ∧ W (i + 1) m' H') ∧ ∀ x H', J.yld i H x H' → body x H' Nx) := by
  refine ⟨fun i m H => m + i = n ∧ Pv i H, ⟨n, rfl, h0⟩, ?_⟩
  rintro i m H ⟨hm, p⟩
  have q := hG i H (by omega) p
  by_cases hlt : i < n
  · exact .inr ⟨w.goes i H hlt q, Pv (i + 1), fun H' p' => ⟨n - (i + 1), by omega, by omega, p'⟩, fun x H' y => hs i x H H' hlt p (w.yields i H x H' hlt q y)⟩
  · obtain rfl : i = n := by omega
    exact .inl ⟨w.stops H q, hd H p⟩
variable {GP : GenP} {K : PySem.W.Frag} {B : Hp × Hp × GAt}
def goLc2 (g : UG) (t : UT) (i1 : UI) (g1 : UG) (t1 : UT) (e : UE) (vs vs1 : List Nat) (k : List D → Rho → Prop) : List D → List D → Rho → Prop
  | [], acc, ρ => k acc ρ
  | d :: ds, acc, ρ => okW ρ vs = true ∧ g d (wipeR ρ vs) fun ρ1 => t ρ1 fun b ρ2 => if b = true then i1 ρ2 fun items ρ3 => goLc g1 t1 e vs1 (fun acc' ρ4 => goLc2 g t i1 g1 t1 e vs vs1 k ds acc' (restR ρ ρ4 vs)) items acc ρ3
    else goLc2 g t i1 g1 t1 e vs vs1 k ds acc (restR ρ ρ2 vs)
def uLc2 (i : UI) (g : UG) (t : UT) (i1 : UI) (g1 : UG) (t1 : UT) (e : UE) (vs vs1 : List Nat) : UE := fun ρ Q => i ρ fun items ρ1 => goLc2 g t i1 g1 t1 e vs vs1 (fun acc ρ2 => Q (.fr (.list acc)) ρ2) items [] ρ1
theorem le_lc2 {wi wi1 : TI} {g g1 : TG} {tt tt1 : TT} {te : TE} {vs vs1 : List Nat} {ui ui1 : UI} {ug ug1 : UG} {ut ut1 : UT} {ue : UE} (hi : LI GP K B wi ui) (hg : LG GP K B g ug) (hw : GW g vs) (ht : LT GP K B tt ut)
    (hi1 : LI GP K B wi1 ui1) (hg1 : LG GP K B g1 ug1) (hw1 : GW g1 vs1) (ht1 : LT GP K B tt1 ut1) (he : LE GP K B te ue) : LE GP K B (tLc2 wi g tt wi1 g1 tt1 te vs vs1) (uLc2 ui ug ut ui1 ug1 ut1 ue vs vs1) := by
  intro H0 F0 γ0 _ γ σ H F ρ R Q r0 u0 h
  refine hi _ _ r0 u0 fun H1 F1 γ1 ρ1 J n G Y items r1 s1 wk hn hG hY q Dd1 nD => ?_
  have h0D : H0 Dd1 = none := r1.new0 nD
  have f1D : F1 Dd1 = none := Same.free r1.sub nD
  have ngD : ¬ GA γ0 Dd1 := r1.nga h0D
  obtain ⟨a, ea, o1, o2, o3, o4, o5⟩ := fr_new (o := .lst []) (d := .list []) r1 nD (.lst upd_same .nil)
  cases ea
  have rS := (r1.same (same_upd (o := .lst []) nD)).rebase.hold upd_same o2 o3 o4 o5
  -- the slots as they were behind a turn
  have ret : ∀ {ωs : List Nat} {σ0 : L2.St} {ρ0 : Rho} {accv0 accv : List V} {γ3 γ4 : GAt} {σ4 : L2.St} {H3 H4 F3 F4 : Hp} {ρ4 : Rho}, okW ρ0 ωs = true → Rp GP K (upd H0 Dd1 (.lst accv0)) F1 γ0 γ3 σ0 H3 F3 ρ0 →
      Rp GP K (upd H0 Dd1 (.lst accv)) F1 γ0 γ4 σ4 H4 F4 ρ4 → Same F3 F4 → Ons ωs (wipe σ0 ωs) σ4 → Rp GP K (upd H0 Dd1 (.lst accv)) F1 γ0 γ4 σ0 H4 F4 (restR ρ0 ρ4 ωs) := by
    intro ωs σ0 ρ0 accv0 accv γ3 γ4 σ4 H3 H4 F3 F4 ρ4 okw r3 r4 s4 hs
    refine r4.back (vs := ωs) ?_ (fun i hi => by rw [hs.2 i hi, wipe_at hi]) (fun i hi => restR_at hi) (fun i hi x e => ?_)
    · rw [restR_len, ← r4.len, hs.1, wipe_length]
    · have e0 := restR_in hi e
      obtain ⟨d', rfl⟩ := okW_in okw hi e0
      obtain ⟨w, w1, w2⟩ := r3.val i d' e0
      exact ⟨d', w, rfl, w1, w2.same s4⟩
  have wp : ∀ {ωs : List Nat} {σ0 : L2.St} {ρ0 : Rho} {accv : List V} {γ3 : GAt} {H3 F3 : Hp}, Rp GP K (upd H0 Dd1 (.lst accv)) F1 γ0 γ3 σ0 H3 F3 ρ0 → Rp GP K (upd H0 Dd1 (.lst accv)) F1 γ0 γ3 (wipe σ0 ωs) H3 F3 (wipeR ρ0 ωs) := by
    intro ωs σ0 ρ0 accv γ3 H3 F3 r3
    exact r3.back (vs := ωs) (by rw [wipe_length, wipeR_len]; exact r3.len) (fun i hi => (wipe_at hi).symm) (fun i hi => wipeR_at hi) (fun i hi x e => absurd e (wipeR_in hi))
  have fin : ∀ accv : List V, FinerC GP K B (upd H0 Dd1 (.lst accv)) F1 γ0 := fun accv => ⟨fun r => FinerC.fin ((r.letgo h0D f1D ngD (fun _ e => nomatch e)).1.unbase r1.f0 r1.fnew), FinerC.g (GP := GP) (K := K) H0 F0⟩
  obtain ⟨Pv, hPv⟩ : ∃ Pv : Nat → Hp → Prop, Pv = fun i H => ∃ γ F ρ accv acc, Rp GP K (upd H0 Dd1 (.lst accv)) F1 γ0 γ σ H F ρ ∧ DdL K F accv acc ∧ goLc2 ug ut ui1 ug1 ut1 ue vs vs1 (fun acc ρ2 => Q (.fr (.list acc)) ρ2) (items.drop i) acc ρ := ⟨_, rfl⟩
  refine it_gen wk Pv (by rw [hPv]; exact ⟨γ1, F1, ρ1, [], [], rS, .nil, by rw [List.drop_zero]; exact q⟩) (fun i H _ h => ?_) (fun i x H2 H3 hi' h2 y => ?_) (fun H2 h2 => ?_)
  all_goals (try rw [hPv] at h); (try rw [hPv] at h2)
  · obtain ⟨γ, F, ρ, _, _, r, _⟩ := h
    exact hG H (r.f0.trans r.sub)
  · obtain ⟨γ2, F2, ρ2, accv, acc, r2, da, q2⟩ := h2
    obtain ⟨d, hd, yd⟩ := hY i H2 x H3 F2 hi' r2.f0 r2.sub y
    haveI := fin accv
    have ei : items.drop i = d :: items.drop (i + 1) := by
      obtain ⟨a1, a2⟩ := List.getElem?_eq_some_iff.mp hd
      rw [← a2]
      exact List.drop_eq_getElem_cons a1
    rw [ei] at q2
    obtain ⟨okw, q2⟩ := q2
    obtain ⟨F3, r3, s3, d3⟩ := yd_ok r2 yd
    refine hw _ _ _ (fun σ2 H2 => Ons vs (wipe σ vs) σ2 → _) _ (fun σ4 H4 q4 on4 => ⟨wipe_eq on4, q4 on4⟩) ?_
    refine hg _ _ (wp r3) d3 q2 fun σ4 H4 F4 γ4 ρ4 r4 s4 q4 on4 => ?_
    refine ht _ _ r4 q4 fun H5 F5 γ5 ρ5 b r5 s5 q5 => ?_
    split
    · rename_i c
      rw [if_pos c] at q5
      refine hi1 _ _ r5 q5 fun H6 F6 γ6 ρ6 J1 n1 G1 Y1 items1 r6 s6 wk1 hn1 hG1 hY1 q6 => ?_
      obtain ⟨Pw, hPw⟩ : ∃ Pw : Nat → Hp → Prop, Pw = fun j H => ∃ γ F ρ accv acc, Rp GP K (upd H0 Dd1 (.lst accv)) F1 γ0 γ σ4 H F ρ ∧ Same F6 F ∧ DdL K F accv acc ∧
        goLc ug1 ut1 ue vs1 (fun acc' ρ' => goLc2 ug ut ui1 ug1 ut1 ue vs vs1 (fun acc ρ2 => Q (.fr (.list acc)) ρ2) (items.drop (i + 1)) acc' (restR ρ2 ρ' vs)) (items1.drop j) acc ρ := ⟨_, rfl⟩
      have S6 := s3.trans (s4.trans (s5.trans s6))
      refine it_gen wk1 Pw (by rw [hPw]; exact ⟨γ6, F6, ρ6, accv, acc, r6, Same.refl _, da.same S6, by rw [List.drop_zero]; exact q6⟩) (fun j H _ h => ?_) (fun j x1 H7 H8 hj h7 y1 => ?_) (fun H7 h7 => ?_)
      all_goals (try rw [hPw] at h); (try rw [hPw] at h7)
      · obtain ⟨γ, F, ρ, _, _, r, sF, _⟩ := h
        exact hG1 H (sF.trans r.sub)
      · obtain ⟨γ7, F7, ρ7, accw, acc7, r7, sF, dw, q7⟩ := h7
        obtain ⟨d1, hd1, yd1⟩ := hY1 j H7 x1 H8 F7 hj sF r7.sub y1
        haveI := fin accw
        have ej : items1.drop j = d1 :: items1.drop (j + 1) := by
          obtain ⟨a1, a2⟩ := List.getElem?_eq_some_iff.mp hd1
          rw [← a2]
          exact List.drop_eq_getElem_cons a1
        rw [ej] at q7
        obtain ⟨okw1, q7⟩ := q7
        obtain ⟨F8, r8, s8, d8⟩ := yd_ok r7 yd1
        refine hw1 _ _ _ (fun σ2 H2 => Ons vs1 (wipe σ4 vs1) σ2 → _) _ (fun σ9 H9 q9 on9 => ⟨wipe_eq on9, q9 on9⟩) ?_
        refine hg1 _ _ (wp r8) d8 q7 fun σ9 H9 F9 γ9 ρ9 r9 s9 q9 on9 => ?_
        refine ht1 _ _ r9 q9 fun HA FA γA ρA b1 rA sA qA => ?_
        split
        · rename_i c1
          rw [if_pos c1] at qA
          refine he _ _ rA qA fun HB FB γB ρB yv xB rB sB kB qB => ?_
          obtain ⟨FC, ρC, dC, rC, sC, ddC, lC, qC⟩ := fz_ok rB kB qB
          have S := s8.trans (s9.trans (sA.trans (sB.trans sC)))
          have rr := ret okw1 r8 rC (s9.trans (sA.trans (sB.trans sC))) on9
          obtain ⟨rg, e1, e2, e3, e4⟩ := rr.letgo h0D f1D ngD (fun _ e => nomatch e)
          refine ⟨accw, e1, by rw [dw.length]; exact lC, ?_⟩
          rw [hPw]
          refine ⟨γB, FC, restR ρ7 ρC vs1, accw ++ [yv], acc7 ++ [dC], ?_, sF.trans S, (dw.same S).append (.cons ddC .nil), qC⟩
          exact (rg.poke (o := .lst (accw ++ [yv])) e2 h0D e3 e4).hold upd_same e2 h0D e3 e4
        · rename_i c1
          rw [if_neg c1] at qA
          rw [hPw]
          have S := s8.trans (s9.trans sA)
          exact ⟨γA, FA, restR ρ7 ρA vs1, accw, acc7, ret okw1 r8 rA (s9.trans sA) on9, sF.trans S, dw.same S, qA⟩
      · obtain ⟨γ7, F7, ρ7, accw, acc7, r7, sF, dw, q7⟩ := h7
        rw [← hn1, List.drop_length] at q7
        rw [hPv]
        exact ⟨γ7, F7, restR ρ2 ρ7 vs, accw, acc7, ret okw r3 r7 (s4.trans (s5.trans (s6.trans sF))) on4, dw, q7⟩
    · rename_i c
      rw [if_neg c] at q5
      rw [hPv]
      exact ⟨γ5, F5, restR ρ2 ρ5 vs, accv, acc, ret okw r3 r5 (s4.trans s5) on4, da.same (s3.trans (s4.trans s5)), q5⟩
  · obtain ⟨γ2, F2, ρ2, accv, acc, r2, da, q2⟩ := h2
    rw [← hn, List.drop_length] at q2
    obtain ⟨rg, e1, e2, e3, e4⟩ := r2.letgo h0D f1D ngD (fun _ e => nomatch e)
    exact h _ _ _ _ _ (.fr (.list acc)) (rg.unbase r1.f0 r1.fnew) (s1.trans rg.f0) ⟨Dd1, rfl, .lst e1 da, e2, h0D, e3, e4⟩ q2
end DL
/-! dict comprehensions whose keys may be tuples: the store is DPut. The steps of pe_dcP follow the library's pe_dc (HandS.DictComp), whose statement has keys that are ints or texts only -/
namespace DL
open PySem PySem.Spec PyProof.Rows L2 CD
theorem d_dictSetP {X : Cx} {pins : List (Addr × Obj)} {σ : L2.St} {H H' : Hp} {s : Shared} {E : Value → Shared → Prop} {a : Addr} {y v : V} {u r : Value} {Q : Unit → Shared → Prop} (hu : X.A.units + 1 < cLine) (I : Inv X pins σ H s) (g : DPut H a y v H')
    (ry : RelV y u) (rv : RelV v r) (h : ∀ s', Inv X pins σ H' s' → Q () s') : wpAny (model X.prog X.w) X.A (dictSet a u r) Q E s := by
  rcases g with ⟨kvs, k, e, ey, l, eH⟩ | ⟨kvs, k, b, e, ey, eb, l, eH⟩
  · subst ey eH
    exact d_dictSet I e l ry rv h
  · subst ey eH
    cases (show u = Value.ref b from ry)
    obtain ⟨z, hd, xs, rel, dd⟩ := dt_of I.hok e
    have hz : xs.length ≤ sizeLine := by rw [← Paired.length rel]; exact z
    have hl : (putK kvs k v).length ≤ sizeLine := by have := length_putK kvs k v; omega
    refine wpAny_dictSet_heap (hsz := hz) (show (tupleKind (mixKind X.prog X.w)).room X.A from Nat.lt_of_succ_lt hu) (key_of I.hok eb) dd (fun h' dd' hs => h _ ?_)
    obtain ⟨q, es, ep, hq, h2, h3, h4, _, h5⟩ := dd'
    refine d_write I (by rw [e]; exact True.intro) hs ⟨q, hq⟩ ⟨hl, hd, _, (rel.put k eb rv).keeps fun c ys ec => ?_, q, es, ep, hq, h2, h3, h4, h5⟩
    rw [upd_ne (ne_of ec e (fun z => nomatch z))]
    exact ec
/-- {k: v for target in iter if ..} from the empty dict o -/
def tDcP (o : HO) (wi : TI) (g : TG) (tt : TT) (tk tv : TE) (vs : List Nat) : TE := fun σ H Q => wi σ H fun J H1 => ∀ D, H1 D = none → ∃ W : Nat → Nat → Hp → Prop, (∃ m, W 0 m (upd H1 D o)) ∧ ∀ i m H, W i m H →
  (J.stop i H ∧ Q (.ref D) H) ∨ (J.go i H ∧ ∃ Nx : Hp → Prop, (∀ H', Nx H' → ∃ m', m' < m ∧ W (i + 1) m' H') ∧ ∀ x H', J.yld i H x H' → g x (wipe σ vs) H' fun σ2 H2 => wipe σ2 vs = wipe σ vs ∧ tt σ2 H2 fun b H3 =>
    if b = true then tk σ2 H3 fun y H4 => tv σ2 H4 fun z H5 => ∃ H6, DPut H5 D y z H6 ∧ Nx H6 else Nx H3)
section
variable {X : Cx} {wi : TI} {g : TG} {tt : TT} {tk tv : TE} {kx vx tg iter : Expr} {ifs : List Expr} {scope : Scope} {own : List (Str × Nat)} {pos : Pos} {o : HO}
theorem pe_dcP (hu : X.A.units + 1 < cLine) (ho : o = .dK [] ∨ o = .dT []) (hc : X.calm = true) (hN : X.N.Nodup) (hi : PI X tg iter wi) (ok : BlkOk X.N X.env.scope scope own)
    (hg : ∀ (s : Shared) (H : Hp) (C : Addr) (cl : List (Str × Addr)) (fp : List Addr), PG (X.blk s H scope (compEnvC scope cl C X.env) fp) tg g) (ht : ∀ (s : Shared) (H : Hp) (C : Addr) (cl : List (Str × Addr)) (fp : List Addr), PTs (X.blk s H scope (compEnvC scope cl C X.env) fp) ifs tt)
    (hk : ∀ (s : Shared) (H : Hp) (C : Addr) (cl : List (Str × Addr)) (fp : List Addr), PE (X.blk s H scope (compEnvC scope cl C X.env) fp) kx tk)
    (he : ∀ (s : Shared) (H : Hp) (C : Addr) (cl : List (Str × Addr)) (fp : List Addr), PE (X.blk s H scope (compEnvC scope cl C X.env) fp) vx tv) (hs : ∀ x, foldedSetIterable iter X.env x = pure x := by intro _; rfl) :
    PE X (.DictComp kx vx [⟨tg, iter, ifs, 0⟩] scope pos) (tDcP o wi g tt tk tv (own.map (·.2))) := by
  refine ⟨fun pins s σ H Q I h => ?_⟩
  rw [arm_eval_DictComp]
  have free : ∀ y ∈ scope.names, y.2 = .free → ∃ c, X.env.cells.lookup y.1 = some c := fun y hy e => (ok.free y hy e).elim (fun k => I.ok.has _ (.inl k)) (fun k => I.ok.has _ (.inr k))
  refine wpAny_comprehension_free (use := none) rfl hs (closure_ok free) ok.kind (fun y hy e => by rw [ok.uniq y hy, e])
    (thn (hi.run pins s σ H _ I h) fun xv s1 hx => thn hx fun itv s2 h2 => ?_)
  obtain ⟨it, fp, tn, J, Ha, e, Ia, T, sta, fa, q⟩ := h2
  subst e
  refine wpAny_newObj_type (newEnv_comp ?_)
  generalize hD : s2.heap.objs.size = D
  obtain ⟨W, ⟨m0, w0⟩, turn⟩ := q D (Ia.hok.fresh (Nat.le_of_eq hD))
  generalize hs3 : ({ s2 with heap := s2.heap.push { cls := .type "dict", data := .dict #[] } } : Shared) = s3
  have h3 : s3.heap = s2.heap.push { cls := .type "dict", data := .dict #[] } := by rw [← hs3]
  have I3 : Inv X pins σ (upd Ha D o) s3 := by
    rw [← hs3]
    refine Ia.laid (t' := s2.toks) (fun b o e => Heap.get?_push_of_some _ e) (Nat.le_of_eq hD) ?_
    rw [← hD]
    rcases ho with rfl | rfl
    · exact dk_empty s2.heap Ia.big
    · exact dt_empty s2.heap Ia.big
  have f3 : ∀ b ∈ fp, FpOk X pins (upd Ha D o) b ∧ b < s3.heap.objs.size := fun b hb => by
    obtain ⟨ob, e, _⟩ := T.obj _ _ sta b hb
    have hlt := Heap.lt_size e
    refine ⟨⟨?_, (fa b hb).2⟩, by rw [h3, Heap.size_push]; exact Nat.lt_succ_of_lt hlt⟩
    rw [upd_ne (by rw [← hD]; exact Nat.ne_of_lt hlt)]
    exact (fa b hb).1
  have st3 : tn 0 s3.heap := T.keep _ _ _ sta fun b _ o e => by rw [h3]; exact Heap.get?_push_of_some _ e
  have I4 := block_start I3 ok hN f3
  have pg := hg s3 (upd Ha D o) s3.heap.objs.size (cellsFrom (s3.heap.objs.size + 1) scope.names (cloFrom X.env.cells scope.names [])) fp
  have pt := ht s3 (upd Ha D o) s3.heap.objs.size (cellsFrom (s3.heap.objs.size + 1) scope.names (cloFrom X.env.cells scope.names [])) fp
  have pk := hk s3 (upd Ha D o) s3.heap.objs.size (cellsFrom (s3.heap.objs.size + 1) scope.names (cloFrom X.env.cells scope.names [])) fp
  have pe := he s3 (upd Ha D o) s3.heap.objs.size (cellsFrom (s3.heap.objs.size + 1) scope.names (cloFrom X.env.cells scope.names [])) fp
  show codeAny _ _ (.compStart (.DictComp kx vx [⟨tg, iter, ifs, 0⟩] scope pos) 0 (.ref it) (.ref D) (compEnvC scope (cellsFrom (s3.heap.objs.size + 1) scope.names (cloFrom X.env.cells scope.names [])) s3.heap.objs.size X.env)) (compPost (model X.prog X.w) X.A X.xe none _ (.ref D) s3.heap.objs.size) { s3 with heap := pushCells (s3.heap.push { cls := .type "dict", data := .dict #[] }) scope.names }
  have nfp : ∀ b ∈ fp, (upd Ha D o) b = none := fun b hb => (f3 b hb).1.1
  generalize hce : compEnvC scope (cellsFrom (s3.heap.objs.size + 1) scope.names (cloFrom X.env.cells scope.names [])) s3.heap.objs.size X.env = ce at I4 pg pt pk pe ⊢
  have cL : ce.locals = s3.heap.objs.size := by subst hce; rfl
  generalize hH3 : upd Ha D o = H3 at I3 I4 pg pt pk pe w0 nfp f3
  generalize hs4 : ({ s3 with heap := pushCells (s3.heap.push { cls := .type "dict", data := .dict #[] }) scope.names } : Shared) = s4 at I4 ⊢
  have st4 : tn 0 s4.heap := T.keep _ _ _ st3 fun b _ o e => by rw [← hs4]; exact pushCells_keeps _ _ _ _ (Heap.get?_push_of_some _ e)
  have stat : ∀ {σ' : L2.St} {H' : Hp} {s' : Shared}, Inv (X.blk s3 H3 scope ce fp) [] σ' H' s' → (∀ b ∈ fp, H' b = none) → ∀ b ∈ fp, FpOk (X.blk s3 H3 scope ce fp) [] H' b := fun {σ' H' s'} I' hn b hb =>
    ⟨hn b hb, (I'.ok.exf b hb).1, I'.ok.exfs b hb, .inl hb, fun x c e => (I'.ok.exf b hb).2 x c e, fun p hp => absurd (show p ∈ ([] : List (Addr × Obj)) ++ [] from hp) (by simp)⟩
  refine codeAny_compStart_dict ?_ (T.self X.A 0 _ _ _ st4 ?_) <;>
  · refine compLoop_anyD (fun n s' => ∃ i H', Inv (X.blk s3 H3 scope ce fp) [] (wipe σ (own.map (·.2))) H' s' ∧ tn i s'.heap ∧ (∀ b ∈ fp, H' b = none) ∧ W i n H') ?_ m0 ⟨0, H3, I4, st4, nfp, w0⟩
    rintro n s5 ⟨i, H5, I5, st5, n5, w5⟩
    rcases turn i n H5 w5 with ⟨stop, qq⟩ | ⟨go, Nx, hNx, step⟩
    · refine thnF (T.done (X.blk s3 H3 scope ce fp) rfl rfl rfl hc i [] s5 _ H5 (fun _ _ => False) I5 (stat I5 n5) st5 stop) fun r s6 ⟨hr, I6⟩ => ?_
      subst hr
      have I7 : Inv X pins σ H5 s6 := I3.call' (ch := fp) I6.os I6.base I6.hok I6.bare fun b hb => ⟨(f3 b hb).1.2.2.2.1, (f3 b hb).1.2.1, (f3 b hb).1.2.2.2.2.1, (f3 b hb).1.2.2.2.2.2⟩
      have nC : H5 s3.heap.objs.size = none := by
        have z : H5 ce.locals = none := I6.free
        rwa [cL] at z
      obtain ⟨m, hn, _⟩ := I6.loc
      have hn : s6.heap.Ns ce.locals m := hn
      rw [cL] at hn
      obtain ⟨f0, f1, f2, f3, f4, f5⟩ := I3.fpOk (Nat.le_refl _) nC
      exact ⟨m, hn, fun h'' sb => ⟨.ref D, H5, I7.turned (t' := s6.toks) (fun b o hb e => (sb.2 b hb).trans e) f0 f1 f3 f4 f5, rfl, qq⟩⟩
    · refine thnF (T.item (X.blk s3 H3 scope ce fp) rfl rfl rfl hc i [] s5 _ H5 (fun _ _ => False) I5 (stat I5 n5) st5 go) fun r s6 ⟨u, hr, h6⟩ => ?_
      subst hr
      refine thnF h6 fun _ s7 ⟨x, H7, I7, r7, y7, st7, n7⟩ => ?_
      refine thnF (pg.run _ s7 _ H7 x u _ (I7.pinned (stat I7 n7) (T.obj _ _ st7)) r7 (step x H7 y7)) fun _ s8 ⟨σ8, H8, I8, hw8, q8⟩ => ?_
      refine thnF (pt.run _ s8 σ8 H8 _ I8 q8) fun b s9 ⟨H9, I9, q9⟩ => ?_
      have fin : ∀ {s' : Shared} {H' : Hp}, Inv (X.blk s3 H3 scope ce fp) ([] ++ pinsAt fp s7.heap) σ8 H' s' → Nx H' → ∃ m, m < n ∧ ∃ i H', Inv (X.blk s3 H3 scope ce fp) [] (wipe σ (own.map (·.2))) H' s' ∧ tn i s'.heap ∧ (∀ b ∈ fp, H' b = none) ∧ W i m H' := fun {s' H'} I' nx => by
        obtain ⟨m', hm, w'⟩ := hNx H' nx
        have pin' : ∀ b ∈ fp, ∀ o, s7.heap.get? b = some o → s'.heap.get? b = some o ∧ H' b = none := fun b hb o e =>
          let z := I'.pin (b, o) (List.mem_append_right _ (List.mem_append_right _ (mem_pinsAt hb e)))
          ⟨z.1, z.2.1⟩
        refine ⟨m', hm, i + 1, H', (I'.unpinned (pins := [])).weak (by rw [← hw8, wipe_length]) (fun j v e => by rw [← hw8] at e; exact (wipe_some e).1), T.keep _ _ _ st7 fun b hb o e => (pin' b hb o e).1, fun b hb => ?_, w'⟩
        obtain ⟨o, e, _⟩ := T.obj _ _ st7 b hb
        exact (pin' b hb o e).2
      cases b with
      | false =>
        simp only [Bool.false_eq_true, if_false] at q9 ⊢
        exact fin I9 q9
      | true =>
        simp only [if_true] at q9 ⊢
        refine thnF (pk.run _ s9 σ8 H9 _ I9 q9) fun z s10 ⟨yk, HA, IA, rA, qA⟩ => ?_
        refine thnF (pe.run _ s10 σ8 HA _ IA qA) fun z2 s11 ⟨yv, HB, IB, rB, HC, dp, nx⟩ => ?_
        exact d_dictSetP (X := X.blk s3 H3 scope ce fp) hu IB dp rA rB fun s12 IC => fin IC nx
end
end DL
/-! lifted readings: dict comprehensions with tuples as keys -/
namespace DL
open PySem PySem.Spec PyProof.Rows L2 CD
theorem call_tuple_ofK {X : Cx} {K : PySem.W.Frag} (h : X.K = K) : CallR X (.type "tuple") (fun xs H Q => ∃ p ys, xs = [V.ref p] ∧ ((SqL K H p ys ∧ ∀ l : Addr, H l = none → Q (V.ref l) (upd H l (.tup ys))) ∨ SqT K H p ys ∧ Q (V.ref p) H)) := h ▸ call_tuple_of
variable {GP : GenP} {K : PySem.W.Frag} {B : Hp × Hp × GAt}
def goDc (g : UG) (t : UT) (ek ev : UE) (vs : List Nat) (k : List (List Key × D) → Rho → Prop) : List D → List (List Key × D) → Rho → Prop
  | [], acc, ρ => k acc ρ
  | d :: ds, acc, ρ => okW ρ vs = true ∧ g d (wipeR ρ vs) fun ρ1 => t ρ1 fun b ρ2 => if b = true then ek ρ2 fun x ρ3 => fz x ρ3 fun y ρ4 => ev ρ4 fun z ρ5 => fz z ρ5 fun dz ρ6 =>
      ∃ ks ky, y = .tup ks ∧ keysD ks = some ky ∧ acc.length < sizeLine ∧ goDc g t ek ev vs k ds (putD acc ky dz) (restR ρ ρ6 vs)
    else goDc g t ek ev vs k ds acc (restR ρ ρ2 vs)
def uDcT (i : UI) (g : UG) (t : UT) (ek ev : UE) (vs : List Nat) : UE := fun ρ Q => i ρ fun items ρ1 => goDc g t ek ev vs (fun acc ρ2 => Q (.fr (.dt acc)) ρ2) items [] ρ1
theorem le_dcT {wi : TI} {g : TG} {tt : TT} {tk tv : TE} {vs : List Nat} {ui : UI} {ug : UG} {ut : UT} {uk uv : UE} (hi : LI GP K B wi ui) (hg : LG GP K B g ug) (hw : GW g vs) (ht : LT GP K B tt ut)
    (hk : LE GP K B tk uk) (hv : LE GP K B tv uv) : LE GP K B (tDcP (.dT []) wi g tt tk tv vs) (uDcT ui ug ut uk uv vs) := by
  intro H0 F0 γ0 _ γ σ H F ρ R Q r0 u0 h
  refine hi _ _ r0 u0 fun H1 F1 γ1 ρ1 J n G Y items r1 s1 wk hn hG hY q Dd1 nD => ?_
  have h0D : H0 Dd1 = none := r1.new0 nD
  have f1D : F1 Dd1 = none := Same.free r1.sub nD
  have ngD : ¬ GA γ0 Dd1 := r1.nga h0D
  obtain ⟨a, ea, o1, o2, o3, o4, o5⟩ := fr_new (o := .dT []) (d := .dt []) r1 nD (.dT upd_same .nil)
  cases ea
  have rS := (r1.same (same_upd (o := .dT []) nD)).rebase.hold upd_same o2 o3 o4 o5
  have ret : ∀ {ωs : List Nat} {σ0 : L2.St} {ρ0 : Rho} {accv0 accv : List (List Key × V)} {γ3 γ4 : GAt} {σ4 : L2.St} {H3 H4 F3 F4 : Hp} {ρ4 : Rho}, okW ρ0 ωs = true → Rp GP K (upd H0 Dd1 (.dT accv0)) F1 γ0 γ3 σ0 H3 F3 ρ0 →
      Rp GP K (upd H0 Dd1 (.dT accv)) F1 γ0 γ4 σ4 H4 F4 ρ4 → Same F3 F4 → Ons ωs (wipe σ0 ωs) σ4 → Rp GP K (upd H0 Dd1 (.dT accv)) F1 γ0 γ4 σ0 H4 F4 (restR ρ0 ρ4 ωs) := by
    intro ωs σ0 ρ0 accv0 accv γ3 γ4 σ4 H3 H4 F3 F4 ρ4 okw r3 r4 s4 hs
    refine r4.back (vs := ωs) ?_ (fun i hi => by rw [hs.2 i hi, wipe_at hi]) (fun i hi => restR_at hi) (fun i hi x e => ?_)
    · rw [restR_len, ← r4.len, hs.1, wipe_length]
    · have e0 := restR_in hi e
      obtain ⟨d', rfl⟩ := okW_in okw hi e0
      obtain ⟨w, w1, w2⟩ := r3.val i d' e0
      exact ⟨d', w, rfl, w1, w2.same s4⟩
  have wp : ∀ {ωs : List Nat} {σ0 : L2.St} {ρ0 : Rho} {accv : List (List Key × V)} {γ3 : GAt} {H3 F3 : Hp}, Rp GP K (upd H0 Dd1 (.dT accv)) F1 γ0 γ3 σ0 H3 F3 ρ0 → Rp GP K (upd H0 Dd1 (.dT accv)) F1 γ0 γ3 (wipe σ0 ωs) H3 F3 (wipeR ρ0 ωs) := by
    intro ωs σ0 ρ0 accv γ3 H3 F3 r3
    exact r3.back (vs := ωs) (by rw [wipe_length, wipeR_len]; exact r3.len) (fun i hi => (wipe_at hi).symm) (fun i hi => wipeR_at hi) (fun i hi x e => absurd e (wipeR_in hi))
  have fin : ∀ accv : List (List Key × V), FinerC GP K B (upd H0 Dd1 (.dT accv)) F1 γ0 := fun accv => ⟨fun r => FinerC.fin ((r.letgo h0D f1D ngD (fun _ e => nomatch e)).1.unbase r1.f0 r1.fnew), FinerC.g (GP := GP) (K := K) H0 F0⟩
  obtain ⟨Pv, hPv⟩ : ∃ Pv : Nat → Hp → Prop, Pv = fun i H => ∃ γ F ρ accv acc, Rp GP K (upd H0 Dd1 (.dT accv)) F1 γ0 γ σ H F ρ ∧ DdT K F accv acc ∧ goDc ug ut uk uv vs (fun acc ρ2 => Q (.fr (.dt acc)) ρ2) (items.drop i) acc ρ := ⟨_, rfl⟩
  refine it_gen wk Pv (by rw [hPv]; exact ⟨γ1, F1, ρ1, [], [], rS, .nil, by rw [List.drop_zero]; exact q⟩) (fun i H _ h => ?_) (fun i x H2 H3 hi' h2 y => ?_) (fun H2 h2 => ?_)
  all_goals (try rw [hPv] at h); (try rw [hPv] at h2)
  · obtain ⟨γ, F, ρ, _, _, r, _⟩ := h
    exact hG H (r.f0.trans r.sub)
  · obtain ⟨γ2, F2, ρ2, accv, acc, r2, da, q2⟩ := h2
    obtain ⟨d, hd, yd⟩ := hY i H2 x H3 F2 hi' r2.f0 r2.sub y
    haveI := fin accv
    have ei : items.drop i = d :: items.drop (i + 1) := by
      obtain ⟨a1, a2⟩ := List.getElem?_eq_some_iff.mp hd
      rw [← a2]
      exact List.drop_eq_getElem_cons a1
    rw [ei] at q2
    obtain ⟨okw, q2⟩ := q2
    obtain ⟨F3, r3, s3, d3⟩ := yd_ok r2 yd
    refine hw _ _ _ (fun σ2 H2 => Ons vs (wipe σ vs) σ2 → _) _ (fun σ4 H4 q4 on4 => ⟨wipe_eq on4, q4 on4⟩) ?_
    refine hg _ _ (wp r3) d3 q2 fun σ4 H4 F4 γ4 ρ4 r4 s4 q4 on4 => ?_
    refine ht _ _ r4 q4 fun H5 F5 γ5 ρ5 b r5 s5 q5 => ?_
    split
    · rename_i c
      rw [if_pos c] at q5
      refine hk _ _ r5 q5 fun H6 F6 γ6 ρ6 yk x6 r6 s6 k6 q6 => ?_
      obtain ⟨F7, ρ7, dk, r7, s7, dd7, q7⟩ := fz_ok r6 k6 q6
      refine hv _ _ r7 q7 fun H8 F8 γ8 ρ8 yv x8 r8 s8 k8 q8 => ?_
      obtain ⟨F9, ρ9, dv, r9, s9, dd9, ks, ky, rfl, ek, hl, q9⟩ := fz_ok r8 k8 q8
      have S := s3.trans (s4.trans (s5.trans (s6.trans (s7.trans (s8.trans s9)))))
      have rr := ret okw r3 r9 (s4.trans (s5.trans (s6.trans (s7.trans (s8.trans s9))))) on4
      obtain ⟨rg, e1, e2, e3, e4⟩ := rr.letgo h0D f1D ngD (fun _ e => nomatch e)
      cases dd7 with
      | tup t1 t2 =>
        rename_i tb txs
        rw [keysD_ok t2 ek] at t1
        refine ⟨_, .inr ⟨accv, ky, _, e1, rfl, r9.sub _ _ ((s8.trans s9) _ _ t1), ?_, rfl⟩, ?_⟩
        · rw [da.length]; exact hl
        · rw [hPv]
          refine ⟨γ8, F9, restR ρ2 ρ9 vs, putK accv ky yv, putD acc ky dv, ?_, putT_dd dd9 (da.same S), q9⟩
          exact (rg.poke (o := .dT (putK accv ky yv)) e2 h0D e3 e4).hold upd_same e2 h0D e3 e4
    · rename_i c
      rw [if_neg c] at q5
      rw [hPv]
      exact ⟨γ5, F5, restR ρ2 ρ5 vs, accv, acc, ret okw r3 r5 (s4.trans s5) on4, da.same (s3.trans (s4.trans s5)), q5⟩
  · obtain ⟨γ2, F2, ρ2, accv, acc, r2, da, q2⟩ := h2
    rw [← hn, List.drop_length] at q2
    obtain ⟨rg, e1, e2, e3, e4⟩ := r2.letgo h0D f1D ngD (fun _ e => nomatch e)
    exact h _ _ _ _ _ (.fr (.dt acc)) (rg.unbase r1.f0 r1.fnew) (s1.trans rg.f0) ⟨Dd1, rfl, .dT e1 da, e2, h0D, e3, e4⟩ q2
end DL
set_option maxHeartbeats 1000000
namespace LK
open PySem PySem.Spec PyProof.Rows L2 CD
def topS (i : Nat) : Stmt := PySem.Challenge.pw_callsdown_k52_whole_full_rules.main.body.getD i (.Pass ⟨0, 0, 0, 0⟩)
abbrev s_is_integer : Stmt := topS 6
abbrev n_is_integer : List Str := ["thing"]
abbrev p_is_integer : List Str := ["thing"]
theorem sc_is_integer : FnScope n_is_integer p_is_integer (defScope s_is_integer) := ⟨rfl, rfl, rfl, by decide +kernel, rfl, by decide +kernel, by decide +kernel⟩
abbrev s_is_number : Stmt := topS 7
abbrev n_is_number : List Str := ["thing", "low", "high"]
abbrev p_is_number : List Str := ["thing", "low", "high"]
theorem sc_is_number : FnScope n_is_number p_is_number (defScope s_is_number) := ⟨rfl, rfl, rfl, by decide +kernel, rfl, by decide +kernel, by decide +kernel⟩
abbrev s_is_ascending : Stmt := topS 8
abbrev n_is_ascending : List Str := ["things", "one", "behind"]
abbrev p_is_ascending : List Str := ["things"]
theorem sc_is_ascending : FnScope n_is_ascending p_is_ascending (defScope s_is_ascending) := ⟨rfl, rfl, rfl, by decide +kernel, rfl, by decide +kernel, by decide +kernel⟩
abbrev s_need_person : Stmt := topS 9
abbrev n_need_person : List Str := ["person"]
abbrev p_need_person : List Str := ["person"]
theorem sc_need_person : FnScope n_need_person p_need_person (defScope s_need_person) := ⟨rfl, rfl, rfl, by decide +kernel, rfl, by decide +kernel, by decide +kernel⟩
abbrev s_back_of : Stmt := topS 11
abbrev n_back_of : List Str := ["scaled", "scale", "adds"]
abbrev p_back_of : List Str := ["scaled"]
theorem sc_back_of : FnScope n_back_of p_back_of (defScope s_back_of) := ⟨rfl, rfl, rfl, by decide +kernel, rfl, by decide +kernel, by decide +kernel⟩
abbrev s_callers_of : Stmt := topS 12
abbrev n_callers_of : List Str := ["scaled", "person", "scale", "adds", "pairs", "place", "add", "caller"]
abbrev p_callers_of : List Str := ["scaled", "person"]
theorem sc_callers_of : FnScope n_callers_of p_callers_of (defScope s_callers_of) := ⟨rfl, rfl, rfl, by decide +kernel, rfl, by decide +kernel, by decide +kernel⟩
abbrev s_ticks_of : Stmt := topS 13
abbrev n_ticks_of : List Str := ["scaled", "people", "calls", "fresh", "person", "ticks", "heard", "caller", "place", "_"]
abbrev p_ticks_of : List Str := ["scaled", "people"]
theorem sc_ticks_of : FnScope n_ticks_of p_ticks_of (defScope s_ticks_of) := ⟨rfl, rfl, rfl, by decide +kernel, rfl, by decide +kernel, by decide +kernel⟩
abbrev s_told_bits : Stmt := topS 14
abbrev n_told_bits : List Str := ["scaled", "count", "ticks", "person"]
abbrev p_told_bits : List Str := ["scaled", "count"]
theorem sc_told_bits : FnScope n_told_bits p_told_bits (defScope s_told_bits) := ⟨rfl, rfl, rfl, by decide +kernel, rfl, by decide +kernel, by decide +kernel⟩
abbrev s_rows_of : Stmt := topS 15
abbrev n_rows_of : List Str := ["bits", "size", "person", "back"]
abbrev p_rows_of : List Str := ["bits", "size"]
theorem sc_rows_of : FnScope n_rows_of p_rows_of (defScope s_rows_of) := ⟨rfl, rfl, rfl, by decide +kernel, rfl, by decide +kernel, by decide +kernel⟩
abbrev s_row_behind : Stmt := topS 16
abbrev n_row_behind : List Str := ["scaled", "row", "figure", "scale", "adds", "back"]
abbrev p_row_behind : List Str := ["scaled", "row", "figure"]
theorem sc_row_behind : FnScope n_row_behind p_row_behind (defScope s_row_behind) := ⟨rfl, rfl, rfl, by decide +kernel, rfl, by decide +kernel, by decide +kernel⟩
abbrev s__is_called : Stmt := topS 17
abbrev n__is_called : List Str := ["scale", "adds", "row", "back", "add"]
abbrev p__is_called : List Str := ["scale", "adds", "row", "back"]
theorem sc__is_called : FnScope n__is_called p__is_called (defScope s__is_called) := ⟨rfl, rfl, rfl, by decide +kernel, rfl, by decide +kernel, by decide +kernel⟩
abbrev s_need_scaled : Stmt := topS 23
abbrev n_need_scaled : List Str := ["thing", "scale", "adds", "add"]
abbrev p_need_scaled : List Str := ["thing"]
theorem sc_need_scaled : FnScope n_need_scaled p_need_scaled (defScope s_need_scaled) := ⟨rfl, rfl, rfl, by decide +kernel, rfl, by decide +kernel, by decide +kernel⟩
abbrev s_tick_at : Stmt := topS 24
abbrev n_tick_at : List Str := ["scaled", "person"]
abbrev p_tick_at : List Str := ["scaled", "person"]
theorem sc_tick_at : FnScope n_tick_at p_tick_at (defScope s_tick_at) := ⟨rfl, rfl, rfl, by decide +kernel, rfl, by decide +kernel, by decide +kernel⟩
abbrev s_first_never : Stmt := topS 25
abbrev n_first_never : List Str := ["scaled", "bits"]
abbrev p_first_never : List Str := ["scaled"]
theorem sc_first_never : FnScope n_first_never p_first_never (defScope s_first_never) := ⟨rfl, rfl, rfl, by decide +kernel, rfl, by decide +kernel, by decide +kernel⟩
abbrev s_full_paper : Stmt := topS 26
abbrev n_full_paper : List Str := ["scaled", "never"]
abbrev p_full_paper : List Str := ["scaled"]
theorem sc_full_paper : FnScope n_full_paper p_full_paper (defScope s_full_paper) := ⟨rfl, rfl, rfl, by decide +kernel, rfl, by decide +kernel, by decide +kernel⟩
abbrev s_check_full : Stmt := topS 27
abbrev n_check_full : List Str := ["scaled", "paper", "word", "shown"]
abbrev p_check_full : List Str := ["scaled", "paper"]
theorem sc_check_full : FnScope n_check_full p_check_full (defScope s_check_full) := ⟨rfl, rfl, rfl, by decide +kernel, rfl, by decide +kernel, by decide +kernel⟩
abbrev s__decisive : Stmt := topS 28
abbrev n__decisive : List Str := ["scaled", "scale", "_"]
abbrev p__decisive : List Str := ["scaled"]
theorem sc__decisive : FnScope n__decisive p__decisive (defScope s__decisive) := ⟨rfl, rfl, rfl, by decide +kernel, rfl, by decide +kernel, by decide +kernel⟩
abbrev s__is_never : Stmt := topS 29
abbrev n__is_never : List Str := ["scaled", "who"]
abbrev p__is_never : List Str := ["scaled", "who"]
theorem sc__is_never : FnScope n__is_never p__is_never (defScope s__is_never) := ⟨rfl, rfl, rfl, by decide +kernel, rfl, by decide +kernel, by decide +kernel⟩
abbrev s__is_row : Stmt := topS 30
abbrev n__is_row : List Str := ["thing", "size", "bit"]
abbrev p__is_row : List Str := ["thing", "size"]
theorem sc__is_row : FnScope n__is_row p__is_row (defScope s__is_row) := ⟨rfl, rfl, rfl, by decide +kernel, rfl, by decide +kernel, by decide +kernel⟩
abbrev s__is_table : Stmt := topS 31
abbrev n__is_table : List Str := ["scaled", "table", "size", "bits", "held", "scale", "_", "row", "figure"]
abbrev p__is_table : List Str := ["scaled", "table"]
theorem sc__is_table : FnScope n__is_table p__is_table (defScope s__is_table) := ⟨rfl, rfl, rfl, by decide +kernel, rfl, by decide +kernel, by decide +kernel⟩
abbrev s__law_begun : Stmt := topS 33
abbrev n__law_begun : List Str := ["script", "great", "cell"]
abbrev p__law_begun : List Str := ["script"]
theorem sc__law_begun : FnScope n__law_begun p__law_begun (defScope s__law_begun) := ⟨rfl, rfl, rfl, by decide +kernel, rfl, by decide +kernel, by decide +kernel⟩
abbrev s__law_next : Stmt := topS 34
abbrev n__law_next : List Str := ["m", "total", "rest", "k", "cell", "mixed"]
abbrev p__law_next : List Str := ["m", "total"]
theorem sc__law_next : FnScope n__law_next p__law_next (defScope s__law_next) := ⟨rfl, rfl, rfl, by decide +kernel, rfl, by decide +kernel, by decide +kernel⟩
abbrev s__law_of : Stmt := topS 35
abbrev n__law_of : List Str := ["m", "some"]
abbrev p__law_of : List Str := ["m", "some"]
theorem sc__law_of : FnScope n__law_of p__law_of (defScope s__law_of) := ⟨rfl, rfl, rfl, by decide +kernel, rfl, by decide +kernel, by decide +kernel⟩
abbrev s__law_scale : Stmt := topS 36
abbrev n__law_scale : List Str := ["m", "scale", "way", "found", "k", "more", "far"]
abbrev p__law_scale : List Str := ["m"]
theorem sc__law_scale : FnScope n__law_scale p__law_scale (defScope s__law_scale) := ⟨rfl, rfl, rfl, by decide +kernel, rfl, by decide +kernel, by decide +kernel⟩
abbrev s__law_spread : Stmt := topS 37
abbrev n__law_spread : List Str := ["rule_so", "count", "scale", "adds", "found", "k", "some", "spot", "more", "far"]
abbrev p__law_spread : List Str := ["rule_so", "count"]
theorem sc__law_spread : FnScope n__law_spread p__law_spread (defScope s__law_spread) := ⟨rfl, rfl, rfl, by decide +kernel, rfl, by decide +kernel, by decide +kernel⟩
abbrev s__law_spread_at : Stmt := topS 38
abbrev n__law_spread_at : List Str := ["rule_so", "goal", "known", "best", "spot", "more", "tick"]
abbrev p__law_spread_at : List Str := ["rule_so", "goal", "known"]
theorem sc__law_spread_at : FnScope n__law_spread_at p__law_spread_at (defScope s__law_spread_at) := ⟨rfl, rfl, rfl, by decide +kernel, rfl, by decide +kernel, by decide +kernel⟩
abbrev s_law : Stmt := topS 39
abbrev n_law : List Str := ["script", "m", "turn", "rule_so", "film", "some", "told", "sheet", "again", "goal", "k"]
abbrev p_law : List Str := ["script"]
theorem sc_law : FnScope n_law p_law (defScope s_law) := ⟨rfl, rfl, rfl, by decide +kernel, rfl, by decide +kernel, by decide +kernel⟩
section
variable {P : Program} {w : World} {K : PySem.W.Frag} {mg : Str → Option Value} {base : Heap}
/-! ### checks -/
def spNum : Sp := fun vs H Q _ => ∃ n lo hi : Int, vs = [.int n, .int lo, .int hi] ∧ Q (.bl (decide (lo ≤ n ∧ n ≤ hi))) H
def spInt1 : Sp := fun vs H Q _ => ∃ n : Int, vs = [.int n] ∧ Q (.bl true) H
theorem cal_is_integer (z : Z mg) (D : Def K mg "is_integer" s_is_integer p_is_integer) : Cal P w K mg base 1 "is_integer" p_is_integer spInt1 := by
  refine D.cal sc_is_integer (fun vs H Q E h => by obtain ⟨_, rfl, _⟩ := h; rfl) fun f cdv A outer s H vs Q E hr h => ?_
  obtain ⟨n, rfl, q⟩ := h
  refine ⟨_, (pss_one (ps_ret (pe_and (pe_callB (call_isi) (by rfl) z.«isinstance» (by decide +kernel) (pa_cons (pv 0) (pa_cons (pe_bltn (v := .ty "int") (by rfl) z.«int» (by decide +kernel) rfl) pa_nil))) (pe_one (pe_not (pe_callB (call_isi) (by rfl) z.«isinstance» (by decide +kernel) (pa_cons (pv 0) (pa_cons (pe_bltn (v := .ty "bool") (by rfl) z.«bool» (by decide +kernel) rfl) pa_nil)))))))), ?_⟩
  refine ⟨.int n, rfl, .int n, .ty "int", .type "int", .type "int", true, rfl, .ty _, .base (.int n), kit_ty (by decide +kernel), true, rfl, iteT ?_⟩
  exact ⟨.int n, rfl, .int n, .ty "bool", .type "int", .type "bool", false, rfl, .ty _, .base (.int n), kit_ty (by decide +kernel), false, rfl, q⟩
theorem cal_is_number (z : Z mg) (c_is_integer : Cal P w K mg base 1 "is_integer" p_is_integer spInt1) (D : Def K mg "is_number" s_is_number p_is_number) : Cal P w K mg base 2 "is_number" p_is_number spNum := by
  refine D.cal sc_is_number (fun vs H Q E h => by obtain ⟨_, _, _, rfl, _⟩ := h; rfl) fun f cdv A outer s H vs Q E hr h => ?_
  obtain ⟨n, lo, hi, rfl, q⟩ := h
  refine ⟨_, (pss_one (ps_ret (pe_and (pe_cal c_is_integer (hr.mono (by decide)) (by rfl) (pa_cons (pv 0) pa_nil)) (pe_one (pe_chain op_le op_le (pv 1) (pv 0) (pv 2)))))), ?_⟩
  refine ⟨.int n, rfl, n, rfl, true, rfl, iteT ?_⟩
  refine ⟨.int lo, rfl, .int n, rfl, lo, n, rfl, rfl, _, rfl, ite2 (fun e => ?_) (fun e => ?_)⟩
  · have e' : lo ≤ n := of_decide_eq_true e
    refine ⟨.int hi, rfl, n, hi, rfl, rfl, ?_⟩
    show Q (.bl (decide (n ≤ hi))) H
    rw [show decide (n ≤ hi) = decide (lo ≤ n ∧ n ≤ hi) from decide_eq_decide.mpr ⟨fun x => ⟨e', x⟩, fun x => x.2⟩]
    exact q
  · have e' : ¬ lo ≤ n := fun x => e (decide_eq_true x)
    show Q (.bl false) H
    rw [show false = decide (lo ≤ n ∧ n ≤ hi) from (decide_eq_false fun x => e' x.1).symm]
    exact q
def spAsc (K : PySem.W.Frag) : Sp := fun vs H Q _ => ∃ (a : Addr) (ns : List Int), vs = [.ref a] ∧ SqT K H a (ns.map V.int) ∧ ns.length ≤ 1000 ∧ ∀ H', Same H H' → Q (.bl (ascB ns)) H'
theorem cal_is_ascending (z : Z mg) (D : Def K mg "is_ascending" s_is_ascending p_is_ascending) : Cal P w K mg base 2 "is_ascending" p_is_ascending (spAsc K) := by
  refine D.cal sc_is_ascending (fun vs H Q E h => by obtain ⟨_, _, rfl, _⟩ := h; rfl) fun f cdv A outer s H vs Q E hr h => ?_
  obtain ⟨a, ns, rfl, hS, hl, q⟩ := h
  refine ⟨_, (pss_one (ps_ret (pe_callB (cr_all rfl) (by rfl) z.«all» (by decide +kernel) (pa_cons (pe_lc (own := [("one", 1), ("behind", 2)]) (g := (gTup K 2 (gCons (gName 1) (gCons (gName 2) gNil)))) (tt := tYes) rfl sc_is_ascending.nd (RZ.pi_zipA (by rfl) z.«zip» (pa_cons (pv 0) (pa_cons (pe_slice sl_tupA (pv 0) (po_some pe_int) po_none) pa_nil))) (blkOk_by (N := n_is_ascending) (sc := defScope s_is_ascending) (by decide +kernel)) (fun _ _ _ _ _ => (pg_tup rfl (pgs_cons (pg_name (i := 1) sc_is_ascending.nd rfl (Or.inl rfl)) (pgs_cons (pg_name (i := 2) sc_is_ascending.nd rfl (Or.inl rfl)) pgs_nil)))) (fun _ _ _ _ _ => pts_nil) (fun _ _ _ _ _ => (pe_cmpR op_lt (pv 1) (pv 2) (nomark _)))) pa_nil)))), ?_⟩
  refine ⟨.ref a, rfl, .ref a, rfl, 1, rfl, ?_⟩
  dsimp only [tNoPart]
  refine sl_tail hS fun c Hc sm hc => ?_
  refine ⟨a, c, _, _, rfl, .inr ⟨sm.tup hS, hc, fun L nL => ?_⟩⟩
  refine lc_std (walk_zipT (K := K) (a := a) (b := c) (xs := ns.map V.int) (ys := (ns.map V.int).tail) rfl) (ns.zip ns.tail) (fun p => some (.bl (decide (p.1 < p.2)))) ?_ (small1000 ?_) nL (fun H2 s2 => ⟨s2.tup (sm.tup hS), s2.tup hc⟩) (fun i x H2 H3 p R hp s2 y hR => ?_) (fun H2 s2 e => ?_)
  · simp only [List.length_zip, List.length_tail, List.length_map]
  · simp only [List.length_tail, List.length_map]; omega
  · obtain ⟨T, v1, v2, rfl, nT, rfl, g1, g2⟩ := y
    have sT : Same H2 (upd H2 T (.tup [v1, v2])) := same_upd nT
    obtain ⟨k1, k2⟩ := zip_at hp
    obtain rfl := map_at k1 g1
    rw [← List.map_tail] at g2
    obtain rfl := map_at k2 g2
    refine ⟨T, _, rfl, .inl (.inl upd_same), rfl, _, _, rfl, _, _, rfl, rfl, rfl, ?_⟩
    exact ⟨_, rfl, _, rfl, p.1, p.2, rfl, rfl, hR _ sT⟩
  · refine ⟨L, (ns.zip ns.tail).map fun p => decide (p.1 < p.2), rfl, .inl (.inl ?_), ?_⟩
    · rw [e, filterMap_some, List.map_map]
      rfl
    · have e2 : ((ns.zip ns.tail).map fun p => decide (p.1 < p.2)).all id = ascB ns := by
        unfold ascB
        rw [List.all_map]
        rfl
      rw [e2]
      exact q _ (sm.trans s2)
/-- thing, most, low, high: a tuple of ints -/
def rowB (ns : List Int) (most lo hi : Int) : Bool := decide ((ns.length : Int) ≤ most) && (ns.all fun n => decide (lo ≤ n ∧ n ≤ hi)) && ascB ns
def spRow (K : PySem.W.Frag) : Sp := fun vs H Q _ => ∃ (a : Addr) (ns : List Int) (most lo hi : Int), vs = [.ref a, .int most, .int lo, .int hi] ∧ SqT K H a (ns.map V.int) ∧ ns.length ≤ 1000 ∧ ∀ H', Same H H' → Q (.bl (rowB ns most lo hi)) H'
def spNeedNum (lo : Int) : Sp := fun vs H Q _ => ∃ n : Int, vs = [.int n] ∧ lo ≤ n ∧ n ≤ 10 ^ 30 ∧ Q .non H
theorem cal_need_person (z : Z mg) (m_MOST_NUMBER : ∃ t, mg "MOST_NUMBER" = some (.int (10 ^ 30) t)) (c_is_number : Cal P w K mg base 2 "is_number" p_is_number spNum) (D : Def K mg "need_person" s_need_person p_need_person) :
    Cal P w K mg base 3 "need_person" p_need_person (spNeedNum 0) := by
  obtain ⟨tt, m_MOST_NUMBER⟩ := m_MOST_NUMBER
  refine D.cal sc_need_person (fun vs H Q E h => by obtain ⟨_, rfl, _⟩ := h; rfl) fun f cdv A outer s H vs Q E hr h => ?_
  obtain ⟨n, rfl, h0, h1, q⟩ := h
  refine ⟨_, (pss_one (ps_if (pt_not (pt_val (pe_cal c_is_number (hr.mono (by decide)) (by rfl) (pa_cons (pv 0) (pa_cons pe_int (pa_cons (pe_globI (by rfl) m_MOST_NUMBER) pa_nil)))))) (pss_one ps_never) pss_nil)), ?_⟩
  refine ⟨.int n, rfl, n, 0, 10 ^ 30, rfl, ?_⟩
  rw [decide_eq_true ⟨h0, h1⟩]
  exact ⟨true, rfl, iteF q⟩
/-! ### scaled rules -/
/-- a scaled rule at a, its numbers at t -/
structure ScAt (K : PySem.W.Frag) (H : Hp) (a t : Addr) (D : Int) (ads : List Int) : Prop where
  sc : SqT K H a [.int D, .ref t]
  ads : SqT K H t (ads.map V.int)
theorem ScAt.same {H H' : Hp} {a t : Addr} {D : Int} {ads : List Int} (h : ScAt K H a t D ads) (s : Same H H') : ScAt K H' a t D ads := ⟨s.tup h.sc, s.tup h.ads⟩
def spNeedSc (K : PySem.W.Frag) : Sp := fun vs H Q _ => ∃ (a t : Addr) (D : Int) (ads : List Int), vs = [.ref a] ∧ ScAt K H a t D ads ∧ IsSc D ads ∧ ∀ H', Same H H' → Q (.ref a) H'
theorem cal_need_scaled (z : Z mg) (m_LEAST_SCALE : ∃ t, mg "LEAST_SCALE" = some (.int 2 t)) (m_GREATEST_SCALE : ∃ t, mg "GREATEST_SCALE" = some (.int 5 t)) (m_MOST_ADDS : ∃ t, mg "MOST_ADDS" = some (.int 5 t)) (m_GREATEST_ADD : ∃ t, mg "GREATEST_ADD" = some (.int 20 t))
    (c_is_number : Cal P w K mg base 2 "is_number" p_is_number spNum) (D : Def K mg "need_scaled" s_need_scaled p_need_scaled) : Cal P w K mg base 3 "need_scaled" p_need_scaled (spNeedSc K) := by
  obtain ⟨t1, m_LEAST_SCALE⟩ := m_LEAST_SCALE
  obtain ⟨t2, m_GREATEST_SCALE⟩ := m_GREATEST_SCALE
  obtain ⟨t3, m_MOST_ADDS⟩ := m_MOST_ADDS
  obtain ⟨t4, m_GREATEST_ADD⟩ := m_GREATEST_ADD
  refine D.cal sc_need_scaled (fun vs H Q E h => by obtain ⟨_, _, _, _, rfl, _⟩ := h; rfl) fun f cdv A outer s H vs Q E hr h => ?_
  obtain ⟨a, t, N, ads, rfl, hS, hR, q⟩ := h
  have h1 := hR.one
  have h5 := hR.most
  refine ⟨_, (pss_cons (ps_if (PW.pt (pw_or (pt_not (pt_val (pe_callB (call_isi) (by rfl) z.«isinstance» (by decide +kernel) (pa_cons (pv 0) (pa_cons (pe_bltn (v := .ty "tuple") (by rfl) z.«tuple» (by decide +kernel) rfl) pa_nil))))) (pw_or1 (pt_cmpR op_ne (pe_callB (call_len_seq) (by rfl) z.«len» (by decide +kernel) (pa_cons (pv 0) pa_nil)) pe_int (nomark _))))) (pss_one ps_never) pss_nil)
        (pss_cons (ps_asg (pv 0) (pg_tup rfl (pgs_cons (pg_name (i := 1) sc_need_scaled.nd rfl (Or.inl rfl)) (pgs_cons (pg_name (i := 2) sc_need_scaled.nd rfl (Or.inl rfl)) pgs_nil))))
        (pss_cons (ps_if (PW.pt (pw_or (pt_not (pt_val (pe_callB (call_isi) (by rfl) z.«isinstance» (by decide +kernel) (pa_cons (pv 2) (pa_cons (pe_bltn (v := .ty "tuple") (by rfl) z.«tuple» (by decide +kernel) rfl) pa_nil))))) (pw_or1 (pt_not (pt_chain op_le op_le pe_int (pe_callB (call_len_seq) (by rfl) z.«len» (by decide +kernel) (pa_cons (pv 2) pa_nil)) (pe_globI (by rfl) m_MOST_ADDS)))))) (pss_one ps_never) pss_nil)
        (pss_cons (ps_if (pt_not (pt_val (pe_cal c_is_number (hr.mono (by decide)) (by rfl) (pa_cons (pv 1) (pa_cons (pe_globI (by rfl) m_LEAST_SCALE) (pa_cons (pe_globI (by rfl) m_GREATEST_SCALE) pa_nil)))))) (pss_one ps_never) pss_nil)
        (pss_cons (ps_if (pt_not (pt_val (pe_callB (cr_all rfl) (by rfl) z.«all» (by decide +kernel) (pa_cons (pe_lc (own := [("add", 3)]) (g := (gName 3)) (tt := tYes) rfl sc_need_scaled.nd (pi_tup (pv 2)) (blkOk_by (N := n_need_scaled) (sc := defScope s_need_scaled) (by decide +kernel)) (fun _ _ _ _ _ => (pg_name (i := 3) sc_need_scaled.nd rfl (Or.inl rfl))) (fun _ _ _ _ _ => pts_nil) (fun _ _ _ _ _ => (pe_cal c_is_number (hr.mono (by decide)) (by rfl) (pa_cons (pv 3) (pa_cons pe_int (pa_cons (pe_globI (by rfl) m_GREATEST_ADD) pa_nil)))))) pa_nil)))) (pss_one ps_never) pss_nil)
        (pss_cons (ps_if (pt_cmpR op_lt (pe_lenSetT (by rfl) z.«len» (by rfl) z.«set» (pv 2)) (pe_callB (call_len_seq) (by rfl) z.«len» (by decide +kernel) (pa_cons (pv 2) pa_nil)) (nomark _)) (pss_one ps_never) pss_nil)
        (pss_one (ps_ret (pv 0))))))))), ?_⟩
  refine ⟨.ref a, rfl, .ref a, .ty "tuple", .type "tuple", .type "tuple", true, rfl, .ty _, tyx_tup hS.sc, kit_ty (by decide +kernel), true, rfl, iteF ?_⟩
  refine ⟨.ref a, rfl, a, _, rfl, .inr hS.sc, rfl, _, rfl, iteF ?_⟩
  refine ⟨.ref a, rfl, a, _, rfl, hS.sc, rfl, _, _, rfl, _, _, rfl, rfl, ?_⟩
  refine ⟨.ref t, rfl, .ref t, .ty "tuple", .type "tuple", .type "tuple", true, rfl, .ty _, tyx_tup hS.ads, kit_ty (by decide +kernel), true, rfl, iteF ?_⟩
  refine ⟨.ref t, rfl, t, _, rfl, .inr hS.ads, 1, _, rfl, rfl, _, rfl, ?_⟩
  rw [List.length_map]
  have e1 : decide ((1 : Int) ≤ (ads.length : Int)) = true := decide_eq_true (by omega)
  have e2 : decide ((ads.length : Int) ≤ 5) = true := decide_eq_true (by omega)
  rw [e1]
  refine iteT ⟨_, 5, rfl, rfl, _, rfl, ?_⟩
  rw [e2]
  refine iteF ?_
  refine ⟨.int N, rfl, N, 2, 5, rfl, ?_⟩
  rw [decide_eq_true ⟨hR.d2, hR.d5⟩]
  refine ⟨true, rfl, iteF ?_⟩
  refine ⟨.ref t, rfl, t, rfl, ⟨_, hS.ads⟩, fun L nL => ?_⟩
  refine lc_std (walk_tup (K := K) (a := t) (xs := ads.map V.int)) ads (fun n => some (.bl (decide (0 ≤ n ∧ n ≤ 20)))) (by rw [List.length_map]) (small1000 (by rw [List.length_map]; omega)) nL (fun H2 s2 => s2.tup hS.ads) (fun i x H2 H3 n R hn s2 y hR => ?_) (fun H2 s2 e3 => ?_)
  · obtain ⟨rfl, g⟩ := y
    obtain rfl := map_at hn g
    refine ⟨rfl, ?_⟩
    exact ⟨_, rfl, n, 0, 20, rfl, hR _ (Same.refl _)⟩
  · refine ⟨L, ads.map fun n => decide (0 ≤ n ∧ n ≤ 20), rfl, .inl (.inl ?_), ?_⟩
    · rw [e3, filterMap_some, List.map_map]
      rfl
    · have e4 : (ads.map fun n => decide (0 ≤ n ∧ n ≤ 20)).all id = true := by
        rw [List.all_map, List.all_eq_true]
        intro n hn
        exact decide_eq_true (hR.rng n hn)
      rw [e4]
      refine ⟨true, rfl, iteF ?_⟩
      refine ⟨.ref t, rfl, t, ads, rfl, s2.tup hS.ads, hR.nd, by omega, .ref t, rfl, t, _, rfl, .inr (s2.tup hS.ads), _, _, rfl, rfl, _, rfl, ?_⟩
      rw [List.length_map, decide_eq_false (by omega)]
      exact iteF ⟨.ref a, rfl, q H2 s2⟩
/-- a comprehension that makes tuples -/
abbrev EntV := List V × Addr
theorem lc_tups {J : It} {n : Nat} {G : Hp → Prop} {Y : Nat → Hp → V → Hp → Prop} {α : Type} (wk : Walk J n G Y) {g : TG} {tt : TT} {te : TE} {vs : List Nat} {σ : L2.St} {H1 : Hp} {D : Addr} {Qd : Hp → Prop}
    (ys : List α) (h : α → Option (List V)) (hn : ys.length = n) (hz : n < sizeLine) (hD : H1 D = none) (hG : ∀ H, Same H1 H → G H)
    (hs : ∀ i x H H' a (R : Option V → Hp → Prop), ys[i]? = some a → Same H1 H → Y i H x H' → (h a = none → ∀ H4, Same H H4 → R none H4) → (∀ t, h a = some t → ∀ H4 r, Same H H4 → H4 r = some (.tup t) → R (some (.ref r)) H4) →
      g x (wipe σ vs) H' fun σ2 H2 => wipe σ2 vs = wipe σ vs ∧ tt σ2 H2 fun b H3 => if b = true then te σ2 H3 fun y H4 => R (some y) H4 else R none H3)
    (hd : ∀ H (es : List EntV), Same H1 H → H D = some (.lst (es.map fun e => V.ref e.2)) → es.map (·.1) = ys.filterMap h → (∀ e ∈ es, H e.2 = some (.tup e.1)) → Qd H) :
    ∃ W : Nat → Nat → Hp → Prop, (∃ m, W 0 m (upd H1 D (.lst []))) ∧ ∀ i m H, W i m H →
      (J.stop i H ∧ Qd H) ∨ (J.go i H ∧ ∃ Nx : Hp → Prop, (∀ H', Nx H' → ∃ m', m' < m ∧ W (i + 1) m' H') ∧ ∀ x H', J.yld i H x H' → g x (wipe σ vs) H' fun σ2 H2 => wipe σ2 vs = wipe σ vs ∧ tt σ2 H2 fun b H3 =>
        if b = true then te σ2 H3 fun y H4 => ∃ acc, H4 D = some (.lst acc) ∧ acc.length < sizeLine ∧ Nx (upd H4 D (.lst (acc ++ [y]))) else Nx H3) := by
  refine lc_it wk (fun i H => Same H1 H ∧ ∃ es : List EntV, H D = some (.lst (es.map fun e => V.ref e.2)) ∧ es.map (·.1) = (ys.take i).filterMap h ∧ ∀ e ∈ es, H e.2 = some (.tup e.1) ∧ e.2 ≠ D)
    ⟨same_upd hD, [], by rw [upd_same]; rfl, rfl, fun _ h => by cases h⟩ (fun i H _ q => hG H q.1) (fun i x H H' hi q y => ?_) fun H q => ?_
  · obtain ⟨sm, es, eD, em, et⟩ := q
    have hi' : i < ys.length := by omega
    have ha : ys[i]? = some ys[i] := List.getElem?_eq_getElem hi'
    have tk : (ys.take (i + 1)).filterMap h = (ys.take i).filterMap h ++ (h ys[i]).toList := by
      rw [List.take_add_one, ha, List.filterMap_append]
      cases e : h ys[i] <;> simp [e]
    have ln : es.length < sizeLine := by
      have z := List.length_filterMap_le h (ys.take i)
      rw [← em, List.length_map, List.length_take] at z
      omega
    refine hs i x H H' ys[i] (fun o H4 => match o with
      | some y => ∃ acc, H4 D = some (.lst acc) ∧ acc.length < sizeLine ∧ (Same H1 (upd H4 D (.lst (acc ++ [y]))) ∧ ∃ es : List EntV, (upd H4 D (.lst (acc ++ [y]))) D = some (.lst (es.map fun e => V.ref e.2)) ∧ es.map (·.1) = (ys.take (i + 1)).filterMap h ∧ ∀ e ∈ es, (upd H4 D (.lst (acc ++ [y]))) e.2 = some (.tup e.1) ∧ e.2 ≠ D)
      | none => Same H1 H4 ∧ ∃ es : List EntV, H4 D = some (.lst (es.map fun e => V.ref e.2)) ∧ es.map (·.1) = (ys.take (i + 1)).filterMap h ∧ ∀ e ∈ es, H4 e.2 = some (.tup e.1) ∧ e.2 ≠ D) ha sm y (fun hN H4 s4 => ?_) (fun t ht H4 r s4 hr => ?_)
    · exact ⟨sm.trans s4, es, s4 _ _ eD, by rw [em, tk, hN]; simp, fun e he => ⟨s4 _ _ (et e he).1, (et e he).2⟩⟩
    · have rD : r ≠ D := fun x => by
        rw [x, s4 _ _ eD] at hr
        cases hr
      refine ⟨_, s4 _ _ eD, by rw [List.length_map]; exact ln, fun b o eb => ?_, es ++ [(t, r)], by rw [upd_same, List.map_append]; rfl, by rw [List.map_append, em, tk, ht]; rfl, fun e he => ?_⟩
      · have nb : b ≠ D := ne_of_none eb hD
        rw [upd_ne nb]
        exact s4 _ _ (sm _ _ eb)
      · rcases List.mem_append.mp he with m | m
        · rw [upd_ne (et e m).2]
          exact ⟨s4 _ _ (et e m).1, (et e m).2⟩
        · rw [List.mem_singleton.mp m]
          exact ⟨by rw [upd_ne rD]; exact hr, rD⟩
  · obtain ⟨sm, es, eD, em, et⟩ := q
    exact hd H es sm eD (by rw [em, ← hn, List.take_length]) fun e he => (et e he).1
end
end LK
namespace LK
open PySem PySem.Spec PyProof.Rows L2 CD
section
variable {P : Program} {w : World} {K : PySem.W.Frag} {mg : Str → Option Value} {base : Heap}
def pV (p : Int × Int) : List V := [.int p.1, .int p.2]
def spCallersOf (K : PySem.W.Frag) : Sp := fun vs H Q _ => ∃ (a t : Addr) (N n : Int) (ads : List Int), vs = [.ref a, .int n] ∧ ScAt K H a t N ads ∧ IsSc N ads ∧ 0 ≤ n ∧ ∀ H' L, Same H H' → H L = none → RowsAt H' L ((callsO N ads n).map pV) → Q (.ref L) H'
theorem cal_callers_of (z : Z mg) (D : Def K mg "callers_of" s_callers_of p_callers_of) : Cal P w K mg base 2 "callers_of" p_callers_of (spCallersOf K) := by
  refine D.cal sc_callers_of (fun vs H Q E h => by obtain ⟨_, _, _, _, _, rfl, _⟩ := h; rfl) fun f cdv A outer s H vs Q E hr h => ?_
  obtain ⟨a, t, N, n, ads, rfl, hS, hR, n0, q⟩ := h
  have h5 := hR.most
  have d2 := hR.d2
  have d5 := hR.d5
  refine ⟨_, (pss_cons (ps_asg (pv 0) (pg_tup rfl (pgs_cons (pg_name (i := 2) sc_callers_of.nd rfl (Or.inr rfl)) (pgs_cons (pg_name (i := 3) sc_callers_of.nd rfl (Or.inl rfl)) pgs_nil))))
        (pss_cons (ps_setLc (i := 4) (own := [("place", 5), ("add", 6)]) (g := (gTup K 2 (gCons (gName 5) (gCons (gName 6) gNil)))) rfl sc_callers_of.nd rfl rfl (sw_true rfl rfl rfl (by decide +kernel)) (pi_enumT (by rfl) z.«enumerate» (pa_cons (pv 3) pa_nil) (pk_cons pe_int pk_nil)) (blkOk_by (N := n_callers_of) (sc := defScope s_callers_of) (by decide +kernel)) (fun _ _ _ _ _ => (pg_tup rfl (pgs_cons (pg_name (i := 5) sc_callers_of.nd rfl (Or.inl rfl)) (pgs_cons (pg_name (i := 6) sc_callers_of.nd rfl (Or.inl rfl)) pgs_nil)))) (fun _ _ _ _ _ => (pts_one (PW.pt (pw_and (pt_cmpR op_le (pv 6) (pv 1) (nomark _)) (pw_and1 (pt_cmpR op_eq (pe_op op_modN (pe_op op_sub (pv 1) (pv 6)) (pv 2)) pe_int (nomark _))))))) (fun _ _ _ _ _ => (pe_tup (pa_cons (pe_op op_fdivN (pe_op op_sub (pv 1) (pv 6)) (pv 2)) (pa_cons (pv 5) pa_nil)))))
        (pss_one (ps_ret (pe_lc (own := [("caller", 7), ("place", 5)]) (g := (gTup K 2 (gCons (gName 7) (gCons (gName 5) gNil)))) rfl sc_callers_of.nd (pi_list (pv 4)) (blkOk_by (N := n_callers_of) (sc := defScope s_callers_of) (by decide +kernel)) (fun _ _ _ _ _ => (pg_tup rfl (pgs_cons (pg_name (i := 7) sc_callers_of.nd rfl (Or.inl rfl)) (pgs_cons (pg_name (i := 5) sc_callers_of.nd rfl (Or.inl rfl)) pgs_nil)))) (fun _ _ _ _ _ => (pts_one (pt_cmpR op_ne (pv 7) (pv 1) (nomark _)))) (fun _ _ _ _ _ => (pe_tup (pa_cons (pv 7) (pa_cons (pv 5) pa_nil))))))))), ?_⟩
  refine ⟨.ref a, rfl, a, _, rfl, hS.sc, rfl, _, _, rfl, _, _, rfl, rfl, ?_⟩
  refine ⟨.ref t, rfl, t, _, 1, rfl, rfl, by omega, by omega, hS.ads, fun L nL => ?_⟩
  refine lc_tups (walk_enumT (K := K) (a := t) (k := 1) (xs := ads.map V.int)) ads.zipIdx (fun e => if e.1 ≤ n ∧ (n - e.1) % N = 0 then some (pV ((n - e.1) / N, 1 + (e.2 : Int))) else none) (by rw [List.length_zipIdx, List.length_map]) (small1000 (by rw [List.length_map]; omega)) nL (fun H2 s2 => s2.tup hS.ads) (fun i x H2 H3 p R hp s2 y hN hT => ?_) (fun H2 es s2 eL em et => ?_)
  · obtain ⟨T, v1, v2, rfl, nT, rfl, g1, g2⟩ := y
    have sT : Same H2 (upd H2 T (.tup [v1, v2])) := same_upd nT
    rw [List.getElem?_zipIdx] at hp
    cases er : ads[i]? with
    | none => rw [er] at hp; cases hp
    | some sp =>
      rw [er] at hp
      have ep : p = (sp, 0 + i) := (Option.some.inj hp).symm
      rw [Nat.zero_add] at ep
      subst ep
      obtain rfl := map_at er g2
      have e1 : v1 = .int (1 + (i : Nat)) := (Option.some.inj g1).symm
      subst e1
      refine ⟨T, _, rfl, .inl (.inl upd_same), rfl, _, _, rfl, _, _, rfl, rfl, rfl, ?_⟩
      refine ⟨.int sp, rfl, .int n, rfl, sp, n, rfl, rfl, _, rfl, ite2 (fun c => ?_) (fun c => ?_)⟩
      · have c' : sp ≤ n := of_decide_eq_true c
        refine ⟨.int n, rfl, .int sp, rfl, n, sp, rfl, rfl, .int N, rfl, _, N, rfl, rfl, (by omega : N ≠ 0), rfl, ?_⟩
        have ef : (n - sp).fmod N = (n - sp) % N := Int.fmod_eq_emod_of_nonneg _ (by omega : 0 ≤ N)
        refine ⟨_, rfl, ite2 (fun c2 => ?_) (fun c2 => ?_)⟩
        · have c2' : (n - sp) % N = 0 := by
            have z3 : V.int ((n - sp).fmod N) = V.int 0 := of_decide_eq_true c2
            injection z3 with z3
            rw [← ef]
            exact z3
          refine ⟨.int n, rfl, .int sp, rfl, n, sp, rfl, rfl, .int N, rfl, _, N, rfl, rfl, ⟨by omega, by omega⟩, .int (1 + (i : Nat)), rfl, (by decide : 2 ≤ sizeLine), fun r nr => ?_⟩
          refine hT (pV ((n - sp) / N, 1 + (i : Int))) (if_pos ⟨c', c2'⟩) _ r (sT.trans (same_upd nr)) ?_
          rw [upd_same]
          show some (HO.tup [V.int ((n - sp).fdiv N), V.int (1 + (i : Int))]) = _
          rw [Int.fdiv_eq_ediv_of_nonneg _ (by omega : 0 ≤ N)]
          rfl
        · have c2' : ¬ (n - sp) % N = 0 := fun x => c2 (decide_eq_true (show V.int ((n - sp).fmod N) = V.int 0 by rw [ef, x]))
          exact hN (if_neg fun x => c2' x.2) _ sT
      · have c' : ¬ sp ≤ n := fun x => c (decide_eq_true x)
        exact hN (if_neg fun x => c' x.1) _ sT
  · have em2 : es.map (·.1) = (callsI N ads n).map pV := by
      rw [em]
      unfold callsI
      rw [List.map_filterMap]
      refine fm_congr fun e _ => ?_
      by_cases c : e.1 ≤ n ∧ (n - e.1) % N = 0
      · rw [if_pos c, if_pos c]
        rfl
      · rw [if_neg c, if_neg c]
        rfl
    have le : es.length ≤ 5 := by
      have z2 := callsI_len5 hR n
      rw [← List.length_map pV, ← em2, List.length_map] at z2
      exact z2
    refine ⟨.ref L, rfl, L, rfl, ⟨_, .inl (.inl eL)⟩, fun L2 nL2 => ?_⟩
    refine lc_tups (walk_list (K := K) (a := L) (xs := es.map fun e => V.ref e.2)) es (fun e => if e.1[0]? = some (.int n) then none else some e.1) (by rw [List.length_map]) (small1000 (by rw [List.length_map]; omega)) nL2 (fun H3 s3 => .inl (.inl (s3 _ _ eL))) (fun i x H3 H4 e R he s3 y hN hT => ?_) (fun H3 es3 s3 eL3 em3 et3 => ?_)
    · obtain ⟨rfl, g⟩ := y
      obtain rfl := map_at he g
      have hm := List.mem_of_getElem? he
      obtain ⟨p, _, ep⟩ : ∃ p ∈ callsI N ads n, pV p = e.1 := by
        have z2 : e.1 ∈ es.map (·.1) := List.mem_map.mpr ⟨e, hm, rfl⟩
        rw [em2] at z2
        exact List.mem_map.mp z2
      have hT3 := s3 _ _ (et e hm)
      rw [← ep] at hT3 hN hT
      refine ⟨e.2, _, rfl, .inl (.inl hT3), rfl, _, _, rfl, _, _, rfl, rfl, rfl, ?_⟩
      refine ⟨.int p.1, rfl, .int n, rfl, rfl, _, rfl, ite2 (fun c => ?_) (fun c => ?_)⟩
      · have c' : ¬ p.1 = n := fun x => by
          rw [x] at c
          simp at c
        refine ⟨.int p.1, rfl, .int p.2, rfl, (by decide : 2 ≤ sizeLine), fun r nr => ?_⟩
        exact hT (pV p) (if_neg fun x => c' (by injection x with x; injection x)) _ r (same_upd nr) upd_same
      · have c' : p.1 = n := by
          refine Decidable.by_contra fun x => c ?_
          have z3 : ¬ V.int p.1 = V.int n := fun y => x (by injection y)
          rw [decide_eq_false z3]
          rfl
        exact hN (if_pos (by rw [← c']; rfl)) _ (Same.refl _)
    · refine q H3 L2 (s2.trans s3) (Same.free s2 nL2) ⟨es3, eL3, ?_, et3⟩
      rw [em3]
      have e4 : es.filterMap (fun e => if e.1[0]? = some (.int n) then none else some e.1) = (es.map (·.1)).filterMap (fun t : List V => if t[0]? = some (.int n) then none else some t) := by
        rw [List.filterMap_map]
        rfl
      rw [e4, em2]
      unfold callsO
      generalize callsI N ads n = ps
      clear em2
      induction ps with
      | nil => rfl
      | cons p r ih =>
        rw [List.map_cons, List.filterMap_cons, List.filter_cons]
        by_cases c : p.1 = n
        · rw [if_pos (by rw [← c]; rfl), if_neg (by simpa using c), ih]
        · rw [if_neg (fun x => c (by injection x with x; injection x)), if_pos (by simpa using c), List.map_cons, ih]
end
end LK
namespace LK
open PySem PySem.Spec PyProof.Rows L2 CD
section
variable {P : Program} {w : World} {K : PySem.W.Frag} {mg : Str → Option Value} {base : Heap}
/-- the dict of who calls whom: what is known between the turns -/
structure CallsOk (H0 H : Hp) (C F : Addr) (N : Int) (ads ns : List Int) (es : List (Int × V)) (fs : List Int) : Prop where
  same : Same H0 H
  nC : H0 C = none
  nF : H0 F = none
  ne : C ≠ F
  dC : H C = some (.dK (dkV es))
  lF : H F = some (.lst (fs.map V.int))
  nd : (es.map (·.1)).Nodup
  rows : ∀ e ∈ es, ∃ L, e.2 = .ref L ∧ L ≠ C ∧ L ≠ F ∧ RowsAt H L ((callsO N ads e.1).map pV)
  closed : ∀ e ∈ es, ∀ p ∈ callsO N ads e.1, p.1 ∈ es.map (·.1) ∨ p.1 ∈ fs
  all : ∀ n ∈ ns, n ∈ es.map (·.1) ∨ n ∈ fs
  near : ∀ k, k ∈ es.map (·.1) ∨ k ∈ fs → ∃ n ∈ ns, Near N n k
  few : fs.length ≤ ns.length + 5 * es.length
theorem CallsOk.bound {H0 H : Hp} {C F : Addr} {N : Int} {ads ns : List Int} {es : List (Int × V)} {fs : List Int} (h : CallsOk H0 H C F N ads ns es fs) (S : IsSc N ads) (hn : ∀ n ∈ ns, 0 ≤ n ∧ n ≤ 10 ^ 30) : es.length ≤ ns.length * 2121 := by
  have z := few_near S.d2 hn h.nd fun k hk => h.near k (.inl hk)
  rwa [List.length_map] at z
def spTicksOf (K : PySem.W.Frag) : Sp := fun vs H Q _ => ∃ (a t l : Addr) (N : Int) (ads ns : List Int), vs = [.ref a, .ref l] ∧ ScAt K H a t N ads ∧ IsSc N ads ∧ SqL K H l (ns.map V.int) ∧ ns.length ≤ 200 ∧ (∀ n ∈ ns, 0 ≤ n ∧ n ≤ 10 ^ 30) ∧
  ∀ H' d (es : List (Int × V)), Same H H' → H d = none → H' d = some (.dK (dkV es)) → (es.map (·.1)).Nodup → (∀ e ∈ es, e.2 = oV (tk N ads e.1)) → (∀ e ∈ es, ∀ p ∈ callsO N ads e.1, p.1 ∈ es.map (·.1)) → (∀ n ∈ ns, n ∈ es.map (·.1)) → Q (.ref d) H'
theorem cal_ticks_of (z : Z mg) (c_callers_of : Cal P w K mg base 2 "callers_of" p_callers_of (spCallersOf K)) (D : Def K mg "ticks_of" s_ticks_of p_ticks_of) : Cal P w K mg base 3 "ticks_of" p_ticks_of (spTicksOf K) := by
  refine D.cal sc_ticks_of (fun vs H Q E h => by obtain ⟨_, _, _, _, _, _, rfl, _⟩ := h; rfl) fun f cdv A outer s H vs Q E hr h => ?_
  obtain ⟨a, t, l, N, ads, ns, rfl, hS, hR, hl, h200, hn, q⟩ := h
  have hu := hu_of hr
  refine ⟨_, (pss_cons (ps_set (i := 2) sc_ticks_of.nd rfl (Or.inl rfl) pe_dnewK)
        (pss_cons (ps_set (i := 3) sc_ticks_of.nd rfl (Or.inl rfl) (pe_callTy (call_list_of) (by rfl) z.«list» (by decide +kernel) (pa_cons (pv 1) pa_nil)))
        (pss_cons (ps_while PassesOwn.never (pt_truth (pv 3) (by intro _; rfl)) (pss_cons (ps_set (i := 4) sc_ticks_of.nd rfl (Or.inl rfl) (pe_bm0 PySem.F.plainAttrs_list PySem.F.slot_list_pop PySem.F.type_list_pop mt_pop (pv 3)))
        (pss_one (ps_if (pt_cmp (pc_dnotin hu (pv 4) (pv 2))) (pss_cons (ps_dput hu (pv 2) (pv 4) (pe_cal c_callers_of (hr.mono (by decide)) (by rfl) (pa_cons (pv 0) (pa_cons (pv 4) pa_nil))) rfl)
        (pss_one (ps_expr (pe_bm PySem.F.plainAttrs_list PySem.F.slot_list_extend PySem.F.type_list_extend mt_extend (pv 3) (pa_cons (pe_lc (own := [("caller", 7), ("_", 9)]) (g := (gTup K 2 (gCons (gName 7) (gCons (gName 9) gNil)))) (tt := tYes) rfl sc_ticks_of.nd (pi_list (pe_dget hu (pv 2) (pv 4) (fun _ _ => rfl))) (blkOk_by (N := n_ticks_of) (sc := defScope s_ticks_of) (by decide +kernel)) (fun _ _ _ _ _ => (pg_tup rfl (pgs_cons (pg_name (i := 7) sc_ticks_of.nd rfl (Or.inl rfl)) (pgs_cons (pg_name (i := 9) sc_ticks_of.nd rfl (Or.inl rfl)) pgs_nil)))) (fun _ _ _ _ _ => pts_nil) (fun _ _ _ _ _ => (pv 7))) pa_nil))))) pss_nil))))
        (pss_cons (ps_set (i := 5) sc_ticks_of.nd rfl (Or.inr rfl) pe_dnewK)
        (pss_cons (ps_for PassesOwn.never rfl (pi_list (pe_callB (cr_sortedI) (by rfl) z.«sorted» (by decide +kernel) (pa_cons (pe_callTy (call_list_dK rfl) (by rfl) z.«list» (by decide +kernel) (pa_cons (pv 2) pa_nil)) pa_nil))) (pg_name (i := 4) sc_ticks_of.nd rfl (Or.inl rfl)) (pss_cons (ps_setLc (i := 6) (own := [("caller", 7), ("place", 8)]) (g := (gTup K 2 (gCons (gName 7) (gCons (gName 8) gNil)))) rfl sc_ticks_of.nd rfl rfl (sw_true rfl rfl rfl (by decide +kernel)) (pi_list (pe_dget hu (pv 2) (pv 4) (fun _ _ => rfl))) (blkOk_by (N := n_ticks_of) (sc := defScope s_ticks_of) (by decide +kernel)) (fun _ _ _ _ _ => (pg_tup rfl (pgs_cons (pg_name (i := 7) sc_ticks_of.nd rfl (Or.inl rfl)) (pgs_cons (pg_name (i := 8) sc_ticks_of.nd rfl (Or.inl rfl)) pgs_nil)))) (fun _ _ _ _ _ => (pts_one (pt_cmpR op_notN (pe_dget hu (pv 5) (pv 7) (fun _ _ => rfl)) pe_non (nomark _)))) (fun _ _ _ _ _ => (pe_op op_add (pe_dget hu (pv 5) (pv 7) (fun _ _ => rfl)) (pv 8))))
        (pss_one (ps_dput hu (pv 5) (pv 4) (pe_ifExp (pt_cmpR op_eq (pv 4) pe_int (nomark _)) pe_int (pe_callBK (cr_minDef rfl (hu_of hr)) (by rfl) z.«min» (by decide +kernel) (pa_cons (pv 6) pa_nil) (pk_cons pe_non pk_nil))) rfl))))
        (pss_one (ps_ret (pv 5)))))))), ?_⟩
  refine fun C nC => ⟨.ref l, rfl, l, _, rfl, .inl ((same_upd nC).seq hl), fun F nF => ?_⟩
  have sC := same_upd (o := .dK ([] : List (Key × V))) nC
  have sF := same_upd (o := .lst (ns.map V.int)) nF
  have nF0 : H F = none := Same.free sC nF
  have neCF : C ≠ F := fun x => by rw [← x, upd_same] at nF; cases nF
  have ok0 : CallsOk H (upd (upd H C (.dK [])) F (.lst (ns.map V.int))) C F N ads ns [] ns :=
    ⟨sC.trans sF, nC, nF0, neCF, sF _ _ upd_same, upd_same, List.nodup_nil, fun _ h => (by cases h), fun _ h => (by cases h), fun n h => .inr h, fun k h => by
      rcases h with h | h
      · cases h
      · exact ⟨k, h, Near.self (hn k h).1⟩, by omega⟩
  refine ⟨fun m σ H4 => ∃ es fs y4, m = 6 * (ns.length * 2121 - es.length) + fs.length ∧ σ = [some (.ref a), some (.ref l), some (.ref C), some (.ref F), y4, none, none, none, none, none] ∧ CallsOk H H4 C F N ads ns es fs, ⟨_, [], ns, none, rfl, rfl, ok0⟩, ?_⟩
  intro m σ H4 hW
  obtain ⟨es, fs, y4, rfl, rfl, ok⟩ := hW
  have tC : ∀ t, H4 C ≠ some (.tup t) := fun t x => by rw [ok.dC] at x; cases x
  have tF : ∀ t, H4 F ≠ some (.tup t) := fun t x => by rw [ok.lF] at x; cases x
  have bd := ok.bound hR hn
  refine ⟨.ref F, rfl, _, .inl ⟨_, .inl (.inl ok.lF), rfl⟩, ite2 (fun e => ?_) (fun e => ?_)⟩
  · rcases List.eq_nil_or_concat fs with e0 | ⟨gs, k, e0⟩
    · rw [e0] at e; cases e
    rw [List.concat_eq_append] at e0
    subst e0
    clear e
    refine ⟨fun σ' H' => ∃ m', m' < 6 * (ns.length * 2121 - es.length) + (gs ++ [k]).length ∧ ∃ es' fs' y4, m' = 6 * (ns.length * 2121 - es'.length) + fs'.length ∧ σ' = [some (.ref a), some (.ref l), some (.ref C), some (.ref F), y4, none, none, none, none, none] ∧ CallsOk H H' C F N ads ns es' fs', fun _ _ h => h, ?_⟩
    have lg : (gs ++ [k]).length = gs.length + 1 := by rw [List.length_append]; rfl
    obtain ⟨n1, hn1, hN1⟩ := ok.near k (.inr (List.mem_append_right _ List.mem_cons_self))
    have k0 : 0 ≤ k := hN1.1
    refine ⟨.ref F, rfl, .inl ⟨rfl, _, .inl (.inl ok.lF)⟩, F, _, .int k, rfl, rfl, ok.lF, ?_, ?_⟩
    · rw [List.map_append, List.length_append, List.length_map]
      show (gs.map V.int ++ [V.int k])[gs.length + 1 - 1]? = _
      rw [Nat.add_sub_cancel, List.getElem?_append_right (by rw [List.length_map]; omega), List.length_map, Nat.sub_self]
      rfl
    have edl : ((gs ++ [k]).map V.int).dropLast = gs.map V.int := by rw [List.map_append]; exact List.dropLast_concat
    rw [edl]
    have k5 : Keep2 H4 (upd H4 F (.lst (gs.map V.int))) C F := keep2_f
    have dC5 : (upd H4 F (.lst (gs.map V.int))) C = some (.dK (dkV es)) := by rw [upd_ne ok.ne]; exact ok.dC
    obtain ⟨o, dg, ho⟩ := din_of k dC5
    refine ⟨.int k, rfl, .ref C, rfl, C, o, rfl, dg, _, rfl, ite2 (fun c => ?_) (fun c => ?_)⟩
    · have kn : k ∉ es.map (·.1) := fun x => by
        rw [ho.mpr x] at c
        cases c
      have same5 : Same H (upd H4 F (.lst (gs.map V.int))) := fun b o e => by
        rw [upd_ne (ne_of_none e ok.nF)]
        exact ok.same b o e
      refine ⟨.ref a, rfl, .int k, rfl, a, t, N, k, ads, rfl, hS.same same5, hR, k0, fun H6 L s6 nL rL => ?_⟩
      have LC : L ≠ C := fun x => by rw [x, dC5] at nL; cases nL
      have LF : L ≠ F := fun x => by rw [x, upd_same] at nL; cases nL
      have lt : es.length < sizeLine := by
        have : ns.length * 2121 ≤ 200 * 2121 := Nat.mul_le_mul_right _ h200
        rw [sizeLine_eq]
        omega
      refine ⟨.ref C, rfl, .int k, rfl, C, _, rfl, dput_of (s6 _ _ dC5) kn lt, ?_⟩
      have k7 : Keep2 H6 (upd H6 C (.dK (dkV (es ++ [(k, .ref L)])))) C F := keep2_c
      have dC7 : (upd H6 C (.dK (dkV (es ++ [(k, .ref L)])))) C = some (.dK (dkV (es ++ [(k, .ref L)]))) := upd_same
      have lF7 : (upd H6 C (.dK (dkV (es ++ [(k, .ref L)])))) F = some (.lst (gs.map V.int)) := by rw [upd_ne (Ne.symm ok.ne)]; exact s6 _ _ upd_same
      have rL7 : RowsAt (upd H6 C (.dK (dkV (es ++ [(k, .ref L)])))) L ((callsO N ads k).map pV) := rL.keep k7 LC LF (fun t x => by rw [s6 _ _ dC5] at x; cases x) (fun t x => by rw [s6 _ _ upd_same] at x; cases x)
      generalize (upd H6 C (.dK (dkV (es ++ [(k, .ref L)])))) = H7 at k7 dC7 lF7 rL7
      have nd7 : ((es ++ [(k, V.ref L)]).map (·.1)).Nodup := by
        rw [List.map_append]
        refine List.nodup_append.mpr ⟨ok.nd, by simp, fun x hx y hy => ?_⟩
        rw [List.mem_singleton.mp hy]
        exact fun z => kn (by have z2 : x = k := z; rw [← z2]; exact hx)
      have mk : (k, V.ref L) ∈ es ++ [(k, V.ref L)] := List.mem_append_right _ List.mem_cons_self
      refine ⟨.ref F, rfl, .inl ⟨rfl, _, .inl (.inl lF7)⟩, ?_⟩
      obtain ⟨rs, hrs, lrs, ars⟩ := rL7.refs
      rw [List.length_map] at lrs
      have l5 := callsO_len5 hR k
      refine ⟨.ref C, rfl, .int k, rfl, C, .ref L, rfl, dget_of dC7 nd7 mk, L, rfl, ⟨_, .inl (.inl hrs)⟩, fun B nB => ?_⟩
      refine lc_std (walk_list (K := K) (a := L) (xs := rs.map V.ref)) (callsO N ads k) (fun p => some (.int p.1)) (by rw [List.length_map, lrs]) (small1000 (by rw [List.length_map]; omega)) nB (fun H8 s8 => .inl (.inl (s8 _ _ hrs))) (fun i x H8 H9 p R hp s8 y hR => ?_) (fun H8 s8 e8 => ?_)
      · obtain ⟨rfl, g⟩ := y
        rw [List.getElem?_map] at g
        cases er : rs[i]? with
        | none => rw [er] at g; cases g
        | some r =>
          rw [er] at g
          cases g
          have hT := s8 _ _ (ars i r (pV p) er (by rw [List.getElem?_map, hp]; rfl))
          exact ⟨r, _, rfl, .inl (.inl hT), rfl, _, _, rfl, _, _, rfl, rfl, rfl, .int p.1, rfl, hR _ (Same.refl _)⟩
      · have e9 : (callsO N ads k).filterMap (fun p => some (V.int p.1)) = ((callsO N ads k).map (·.1)).map V.int := by
          rw [filterMap_some, List.map_map]
          rfl
        rw [e9] at e8
        have BF : B ≠ F := fun x => by rw [x, lF7] at nB; cases nB
        refine ⟨F, B, _, _, rfl, rfl, s8 _ _ lF7, e8, ?_, ?_⟩
        · have : ns.length * 2121 ≤ 200 * 2121 := Nat.mul_le_mul_right _ h200
          have f1 := ok.few
          rw [lg] at f1
          rw [List.length_map, List.length_map, List.length_map, sizeLine_eq]
          omega
        rw [← List.map_append]
        have kk : Keep2 H4 (upd H8 F (.lst ((gs ++ (callsO N ads k).map (·.1)).map V.int))) C F := k5.trans (s6.keep2.trans (k7.trans (s8.keep2.trans keep2_f)))
        have dC9 : (upd H8 F (.lst ((gs ++ (callsO N ads k).map (·.1)).map V.int))) C = some (.dK (dkV (es ++ [(k, .ref L)]))) := by rw [upd_ne ok.ne]; exact s8 _ _ dC7
        have rL9 : RowsAt (upd H8 F (.lst ((gs ++ (callsO N ads k).map (·.1)).map V.int))) L ((callsO N ads k).map pV) := (rL7.same s8).keep keep2_f LC LF (fun t x => by rw [s8 _ _ dC7] at x; cases x) (fun t x => by rw [s8 _ _ lF7] at x; cases x)
        have ok' : CallsOk H (upd H8 F (.lst ((gs ++ (callsO N ads k).map (·.1)).map V.int))) C F N ads ns (es ++ [(k, .ref L)]) (gs ++ (callsO N ads k).map (·.1)) := by
          refine ⟨fun b o e => kk b o (ok.same b o e) (ne_of_none e ok.nC) (ne_of_none e ok.nF), ok.nC, ok.nF, ok.ne, dC9, upd_same, nd7, fun e he => ?_, fun e he p hp => ?_, fun n h => ?_, fun c hc => ?_, ?_⟩
          · rcases List.mem_append.mp he with m | m
            · obtain ⟨L', e1, e2, e3, e4⟩ := ok.rows e m
              exact ⟨L', e1, e2, e3, e4.keep kk e2 e3 tC tF⟩
            · rw [List.mem_singleton.mp m]
              exact ⟨L, rfl, LC, LF, rL9⟩
          · rw [List.map_append]
            rcases List.mem_append.mp he with m | m
            · rcases ok.closed e m p hp with x | x
              · exact .inl (List.mem_append_left _ x)
              · rcases List.mem_append.mp x with x | x
                · exact .inr (List.mem_append_left _ x)
                · rw [List.mem_singleton.mp x]
                  exact .inl (List.mem_append_right _ List.mem_cons_self)
            · rw [List.mem_singleton.mp m] at hp
              exact .inr (List.mem_append_right _ (List.mem_map.mpr ⟨p, hp, rfl⟩))
          · rw [List.map_append]
            rcases ok.all n h with x | x
            · exact .inl (List.mem_append_left _ x)
            · rcases List.mem_append.mp x with x | x
              · exact .inr (List.mem_append_left _ x)
              · rw [List.mem_singleton.mp x]
                exact .inl (List.mem_append_right _ List.mem_cons_self)
          · rw [List.map_append] at hc
            have old : (c ∈ es.map (·.1) ∨ c ∈ gs ++ [k]) → ∃ n ∈ ns, Near N n c := ok.near c
            rcases hc with x | x
            · rcases List.mem_append.mp x with x | x
              · exact old (.inl x)
              · exact old (.inr (List.mem_append_right _ x))
            · rcases List.mem_append.mp x with x | x
              · exact old (.inr (List.mem_append_left _ x))
              · obtain ⟨p, hp, rfl⟩ := List.mem_map.mp x
                obtain ⟨_, _, _, _, a', ha, hl, hp1⟩ := callsO_mem hR k0 hp
                have r' := hR.rng a' ha
                rw [hp1]
                exact ⟨n1, hn1, hN1.step hR.d2 r'.1 r'.2 hl⟩
          · have f1 := ok.few
            rw [lg] at f1
            rw [List.length_append, List.length_append, List.length_map, List.length_singleton]
            omega
        have bd' := ok'.bound hR hn
        rw [List.length_append, List.length_singleton] at bd'
        refine ⟨_, ?_, _, _, _, rfl, rfl, ok'⟩
        rw [List.length_append, List.length_append, List.length_singleton, List.length_map, lg]
        omega
    · have km : k ∈ es.map (·.1) := by
        refine ho.mp ?_
        cases x : o.isSome with
        | true => rfl
        | false => rw [x] at c; exact absurd rfl c
      have ok' : CallsOk H (upd H4 F (.lst (gs.map V.int))) C F N ads ns es gs := by
        refine ⟨fun b o e => k5 b o (ok.same b o e) (ne_of_none e ok.nC) (ne_of_none e ok.nF), ok.nC, ok.nF, ok.ne, dC5, upd_same, ok.nd, fun e he => ?_, fun e he p hp => ?_, fun n h => ?_, fun c hc => ok.near c (hc.imp id (List.mem_append_left _)), ?_⟩
        · obtain ⟨L', e1, e2, e3, e4⟩ := ok.rows e he
          exact ⟨L', e1, e2, e3, e4.keep k5 e2 e3 tC tF⟩
        · rcases ok.closed e he p hp with x | x
          · exact .inl x
          · rcases List.mem_append.mp x with x | x
            · exact .inr x
            · rw [List.mem_singleton.mp x]
              exact .inl km
        · rcases ok.all n h with x | x
          · exact .inl x
          · rcases List.mem_append.mp x with x | x
            · exact .inr x
            · rw [List.mem_singleton.mp x]
              exact .inl km
        · have f1 := ok.few
          rw [lg] at f1
          omega
      exact ⟨_, by rw [lg]; omega, _, _, _, rfl, rfl, ok'⟩
  · have fe : fs = [] := by
      cases fs with
      | nil => rfl
      | cons x r => exact absurd rfl e
    subst fe
    refine fun T nT => ?_
    have sT := same_upd (o := .dK ([] : List (Key × V))) nT
    have CT : C ≠ T := fun x => by rw [← x, ok.dC] at nT; cases nT
    refine ⟨.ref C, rfl, C, _, rfl, sT _ _ ok.dC, fun l1 nl1 => ?_⟩
    rw [dkV_keys]
    have s1 := same_upd (o := .lst ((es.map (·.1)).map V.int)) nl1
    refine ⟨l1, _, rfl, .inl (.inl upd_same), fun ks l2 perm srt nl2 => ?_⟩
    have s2 := same_upd (o := .lst (ks.map V.int)) nl2
    have hb : Same H4 (upd (upd (upd H4 T (.dK [])) l1 (.lst ((es.map (·.1)).map V.int))) l2 (.lst (ks.map V.int))) := sT.trans (s1.trans s2)
    have dT0 : (upd (upd (upd H4 T (.dK [])) l1 (.lst ((es.map (·.1)).map V.int))) l2 (.lst (ks.map V.int))) T = some (.dK (dkV [])) := s2 _ _ (s1 _ _ upd_same)
    have hl2 : (upd (upd (upd H4 T (.dK [])) l1 (.lst ((es.map (·.1)).map V.int))) l2 (.lst (ks.map V.int))) l2 = some (.lst (ks.map V.int)) := upd_same
    generalize (upd (upd (upd H4 T (.dK [])) l1 (.lst ((es.map (·.1)).map V.int))) l2 (.lst (ks.map V.int))) = H5 at hb dT0 hl2
    have l2T : l2 ≠ T := fun x => by rw [x, dT0] at hl2; cases hl2
    have ndk : ks.Nodup := perm.nodup_iff.mpr ok.nd
    have lk : ks.length = es.length := by rw [perm.length_eq, List.length_map]
    refine ⟨l2, rfl, ⟨_, .inl (.inl hl2)⟩, ?_⟩
    refine for_it (walk_list (K := K) (a := l2) (xs := ks.map V.int)) (fun i σ H6 => ∃ y4 y6 ts, σ = [some (.ref a), some (.ref l), some (.ref C), some (.ref F), y4, some (.ref T), y6, none, none, none] ∧ Keep2 H5 H6 T T ∧ H6 T = some (.dK (dkV ts)) ∧ ts.map (·.1) = ks.take i ∧ ∀ e ∈ ts, e.2 = oV (tk N ads e.1))
      ⟨y4, none, [], rfl, fun b o e _ _ => e, dT0, rfl, fun _ h => (by cases h)⟩ (fun i σ H6 _ hW => ?_) (fun i x σ H6 H7 hi hW y => ?_) (fun σ H6 hW => ?_)
    · obtain ⟨_, _, _, _, kp, _, _, _⟩ := hW
      exact .inl (.inl (kp _ _ hl2 l2T l2T))
    · obtain ⟨y4, y6, ts, rfl, kp, dT, em, et⟩ := hW
      obtain ⟨rfl, g⟩ := y
      rw [List.getElem?_map] at g
      cases ek : ks[i]? with
      | none => rw [ek] at g; cases g
      | some k =>
        rw [ek] at g
        cases g
        have kk : k ∈ es.map (·.1) := perm.mem_iff.mp (List.mem_of_getElem? ek)
        obtain ⟨v, hv⟩ := at_key kk
        obtain ⟨L, eL, LC, LF, rL⟩ := ok.rows _ hv
        have k0 : 0 ≤ k := by
          obtain ⟨_, _, hN1⟩ := ok.near k (.inl kk)
          exact hN1.1
        dsimp only at eL
        subst eL
        have dC6 : H7 C = some (.dK (dkV es)) := kp _ _ (hb _ _ ok.dC) CT CT
        have LT : L ≠ T := fun x => by
          obtain ⟨rs, hrs, _, _⟩ := rL.refs
          rw [x] at hrs
          rw [hrs] at nT
          cases nT
        have rL6 : RowsAt H7 L ((callsO N ads k).map pV) := (rL.same hb).keep kp LT LT (fun t x => by rw [dT0] at x; cases x) (fun t x => by rw [dT0] at x; cases x)
        obtain ⟨rs, hrs, lrs, ars⟩ := rL6.refs
        rw [List.length_map] at lrs
        have l5 := callsO_len5 hR k
        have ndt : (ts.map (·.1)).Nodup := by rw [em]; exact ndk.sublist (List.take_sublist _ _)
        have have_p : ∀ p ∈ callsO N ads k, (p.1, oV (tk N ads p.1)) ∈ ts := fun p hp => by
          have z := callsO_mem hR k0 hp
          have m1 : p.1 ∈ es.map (·.1) := by
            rcases ok.closed _ hv p hp with x | x
            · exact x
            · cases x
          have m2 : p.1 ∈ ks.take i := srt_take srt ek (perm.mem_iff.mpr m1) z.2.1
          rw [← em] at m2
          obtain ⟨v, hv2⟩ := at_key m2
          have e2 := et _ hv2
          dsimp only at e2
          rw [← e2]
          exact hv2
        refine ⟨.ref C, rfl, .int k, rfl, C, .ref L, rfl, dget_of dC6 ok.nd hv, L, rfl, ⟨_, .inl (.inl hrs)⟩, fun B nB => ?_⟩
        refine lc_std (walk_list (K := K) (a := L) (xs := rs.map V.ref)) (callsO N ads k) (fun p => (tk N ads p.1).map fun t => V.int (t + p.2)) (by rw [List.length_map, lrs]) (small1000 (by rw [List.length_map]; omega)) nB (fun H8 s8 => .inl (.inl (s8 _ _ hrs))) (fun j x H8 H9 p R hp s8 y hR => ?_) (fun H8 s8 e8 => ?_)
        · obtain ⟨rfl, g⟩ := y
          rw [List.getElem?_map] at g
          cases er : rs[j]? with
          | none => rw [er] at g; cases g
          | some r =>
            rw [er] at g
            cases g
            have hT := s8 _ _ (ars j r (pV p) er (by rw [List.getElem?_map, hp]; rfl))
            have dg := dget_of (s8 _ _ dT) ndt (have_p p (List.mem_of_getElem? hp))
            refine ⟨r, _, rfl, .inl (.inl hT), rfl, _, _, rfl, _, _, rfl, rfl, rfl, ?_⟩
            refine ⟨.ref T, rfl, .int p.1, rfl, T, _, rfl, dg, rfl, ?_⟩
            cases et : tk N ads p.1 with
            | none =>
              rw [et] at hR
              exact ⟨false, rfl, iteF (hR _ (Same.refl _))⟩
            | some x =>
              rw [et] at hR dg
              exact ⟨true, rfl, iteT ⟨.ref T, rfl, .int p.1, rfl, T, _, rfl, dg, .int p.2, rfl, x, _, rfl, rfl, hR _ (Same.refl _)⟩⟩
        · have e9 : (callsO N ads k).filterMap (fun p => (tk N ads p.1).map fun t => V.int (t + p.2)) = ((callsO N ads k).filterMap fun p => (tk N ads p.1).map (· + p.2)).map V.int := by
            rw [List.map_filterMap]
            refine fm_congr fun p _ => ?_
            rw [Option.map_map]
            rfl
          rw [e9] at e8
          have kt : k ∉ ts.map (·.1) := fun x => by
            rw [em] at x
            obtain ⟨j, hj, ej⟩ := List.mem_take_iff_getElem.mp x
            obtain ⟨li, ei⟩ := List.getElem?_eq_some_iff.mp ek
            have z : (ks[j]'(by omega)) = ks[i] := by rw [ej, ei]
            exact (List.pairwise_iff_getElem.mp ndk) j i (by omega) li (by omega) z
          have lt : ts.length < sizeLine := by
            have : ns.length * 2121 ≤ 200 * 2121 := Nat.mul_le_mul_right _ h200
            have e1 : ts.length ≤ ks.length := by
              rw [← List.length_map (·.1), em, List.length_take]
              omega
            rw [sizeLine_eq]
            omega
          have fin : ∀ v, v = oV (tk N ads k) → ∃ (a_1 : Addr) (H4 : Hp), V.ref T = V.ref a_1 ∧ DPut H8 a_1 (.int k) v H4 ∧ ∃ y4 y6 ts, ([some (.ref a), some (.ref l), some (.ref C), some (.ref F), some (.int k), some (.ref T), some (.ref B), none, none, none] : L2.St) = [some (.ref a), some (.ref l), some (.ref C), some (.ref F), y4, some (.ref T), y6, none, none, none] ∧ Keep2 H5 H4 T T ∧ H4 T = some (.dK (dkV ts)) ∧ ts.map (·.1) = ks.take (i + 1) ∧ ∀ e ∈ ts, e.2 = oV (tk N ads e.1) := fun v ev => by
            refine ⟨T, _, rfl, dput_of (s8 _ _ dT) kt lt, _, _, _, rfl, kp.trans (s8.keep2.trans keep2_c), upd_same, ?_, fun e he => ?_⟩
            · rw [List.map_append, em, List.take_add_one, ek]
              rfl
            · rcases List.mem_append.mp he with m | m
              · exact et e m
              · rw [List.mem_singleton.mp m]
                exact ev
          refine ⟨_, rfl, rfl, _, rfl, ite2 (fun c => ?_) (fun c => ?_)⟩
          · have c' : k = 0 := by
              have z3 : V.int k = V.int 0 := of_decide_eq_true c
              injection z3
            refine ⟨.ref T, rfl, .int k, rfl, fin (.int 0) ?_⟩
            rw [c', tk_zero]
            rfl
          · have c' : ¬ k = 0 := fun x => c (decide_eq_true (by rw [x]))
            refine ⟨.ref B, rfl, B, _, .non, rfl, rfl, .inl (.inl e8), .ref T, rfl, .int k, rfl, fin _ ?_⟩
            rw [orD_non, tk_eq hR (by omega)]
    · obtain ⟨y4, y6, ts, rfl, kp, dT, em, et⟩ := hW
      rw [List.length_map, List.take_length] at em
      refine ⟨.ref T, rfl, q H6 T ts (fun b o e => ?_) (Same.free ok.same nT) dT (by rw [em]; exact ndk) et (fun e he p hp => ?_) fun n hm => ?_⟩
      · exact kp _ _ (hb _ _ (ok.same b o e)) (ne_of_none (ok.same b o e) nT) (ne_of_none (ok.same b o e) nT)
      · have m1 : e.1 ∈ es.map (·.1) := by
          refine perm.mem_iff.mp ?_
          rw [← em]
          exact List.mem_map.mpr ⟨e, he, rfl⟩
        obtain ⟨v, hv⟩ := at_key m1
        rw [em]
        rcases ok.closed _ hv p hp with x | x
        · exact perm.mem_iff.mpr x
        · cases x
      · rw [em]
        rcases ok.all n hm with x | x
        · exact perm.mem_iff.mpr x
        · cases x
end
end LK
namespace LK
open PySem PySem.Spec PyProof.Rows L2 CD
section
variable {P : Program} {w : World} {K : PySem.W.Frag} {mg : Str → Option Value} {base : Heap}
def spTickAt (K : PySem.W.Frag) : Sp := fun vs H Q _ => ∃ (a t : Addr) (N n : Int) (ads : List Int), vs = [.ref a, .int n] ∧ ScAt K H a t N ads ∧ IsSc N ads ∧ 0 ≤ n ∧ n ≤ 10 ^ 30 ∧ ∀ H', Same H H' → Q (oV (tk N ads n)) H'
theorem cal_tick_at (z : Z mg) (c_need_scaled : Cal P w K mg base 3 "need_scaled" p_need_scaled (spNeedSc K)) (c_need_person : Cal P w K mg base 3 "need_person" p_need_person (spNeedNum 0))
    (c_ticks_of : Cal P w K mg base 3 "ticks_of" p_ticks_of (spTicksOf K)) (D : Def K mg "tick_at" s_tick_at p_tick_at) : Cal P w K mg base 4 "tick_at" p_tick_at (spTickAt K) := by
  refine D.cal sc_tick_at (fun vs H Q E h => by obtain ⟨_, _, _, _, _, rfl, _⟩ := h; rfl) fun f cdv A outer s H vs Q E hr h => ?_
  obtain ⟨a, t, N, n, ads, rfl, hS, hR, n0, n30, q⟩ := h
  have hu := hu_of hr
  refine ⟨_, (pss_cons (ps_expr (pe_cal c_need_scaled (hr.mono (by decide)) (by rfl) (pa_cons (pv 0) pa_nil)))
        (pss_cons (ps_expr (pe_cal c_need_person (hr.mono (by decide)) (by rfl) (pa_cons (pv 1) pa_nil)))
        (pss_one (ps_ret (pe_dget hu (pe_cal c_ticks_of (hr.mono (by decide)) (by rfl) (pa_cons (pv 0) (pa_cons (pe_lst (pa_cons (pv 1) pa_nil)) pa_nil))) (pv 1) (fun _ _ => rfl)))))), ?_⟩
  refine ⟨.ref a, rfl, a, t, N, ads, rfl, hS, hR, fun H1 s1 => ?_⟩
  refine ⟨.int n, rfl, n, rfl, n0, n30, ?_⟩
  refine ⟨.ref a, rfl, .int n, rfl, (by decide : 1 ≤ sizeLine), fun l nl => ?_⟩
  have s2 := same_upd (o := .lst [V.int n]) nl
  refine ⟨a, t, l, N, ads, [n], rfl, (hS.same s1).same s2, hR, .inl (.inl upd_same), (by decide : 1 ≤ 200), fun m hm => by rw [List.mem_singleton.mp hm]; exact ⟨n0, n30⟩, fun H3 d es s3 nd hd ndk het hcl hin => ?_⟩
  obtain ⟨v, hv⟩ := at_key (hin n List.mem_cons_self)
  have ev := het _ hv
  dsimp only at ev
  subst ev
  exact ⟨.int n, rfl, d, _, rfl, dget_of hd ndk hv, q H3 (s1.trans (s2.trans s3))⟩
end
end LK
namespace LK
open PySem PySem.Spec PyProof.Rows L2 CD
section
variable {P : Program} {w : World} {K : PySem.W.Frag} {mg : Str → Option Value} {base : Heap}
theorem leastO_is {ns : List Int} {m : Int} (h1 : m ∈ ns) (h2 : ∀ k ∈ ns, m ≤ k) : leastO ns = some m := by
  cases e : leastO ns with
  | none => rw [leastO_none e] at h1; cases h1
  | some k =>
    obtain ⟨k1, k2⟩ := leastO_spec e
    have a := h2 k k1
    have b := k2 m h1
    rw [show k = m by omega]
def spSpread (K : PySem.W.Frag) : Sp := fun vs H Q _ => ∃ (a t : Addr) (N : Int) (ads : List Int) (n : Nat), vs = [.ref a, .int ((n : Int) + 1)] ∧ ScAt K H a t N ads ∧ IsSc N ads ∧ n ≤ 900 ∧
  ∀ H' p, Same H H' → H p = none → H' p = some (.lst ((filmT N ads n).map oV)) → Q (.ref p) H'
theorem cal_law_spread (z : Z mg) (D : Def K mg "_law_spread" s__law_spread p__law_spread) : Cal P w K mg base 2 "_law_spread" p__law_spread (spSpread K) := by
  refine D.cal sc__law_spread (fun vs H Q E h => by obtain ⟨_, _, _, _, _, rfl, _⟩ := h; rfl) fun f cdv A outer s H vs Q E hr h => ?_
  obtain ⟨a, t, N, ads, n, rfl, L, hR, hn, q⟩ := h
  have d2 := hR.d2
  have d5 := hR.d5
  have h5 := hR.most
  refine ⟨_, (pss_cons (ps_asg (pv 0) (pg_tup rfl (pgs_cons (pg_name (i := 2) sc__law_spread.nd rfl (Or.inl rfl)) (pgs_cons (pg_name (i := 3) sc__law_spread.nd rfl (Or.inl rfl)) pgs_nil))))
        (pss_cons (ps_set (i := 4) sc__law_spread.nd rfl (Or.inl rfl) (pe_lst (pa_cons pe_int pa_nil)))
        (pss_cons (ps_for PassesOwn.never rfl (pi_range2 (by rfl) z.«range» (pa_cons pe_int (pa_cons (pv 1) pa_nil))) (pg_name (i := 5) sc__law_spread.nd rfl (Or.inl rfl)) (pss_cons (ps_set (i := 6) sc__law_spread.nd rfl (Or.inl rfl) (pe_lst pa_nil))
        (pss_cons (ps_for PassesOwn.never rfl (pi_enum1 (by rfl) z.«enumerate» (pa_cons (pv 3) pa_nil)) (pg_tup rfl (pgs_cons (pg_name (i := 7) sc__law_spread.nd rfl (Or.inl rfl)) (pgs_cons (pg_name (i := 8) sc__law_spread.nd rfl (Or.inl rfl)) pgs_nil))) (pss_cons (ps_set (i := 9) sc__law_spread.nd rfl (Or.inl rfl) (pe_op op_fdivN (pe_op op_sub (pv 5) (pv 8)) (pv 2)))
        (pss_one (ps_if (PW.pt (pw_and (pt_cmpR op_eq (pv 5) (pe_op op_add (pe_op op_mul (pv 9) (pv 2)) (pv 8)) (nomark _)) (pw_and (pt_cmpR op_ge (pv 9) pe_int (nomark _)) (pw_and1 (pt_cmpR op_notN (pe_ix ix_list (pv 4) (pv 9) (fun _ _ => rfl)) pe_non (nomark _)))))) (pss_one (ps_expr (pe_bm PySem.F.plainAttrs_list PySem.F.slot_list_append PySem.F.type_list_append mt_append (pv 6) (pa_cons (pe_op op_add (pe_op op_add (pe_ix ix_list (pv 4) (pv 9) (fun _ _ => rfl)) (pv 7)) pe_int) pa_nil)))) pss_nil))))
        (pss_one (ps_expr (pe_bm PySem.F.plainAttrs_list PySem.F.slot_list_append PySem.F.type_list_append mt_append (pv 4) (pa_cons (pe_ifExp (pt_cmpR (op_neD hr.units) (pv 6) (pe_lst pa_nil) (nomark _)) (pe_callB (cr_min rfl) (by rfl) z.«min» (by decide +kernel) (pa_cons (pv 6) pa_nil)) pe_non) pa_nil)))))))
        (pss_one (ps_ret (pv 4)))))), ?_⟩
  refine ⟨.ref a, rfl, a, _, rfl, L.sc, rfl, _, _, rfl, _, _, rfl, rfl, ?_⟩
  refine ⟨(by decide : 1 ≤ sizeLine), fun fa nfa => ?_⟩
  have sm : Same H (upd H fa (.lst ([some 0].map oV))) := same_upd nfa
  have hfa : (upd H fa (.lst ([some 0].map oV))) fa = some (.lst ((filmT N ads 0).map oV)) := upd_same
  show tSeq _ _ _ _ (upd H fa (.lst ([some 0].map oV)))
  generalize upd H fa (.lst ([some 0].map oV)) = H2 at sm hfa
  refine ⟨.int ((n : Int) + 1), rfl, 1, (n : Int) + 1, rfl, ⟨by decide, by decide, by omega, by omega⟩, ?_⟩
  rw [show ((n : Int) + 1 - 1).toNat = n by omega]
  refine for_it (walk_range (lo := 1) (n := n)) (fun i σ H4 => ∃ y5 y6 y7 y8 y9, σ = [some (.ref a), some (.int ((n : Int) + 1)), some (.int N), some (.ref t), some (.ref fa), y5, y6, y7, y8, y9] ∧ H4 fa = some (.lst ((filmT N ads i).map oV)) ∧ Same H H4)
    ⟨none, none, none, none, none, rfl, hfa, sm⟩ (fun _ _ _ _ _ => trivial) (fun i x σ H4 H5 hi hW y => ?_) (fun σ H4 hW => ?_)
  · obtain ⟨y5, y6, y7, y8, y9, rfl, hfa, sm⟩ := hW
    obtain ⟨rfl, rfl⟩ := y
    have L4 := L.same sm
    have hs : filmT N ads (i + 1) = filmT N ads i ++ [tk N ads ((i + 1 : Nat) : Int)] := filmT_next i
    have hlen : (filmT N ads i).length = i + 1 := filmT_len i
    refine ⟨(by decide : 0 ≤ sizeLine), fun sa nsa => ?_⟩
    have s0 : Same H5 (upd H5 sa (.lst (([] : List Int).map V.int))) := same_upd nsa
    have hsa : (upd H5 sa (.lst (([] : List Int).map V.int))) sa = some (.lst (([] : List Int).map V.int)) := upd_same
    show tSeq _ _ _ _ (upd H5 sa (.lst (([] : List Int).map V.int)))
    generalize upd H5 sa (.lst (([] : List Int).map V.int)) = H6 at s0 hsa
    refine ⟨.ref t, rfl, t, ads.map V.int, rfl, s0.tup L4.ads, ?_⟩
    have nfs : fa ≠ sa := ne_of_none hfa nsa
    obtain ⟨k, hk⟩ : ∃ k : Int, (1 : Int) + (i : Nat) = k := ⟨_, rfl⟩
    have hk2 : ((i + 1 : Nat) : Int) = k := by omega
    rw [hk2] at hs
    refine for_it (walk_enumT (K := K) (a := t) (k := 0) (xs := ads.map V.int)) (fun j σ H7 => ∃ y7 y8 y9, σ = [some (.ref a), some (.int ((n : Int) + 1)), some (.int N), some (.ref t), some (.ref fa), some (.int (1 + (i : Nat))), some (.ref sa), y7, y8, y9] ∧ H7 sa = some (.lst (((ads.zipIdx.take j).filterMap (callT N ads k)).map V.int)) ∧ Same H5 H7)
      ⟨_, _, _, rfl, hsa, s0⟩ (fun j σ H7 _ hW => ?_) (fun j x σ H7 H8 hj hW y => ?_) (fun σ H7 hW => ?_)
    · obtain ⟨_, _, _, _, _, s7⟩ := hW
      exact s7.tup L4.ads
    · obtain ⟨y7, y8, y9, rfl, hsa, s7⟩ := hW
      obtain ⟨T, v1, v2, rfl, nT, rfl, g1, g2⟩ := y
      have sT : Same H7 (upd H7 T (.tup [v1, v2])) := same_upd nT
      obtain rfl := (Option.some.inj g1).symm
      rw [List.length_map] at hj
      have hsi : ads[j]? = some ads[j] := List.getElem?_eq_getElem hj
      have g3 : (ads.map V.int)[j]? = some v2 := g2
      rw [List.getElem?_map, hsi] at g3
      obtain rfl := (Option.some.inj g3).symm
      have tkk : (ads.zipIdx.take (j + 1)).filterMap (callT N ads k) = (ads.zipIdx.take j).filterMap (callT N ads k) ++ (callT N ads k (ads[j], j)).toList := by
        rw [List.take_add_one, List.getElem?_zipIdx, hsi, List.filterMap_append]
        cases e : callT N ads k (ads[j], j) <;> simp [e]
      have lz : ((ads.zipIdx.take j).filterMap (callT N ads k)).length ≤ 10 := by
        have z := List.length_filterMap_le (callT N ads k) (ads.zipIdx.take j)
        rw [List.length_take, List.length_zipIdx] at z
        omega
      have rg := hR.rng ads[j] (List.getElem_mem _)
      have hfa7 := sT _ _ (s7 _ _ hfa)
      have hsa7 := sT _ _ hsa
      have s8 := s7.trans sT
      refine ⟨T, _, rfl, .inl (.inl upd_same), rfl, _, _, rfl, _, _, rfl, rfl, ?_⟩
      show tSeq _ _ _ _ (upd H7 T _)
      generalize upd H7 T (.tup [V.int (0 + (j : Nat)), V.int ads[j]]) = H8 at hfa7 hsa7 s8
      generalize ads[j] = st at *
      have de := div_eq d2 d5 k st
      have dl := div_lt d2 d5 k st (by omega) rg.1
      have efd : ((1 : Int) + (i : Nat) - st).fdiv N = (k - st) / N := by rw [hk]; exact Int.fdiv_eq_ediv_of_nonneg _ (by omega)
      refine ⟨.int (1 + (i : Nat)), rfl, .int st, rfl, _, st, rfl, rfl, .int N, rfl, _, N, rfl, rfl, ⟨by omega, by omega⟩, ?_⟩
      obtain ⟨far, hfar⟩ : ∃ far : Int, (k - st) / N = far := ⟨_, rfl⟩
      rw [hfar] at de dl efd
      dsimp only
      rw [efd]
      refine ⟨.int (1 + (i : Nat)), rfl, .int far, rfl, .int N, rfl, far, N, rfl, rfl, .inr ⟨by omega, by omega⟩, .int st, rfl, _, st, rfl, rfl, rfl, _, rfl, ite2 (fun c => ?_) (fun c => ?_)⟩
      · have c' : k = far * N + st := by
          have z3 : V.int (1 + (i : Nat)) = V.int (far * N + st) := of_decide_eq_true c
          injection z3 with z3
          omega
        refine ⟨.int far, rfl, far, 0, rfl, rfl, _, rfl, ite2 (fun c2 => ?_) (fun c2 => ?_)⟩
        · have c2' : 0 ≤ far := of_decide_eq_true c2
          have hc : callT N ads k (st, j) = (tk N ads far).map (· + (1 + (j : Int))) := by
            unfold callT
            rw [if_pos (show st ≤ k ∧ (k - st) % N = 0 from ⟨de.2.mp c2', de.1.mp c'⟩), hfar]
          rw [hc] at tkk
          have hat : atI ((filmT N ads i).map oV) far = some (oV (tk N ads far)) := by
            obtain ⟨m, rfl⟩ : ∃ m : Nat, far = m := ⟨far.toNat, by omega⟩
            exact atI_nat (by rw [List.getElem?_map, filmT_at (by omega)]; rfl)
          refine ⟨.ref fa, rfl, .int far, rfl, fa, _, _, _, rfl, rfl, .inl (.inl hfa7), hat, rfl, ?_⟩
          cases o : tk N ads far with
          | none =>
            rw [o] at tkk
            refine ⟨false, rfl, iteF ⟨_, _, _, rfl, ?_, s8⟩⟩
            rw [tkk]
            simpa using hsa7
          | some u =>
            rw [o] at tkk hat
            refine ⟨true, rfl, iteT ?_⟩
            refine ⟨.ref sa, rfl, .inl ⟨rfl, _, .inl (.inl hsa7)⟩, .ref fa, rfl, .int far, rfl, fa, _, _, _, rfl, rfl, .inl (.inl hfa7), hat, .int (0 + (j : Nat)), rfl, u, _, rfl, rfl, _, 1, rfl, rfl, sa, _, _, rfl, rfl, hsa7, by rw [List.length_map]; exact small1000 (by omega), ?_⟩
            refine ⟨_, _, _, rfl, ?_, fun b o e => ?_⟩
            · rw [upd_same, tkk, List.map_append]
              show some (HO.lst (_ ++ [V.int (u + ((0 : Int) + (j : Nat)) + 1)])) = some (HO.lst (_ ++ [V.int (u + (1 + (j : Int)))]))
              rw [show u + ((0 : Int) + (j : Nat)) + 1 = u + (1 + (j : Int)) by omega]
            · rw [upd_ne (ne_of_none e nsa)]
              exact s8 _ _ e
        · have c2' : ¬ 0 ≤ far := fun x => c2 (decide_eq_true x)
          have hc : callT N ads k (st, j) = none := by
            unfold callT
            rw [if_neg (show ¬ (st ≤ k ∧ (k - st) % N = 0) from fun x => c2' (de.2.mpr x.1))]
          rw [hc] at tkk
          refine iteF ⟨_, _, _, rfl, ?_, s8⟩
          rw [tkk]
          simpa using hsa7
      · have c' : ¬ k = far * N + st := fun x => c (decide_eq_true (by rw [hk, x]))
        have hc : callT N ads k (st, j) = none := by
          unfold callT
          rw [if_neg (show ¬ (st ≤ k ∧ (k - st) % N = 0) from fun x => c' (de.1.mpr x.2))]
        rw [hc] at tkk
        refine iteF ⟨_, _, _, rfl, ?_, s8⟩
        rw [tkk]
        simpa using hsa7
    · obtain ⟨y7, y8, y9, rfl, hsa, s7⟩ := hW
      rw [List.length_map, List.take_of_length_le (Nat.le_of_eq List.length_zipIdx)] at hsa
      have hfa7 := s7 _ _ hfa
      have put : ∀ (H8 : Hp) (o : Option Int), Same H7 H8 → o = tk N ads k → ∃ u5 u6 u7 u8 u9, ([some (.ref a), some (.int ((n : Int) + 1)), some (.int N), some (.ref t), some (.ref fa), some (.int (1 + (i : Nat))), some (.ref sa), y7, y8, y9] : L2.St) = [some (.ref a), some (.int ((n : Int) + 1)), some (.int N), some (.ref t), some (.ref fa), u5, u6, u7, u8, u9] ∧
          (upd H8 fa (.lst ((filmT N ads i).map oV ++ [oV o]))) fa = some (.lst ((filmT N ads (i + 1)).map oV)) ∧ Same H (upd H8 fa (.lst ((filmT N ads i).map oV ++ [oV o]))) := fun H8 o s8 e => by
        refine ⟨_, _, _, _, _, rfl, ?_, fun b u eb => ?_⟩
        · rw [upd_same, hs, e, List.map_append]
          rfl
        · rw [upd_ne (ne_of_none eb nfa)]
          exact s8 _ _ (s7 _ _ (sm _ _ eb))
      refine ⟨.ref fa, rfl, .inl ⟨rfl, _, .inl (.inl hfa7)⟩, .ref sa, rfl, by decide, fun p np => ?_⟩
      have sp := same_upd (o := .lst []) np
      have hnx := tk_calls hR (n := k) (by omega)
      generalize hLL : ads.zipIdx.filterMap (callT N ads k) = LL at hsa hnx
      refine ne_nil (.inl (.inl (sp _ _ hsa))) upd_same ⟨_, rfl, ?_⟩
      have len7 : ((filmT N ads i).map oV).length < sizeLine := by rw [List.length_map, hlen]; exact small1000 (by omega)
      cases LL with
      | nil => exact iteF ⟨fa, _, _, rfl, rfl, sp _ _ hfa7, len7, put _ none sp (by rw [hnx]; rfl)⟩
      | cons x0 rs =>
        refine iteT ⟨.ref sa, rfl, sa, _, rfl, .inl (.inl (sp _ _ hsa)), Nat.succ_pos _, fun m h1 h2 => ⟨fa, _, _, rfl, rfl, sp _ _ hfa7, len7, ?_⟩⟩
        exact put _ (some m) sp (by rw [hnx, leastO_is h1 h2])
  · obtain ⟨y5, y6, y7, y8, y9, rfl, hfa, sm⟩ := hW
    exact ⟨.ref fa, rfl, q _ fa sm nfa hfa⟩
end
end LK
namespace LK
open PySem PySem.Spec PyProof.Rows L2 CD
section
variable {P : Program} {w : World} {K : PySem.W.Frag} {mg : Str → Option Value} {base : Heap}
def minW : Option Int → Int → Int
  | none, x => x
  | some m, x => min m x
theorem leastO_snoc (l : List Int) (x : Int) : leastO (l ++ [x]) = some (minW (leastO l) x) := by
  cases l with
  | nil => rfl
  | cons y r =>
    show some ((r ++ [x]).foldl min y) = some (min (r.foldl min y) x)
    rw [List.foldl_append]
    rfl
/-- what is known of those on whom G hangs -/
structure Kn (H : Hp) (kd : Addr) (N : Int) (ads : List Int) (G : Int) (es : List (Int × V)) : Prop where
  dk : H kd = some (.dK (dkV es))
  nd : (es.map (·.1)).Nodup
  val : ∀ e ∈ es, e.2 = oV (tk N ads e.1)
  zero : (0 : Int) ∈ es.map (·.1)
  near : ∀ k ∈ es.map (·.1), k = 0 ∨ Near N G k
theorem Kn.few {H : Hp} {kd : Addr} {N : Int} {ads : List Int} {G : Int} {es : List (Int × V)} (h : Kn H kd N ads G es) (S : IsSc N ads) (h0 : 0 ≤ G) (h30 : G ≤ 10 ^ 30) : es.length ≤ 2122 := by
  have z := nodup_lenT (es.map (·.1)) (0 :: nearL N G) h.nd fun k hk => by
    rcases h.near k hk with e | e
    · rw [e]; exact List.mem_cons_self
    · exact List.mem_cons_of_mem _ (near_mem S.d2 h0 h30 e)
  rw [List.length_map, List.length_cons, nearL_len] at z
  exact z
theorem Kn.keep {H H' : Hp} {kd : Addr} {N : Int} {ads : List Int} {G : Int} {es : List (Int × V)} (h : Kn H kd N ads G es) (s : Same H H') : Kn H' kd N ads G es := ⟨s _ _ h.dk, h.nd, h.val, h.zero, h.near⟩
theorem SqT_keep {H H' : Hp} {kd a : Addr} {xs : List V} {kv : List (Key × V)} (h : SqT K H a xs) (k : Keep2 H H' kd kd) (d : H kd = some (.dK kv)) : SqT K H' a xs := by
  have ne : ∀ o, H a = some o → (∀ kv, o ≠ .dK kv) → a ≠ kd := fun o e n x => by
    rw [x, d] at e
    cases e
    exact n kv rfl
  rcases h with (h | ⟨o, h⟩) | h
  · have := ne _ h (fun _ z => nomatch z)
    exact .inl (.inl (k _ _ h this this))
  · have := ne _ h (fun _ z => nomatch z)
    exact .inl (.inr ⟨o, k _ _ h this this⟩)
  · exact .inr h
theorem ScAt.kept {H H' : Hp} {kd a t : Addr} {N : Int} {ads : List Int} {kv : List (Key × V)} (h : ScAt K H a t N ads) (k : Keep2 H H' kd kd) (d : H kd = some (.dK kv)) : ScAt K H' a t N ads := ⟨SqT_keep h.sc k d, SqT_keep h.ads k d⟩
def spSA (K : PySem.W.Frag) (m : Nat) : Sp := fun vs H Q _ => ∃ (a t kd : Addr) (N goal G : Int) (ads : List Int) (es : List (Int × V)), vs = [.ref a, .int goal, .ref kd] ∧ ScAt K H a t N ads ∧ IsSc N ads ∧ 0 ≤ goal ∧ goal < 2 ^ m ∧ Near N G goal ∧ 0 ≤ G ∧ G ≤ 10 ^ 30 ∧ Kn H kd N ads G es ∧
  ∀ H' es', Keep2 H H' kd kd → Kn H' kd N ads G es' → (∀ k ∈ es.map (·.1), k ∈ es'.map (·.1)) → goal ∈ es'.map (·.1) → (goal ∉ es.map (·.1) → ∀ p ∈ callsO N ads goal, p.1 ∈ es'.map (·.1)) → (∀ k ∈ es'.map (·.1), k ∈ es.map (·.1) ∨ k ≤ goal) → Q (oV (tk N ads goal)) H'
theorem cal_spread_at (z : Z mg) (m : Nat) (sp : Sp) (hsp : ∀ m', m = m' + 1 → sp = spSA K m') (c__law_spread_at : Cal P w K mg base m "_law_spread_at" p__law_spread_at sp) (D : Def K mg "_law_spread_at" s__law_spread_at p__law_spread_at) : Cal P w K mg base (m + 1) "_law_spread_at" p__law_spread_at (spSA K m) := by
  refine D.cal sc__law_spread_at (fun vs H Q E h => by obtain ⟨_, _, _, _, _, _, _, _, rfl, _⟩ := h; rfl) fun f cdv A outer s H vs Q E hr h => ?_
  obtain ⟨a, t, kd, N, goal, G, ads, es, rfl, hS, hR, g0, gm, gN, G0, G30, kn, q⟩ := h
  have hu := hu_of hr
  have d2 := hR.d2
  have d5 := hR.d5
  refine ⟨_, (pss_cons (ps_if (pt_cmp (pc_dnotin hu (pv 1) (pv 2))) (pss_cons (ps_set (i := 3) sc__law_spread_at.nd rfl (Or.inl rfl) pe_non)
        (pss_cons (ps_for PassesOwn.never rfl (pi_enum1 (by rfl) z.«enumerate» (pa_cons (pe_ix ix_tup (pv 0) pe_int (fun _ _ => rfl)) pa_nil)) (pg_tup rfl (pgs_cons (pg_name (i := 4) sc__law_spread_at.nd rfl (Or.inl rfl)) (pgs_cons (pg_name (i := 5) sc__law_spread_at.nd rfl (Or.inl rfl)) pgs_nil))) (pss_one (ps_if (PW.pt (pw_and (pt_cmpR op_ge (pv 1) (pv 5) (nomark _)) (pw_and1 (pt_cmpR op_eq (pe_op op_modN (pe_callTy (call_int1) (by rfl) z.«int» (by decide +kernel) (pa_cons (pe_op op_sub (pv 1) (pv 5)) pa_nil)) (pe_ix ix_tup (pv 0) pe_int (fun _ _ => rfl))) pe_int (nomark _))))) (pss_cons (ps_set (i := 6) sc__law_spread_at.nd rfl (Or.inl rfl) (pe_cal c__law_spread_at (hr.mono (Nat.le_refl _)) (by rfl) (pa_cons (pv 0) (pa_cons (pe_op op_fdivN (pe_op op_sub (pv 1) (pv 5)) (pe_ix ix_tup (pv 0) pe_int (fun _ _ => rfl))) (pa_cons (pv 2) pa_nil)))))
        (pss_one (ps_if (PW.pt (pw_and (pt_cmpR op_notN (pv 6) pe_non (nomark _)) (pw_and1 (PW.pt (pw_or (pt_cmpR op_isN (pv 3) pe_non (nomark _)) (pw_or1 (pt_cmpR op_lt (pe_op op_add (pe_op op_add (pv 6) (pv 4)) pe_int) (pv 3) (nomark _)))))))) (pss_one (ps_set (i := 3) sc__law_spread_at.nd rfl (Or.inl rfl) (pe_op op_add (pe_op op_add (pv 6) (pv 4)) pe_int))) pss_nil))) pss_nil)))
        (pss_one (ps_dput hu (pv 2) (pv 1) (pv 3) rfl)))) pss_nil)
        (pss_one (ps_ret (pe_dget hu (pv 2) (pv 1) (fun _ _ => rfl))))), ?_⟩
  obtain ⟨o, dg, ho⟩ := din_of goal kn.dk
  have fin : ∀ (H9 : Hp) (es' : List (Int × V)), Keep2 H H9 kd kd → Kn H9 kd N ads G es' → (∀ k ∈ es.map (·.1), k ∈ es'.map (·.1)) → goal ∈ es'.map (·.1) → (goal ∉ es.map (·.1) → ∀ p ∈ callsO N ads goal, p.1 ∈ es'.map (·.1)) → (∀ k ∈ es'.map (·.1), k ∈ es.map (·.1) ∨ k ≤ goal) → ∃ v, DGet H9 kd (.int goal) (some v) ∧ Q v H9 := fun H9 es' k1 k2 k3 k4 k5 k6 => by
    obtain ⟨v, hv⟩ := at_key k4
    have ev := k2.val _ hv
    dsimp only at ev
    subst ev
    exact ⟨_, dget_of k2.dk k2.nd hv, q H9 es' k1 k2 k3 k4 k5 k6⟩
  refine ⟨.int goal, rfl, .ref kd, rfl, kd, o, rfl, dg, _, rfl, ite2 (fun c => ?_) (fun c => ?_)⟩
  · have gn : goal ∉ es.map (·.1) := fun x => by rw [ho.mpr x] at c; cases c
    have g1 : 1 ≤ goal := by
      have : goal ≠ 0 := fun x => gn (by rw [x]; exact kn.zero)
      omega
    obtain ⟨m', rfl⟩ : ∃ m', m = m' + 1 := by
      cases m with
      | zero => rw [show (2 : Int) ^ 0 = 1 from rfl] at gm; omega
      | succ m' => exact ⟨m', rfl⟩
    have esp := hsp m' rfl
    subst esp
    refine ⟨.ref a, rfl, a, _, 1, _, rfl, rfl, hS.sc, atI_nat (j := 1) rfl, t, ads.map V.int, rfl, hS.ads, ?_⟩
    refine for_it (walk_enumT (K := K) (a := t) (k := 0) (xs := ads.map V.int)) (fun j σ H5 => ∃ es5 y4 y5 y6, σ = [some (.ref a), some (.int goal), some (.ref kd), some (oV (leastO ((ads.zipIdx.take j).filterMap (callT N ads goal)))), y4, y5, y6] ∧ Keep2 H H5 kd kd ∧ Kn H5 kd N ads G es5 ∧ (∀ k ∈ es.map (·.1), k ∈ es5.map (·.1)) ∧ (∀ k ∈ es5.map (·.1), k ∈ es.map (·.1) ∨ k < goal) ∧ (∀ e ∈ ads.zipIdx.take j, e.1 ≤ goal ∧ (goal - e.1) % N = 0 → (goal - e.1) / N ∈ es5.map (·.1)))
      ⟨es, none, none, none, rfl, fun b o e _ _ => e, kn, fun _ h => h, fun _ h => .inl h, fun _ h => (by cases h)⟩ (fun j σ H5 _ hW => ?_) (fun j x σ H5 H6 hj hW y => ?_) (fun σ H5 hW => ?_)
    · obtain ⟨_, _, _, _, _, k5, _⟩ := hW
      exact SqT_keep hS.ads k5 kn.dk
    · obtain ⟨es5, y4, y5, y6, rfl, kp, kn5, sub, low, got⟩ := hW
      obtain ⟨T, v1, v2, rfl, nT, rfl, g1', g2'⟩ := y
      have sT : Same H5 (upd H5 T (.tup [v1, v2])) := same_upd nT
      obtain rfl := (Option.some.inj g1').symm
      rw [List.length_map] at hj
      have hsi : ads[j]? = some ads[j] := List.getElem?_eq_getElem hj
      have g3 : (ads.map V.int)[j]? = some v2 := g2'
      rw [List.getElem?_map, hsi] at g3
      obtain rfl := (Option.some.inj g3).symm
      have rg := hR.rng ads[j] (List.getElem_mem _)
      have tkj : ads.zipIdx.take (j + 1) = ads.zipIdx.take j ++ [(ads[j], j)] := by
        rw [List.take_add_one, List.getElem?_zipIdx, hsi]
        simp
      have kn7 := kn5.keep sT
      have kp7 : Keep2 H (upd H5 T (.tup [V.int (0 + (j : Nat)), V.int ads[j]])) kd kd := kp.trans sT.keep2
      have sc7 := hS.kept kp7 kn.dk
      refine ⟨T, _, rfl, .inl (.inl upd_same), rfl, _, _, rfl, _, _, rfl, rfl, ?_⟩
      show tIfS _ _ _ _ _ (upd H5 T _)
      generalize upd H5 T (.tup [V.int (0 + (j : Nat)), V.int ads[j]]) = H7 at kn7 kp7 sc7
      generalize ads[j] = st at *
      have efd : (goal - st).fdiv N = (goal - st) / N := Int.fdiv_eq_ediv_of_nonneg _ (by omega)
      have efm : (goal - st).fmod N = (goal - st) % N := Int.fmod_eq_emod_of_nonneg _ (by omega)
      have at0 : atI [V.int N, V.ref t] 0 = some (V.int N) := atI_nat (j := 0) rfl
      have inv : ∀ (H9 : Hp) (es9 : List (Int × V)) (b9 : Option Int) (u6 : Option V), Keep2 H H9 kd kd → Kn H9 kd N ads G es9 → (∀ k ∈ es5.map (·.1), k ∈ es9.map (·.1)) → (∀ k ∈ es9.map (·.1), k ∈ es.map (·.1) ∨ k < goal) → (st ≤ goal ∧ (goal - st) % N = 0 → (goal - st) / N ∈ es9.map (·.1)) → leastO ((ads.zipIdx.take (j + 1)).filterMap (callT N ads goal)) = b9 →
          ∃ es5 y4 y5 y6, ([some (.ref a), some (.int goal), some (.ref kd), some (oV b9), some (.int (0 + (j : Nat))), some (.int st), u6] : L2.St) = [some (.ref a), some (.int goal), some (.ref kd), some (oV (leastO ((ads.zipIdx.take (j + 1)).filterMap (callT N ads goal)))), y4, y5, y6] ∧ Keep2 H H9 kd kd ∧ Kn H9 kd N ads G es5 ∧ (∀ k ∈ es.map (·.1), k ∈ es5.map (·.1)) ∧ (∀ k ∈ es5.map (·.1), k ∈ es.map (·.1) ∨ k < goal) ∧ (∀ e ∈ ads.zipIdx.take (j + 1), e.1 ≤ goal ∧ (goal - e.1) % N = 0 → (goal - e.1) / N ∈ es5.map (·.1)) := fun H9 es9 b9 u6 a1 a2 a3 a4 a5 a6 => by
        refine ⟨es9, _, _, _, by rw [a6], a1, a2, fun k hk => a3 k (sub k hk), a4, fun e he he2 => ?_⟩
        rw [tkj] at he
        rcases List.mem_append.mp he with x | x
        · exact a3 _ (got e x he2)
        · rw [List.mem_singleton.mp x] at he2 ⊢
          exact a5 he2
      have etk : leastO ((ads.zipIdx.take (j + 1)).filterMap (callT N ads goal)) = leastO ((ads.zipIdx.take j).filterMap (callT N ads goal) ++ [(st, j)].filterMap (callT N ads goal)) := by rw [tkj, List.filterMap_append]
      clear tkj
      generalize hb : leastO ((ads.zipIdx.take j).filterMap (callT N ads goal)) = bo at *
      refine ⟨.int goal, rfl, .int st, rfl, goal, st, rfl, rfl, _, rfl, ite2 (fun c1 => ?_) (fun c1 => ?_)⟩
      · have c1' : st ≤ goal := of_decide_eq_true c1
        refine ⟨.int goal, rfl, .int st, rfl, goal, st, rfl, rfl, .inl ⟨_, rfl, .ref a, rfl, a, _, 0, _, rfl, rfl, sc7.sc, at0, _, N, rfl, rfl, (by omega : N ≠ 0), rfl, _, rfl, ite2 (fun c2 => ?_) (fun c2 => ?_)⟩⟩
        · have c2' : (goal - st) % N = 0 := by
            have z3 : V.int ((goal - st).fmod N) = V.int 0 := of_decide_eq_true c2
            injection z3 with z3
            rw [← efm]
            exact z3
          have dl := div_lt d2 d5 goal st g1 rg.1
          have q0 : 0 ≤ (goal - st) / N := Int.ediv_nonneg (by omega) (by omega)
          have qm : (goal - st) / N < 2 ^ m' := by
            have e2 : (2 : Int) ^ (m' + 1) = 2 * 2 ^ m' := by rw [Int.pow_succ]; omega
            have hN : N = 2 ∨ N = 3 ∨ N = 4 ∨ N = 5 := by omega
            rcases hN with h | h | h | h <;> subst h <;> omega
          have hc : callT N ads goal (st, j) = (tk N ads ((goal - st) / N)).map (· + (1 + (j : Int))) := by
            unfold callT
            rw [if_pos (show st ≤ goal ∧ (goal - st) % N = 0 from ⟨c1', c2'⟩)]
          refine ⟨.ref a, rfl, .int goal, rfl, .int st, rfl, goal, st, rfl, rfl, .ref a, rfl, a, _, 0, _, rfl, rfl, sc7.sc, at0, _, N, rfl, rfl, ⟨by omega, by omega⟩, .ref kd, rfl, a, t, kd, N, (goal - st).fdiv N, G, ads, es5, rfl, sc7, hR, by rw [efd]; exact q0, by rw [efd]; exact qm, by rw [efd]; exact gN.step d2 rg.1 rg.2 c1', G0, G30, kn7, fun H8 es8 k8 kn8 sub8 in8 cl8 low8 => ?_⟩
          rw [efd] at in8 low8 ⊢
          have kp8 := kp7.trans k8
          have lw : ∀ k ∈ es8.map (·.1), k ∈ es.map (·.1) ∨ k < goal := fun k hk => by
            rcases low8 k hk with x | x
            · exact low k x
            · exact .inr (by omega)
          replace inv := fun (b9 : Option Int) (u6 : Option V) => inv H8 es8 b9 u6 kp8 kn8 sub8 lw (fun _ => in8)
          have ecall : [(st, j)].filterMap (callT N ads goal) = (callT N ads goal (st, j)).toList := by
            cases e : callT N ads goal (st, j) <;> simp [e]
          rw [ecall, hc] at etk
          cases et : tk N ads ((goal - st) / N) with
          | none =>
            rw [et] at etk
            refine ⟨_, rfl, rfl, false, rfl, iteF (inv bo _ (etk.trans ?_))⟩
            show leastO (_ ++ []) = bo
            rw [List.append_nil]
            exact hb
          | some u =>
            rw [et] at etk
            have e5 : leastO ((ads.zipIdx.take (j + 1)).filterMap (callT N ads goal)) = some (minW bo (u + (1 + (j : Int)))) := by
              rw [etk]
              show leastO (_ ++ [u + (1 + (j : Int))]) = _
              rw [leastO_snoc, hb]
            have ej : u + ((0 : Int) + (j : Nat)) + 1 = u + (1 + (j : Int)) := by omega
            refine ⟨_, rfl, rfl, true, rfl, iteT ?_⟩
            cases bo with
            | none =>
              refine ⟨_, rfl, rfl, true, rfl, iteT ⟨.int u, rfl, .int (0 + (j : Nat)), rfl, u, _, rfl, rfl, _, 1, rfl, rfl, ?_⟩⟩
              have z := inv (some (u + ((0 : Int) + (j : Nat)) + 1)) (some (.int u)) (by rw [e5, ej]; rfl)
              exact z
            | some b =>
              refine ⟨_, rfl, rfl, false, rfl, iteF ⟨.int u, rfl, .int (0 + (j : Nat)), rfl, u, _, rfl, rfl, _, 1, rfl, rfl, .int b, rfl, _, b, rfl, rfl, _, rfl, ite2 (fun c3 => ?_) (fun c3 => ?_)⟩⟩
              · have c3' : u + ((0 : Int) + (j : Nat)) + 1 < b := of_decide_eq_true c3
                refine ⟨.int u, rfl, .int (0 + (j : Nat)), rfl, u, _, rfl, rfl, _, 1, rfl, rfl, ?_⟩
                exact inv (some (u + ((0 : Int) + (j : Nat)) + 1)) (some (.int u)) (by rw [e5, ej]; show some (min b _) = _; rw [show min b (u + (1 + (j : Int))) = u + (1 + (j : Int)) by omega])
              · have c3' : ¬ u + ((0 : Int) + (j : Nat)) + 1 < b := fun x => c3 (decide_eq_true x)
                exact inv (some b) (some (.int u)) (by rw [e5]; show some (min b _) = _; rw [show min b (u + (1 + (j : Int))) = b by omega])
        · have c2' : ¬ (goal - st) % N = 0 := fun x => c2 (decide_eq_true (show V.int ((goal - st).fmod N) = V.int 0 by rw [efm, x]))
          refine inv H7 es5 bo _ kp7 kn7 (fun _ h => h) low (fun x => absurd x.2 c2') ?_
          have hc : callT N ads goal (st, j) = none := by
            unfold callT
            rw [if_neg (show ¬ (st ≤ goal ∧ (goal - st) % N = 0) from fun x => c2' x.2)]
          rw [etk, show [(st, j)].filterMap (callT N ads goal) = [] by simp [hc], List.append_nil]
          exact hb
      · have c1' : ¬ st ≤ goal := fun x => c1 (decide_eq_true x)
        refine inv H7 es5 bo _ kp7 kn7 (fun _ h => h) low (fun x => absurd x.1 c1') ?_
        have hc : callT N ads goal (st, j) = none := by
          unfold callT
          rw [if_neg (show ¬ (st ≤ goal ∧ (goal - st) % N = 0) from fun x => c1' x.1)]
        rw [etk, show [(st, j)].filterMap (callT N ads goal) = [] by simp [hc], List.append_nil]
        exact hb
    · obtain ⟨es5, y4, y5, y6, rfl, kp, kn5, sub, low, got⟩ := hW
      rw [List.length_map, List.take_of_length_le (Nat.le_of_eq List.length_zipIdx)] at *
      have gn5 : goal ∉ es5.map (·.1) := fun x => by
        rcases low goal x with y | y
        · exact gn y
        · omega
      have few := kn5.few hR G0 G30
      have nd9 : ((es5 ++ [(goal, oV (tk N ads goal))]).map (·.1)).Nodup := by
        rw [List.map_append]
        refine List.nodup_append.mpr ⟨kn5.nd, by simp, fun x hx y hy => ?_⟩
        rw [List.mem_singleton.mp hy]
        exact fun z => gn5 (by have z2 : x = goal := z; rw [← z2]; exact hx)
      have et := tk_calls hR g1
      refine ⟨_, rfl, .ref kd, rfl, .int goal, rfl, kd, _, rfl, dput_of (v := oV (leastO (ads.zipIdx.filterMap (callT N ads goal)))) kn5.dk gn5 (by rw [sizeLine_eq]; omega), ?_⟩
      rw [← et]
      suffices hh : ∃ v, DGet (upd H5 kd (.dK (dkV (es5 ++ [(goal, oV (tk N ads goal))])))) kd (.int goal) (some v) ∧ Q v (upd H5 kd (.dK (dkV (es5 ++ [(goal, oV (tk N ads goal))])))) by
        obtain ⟨v, dg2, hq⟩ := hh
        exact ⟨.ref kd, rfl, .int goal, rfl, kd, v, rfl, dg2, hq⟩
      refine fin _ (es5 ++ [(goal, oV (tk N ads goal))]) (kp.trans keep2_c) ⟨upd_same, nd9, fun e he => ?_, ?_, fun k hk => ?_⟩ (fun k hk => ?_) ?_ (fun _ p hp => ?_) (fun k hk => ?_)
      · rcases List.mem_append.mp he with x | x
        · exact kn5.val e x
        · rw [List.mem_singleton.mp x]
      · rw [List.map_append]; exact List.mem_append_left _ kn5.zero
      · rw [List.map_append] at hk
        rcases List.mem_append.mp hk with x | x
        · exact kn5.near k x
        · rw [List.mem_singleton.mp x]; exact .inr gN
      · rw [List.map_append]; exact List.mem_append_left _ (sub k hk)
      · rw [List.map_append]; exact List.mem_append_right _ List.mem_cons_self
      · rw [List.map_append]
        refine List.mem_append_left _ ?_
        rw [calls_hits hR g1] at hp
        obtain ⟨e, he, rfl⟩ := List.mem_map.mp hp
        obtain ⟨h1, h2⟩ := List.mem_filter.mp he
        exact got e h1 (of_decide_eq_true h2)
      · rw [List.map_append] at hk
        rcases List.mem_append.mp hk with x | x
        · rcases low k x with y | y
          · exact .inl y
          · exact .inr (by omega)
        · rw [List.mem_singleton.mp x]; exact .inr (Int.le_refl _)
  · have gk : goal ∈ es.map (·.1) := by
      refine ho.mp ?_
      cases x : o.isSome with
      | true => rfl
      | false => rw [x] at c; exact absurd rfl c
    obtain ⟨v, dg2, hq⟩ := fin H es (fun b o e _ _ => e) kn (fun _ h => h) gk (fun x => absurd gk x) (fun _ h => .inl h)
    exact ⟨.ref kd, rfl, .int goal, rfl, kd, v, rfl, dg2, hq⟩
end
end LK
namespace LK
open PySem PySem.Spec PyProof.Rows L2 CD DL
section
variable {P : Program} {w : World} {K : PySem.W.Frag} {mg : Str → Option Value} {base : Heap} {GP : GenP}
/-! old promises as lifted ones -/
def oD : Option Int → D
  | none => .non
  | some i => .int i
theorem oD_ok {F : Hp} (o : Option Int) : Dd K F (oV o) (oD o) := by
  cases o
  · exact .non
  · exact .int _
abbrev rD (N : Int) (ads : List Int) : D := .tup [.int N, .tup (ads.map D.int)]
theorem rD_ok {F H : Hp} {v : V} {N : Int} {ads : List Int} (s : Same F H) (h : Dd K F v (rD N ads)) : ∃ a t, v = .ref a ∧ ScAt K H a t N ads := by
  cases h with
  | tup h1 g =>
    cases g with
    | cons g1 g => cases g with
      | cons g2 g =>
        cases g
        cases g1
        cases g2 with
        | tup h2 g2 =>
          rw [g2.ints] at h2
          exact ⟨_, _, rfl, .inl (.inl (s _ _ h1)), .inl (.inl (s _ _ h2))⟩
theorem gnone {γ : GAt} {as : List SV} (h : hasG as = γ.isSome) (e : hasG as = false) : γ = none := by
  rw [e] at h
  cases γ with
  | none => rfl
  | some _ => cases h
theorem end_same {F H : Hp} {γ : GAt} {Q : QD} {R : VK} (h1 : Same F H) (g : γ = none)
    (h8 : ∀ v H' F' γ' d m, (∀ a o, H a = some o → ¬ GA γ a → H' a = some o) → (∀ a o, H a = some o → ∃ u, H' a = some u) → Same F F' → Same F' H' → (∀ a o, F' a = some o → F a = some o ∨ H a = none ∨ ∃ xs, o = .tup xs) → Dd K F' v d →
      GenAfter GP H H' F' γ γ' m → Q d m → R v H') {H' : Hp} {v : V} {d : D} (s : Same H H') (dd : Dd K F v d) (q : Q d none) : R v H' :=
  h8 v H' F none d none (fun a o e _ => s a o e) (fun a o e => ⟨o, s _ _ e⟩) (Same.refl _) (h1.trans s) (fun a o e => .inl e) dd g q
theorem end_new {F H : Hp} {γ : GAt} {Q : QD} {R : VK} (h1 : Same F H) (g : γ = none)
    (h8 : ∀ v H' F' γ' d m, (∀ a o, H a = some o → ¬ GA γ a → H' a = some o) → (∀ a o, H a = some o → ∃ u, H' a = some u) → Same F F' → Same F' H' → (∀ a o, F' a = some o → F a = some o ∨ H a = none ∨ ∃ xs, o = .tup xs) → Dd K F' v d →
      GenAfter GP H H' F' γ γ' m → Q d m → R v H') {H' : Hp} {p : Addr} {o : HO} {d : D} (s : Same H H') (np : H p = none) (hp : H' p = some o) (dd : Dd K (upd F p o) (.ref p) d) (q : Q d none) : R (.ref p) H' := by
  have fp : F p = none := Same.free h1 np
  refine h8 (.ref p) H' (upd F p o) none d none (fun a o e _ => s a o e) (fun a o e => ⟨o, s _ _ e⟩) (same_upd fp) (fun a u e => ?_) (fun a u e => ?_) dd g q
  · by_cases c : a = p
    · subst c
      rw [upd_same] at e
      cases e
      exact hp
    · rw [upd_ne c] at e
      exact s _ _ (h1 _ _ e)
  · by_cases c : a = p
    · subst c
      exact .inr (.inl np)
    · rw [upd_ne c] at e
      exact .inl e
structure W_need_scaled (as : List SV) (Q : QD) : Prop where
  h : ∃ N ads, as = [.val (rD N ads)] ∧ IsSc N ads ∧ Q (rD N ads) none
theorem liftO_need_scaled (C : Cal P w K mg base 3 "need_scaled" p_need_scaled (spNeedSc K)) : CalG P w K mg base 3 "need_scaled" p_need_scaled (spL GP K 1 W_need_scaled) := by
  refine toG C fun vs H Q E h => ?_
  obtain ⟨F, γ, as, Qd, h1, h2, h3, _, _, h6, ⟨N, ads, rfl, hR, q⟩, h8⟩ := h
  match vs, h2 with
  | [v1], ⟨d1, _⟩ =>
    obtain ⟨a, t, rfl, hS⟩ := rD_ok h1 d1
    exact ⟨a, t, N, ads, rfl, hS, hR, fun H' s => end_same h1 (gnone h3 rfl) h8 s d1 q⟩
structure W_tick_at (as : List SV) (Q : QD) : Prop where
  h : ∃ N ads n, as = [.val (rD N ads), .val (.int n)] ∧ IsSc N ads ∧ 0 ≤ n ∧ n ≤ 10 ^ 30 ∧ Q (oD (tk N ads n)) none
theorem liftO_tick_at (C : Cal P w K mg base 4 "tick_at" p_tick_at (spTickAt K)) : CalG P w K mg base 4 "tick_at" p_tick_at (spL GP K 2 W_tick_at) := by
  refine toG C fun vs H Q E h => ?_
  obtain ⟨F, γ, as, Qd, h1, h2, h3, _, _, h6, ⟨N, ads, n, rfl, hR, n0, n30, q⟩, h8⟩ := h
  match vs, h2 with
  | [v1, v2], ⟨d1, d2, _⟩ =>
    obtain ⟨a, t, rfl, hS⟩ := rD_ok h1 d1
    cases d2
    exact ⟨a, t, N, n, ads, rfl, hS, hR, n0, n30, fun H' s => end_same h1 (gnone h3 rfl) h8 s (oD_ok _) q⟩
structure W_ticks_of (as : List SV) (Q : QD) : Prop where
  h : ∃ N ads, ∃ ns : List Int, as = [.val (rD N ads), .val (.list (ns.map D.int))] ∧ IsSc N ads ∧ ns.length ≤ 200 ∧ (∀ n ∈ ns, 0 ≤ n ∧ n ≤ 10 ^ 30) ∧ ∀ kvs : List (Key × D), (∀ n ∈ ns, lkD kvs (.inl n) = some (oD (tk N ads n))) → Q (.dk kvs) none
theorem es_dd {F : Hp} {N : Int} {ads : List Int} : ∀ {es : List (Int × V)}, (∀ e ∈ es, e.2 = oV (tk N ads e.1)) → DdK K F (dkV es) (es.map fun e => ((Sum.inl e.1 : Key), oD (tk N ads e.1)))
  | [], _ => .nil
  | e :: r, h => by
    have h0 := h e List.mem_cons_self
    show DdK K F ((Sum.inl e.1, e.2) :: dkV r) _
    rw [h0]
    exact .cons (oD_ok _) (es_dd fun e' h' => h e' (List.mem_cons_of_mem _ h'))
theorem es_lk {f : Int → D} {n : Int} : ∀ {es : List (Int × V)}, n ∈ es.map (·.1) → lkD (es.map fun e => ((Sum.inl e.1 : Key), f e.1)) (.inl n) = some (f n)
  | e :: r, h => by
    unfold lkD
    rw [List.map_cons, List.find?_cons]
    by_cases c : e.1 = n
    · rw [show decide ((Sum.inl e.1 : Key) = .inl n) = true from decide_eq_true (by rw [c])]
      rw [← c]; rfl
    · rw [show decide ((Sum.inl e.1 : Key) = .inl n) = false from decide_eq_false fun x => c (by injection x)]
      rw [List.map_cons] at h
      exact es_lk ((List.mem_cons.mp h).resolve_left fun x => c x.symm)
theorem liftO_ticks_of (C : Cal P w K mg base 3 "ticks_of" p_ticks_of (spTicksOf K)) : CalG P w K mg base 3 "ticks_of" p_ticks_of (spL GP K 2 W_ticks_of) := by
  refine toG C fun vs H Q E h => ?_
  obtain ⟨F, γ, as, Qd, h1, h2, h3, _, _, h6, ⟨N, ads, ns, rfl, hR, hl, hn, q⟩, h8⟩ := h
  match vs, h2 with
  | [v1, v2], ⟨d1, d2, _⟩ =>
    obtain ⟨a, t, rfl, hS⟩ := rD_ok h1 d1
    cases d2 with
    | lst e2 g2 =>
      rw [g2.ints] at e2
      exact ⟨a, t, _, N, ads, ns, rfl, hS, hR, .inl (.inl (h1 _ _ e2)), hl, hn, fun H' d es s nd hd nod val cl there => end_new h1 (gnone h3 rfl) h8 s nd hd (.dK upd_same (es_dd val)) (q _ fun n hn => es_lk (f := fun i => oD (tk N ads i)) (there n hn))⟩
structure W__law_spread (as : List SV) (Q : QD) : Prop where
  h : ∃ N ads, ∃ n : Nat, as = [.val (rD N ads), .val (.int ((n : Int) + 1))] ∧ IsSc N ads ∧ n ≤ 900 ∧ Q (.list ((filmT N ads n).map oD)) none
theorem oDs_ok {F : Hp} : ∀ l : List (Option Int), DdL K F (l.map oV) (l.map oD)
  | [] => .nil
  | o :: r => .cons (oD_ok o) (oDs_ok r)
theorem liftO__law_spread (C : Cal P w K mg base 2 "_law_spread" p__law_spread (spSpread K)) : CalG P w K mg base 2 "_law_spread" p__law_spread (spL GP K 2 W__law_spread) := by
  refine toG C fun vs H Q E h => ?_
  obtain ⟨F, γ, as, Qd, h1, h2, h3, _, _, h6, ⟨N, ads, n, rfl, hR, hn, q⟩, h8⟩ := h
  match vs, h2 with
  | [v1, v2], ⟨d1, d2, _⟩ =>
    obtain ⟨a, t, rfl, hS⟩ := rD_ok h1 d1
    cases d2
    exact ⟨a, t, N, ads, n, rfl, hS, hR, hn, fun H' p s np hp => end_new h1 (gnone h3 rfl) h8 s np hp (.lst upd_same (oDs_ok _)) q⟩
/-! ### _law_spread_at(rule, goal, {0: 0}) -/
theorem cal_none {x : Str} {st : Stmt} {ps : List Str} (D : Def K mg x st ps) : Cal P w K mg base 0 x ps (fun _ _ _ _ => False) := by
  obtain ⟨f, fd, F, m, b⟩ := D
  refine ⟨f, fd, ?_, m, F.kp, b⟩
  constructor <;> intros <;> exact False.elim ‹False›
theorem spread_all (z : Z mg) (D : Def K mg "_law_spread_at" s__law_spread_at p__law_spread_at) : ∀ m : Nat, Cal P w K mg base (m + 1) "_law_spread_at" p__law_spread_at (spSA K m)
  | 0 => cal_spread_at z 0 (fun _ _ _ _ => False) (fun m' h => by cases h) (cal_none D) D
  | m + 1 => cal_spread_at z (m + 1) (spSA K m) (fun m' h => by cases h; rfl) (spread_all z D m) D
variable {B : Hp × Hp × GAt}
abbrev tNull : TE := tDisp [(tC (.int 0), tC (.int 0))]
def uSpread (u1 u2 : UE) : UE := fun ρ Q => u1 ρ fun x ρ1 => u2 ρ1 fun y ρ2 => ∃ N ads n, ck ρ2 (sf x) = some (rD N ads) ∧ cn ρ2 y = some (.int n) ∧ IsSc N ads ∧ 0 ≤ n ∧ n ≤ 10 ^ 30 ∧ Q (.val (oD (tk N ads n))) ρ2
theorem le_spread {t1 t2 : TE} {u1 u2 : UE} (l1 : LE GP K B t1 u1) (l2 : LE GP K B t2 u2) : LE GP K B (tCall (spSA K 100) [] E0 (tCons t1 (tCons t2 (tCons tNull tNil)))) (uSpread u1 u2) := by
  intro H0 F0 γ0 _ γ σ H F ρ R Q r z k
  refine l1 _ _ r z fun H1 F1 γ1 ρ1 v x r1 s1 k1 q1 => ?_
  obtain ⟨F2, r2, s2, k2⟩ := sf_ok r1 k1
  refine l2 _ _ r2 q1 fun H3 F3 γ3 ρ3 y' y r3 s3 k3 ⟨N, ads, n, e1, e2, hR, n0, n30, q⟩ => ?_
  obtain rfl := (RVok.cnt r3 k3 e2).int
  obtain ⟨a, xs, rfl, ha, g⟩ := ck_tup r3 (k2.same s3).one e1
  obtain ⟨_, t, ea, hS⟩ := rD_ok r3.sub (.tup ha g)
  cases ea
  intro kd nkd
  refine ⟨upd_same, [(Sum.inl 0, .int 0)], rfl, by decide, ?_⟩
  have uu : ∀ b o, H3 b = some o → (upd (upd H3 kd (.dK [])) kd (.dK (mergeK [] [((Sum.inl 0 : Key), V.int 0)]))) b = some o := fun b o e => by
    have : b ≠ kd := fun x => by rw [x, nkd] at e; cases e
    rw [upd_ne this, upd_ne this]; exact e
  have hkd : (upd (upd H3 kd (.dK [])) kd (.dK (mergeK [] [((Sum.inl 0 : Key), V.int 0)]))) kd = some (.dK (dkV [(0, V.int 0)])) := by rw [upd_same]; rfl
  generalize (upd (upd H3 kd (.dK [])) kd (.dK (mergeK [] [((Sum.inl 0 : Key), V.int 0)]))) = HK at uu hkd
  refine ⟨a, t, kd, N, n, n, ads, [(0, V.int 0)], rfl, hS.same uu, hR, n0, ?_, ?_, n0, n30, ⟨hkd, by simp, fun e he => ?_, by simp, fun k hk => .inl (by simpa using hk)⟩, fun H' es' kp _ _ _ _ _ => ?_⟩
  · exact Int.lt_of_le_of_lt n30 (by decide)
  · exact Near.self n0
  · rw [List.mem_singleton.mp he]; rfl
  · have sH : Same H3 H' := fun b o e => kp b o (uu b o e) (fun x => by rw [x, nkd] at e; cases e) (fun x => by rw [x, nkd] at e; cases e)
    exact k _ _ _ _ _ (.val _) (r3.same sH) (s1.trans (s2.trans s3)) (oD_ok _) q
end
end LK

namespace LK
open PySem PySem.Spec PyProof.Rows L2 CD DL


section
variable {P : Program} {w : World} {K : PySem.W.Frag} {mg : Str → Option Value} {base : Heap} {GP : GenP}
def u_is_integer : US := (uRet (uAndV (uIsi "int" (uVar 0)) (uNotV (uIsi "bool" (uVar 0)))))
structure W_is_integer (as : List SV) (Q : QD) : Prop where
  h : Wof 1 u_is_integer as Q
theorem lift_is_integer (z : Z mg) (hD : Def K mg "is_integer" s_is_integer p_is_integer) : CalG P w K mg base 1 "is_integer" p_is_integer (spL GP K 1 W_is_integer) := by
  refine CalG.impD (hD.calD sc_is_integer u_is_integer fun f cdv A outer s H E hgd hr => ?_) fun as Q h => h.h
  have hu := hu_of hr
  refine ⟨_, (pss_one (ps_ret (pe_and (pe_callB call_isi (by rfl) z.«isinstance» (by decide +kernel) (pa_cons (pv 0) (pa_cons (pe_bltn (v := .ty "int") (by rfl) z.«int» (by decide +kernel) rfl) pa_nil))) (pe_one (pe_not (pe_callB call_isi (by rfl) z.«isinstance» (by decide +kernel) (pa_cons (pv 0) (pa_cons (pe_bltn (v := .ty "bool") (by rfl) z.«bool» (by decide +kernel) rfl) pa_nil)))))))), ?_⟩
  intro B
  exact (ls_ret (le_and (le_isi (le_var 0)) (le_not (le_isi (le_var 0)))))
def u_is_number : US := (uRet (uAndV (uCall 1 W_is_integer (uCons (uVar 0) uNil)) (uChain (pI0 fun i j => D.bl (decide (i ≤ j))) (pI0 fun i j => D.bl (decide (i ≤ j))) (uVar 1) (uVar 0) (uVar 2))))
structure W_is_number (as : List SV) (Q : QD) : Prop where
  h : Wof 3 u_is_number as Q
theorem lift_is_number (z : Z mg) (c_is_integer : CalG P w K mg base 1 "is_integer" p_is_integer (spL GP K 1 W_is_integer)) (hD : Def K mg "is_number" s_is_number p_is_number) : CalG P w K mg base 2 "is_number" p_is_number (spL GP K 3 W_is_number) := by
  refine CalG.impD (hD.calD sc_is_number u_is_number fun f cdv A outer s H E hgd hr => ?_) fun as Q h => h.h
  have hu := hu_of hr
  refine ⟨_, (pss_one (ps_ret (pe_and (pe_calG c_is_integer hgd (hr.mono (by decide)) (by rfl) (pa_cons (pv 0) pa_nil)) (pe_one (pe_chain op_le op_le (pv 1) (pv 0) (pv 2)))))), ?_⟩
  intro B
  exact (ls_ret (le_and (le_call (la_cons (le_var 0) la_nil)) (le_chain (lr_I0 (g' := fun i j => D.bl (decide (i ≤ j))) fun _ _ => rfl) (lr_I0 (g' := fun i j => D.bl (decide (i ≤ j))) fun _ _ => rfl) (le_var 1) (le_var 0) (le_var 2))))
def u_is_ascending : US := (uRet (uCB pAll (uCons (uLc (uiZip (uCons (uVar 0) (uCons (uSlT (uVar 0) (uPart (uC (.int 1))) uNoPart) uNil))) (ugTup 2 (ugCons (ugName 1) (ugCons (ugName 2) ugNil))) uYes (uOp (pI0 fun i j => D.bl (decide (i < j))) (uVar 1) (uVar 2)) [1, 2]) uNil)))
structure W_is_ascending (as : List SV) (Q : QD) : Prop where
  h : Wof 3 u_is_ascending as Q
theorem lift_is_ascending (z : Z mg) (hD : Def K mg "is_ascending" s_is_ascending p_is_ascending) : CalG P w K mg base 1 "is_ascending" p_is_ascending (spL GP K 1 W_is_ascending) := by
  refine CalG.impD (hD.calD sc_is_ascending u_is_ascending fun f cdv A outer s H E hgd hr => ?_) fun as Q h => h.h
  have hu := hu_of hr
  refine ⟨_, (pss_one (ps_ret (pe_callB (cr_all rfl) (by rfl) z.«all» (by decide +kernel) (pa_cons (pe_lc (own := [("one", 1), ("behind", 2)]) (g := (gTup K 2 (gCons (gName 1) (gCons (gName 2) gNil)))) (tt := tYes) rfl sc_is_ascending.nd (RZ.pi_zipA (by rfl) z.«zip» (pa_cons (pv 0) (pa_cons (pe_slice sl_tupA (pv 0) (po_some pe_int) po_none) pa_nil))) (blkOk_by (N := n_is_ascending) (sc := defScope s_is_ascending) (by decide +kernel)) (fun _ _ _ _ _ => (pg_tup rfl (pgs_cons (pg_name (i := 1) sc_is_ascending.nd rfl (Or.inl rfl)) (pgs_cons (pg_name (i := 2) sc_is_ascending.nd rfl (Or.inl rfl)) pgs_nil)))) (fun _ _ _ _ _ => pts_nil) (fun _ _ _ _ _ => (pe_cmpR op_lt (pv 1) (pv 2) (nomark _)))) pa_nil)))), ?_⟩
  intro B
  exact (ls_ret (le_cb lb_all (la_cons (le_lc (li_zip (la_cons (le_var 0) (la_cons (le_slT (le_var 0) (lo_some (le_int _)) lo_none) la_nil))) (lg_tup (lgs_cons (lg_name 1) (lgs_cons (lg_name 2) lgs_nil))) (gw_tup (gws_cons (gw_name (by decide)) (gws_cons (gw_name (by decide)) gws_nil))) lt_yes (le_op (lr_I0 (g' := fun i j => D.bl (decide (i < j))) fun _ _ => rfl) (le_var 1) (le_var 2))) la_nil)))
def u_back_of : US := (uSeq (uAsg (uVar 0) (ugTup 2 (ugCons (ugName 1) (ugCons (ugName 2) ugNil))))
    (uRet (uOp (pI CDivN fun i j => D.int (i.fdiv j)) (uCB pMaxT (uCons (uVar 2) uNil)) (uOp (pI0 fun i j => D.int (i - j)) (uVar 1) (uC (.int 1))))))
structure W_back_of (as : List SV) (Q : QD) : Prop where
  h : Wof 3 u_back_of as Q
theorem lift_back_of (z : Z mg) (hD : Def K mg "back_of" s_back_of p_back_of) : CalG P w K mg base 1 "back_of" p_back_of (spL GP K 1 W_back_of) := by
  refine CalG.impD (hD.calD sc_back_of u_back_of fun f cdv A outer s H E hgd hr => ?_) fun as Q h => h.h
  have hu := hu_of hr
  refine ⟨_, (pss_cons (ps_asg (pv 0) (pg_tup rfl (pgs_cons (pg_name (i := 1) sc_back_of.nd rfl (Or.inl rfl)) (pgs_cons (pg_name (i := 2) sc_back_of.nd rfl (Or.inl rfl)) pgs_nil))))
    (pss_one (ps_ret (pe_op op_fdivN (pe_callB (cr_maxT rfl (hu_of hr)) (by rfl) z.«max» (by decide +kernel) (pa_cons (pv 2) pa_nil)) (pe_op op_sub (pv 1) pe_int))))), ?_⟩
  intro B
  exact (ls_seq (ls_asg (le_var 0) (lg_tup (lgs_cons (lg_name 1) (lgs_cons (lg_name 2) lgs_nil))))
    (ls_ret (le_op (lr_I (C := CDivN) (g' := fun i j => D.int (i.fdiv j)) fun _ _ => rfl) (le_cb lb_maxT (la_cons (le_var 2) la_nil)) (le_op (lr_I0 (g' := fun i j => D.int (i - j)) fun _ _ => rfl) (le_var 1) (le_int _)))))
def u_told_bits : US := (uSeq (uSet 2 (uCall 2 W_ticks_of (uCons (uVar 0) (uCons (uLstRg1 (uVar 1)) uNil))))
    (uRet (uLc (uiRng1 (uCons (uVar 1) uNil)) (ugName 3) uYes (uIfE (uTest (uOp pIsN (uDGet (uVar 2) (uVar 3)) (uC .non))) (uC (.int 0)) (uC (.int 1))) [3])))
structure W_told_bits (as : List SV) (Q : QD) : Prop where
  h : Wof 4 u_told_bits as Q
theorem lift_told_bits (z : Z mg) (c_ticks_of : CalG P w K mg base 3 "ticks_of" p_ticks_of (spL GP K 2 W_ticks_of)) (hD : Def K mg "told_bits" s_told_bits p_told_bits) : CalG P w K mg base 4 "told_bits" p_told_bits (spL GP K 2 W_told_bits) := by
  refine CalG.impD (hD.calD sc_told_bits u_told_bits fun f cdv A outer s H E hgd hr => ?_) fun as Q h => h.h
  have hu := hu_of hr
  refine ⟨_, (pss_cons (ps_set (i := 2) sc_told_bits.nd rfl (Or.inr rfl) (pe_calG c_ticks_of hgd (hr.mono (by decide)) (by rfl) (pa_cons (pv 0) (pa_cons (pe_listRg rfl (by rfl) z.«list» (prg_1 (by rfl) z.«range» (pv 1))) pa_nil))))
    (pss_one (ps_ret (pe_lc (own := [("person", 3)]) (g := (gName 3)) (tt := tYes) rfl sc_told_bits.nd (pi_range1 (by rfl) z.«range» (pa_cons (pv 1) pa_nil)) (blkOk_by (N := n_told_bits) (sc := defScope s_told_bits) (by decide +kernel)) (fun _ _ _ _ _ => (pg_name (i := 3) sc_told_bits.nd rfl (Or.inl rfl))) (fun _ _ _ _ _ => pts_nil) (fun _ _ _ _ _ => (pe_ifExp (pt_cmpR op_isN (pe_dget hu (pv 2) (pv 3) (fun _ _ => rfl)) pe_non (nomark _)) pe_int pe_int)))))), ?_⟩
  intro B
  exact (ls_seq (ls_set (le_call (la_cons (le_var 0) (la_cons (le_lstRg1 (le_var 1)) la_nil))))
    (ls_ret (le_lc (li_rng1 (la_cons (le_var 1) la_nil)) (lg_name 3) (gw_name (by decide)) lt_yes (le_if (lt_test (le_op lr_isN (le_dget (le_var 2) (le_var 3)) le_non)) (le_int _) (le_int _)))))
def u_rows_of : US := (uRet (uLc (uiRng2 (uCons (uVar 1) (uCons (uCB pLen (uCons (uVar 0) uNil)) uNil))) (ugName 2) uYes (uCB pTupOf (uCons (uLc (uiRng1 (uCons (uVar 1) uNil)) (ugName 3) uYes (uOp pIxL (uVar 0) (uOp (pI0 fun i j => D.int (i - j)) (uVar 2) (uVar 3))) [3]) uNil)) [2]))
structure W_rows_of (as : List SV) (Q : QD) : Prop where
  h : Wof 4 u_rows_of as Q
theorem lift_rows_of (z : Z mg) (hD : Def K mg "rows_of" s_rows_of p_rows_of) : CalG P w K mg base 1 "rows_of" p_rows_of (spL GP K 2 W_rows_of) := by
  refine CalG.impD (hD.calD sc_rows_of u_rows_of fun f cdv A outer s H E hgd hr => ?_) fun as Q h => h.h
  have hu := hu_of hr
  refine ⟨_, (pss_one (ps_ret (pe_lc (own := [("person", 2)]) (g := (gName 2)) (tt := tYes) rfl sc_rows_of.nd (pi_range2 (by rfl) z.«range» (pa_cons (pv 1) (pa_cons (pe_callB (call_len_seq) (by rfl) z.«len» (by decide +kernel) (pa_cons (pv 0) pa_nil)) pa_nil))) (blkOk_by (N := n_rows_of) (sc := defScope s_rows_of) (by decide +kernel)) (fun _ _ _ _ _ => (pg_name (i := 2) sc_rows_of.nd rfl (Or.inr rfl))) (fun _ _ _ _ _ => pts_nil) (fun _ _ _ _ _ => (pe_callTy (call_tuple_ofK (K := K) rfl) (by rfl) z.«tuple» (by decide +kernel) (pa_cons (pe_lc (own := [("back", 3)]) (g := (gName 3)) (tt := tYes) rfl sc_rows_of.nd (pi_range1 (by rfl) z.«range» (pa_cons (pv 1) pa_nil)) (blkOk_by (N := n_rows_of) rfl) (fun _ _ _ _ _ => (pg_name (i := 3) sc_rows_of.nd rfl (Or.inl rfl))) (fun _ _ _ _ _ => pts_nil) (fun _ _ _ _ _ => (pe_ix (ix_listK (K := K) rfl) (pv 0) (pe_op op_sub (pv 2) (pv 3)) (fun _ _ => rfl)))) pa_nil)))))), ?_⟩
  intro B
  exact (ls_ret (le_lc (li_rng2 (la_cons (le_var 1) (la_cons (le_cb lb_len (la_cons (le_var 0) la_nil)) la_nil))) (lg_name 2) (gw_name (by decide)) lt_yes (le_cb lb_tupOf (la_cons (le_lc (li_rng1 (la_cons (le_var 1) la_nil)) (lg_name 3) (gw_name (by decide)) lt_yes (le_op lr_ixL (le_var 0) (le_op (lr_I0 (g' := fun i j => D.int (i - j)) fun _ _ => rfl) (le_var 2) (le_var 3)))) la_nil))))
def u__is_called : US := (uRet (uCB pAny (uCons (uLc (uiSeq (uVar 1)) (ugName 4) (uTest (uOp pEq (uOp (pI (fun _ j => j ≠ 0) fun i j => D.int (i.fmod j)) (uOp (pI0 fun i j => D.int (i + j)) (uVar 3) (uVar 4)) (uVar 0)) (uC (.int 0)))) (uOp pEq (uOp pIxT (uVar 2) (uOp (pI CDivN fun i j => D.int (i.fdiv j)) (uOp (pI0 fun i j => D.int (i + j)) (uVar 3) (uVar 4)) (uVar 0))) (uC (.int 1))) [4]) uNil)))
structure W__is_called (as : List SV) (Q : QD) : Prop where
  h : Wof 5 u__is_called as Q
theorem lift__is_called (z : Z mg) (hD : Def K mg "_is_called" s__is_called p__is_called) : CalG P w K mg base 1 "_is_called" p__is_called (spL GP K 4 W__is_called) := by
  refine CalG.impD (hD.calD sc__is_called u__is_called fun f cdv A outer s H E hgd hr => ?_) fun as Q h => h.h
  have hu := hu_of hr
  refine ⟨_, (pss_one (ps_ret (pe_callB (cr_any rfl) (by rfl) z.«any» (by decide +kernel) (pa_cons (pe_lc (own := [("add", 4)]) (g := (gName 4)) rfl sc__is_called.nd (pi_tup (pv 1)) (blkOk_by (N := n__is_called) (sc := defScope s__is_called) (by decide +kernel)) (fun _ _ _ _ _ => (pg_name (i := 4) sc__is_called.nd rfl (Or.inl rfl))) (fun _ _ _ _ _ => (pts_one (pt_cmpR op_eq (pe_op op_modN (pe_op op_add (pv 3) (pv 4)) (pv 0)) pe_int (nomark _)))) (fun _ _ _ _ _ => (pe_cmpR op_eq (pe_ix (ix_tupK (K := K) rfl) (pv 2) (pe_op op_fdivN (pe_op op_add (pv 3) (pv 4)) (pv 0)) (fun _ _ => rfl)) pe_int (nomark _)))) pa_nil)))), ?_⟩
  intro B
  exact (ls_ret (le_cb lb_any (la_cons (le_lc (li_tup (le_var 1)) (lg_name 4) (gw_name (by decide)) (lt_test (le_op lr_eq (le_op (lr_I (C := (fun _ j => j ≠ 0)) (g' := fun i j => D.int (i.fmod j)) fun _ _ => rfl) (le_op (lr_I0 (g' := fun i j => D.int (i + j)) fun _ _ => rfl) (le_var 3) (le_var 4)) (le_var 0)) (le_int _))) (le_op lr_eq (le_op lr_ixT (le_var 2) (le_op (lr_I (C := CDivN) (g' := fun i j => D.int (i.fdiv j)) fun _ _ => rfl) (le_op (lr_I0 (g' := fun i j => D.int (i + j)) fun _ _ => rfl) (le_var 3) (le_var 4)) (le_var 0))) (le_int _))) la_nil)))
def u_row_behind : US := (uSeq (uAsg (uVar 0) (ugTup 2 (ugCons (ugName 3) (ugCons (ugName 4) ugNil))))
    (uRet (uCB pTupOf (uCons (uLc (uiRng1 (uCons (uCB pLen (uCons (uVar 1) uNil)) uNil)) (ugName 5) uYes (uIfE (uTest (uCall 4 W__is_called (uCons (uVar 3) (uCons (uVar 4) (uCons (uVar 1) (uCons (uOp (pI0 fun i j => D.int (i - j)) (uVar 5) (uVar 2)) uNil)))))) (uC (.int 1)) (uC (.int 0))) [5]) uNil))))
structure W_row_behind (as : List SV) (Q : QD) : Prop where
  h : Wof 6 u_row_behind as Q
theorem lift_row_behind (z : Z mg) (c__is_called : CalG P w K mg base 1 "_is_called" p__is_called (spL GP K 4 W__is_called)) (hD : Def K mg "row_behind" s_row_behind p_row_behind) : CalG P w K mg base 2 "row_behind" p_row_behind (spL GP K 3 W_row_behind) := by
  refine CalG.impD (hD.calD sc_row_behind u_row_behind fun f cdv A outer s H E hgd hr => ?_) fun as Q h => h.h
  have hu := hu_of hr
  refine ⟨_, (pss_cons (ps_asg (pv 0) (pg_tup rfl (pgs_cons (pg_name (i := 3) sc_row_behind.nd rfl (Or.inr rfl)) (pgs_cons (pg_name (i := 4) sc_row_behind.nd rfl (Or.inr rfl)) pgs_nil))))
    (pss_one (ps_ret (pe_callTy (call_tuple_of) (by rfl) z.«tuple» (by decide +kernel) (pa_cons (pe_lc (own := [("back", 5)]) (g := (gName 5)) (tt := tYes) rfl sc_row_behind.nd (pi_range1 (by rfl) z.«range» (pa_cons (pe_callB (call_len_seq) (by rfl) z.«len» (by decide +kernel) (pa_cons (pv 1) pa_nil)) pa_nil)) (blkOk_by (N := n_row_behind) (sc := defScope s_row_behind) (by decide +kernel)) (fun _ _ _ _ _ => (pg_name (i := 5) sc_row_behind.nd rfl (Or.inl rfl))) (fun _ _ _ _ _ => pts_nil) (fun _ _ _ _ _ => (pe_ifExp (pt_val (pe_calG c__is_called hgd (hr.mono (by decide)) (by rfl) (pa_cons (pv 3) (pa_cons (pv 4) (pa_cons (pv 1) (pa_cons (pe_op op_sub (pv 5) (pv 2)) pa_nil)))))) pe_int pe_int))) pa_nil))))), ?_⟩
  intro B
  exact (ls_seq (ls_asg (le_var 0) (lg_tup (lgs_cons (lg_name 3) (lgs_cons (lg_name 4) lgs_nil))))
    (ls_ret (le_cb lb_tupOf (la_cons (le_lc (li_rng1 (la_cons (le_cb lb_len (la_cons (le_var 1) la_nil)) la_nil)) (lg_name 5) (gw_name (by decide)) lt_yes (le_if (lt_B (le_call (la_cons (le_var 3) (la_cons (le_var 4) (la_cons (le_var 1) (la_cons (le_op (lr_I0 (g' := fun i j => D.int (i - j)) fun _ _ => rfl) (le_var 5) (le_var 2)) la_nil)))))) (le_int _) (le_int _))) la_nil))))
def u__decisive : US := (uSeq (uAsg (uVar 0) (ugTup 2 (ugCons (ugName 1) (ugCons (ugName 2) ugNil))))
    (uRet (uOp (pI CMul fun i j => D.int (i * j)) (uVar 1) (uOp (pI0 fun i j => D.int (i + j)) (uCall 1 W_back_of (uCons (uVar 0) uNil)) (uC (.int 1))))))
structure W__decisive (as : List SV) (Q : QD) : Prop where
  h : Wof 3 u__decisive as Q
theorem lift__decisive (z : Z mg) (c_back_of : CalG P w K mg base 1 "back_of" p_back_of (spL GP K 1 W_back_of)) (hD : Def K mg "_decisive" s__decisive p__decisive) : CalG P w K mg base 2 "_decisive" p__decisive (spL GP K 1 W__decisive) := by
  refine CalG.impD (hD.calD sc__decisive u__decisive fun f cdv A outer s H E hgd hr => ?_) fun as Q h => h.h
  have hu := hu_of hr
  refine ⟨_, (pss_cons (ps_asg (pv 0) (pg_tup rfl (pgs_cons (pg_name (i := 1) sc__decisive.nd rfl (Or.inl rfl)) (pgs_cons (pg_name (i := 2) sc__decisive.nd rfl (Or.inl rfl)) pgs_nil))))
    (pss_one (ps_ret (pe_op op_mul (pv 1) (pe_op op_add (pe_calG c_back_of hgd (hr.mono (by decide)) (by rfl) (pa_cons (pv 0) pa_nil)) pe_int))))), ?_⟩
  intro B
  exact (ls_seq (ls_asg (le_var 0) (lg_tup (lgs_cons (lg_name 1) (lgs_cons (lg_name 2) lgs_nil))))
    (ls_ret (le_op (lr_I (C := CMul) (g' := fun i j => D.int (i * j)) fun _ _ => rfl) (le_var 1) (le_op (lr_I0 (g' := fun i j => D.int (i + j)) fun _ _ => rfl) (le_call (la_cons (le_var 0) la_nil)) (le_int _)))))
def u_first_never : US := (uSeq (uDrop (uCall 1 W_need_scaled (uCons (uVar 0) uNil)))
    (uSeq (uSet 1 (uCall 2 W_told_bits (uCons (uVar 0) (uCons (uCall 1 W__decisive (uCons (uVar 0) uNil)) uNil))))
    (uRet (uIfE (uTest (uOp (pIn false) (uC (.int 0)) (uVar 1))) (uIndex (uVar 1) (uC (.int 0))) (uC .non)))))
structure W_first_never (as : List SV) (Q : QD) : Prop where
  h : Wof 2 u_first_never as Q
theorem lift_first_never (z : Z mg) (c_need_scaled : CalG P w K mg base 3 "need_scaled" p_need_scaled (spL GP K 1 W_need_scaled)) (c_told_bits : CalG P w K mg base 4 "told_bits" p_told_bits (spL GP K 2 W_told_bits)) (c__decisive : CalG P w K mg base 2 "_decisive" p__decisive (spL GP K 1 W__decisive)) (hD : Def K mg "first_never" s_first_never p_first_never) : CalG P w K mg base 5 "first_never" p_first_never (spL GP K 1 W_first_never) := by
  refine CalG.impD (hD.calD sc_first_never u_first_never fun f cdv A outer s H E hgd hr => ?_) fun as Q h => h.h
  have hu := hu_of hr
  refine ⟨_, (pss_cons (ps_expr (pe_calG c_need_scaled hgd (hr.mono (by decide)) (by rfl) (pa_cons (pv 0) pa_nil)))
    (pss_cons (ps_set (i := 1) sc_first_never.nd rfl (Or.inl rfl) (pe_calG c_told_bits hgd (hr.mono (by decide)) (by rfl) (pa_cons (pv 0) (pa_cons (pe_calG c__decisive hgd (hr.mono (by decide)) (by rfl) (pa_cons (pv 0) pa_nil)) pa_nil))))
    (pss_one (ps_ret (pe_ifExp (pt_cmpR op_in_seq pe_int (pv 1) (by rfl)) (pe_bm PySem.F.plainAttrs_list PySem.F.slot_list_index PySem.F.type_list_index mt_index (pv 1) (pa_cons pe_int pa_nil)) pe_non))))), ?_⟩
  intro B
  exact (ls_seq (ls_drop (le_call (la_cons (le_var 0) la_nil)))
    (ls_seq (ls_set (le_call (la_cons (le_var 0) (la_cons (le_call (la_cons (le_var 0) la_nil)) la_nil))))
    (ls_ret (le_if (lt_test (le_op (lr_in (neg := false)) (le_int _) (le_var 1))) (le_index (le_var 1) (le_int _)) le_non))))
def u_full_paper : US := (uSeq (uSet 1 (uCall 1 W_first_never (uCons (uVar 0) uNil)))
    (uSeq (uIfS (uTest (uOp pNotN (uVar 1) (uC .non))) (uRet (uTup (uCons (uC (.str "never")) (uCons (uVar 1) uNil)))) uNext)
    (uRet (uTup (uCons (uC (.str "full")) (uCons (uTup (uCons (uOpT (fun x y Q => match x, y with | .tup a, .int k => a ≠ [] ∧ 0 ≤ k ∧ k ≤ 1000 ∧ a.length ≤ 1000 ∧ Q (.tup (List.replicate k.toNat a).flatten) | _, _ => False) (uTup (uCons (uC (.int 1)) uNil)) (uOp (pI0 fun i j => D.int (i + j)) (uCall 1 W_back_of (uCons (uVar 0) uNil)) (uC (.int 1)))) uNil)) uNil))))))
structure W_full_paper (as : List SV) (Q : QD) : Prop where
  h : Wof 2 u_full_paper as Q
theorem lift_full_paper (z : Z mg) (c_first_never : CalG P w K mg base 5 "first_never" p_first_never (spL GP K 1 W_first_never)) (c_back_of : CalG P w K mg base 1 "back_of" p_back_of (spL GP K 1 W_back_of)) (hD : Def K mg "full_paper" s_full_paper p_full_paper) : CalG P w K mg base 6 "full_paper" p_full_paper (spL GP K 1 W_full_paper) := by
  refine CalG.impD (hD.calD sc_full_paper u_full_paper fun f cdv A outer s H E hgd hr => ?_) fun as Q h => h.h
  have hu := hu_of hr
  refine ⟨_, (pss_cons (ps_set (i := 1) sc_full_paper.nd rfl (Or.inl rfl) (pe_calG c_first_never hgd (hr.mono (by decide)) (by rfl) (pa_cons (pv 0) pa_nil)))
    (pss_cons (ps_if (pt_cmpR op_notN (pv 1) pe_non (nomark _)) (pss_one (ps_ret (pe_tup (pa_cons pe_str (pa_cons (pv 1) pa_nil))))) pss_nil)
    (pss_one (ps_ret (pe_tup (pa_cons pe_str (pa_cons (pe_tup (pa_cons (pe_op op_repA (pe_tup (pa_cons pe_int pa_nil)) (pe_op op_add (pe_calG c_back_of hgd (hr.mono (by decide)) (by rfl) (pa_cons (pv 0) pa_nil)) pe_int)) pa_nil)) pa_nil))))))), ?_⟩
  intro B
  exact (ls_seq (ls_set (le_call (la_cons (le_var 0) la_nil)))
    (ls_seq (ls_if (lt_test (le_op lr_notN (le_var 1) le_non)) (ls_ret (le_tup (la_cons (le_str _) (la_cons (le_var 1) la_nil)))) ls_next)
    (ls_ret (le_tup (la_cons (le_str _) (la_cons (le_tup (la_cons (le_repT (le_tup (la_cons (le_int _) la_nil)) (le_op (lr_I0 (g' := fun i j => D.int (i + j)) fun _ _ => rfl) (le_call (la_cons (le_var 0) la_nil)) (le_int _))) la_nil)) la_nil))))))
def u__is_never : US := (uRet (uAndV (uCall 3 W_is_number (uCons (uVar 1) (uCons (uC (.int 0)) (uCons (uC (.int (10 ^ 30))) uNil)))) (uOp pIsN (uDGet (uCall 2 W_ticks_of (uCons (uVar 0) (uCons (uLst (uCons (uVar 1) uNil)) uNil))) (uVar 1)) (uC .non))))
structure W__is_never (as : List SV) (Q : QD) : Prop where
  h : Wof 2 u__is_never as Q
theorem lift__is_never (z : Z mg) (v_MOST_NUMBER : ∃ t, mg "MOST_NUMBER" = some (.int (10 ^ 30) t)) (c_is_number : CalG P w K mg base 2 "is_number" p_is_number (spL GP K 3 W_is_number)) (c_ticks_of : CalG P w K mg base 3 "ticks_of" p_ticks_of (spL GP K 2 W_ticks_of)) (hD : Def K mg "_is_never" s__is_never p__is_never) : CalG P w K mg base 4 "_is_never" p__is_never (spL GP K 2 W__is_never) := by
  obtain ⟨t_MOST_NUMBER, m_MOST_NUMBER⟩ := v_MOST_NUMBER
  refine CalG.impD (hD.calD sc__is_never u__is_never fun f cdv A outer s H E hgd hr => ?_) fun as Q h => h.h
  have hu := hu_of hr
  refine ⟨_, (pss_one (ps_ret (pe_and (pe_calG c_is_number hgd (hr.mono (by decide)) (by rfl) (pa_cons (pv 1) (pa_cons pe_int (pa_cons (pe_globI (by rfl) m_MOST_NUMBER) pa_nil)))) (pe_one (pe_cmpR op_isN (pe_dget hu (pe_calG c_ticks_of hgd (hr.mono (by decide)) (by rfl) (pa_cons (pv 0) (pa_cons (pe_lst (pa_cons (pv 1) pa_nil)) pa_nil))) (pv 1) (fun _ _ => rfl)) pe_non (nomark _)))))), ?_⟩
  intro B
  exact (ls_ret (le_and (le_call (la_cons (le_var 1) (la_cons (le_int _) (la_cons (le_int _) la_nil)))) (le_op lr_isN (le_dget (le_call (la_cons (le_var 0) (la_cons (le_lst (la_cons (le_var 1) la_nil)) la_nil))) (le_var 1)) le_non)))
def u__is_row : US := (uSeq (uIfS (uOr (uNot (uTest (uIsi "tuple" (uVar 0)))) (uTest (uOp pNe (uCB pLen (uCons (uVar 0) uNil)) (uVar 1)))) (uRet (uC (.bl false))) uNext)
    (uRet (uAndV (uCB pAll (uCons (uLc (uiSeq (uVar 0)) (ugName 2) uYes (uCall 3 W_is_number (uCons (uVar 2) (uCons (uC (.int 0)) (uCons (uC (.int 1)) uNil)))) [2]) uNil)) (uOp pEq (uOp pIxT (uVar 0) (uC (.int 0))) (uC (.int 1))))))
structure W__is_row (as : List SV) (Q : QD) : Prop where
  h : Wof 3 u__is_row as Q
theorem lift__is_row (z : Z mg) (c_is_number : CalG P w K mg base 2 "is_number" p_is_number (spL GP K 3 W_is_number)) (hD : Def K mg "_is_row" s__is_row p__is_row) : CalG P w K mg base 3 "_is_row" p__is_row (spL GP K 2 W__is_row) := by
  refine CalG.impD (hD.calD sc__is_row u__is_row fun f cdv A outer s H E hgd hr => ?_) fun as Q h => h.h
  have hu := hu_of hr
  refine ⟨_, (pss_cons (ps_if (PW.pt (pw_or (pt_not (pt_val (pe_callB call_isi (by rfl) z.«isinstance» (by decide +kernel) (pa_cons (pv 0) (pa_cons (pe_bltn (v := .ty "tuple") (by rfl) z.«tuple» (by decide +kernel) rfl) pa_nil))))) (pw_or1 (pt_cmpR op_ne (pe_callB (call_len_seq) (by rfl) z.«len» (by decide +kernel) (pa_cons (pv 0) pa_nil)) (pv 1) (nomark _))))) (pss_one (ps_ret pe_bl)) pss_nil)
    (pss_one (ps_ret (pe_and (pe_callB (cr_all rfl) (by rfl) z.«all» (by decide +kernel) (pa_cons (pe_lc (own := [("bit", 2)]) (g := (gName 2)) (tt := tYes) rfl sc__is_row.nd (pi_tup (pv 0)) (blkOk_by (N := n__is_row) (sc := defScope s__is_row) (by decide +kernel)) (fun _ _ _ _ _ => (pg_name (i := 2) sc__is_row.nd rfl (Or.inl rfl))) (fun _ _ _ _ _ => pts_nil) (fun _ _ _ _ _ => (pe_calG c_is_number hgd (hr.mono (by decide)) (by rfl) (pa_cons (pv 2) (pa_cons pe_int (pa_cons pe_int pa_nil)))))) pa_nil)) (pe_one (pe_cmpR op_eq (pe_ix ix_tup (pv 0) pe_int (fun _ _ => rfl)) pe_int (nomark _))))))), ?_⟩
  intro B
  exact (ls_seq (ls_if (lt_or (lt_not (lt_B (le_isi (le_var 0)))) (lt_test (le_op lr_ne (le_cb lb_len (la_cons (le_var 0) la_nil)) (le_var 1)))) (ls_ret (le_bl _)) ls_next)
    (ls_ret (le_and (le_cb lb_all (la_cons (le_lc (li_tup (le_var 0)) (lg_name 2) (gw_name (by decide)) lt_yes (le_call (la_cons (le_var 2) (la_cons (le_int _) (la_cons (le_int _) la_nil))))) la_nil)) (le_op lr_eq (le_op lr_ixT (le_var 0) (le_int _)) (le_int _)))))
def u__is_table : US := (uSeq (uSet 2 (uOp (pI0 fun i j => D.int (i + j)) (uCall 1 W_back_of (uCons (uVar 0) uNil)) (uC (.int 1))))
    (uSeq (uIfS (uOr (uNot (uTest (uIsi "tuple" (uVar 1)))) (uOr (uNot (uTest (uCB pAll (uCons (uLc (uiSeq (uVar 1)) (ugName 7) uYes (uCall 2 W__is_row (uCons (uVar 7) (uCons (uVar 2) uNil))) [7]) uNil)))) (uNot (uTest (uCall 1 W_is_ascending (uCons (uVar 1) uNil)))))) (uRet (uC (.bl false))) uNext)
    (uSeq (uSet 3 (uCall 2 W_told_bits (uCons (uVar 0) (uCons (uCall 1 W__decisive (uCons (uVar 0) uNil)) uNil))))
    (uSeq (uSet 4 (uDcT (uiSeq (uVar 1)) (ugName 7) uYes (uVar 7) (uC (.bl true)) [7]))
    (uSeq (uIfS (uOr (uTest (uOp (pIn false) (uC (.int 0)) (uSl pSlL (uVar 3) uNoPart (uPart (uVar 2))))) (uNot (uTest (uCB pAll (uCons (uLc (uiLst (uCall 2 W_rows_of (uCons (uVar 3) (uCons (uVar 2) uNil)))) (ugName 7) uYes (uDIn false (uVar 7) (uVar 4)) [7]) uNil))))) (uRet (uC (.bl false))) uNext)
    (uSeq (uAsg (uVar 0) (ugTup 2 (ugCons (ugName 5) (ugCons (ugName 6) ugNil))))
    (uRet (uCB pAll (uCons (uLc2 (uiSeq (uVar 1)) (ugName 7) uYes (uiRng1 (uCons (uVar 5) uNil)) (ugName 8) uYes (uDIn false (uCall 3 W_row_behind (uCons (uVar 0) (uCons (uVar 7) (uCons (uVar 8) uNil)))) (uVar 4)) [7, 8] [8]) uNil)))))))))
structure W__is_table (as : List SV) (Q : QD) : Prop where
  h : Wof 9 u__is_table as Q
theorem lift__is_table (z : Z mg) (c_back_of : CalG P w K mg base 1 "back_of" p_back_of (spL GP K 1 W_back_of)) (c__is_row : CalG P w K mg base 3 "_is_row" p__is_row (spL GP K 2 W__is_row)) (c_is_ascending : CalG P w K mg base 1 "is_ascending" p_is_ascending (spL GP K 1 W_is_ascending)) (c_told_bits : CalG P w K mg base 4 "told_bits" p_told_bits (spL GP K 2 W_told_bits)) (c__decisive : CalG P w K mg base 2 "_decisive" p__decisive (spL GP K 1 W__decisive)) (c_rows_of : CalG P w K mg base 1 "rows_of" p_rows_of (spL GP K 2 W_rows_of)) (c_row_behind : CalG P w K mg base 2 "row_behind" p_row_behind (spL GP K 3 W_row_behind)) (hD : Def K mg "_is_table" s__is_table p__is_table) : CalG P w K mg base 5 "_is_table" p__is_table (spL GP K 2 W__is_table) := by
  refine CalG.impD (hD.calD sc__is_table u__is_table fun f cdv A outer s H E hgd hr => ?_) fun as Q h => h.h
  have hu := hu_of hr
  refine ⟨_, (pss_cons (ps_set (i := 2) sc__is_table.nd rfl (Or.inr rfl) (pe_op op_add (pe_calG c_back_of hgd (hr.mono (by decide)) (by rfl) (pa_cons (pv 0) pa_nil)) pe_int))
    (pss_cons (ps_if (PW.pt (pw_or (pt_not (pt_val (pe_callB call_isi (by rfl) z.«isinstance» (by decide +kernel) (pa_cons (pv 1) (pa_cons (pe_bltn (v := .ty "tuple") (by rfl) z.«tuple» (by decide +kernel) rfl) pa_nil))))) (pw_or (pt_not (pt_val (pe_callB (cr_all rfl) (by rfl) z.«all» (by decide +kernel) (pa_cons (pe_lc (own := [("row", 7)]) (g := (gName 7)) (tt := tYes) rfl sc__is_table.nd (pi_tup (pv 1)) (blkOk_by (N := n__is_table) (sc := defScope s__is_table) (by decide +kernel)) (fun _ _ _ _ _ => (pg_name (i := 7) sc__is_table.nd rfl (Or.inl rfl))) (fun _ _ _ _ _ => pts_nil) (fun _ _ _ _ _ => (pe_calG c__is_row hgd (hr.mono (by decide)) (by rfl) (pa_cons (pv 7) (pa_cons (pv 2) pa_nil))))) pa_nil)))) (pw_or1 (pt_not (pt_val (pe_calG c_is_ascending hgd (hr.mono (by decide)) (by rfl) (pa_cons (pv 1) pa_nil)))))))) (pss_one (ps_ret pe_bl)) pss_nil)
    (pss_cons (ps_set (i := 3) sc__is_table.nd rfl (Or.inl rfl) (pe_calG c_told_bits hgd (hr.mono (by decide)) (by rfl) (pa_cons (pv 0) (pa_cons (pe_calG c__decisive hgd (hr.mono (by decide)) (by rfl) (pa_cons (pv 0) pa_nil)) pa_nil))))
    (pss_cons (ps_set (i := 4) sc__is_table.nd rfl (Or.inr rfl) (pe_dcP (o := .dT []) (own := [("row", 7)]) (g := (gName 7)) (tt := tYes) hu (.inr rfl) rfl sc__is_table.nd (pi_tup (pv 1)) (blkOk_by (N := n__is_table) (sc := defScope s__is_table) (by decide +kernel)) (fun _ _ _ _ _ => (pg_name (i := 7) sc__is_table.nd rfl (Or.inl rfl))) (fun _ _ _ _ _ => pts_nil) (fun _ _ _ _ _ => (pv 7)) (fun _ _ _ _ _ => pe_bl)))
    (pss_cons (ps_if (PW.pt (pw_or (pt_cmpR op_in_seq pe_int (pe_slice sl_list (pv 3) po_none (po_some (pv 2))) (by rfl)) (pw_or1 (pt_not (pt_val (pe_callB (cr_all rfl) (by rfl) z.«all» (by decide +kernel) (pa_cons (pe_lc (own := [("row", 7)]) (g := (gName 7)) (tt := tYes) rfl sc__is_table.nd (pi_list (pe_calG c_rows_of hgd (hr.mono (by decide)) (by rfl) (pa_cons (pv 3) (pa_cons (pv 2) pa_nil)))) (blkOk_by (N := n__is_table) (sc := defScope s__is_table) (by decide +kernel)) (fun _ _ _ _ _ => (pg_name (i := 7) sc__is_table.nd rfl (Or.inl rfl))) (fun _ _ _ _ _ => pts_nil) (fun _ _ _ _ _ => (pe_cmp (pc_din hu (pv 7) (pv 4)) rfl))) pa_nil))))))) (pss_one (ps_ret pe_bl)) pss_nil)
    (pss_cons (ps_asg (pv 0) (pg_tup rfl (pgs_cons (pg_name (i := 5) sc__is_table.nd rfl (Or.inr rfl)) (pgs_cons (pg_name (i := 6) sc__is_table.nd rfl (Or.inl rfl)) pgs_nil))))
    (pss_one (ps_ret (pe_callB (cr_all rfl) (by rfl) z.«all» (by decide +kernel) (pa_cons (pe_lc2 (own := [("row", 7), ("figure", 8)]) (vs1 := [8]) (g := (gName 7)) (tt := tYes) (g1 := (gName 8)) (tt1 := tYes) rfl sc__is_table.nd (pi_tup (pv 1)) (blkOk_by (N := n__is_table) (sc := defScope s__is_table) (by decide +kernel)) (by decide) (fun _ _ _ _ _ => (pg_name (i := 7) sc__is_table.nd rfl (Or.inl rfl))) (fun _ _ _ _ _ => pts_nil) (fun _ _ _ _ _ => (pi_range1 (by rfl) z.«range» (pa_cons (pv 5) pa_nil))) (fun _ _ _ _ _ => (pg_name (i := 8) sc__is_table.nd rfl (Or.inl rfl))) (fun _ _ _ _ _ => pts_nil) (fun _ _ _ _ _ => (pe_cmp (pc_din hu (pe_calG c_row_behind hgd (hr.mono (by decide)) (by rfl) (pa_cons (pv 0) (pa_cons (pv 7) (pa_cons (pv 8) pa_nil)))) (pv 4)) rfl))) pa_nil)))))))))), ?_⟩
  intro B
  exact (ls_seq (ls_set (le_op (lr_I0 (g' := fun i j => D.int (i + j)) fun _ _ => rfl) (le_call (la_cons (le_var 0) la_nil)) (le_int _)))
    (ls_seq (ls_if (lt_or (lt_not (lt_B (le_isi (le_var 1)))) (lt_or (lt_not (lt_B (le_cb lb_all (la_cons (le_lc (li_tup (le_var 1)) (lg_name 7) (gw_name (by decide)) lt_yes (le_call (la_cons (le_var 7) (la_cons (le_var 2) la_nil)))) la_nil)))) (lt_not (lt_B (le_call (la_cons (le_var 1) la_nil)))))) (ls_ret (le_bl _)) ls_next)
    (ls_seq (ls_set (le_call (la_cons (le_var 0) (la_cons (le_call (la_cons (le_var 0) la_nil)) la_nil))))
    (ls_seq (ls_set (le_dcT (li_tup (le_var 1)) (lg_name 7) (gw_name (by decide)) lt_yes (le_var 7) (le_bl _)))
    (ls_seq (ls_if (lt_or (lt_test (le_op (lr_in (neg := false)) (le_int _) (le_sl lsl_L (le_var 3) lo_none (lo_some (le_var 2))))) (lt_not (lt_B (le_cb lb_all (la_cons (le_lc (li_list (le_call (la_cons (le_var 3) (la_cons (le_var 2) la_nil)))) (lg_name 7) (gw_name (by decide)) lt_yes (le_din (le_var 4) (le_var 7))) la_nil))))) (ls_ret (le_bl _)) ls_next)
    (ls_seq (ls_asg (le_var 0) (lg_tup (lgs_cons (lg_name 5) (lgs_cons (lg_name 6) lgs_nil))))
    (ls_ret (le_cb lb_all (la_cons (le_lc2 (li_tup (le_var 1)) (lg_name 7) (gw_name (by decide)) lt_yes (li_rng1 (la_cons (le_var 5) la_nil)) (lg_name 8) (gw_name (by decide)) lt_yes (le_din (le_var 4) (le_call (la_cons (le_var 0) (la_cons (le_var 7) (la_cons (le_var 8) la_nil)))))) la_nil)))))))))
def u_check_full : US := (uSeq (uDrop (uCall 1 W_need_scaled (uCons (uVar 0) uNil)))
    (uSeq (uIfS (uOr (uNot (uTest (uIsi "tuple" (uVar 1)))) (uOr (uTest (uOp pNe (uCB pLen (uCons (uVar 1) uNil)) (uC (.int 2)))) (uNot (uTest (uIsi "str" (uOp pIxT (uVar 1) (uC (.int 0)))))))) uNever uNext)
    (uSeq (uAsg (uVar 1) (ugTup 2 (ugCons (ugName 2) (ugCons (ugName 3) ugNil))))
    (uSeq (uIfS (uTest (uOp (pIn true) (uVar 2) (uTup (uCons (uC (.str "never")) (uCons (uC (.str "full")) uNil))))) uNever uNext)
    (uSeq (uIfS (uAnd (uTest (uOp pEq (uVar 2) (uC (.str "never")))) (uNot (uTest (uCall 2 W__is_never (uCons (uVar 0) (uCons (uVar 3) uNil)))))) uNever uNext)
    (uSeq (uIfS (uAnd (uTest (uOp pEq (uVar 2) (uC (.str "full")))) (uNot (uTest (uCall 2 W__is_table (uCons (uVar 0) (uCons (uVar 3) uNil)))))) uNever uNext)
    (uRet (uVar 2))))))))
structure W_check_full (as : List SV) (Q : QD) : Prop where
  h : Wof 4 u_check_full as Q
theorem lift_check_full (z : Z mg) (c_need_scaled : CalG P w K mg base 3 "need_scaled" p_need_scaled (spL GP K 1 W_need_scaled)) (c__is_never : CalG P w K mg base 4 "_is_never" p__is_never (spL GP K 2 W__is_never)) (c__is_table : CalG P w K mg base 5 "_is_table" p__is_table (spL GP K 2 W__is_table)) (hD : Def K mg "check_full" s_check_full p_check_full) : CalG P w K mg base 6 "check_full" p_check_full (spL GP K 2 W_check_full) := by
  refine CalG.impD (hD.calD sc_check_full u_check_full fun f cdv A outer s H E hgd hr => ?_) fun as Q h => h.h
  have hu := hu_of hr
  refine ⟨_, (pss_cons (ps_expr (pe_calG c_need_scaled hgd (hr.mono (by decide)) (by rfl) (pa_cons (pv 0) pa_nil)))
    (pss_cons (ps_if (PW.pt (pw_or (pt_not (pt_val (pe_callB call_isi (by rfl) z.«isinstance» (by decide +kernel) (pa_cons (pv 1) (pa_cons (pe_bltn (v := .ty "tuple") (by rfl) z.«tuple» (by decide +kernel) rfl) pa_nil))))) (pw_or (pt_cmpR op_ne (pe_callB (call_len_seq) (by rfl) z.«len» (by decide +kernel) (pa_cons (pv 1) pa_nil)) pe_int (nomark _)) (pw_or1 (pt_not (pt_val (pe_callB call_isi (by rfl) z.«isinstance» (by decide +kernel) (pa_cons (pe_ix ix_tup (pv 1) pe_int (fun _ _ => rfl)) (pa_cons (pe_bltn (v := .ty "str") (by rfl) z.«str» (by decide +kernel) rfl) pa_nil))))))))) (pss_one ps_never) pss_nil)
    (pss_cons (ps_asg (pv 1) (pg_tup rfl (pgs_cons (pg_name (i := 2) sc_check_full.nd rfl (Or.inl rfl)) (pgs_cons (pg_name (i := 3) sc_check_full.nd rfl (Or.inl rfl)) pgs_nil))))
    (pss_cons (ps_if (pt_cmpR op_notIn_seq (pv 2) (pe_tup (pa_cons pe_str (pa_cons pe_str pa_nil))) (by rfl)) (pss_one ps_never) pss_nil)
    (pss_cons (ps_if (PW.pt (pw_and (pt_cmpR op_eq (pv 2) pe_str (nomark _)) (pw_and1 (pt_not (pt_val (pe_calG c__is_never hgd (hr.mono (by decide)) (by rfl) (pa_cons (pv 0) (pa_cons (pv 3) pa_nil)))))))) (pss_one ps_never) pss_nil)
    (pss_cons (ps_if (PW.pt (pw_and (pt_cmpR op_eq (pv 2) pe_str (nomark _)) (pw_and1 (pt_not (pt_val (pe_calG c__is_table hgd (hr.mono (by decide)) (by rfl) (pa_cons (pv 0) (pa_cons (pv 3) pa_nil)))))))) (pss_one ps_never) pss_nil)
    (pss_one (ps_ret (pv 2))))))))), ?_⟩
  intro B
  exact (ls_seq (ls_drop (le_call (la_cons (le_var 0) la_nil)))
    (ls_seq (ls_if (lt_or (lt_not (lt_B (le_isi (le_var 1)))) (lt_or (lt_test (le_op lr_ne (le_cb lb_len (la_cons (le_var 1) la_nil)) (le_int _))) (lt_not (lt_B (le_isi (le_op lr_ixT (le_var 1) (le_int _))))))) ls_never ls_next)
    (ls_seq (ls_asg (le_var 1) (lg_tup (lgs_cons (lg_name 2) (lgs_cons (lg_name 3) lgs_nil))))
    (ls_seq (ls_if (lt_test (le_op (lr_in (neg := true)) (le_var 2) (le_tup (la_cons (le_str _) (la_cons (le_str _) la_nil))))) ls_never ls_next)
    (ls_seq (ls_if (lt_and (lt_test (le_op lr_eq (le_var 2) (le_str _))) (lt_not (lt_B (le_call (la_cons (le_var 0) (la_cons (le_var 3) la_nil)))))) ls_never ls_next)
    (ls_seq (ls_if (lt_and (lt_test (le_op lr_eq (le_var 2) (le_str _))) (lt_not (lt_B (le_call (la_cons (le_var 0) (la_cons (le_var 3) la_nil)))))) ls_never ls_next)
    (ls_ret (le_var 2))))))))
end
end LK
namespace LK
open PySem PySem.Spec PyProof.Rows L2 CD DL
section
variable {P : Program} {w : World} {K : PySem.W.Frag} {mg : Str → Option Value} {base : Heap}
/-! ### draws -/
abbrev kC : Key := .inr "cells"
abbrev kG : Key := .inr "great"
abbrev kS : Key := .inr "spot"
theorem nCG : ¬ kC = kG := by decide
theorem nCS : ¬ kC = kS := by decide
theorem nGS : ¬ kG = kS := by decide
def kvM (c g k : V) : List (Key × V) := [(kC, c), (kG, g), (kS, k)]
theorem getM1 (c g k : V) : valV (kvM c g k) kC = some c := by simp [valV, kvM]
theorem getM2 (c g k : V) : valV (kvM c g k) kG = some g := by
  have h := nCG
  simp [valV, kvM, h]
theorem getM3 (c g k : V) : valV (kvM c g k) kS = some k := by
  have h := nCS
  have h2 := nGS
  simp [valV, kvM, h, h2]
theorem putM2 (c g k v : V) : putK (kvM c g k) kG v = kvM c v k := by
  have h := nCG
  have h2 : ¬ kS = kG := fun e => nGS e.symm
  simp [putK, kvM, h, h2]
theorem putM3 (c g k v : V) : putK (kvM c g k) kS v = kvM c g v := by
  have h := nCS
  have h2 := nGS
  simp [putK, kvM, h, h2]
/-- the state of the draws at d, what is left of great cells at g; at most n drawn -/
structure Draw (H : Hp) (d g c : Addr) (n : Nat) : Prop where
  ex : ∃ (cells greats : List Int) (spot : Nat), H d = some (.dK (kvM (.ref c) (.ref g) (.int spot))) ∧ H c = some (.lst (cells.map V.int)) ∧ H g = some (.lst (greats.map V.int)) ∧ c ≠ g ∧ cells.length ≤ 1000 ∧ greats.length ≤ 1000 ∧ spot ≤ n
/-- all that was tracked stays, but the draws -/
structure But (H H' : Hp) (d g : Addr) : Prop where
  st : ∀ b o, H b = some o → b ≠ d → b ≠ g → H' b = some o
  gg : ∃ u, H' g = some u
def spBegun (K : PySem.W.Frag) : Sp := fun vs H Q _ => ∃ (a : Addr) (ns : List Int), vs = [.ref a] ∧ SqL K H a (ns.map V.int) ∧ ns.length ≤ 63 ∧ ∀ H' d g c, Same H H' → H d = none → H g = none → H c = none → Draw H' d g c 0 → Q (.ref d) H'
theorem cal_law_begun (z : Z mg) (D : Def K mg "_law_begun" s__law_begun p__law_begun) : Cal P w K mg base 2 "_law_begun" p__law_begun (spBegun K) := by
  refine D.cal sc__law_begun (fun vs H Q E h => by obtain ⟨_, _, rfl, _⟩ := h; rfl) fun f cdv A outer s H vs Q E hr h => ?_
  obtain ⟨a, ns, rfl, hS, hl, q⟩ := h
  refine ⟨_, (pss_cons (ps_setLc (i := 1) (own := [("cell", 2)]) (g := (gName 2)) rfl sc__law_begun.nd rfl rfl (sw_true rfl rfl rfl (by decide +kernel)) (pi_list (pv 0)) (blkOk_by (N := n__law_begun) (sc := defScope s__law_begun) (by decide +kernel)) (fun _ _ _ _ _ => (pg_name (i := 2) sc__law_begun.nd rfl (Or.inl rfl))) (fun _ _ _ _ _ => (pts_one (pt_cmpR op_ge (pv 2) (pe_op op_pow pe_int pe_int) (nomark _)))) (fun _ _ _ _ _ => (pv 2)))
        (pss_one (ps_ret (pe_disp (pps_cons pe_str (pe_callTy (call_list_of) (by rfl) z.«list» (by decide +kernel) (pa_cons (pv 0) pa_nil)) (pps_cons pe_str (pv 1) (pps_cons pe_str pe_int pps_nil))) (by rfl) (by rfl) (fun z => by cases z) (by decide))))), ?_⟩
  refine ⟨.ref a, rfl, a, rfl, ⟨_, hS⟩, fun g ng => ?_⟩
  refine lc_std (walk_list (K := K) (a := a) (xs := ns.map V.int)) ns (fun n => if 10 ^ 18 ≤ n then some (.int n) else none) (by rw [List.length_map]) (small1000 (by rw [List.length_map]; omega)) ng (fun H2 s2 => s2.seq hS) (fun i x H2 H3 n R hn s2 y hR => ?_) (fun H2 s2 e => ?_)
  · obtain ⟨rfl, gg⟩ := y
    obtain rfl := map_at hn gg
    refine ⟨rfl, .int n, rfl, 10, 18, rfl, rfl, ⟨by decide, by decide, by decide⟩, n, 10 ^ 18, rfl, rfl, _, rfl, ite2 (fun c => ?_) (fun c => ?_)⟩
    · have c' : (10 : Int) ^ 18 ≤ n := of_decide_eq_true c
      have z2 := hR _ (Same.refl _)
      rw [if_pos c'] at z2
      exact ⟨.int n, rfl, z2⟩
    · have c' : ¬ (10 : Int) ^ 18 ≤ n := fun x => c (decide_eq_true x)
      have z2 := hR _ (Same.refl _)
      rw [if_neg c'] at z2
      exact z2
  · have e2 : ns.filterMap (fun n => if 10 ^ 18 ≤ n then some (V.int n) else none) = (ns.filter fun n => decide (10 ^ 18 ≤ n)).map V.int := by
      clear e hl hS q ng
      induction ns with
      | nil => rfl
      | cons n r ih =>
        rw [List.filterMap_cons, List.filter_cons]
        by_cases c : (10 : Int) ^ 18 ≤ n
        · rw [if_pos c, if_pos (decide_eq_true c), List.map_cons, ← ih]
        · rw [if_neg c, if_neg (by simpa using c), ← ih]
    rw [e2] at e
    -- the display
    intro d nd
    have sd : Same H2 (upd H2 d (.dK [])) := same_upd nd
    refine ⟨.ref a, rfl, a, _, rfl, .inl (sd.seq (s2.seq hS)), fun c nc => ?_⟩
    have sc : Same (upd H2 d (.dK [])) (upd (upd H2 d (.dK [])) c (.lst (ns.map V.int))) := same_upd nc
    refine ⟨.ref g, rfl, ?_⟩
    have hd : (upd (upd H2 d (.dK [])) c (.lst (ns.map V.int))) d = some (.dK []) := sc _ _ upd_same
    refine ⟨hd, kvM (.ref c) (.ref g) (.int 0), rfl, (by decide : 3 ≤ 15), ?_⟩
    have em : mergeK [] (kvM (.ref c) (.ref g) (.int 0)) = kvM (.ref c) (.ref g) (.int 0) := by
      have h1 := nCG
      have h2 := nCS
      have h3 := nGS
      simp [mergeK, kvM, putK, h1, h2, h3]
    rw [em]
    have cg : c ≠ g := fun x => by
      rw [x, sd _ _ e] at nc
      cases nc
    have cd : c ≠ d := fun x => by
      rw [x, upd_same] at nc
      cases nc
    have gd : g ≠ d := fun x => by
      rw [← x, e] at nd
      cases nd
    refine q _ d g c (fun b o hb => ?_) (Same.free s2 nd) ng (Same.free (s2.trans sd) nc) ⟨ns, ns.filter fun n => decide (10 ^ 18 ≤ n), 0, upd_same, ?_, ?_, cg, by omega, Nat.le_trans (List.length_filter_le _ _) (by omega), Nat.le_refl _⟩
    · have nb : b ≠ d := ne_of_none hb (Same.free s2 nd)
      rw [upd_ne nb]
      exact sc _ _ (sd _ _ (s2 _ _ hb))
    · rw [upd_ne cd, upd_same]
    · rw [upd_ne gd]
      exact sc _ _ (sd _ _ e)
theorem gM1 {H : Hp} {d : Addr} {c g k : V} (h : H d = some (.dK (kvM c g k))) : DGet H d (.str "cells") (some c) := getM1 c g k ▸ DGet.k (k := kC) h
theorem gM2 {H : Hp} {d : Addr} {c g k : V} (h : H d = some (.dK (kvM c g k))) : DGet H d (.str "great") (some g) := getM2 c g k ▸ DGet.k (k := kG) h
theorem gM3 {H : Hp} {d : Addr} {c g k : V} (h : H d = some (.dK (kvM c g k))) : DGet H d (.str "spot") (some k) := getM3 c g k ▸ DGet.k (k := kS) h
theorem pM2 {H : Hp} {d : Addr} {c g k v : V} (h : H d = some (.dK (kvM c g k))) : DPut H d (.str "great") v (upd H d (.dK (kvM c v k))) := putM2 c g k v ▸ DPut.k (k := kG) (v := v) h (by decide : 3 < sizeLine)
theorem pM3 {H : Hp} {d : Addr} {c g k v : V} (h : H d = some (.dK (kvM c g k))) : DPut H d (.str "spot") v (upd H d (.dK (kvM c g v))) := putM3 c g k v ▸ DPut.k (k := kS) (v := v) h (by decide : 3 < sizeLine)
theorem log_small {t : Int} (h : t.natAbs < 2 ^ 100) : t.natAbs.log2 < 100 := by
  by_cases h0 : t.natAbs = 0
  · rw [h0]; decide
  · have := (Nat.log2_lt h0).mpr h
    omega
def spNext : Sp := fun vs H Q _ => ∃ (d g c : Addr) (n : Nat) (t : Int), vs = [.ref d, .int t] ∧ Draw H d g c n ∧ n < 2 ^ 40 ∧ 1 ≤ t ∧ t ≤ 10 ^ 30 ∧
  ∀ H' g' (v : Int), But H H' d g → (g' = g ∨ H g' = none) → Draw H' d g' c (n + 1) → 0 ≤ v → v < t → Q (.int v) H'
theorem But.refl {H : Hp} {d g : Addr} {u : HO} (h : H g = some u) : But H H d g := ⟨fun _ _ h _ _ => h, u, h⟩
theorem But.same {H H1 H2 : Hp} {d g : Addr} (h : But H H1 d g) (s : Same H1 H2) : But H H2 d g := ⟨fun b o e n1 n2 => s _ _ (h.st b o e n1 n2), let ⟨u, e⟩ := h.gg; ⟨u, s _ _ e⟩⟩
theorem ix0 {xs : List V} (h : xs ≠ []) : ixN xs.length 0 = some 0 := by
  have := List.length_pos_iff.mpr h
  unfold ixN
  rw [if_pos (Int.le_refl 0), if_pos (by omega)]
  rfl
theorem fmod_range {a t : Int} (h : 1 ≤ t) : 0 ≤ a.fmod t ∧ a.fmod t < t := by
  rw [Int.fmod_eq_emod_of_nonneg _ (by omega)]
  exact ⟨Int.emod_nonneg _ (by omega), Int.emod_lt_of_pos _ (by omega)⟩
theorem cut_ints (g0 : Int) (gs : List Int) : cutV ((g0 :: gs).map V.int) (some 1) none = gs.map V.int := by
  rw [cut_tail]
  rfl
theorem cal_law_next (z : Z mg) (D : Def K mg "_law_next" s__law_next p__law_next) : Cal P w K mg base 2 "_law_next" p__law_next spNext := by
  refine D.cal sc__law_next (fun vs H Q E h => by obtain ⟨_, _, _, _, _, rfl, _⟩ := h; rfl) fun f cdv A outer s H vs Q E hr h => ?_
  obtain ⟨d, g, c, n, t, rfl, ⟨cells, greats, spot, hd, hc, hg, ncg, lc, lg, hs⟩, hn, t1, t2, q⟩ := h
  have hu := hu_of hr
  have ncd : c ≠ d := ne_of hc hd (fun e => nomatch e)
  have ngd : g ≠ d := ne_of hg hd (fun e => nomatch e)
  refine ⟨_, (pss_cons (ps_while PassesOwn.never (PW.pt (pw_and (pt_cmpR (op_neD hr.units) (pe_dget hu (pv 0) pe_str (fun _ _ => rfl)) (pe_lst pa_nil) (nomark _)) (pw_and1 (pt_cmpR op_eq (pe_ix ix_list (pe_dget hu (pv 0) pe_str (fun _ _ => rfl)) pe_int (fun _ _ => rfl)) pe_int (nomark _))))) (pss_one (ps_dput hu (pv 0) pe_str (pe_slice sl_list (pe_dget hu (pv 0) pe_str (fun _ _ => rfl)) (po_some pe_int) po_none) rfl)))
        (pss_cons (ps_if (pt_cmpR (op_neD hr.units) (pe_dget hu (pv 0) pe_str (fun _ _ => rfl)) (pe_lst pa_nil) (nomark _)) (pss_cons (ps_set (i := 2) sc__law_next.nd rfl (Or.inl rfl) (pe_callTy (call_int1) (by rfl) z.«int» (by decide +kernel) (pa_cons (pe_ix ix_list (pe_dget hu (pv 0) pe_str (fun _ _ => rfl)) pe_int (fun _ _ => rfl)) pa_nil)))
        (pss_cons (ps_asg (pe_op op_fdivW (pv 2) (pv 1)) (pg_sub (pe_dget hu (pv 0) pe_str (fun _ _ => rfl)) pe_int set_list))
        (pss_one (ps_ret (pe_op op_modN (pv 2) (pv 1)))))) pss_nil)
        (pss_cons (ps_set (i := 3) sc__law_next.nd rfl (Or.inl rfl) (pe_op op_add (pe_dget hu (pv 0) pe_str (fun _ _ => rfl)) pe_int))
        (pss_cons (ps_dput hu (pv 0) pe_str (pv 3) rfl)
        (pss_cons (ps_set (i := 4) sc__law_next.nd rfl (Or.inl rfl) (pe_ifExp (pt_cmpR (op_neD hr.units) (pe_dget hu (pv 0) pe_str (fun _ _ => rfl)) (pe_lst pa_nil) (nomark _)) (pe_ix ix_list (pe_dget hu (pv 0) pe_str (fun _ _ => rfl)) (pe_op op_modN (pe_callTy (call_int1) (by rfl) z.«int» (by decide +kernel) (pa_cons (pv 3) pa_nil)) (pe_callB (call_len_seq) (by rfl) z.«len» (by decide +kernel) (pa_cons (pe_dget hu (pv 0) pe_str (fun _ _ => rfl)) pa_nil))) (fun _ _ => rfl)) pe_int))
        (pss_cons (ps_set (i := 5) sc__law_next.nd rfl (Or.inl rfl) (pe_op op_mul (pe_callTy (call_int1) (by rfl) z.«int» (by decide +kernel) (pa_cons (pe_op op_add (pe_op op_add (pe_op op_modN (pe_callTy (call_int1) (by rfl) z.«int» (by decide +kernel) (pa_cons (pv 4) pa_nil)) pe_int) (pe_op op_mul pe_int (pv 3))) (pe_op op_mul (pe_op op_mul pe_int (pv 3)) (pv 3))) pa_nil)) pe_int))
        (pss_cons (ps_set (i := 5) sc__law_next.nd rfl (Or.inl rfl) (pe_op op_mul (pe_callTy (call_int1) (by rfl) z.«int» (by decide +kernel) (pa_cons (pe_op op_add (pe_op op_modN (pe_callTy (call_int1) (by rfl) z.«int» (by decide +kernel) (pa_cons (pv 5) pa_nil)) pe_int) (pe_op op_mul pe_int (pv 3))) pa_nil)) pe_int))
        (pss_one (ps_ret (pe_op op_modN (pe_callTy (call_int1) (by rfl) z.«int» (by decide +kernel) (pa_cons (pe_op op_fdivN (pe_op op_modN (pe_callTy (call_int1) (by rfl) z.«int» (by decide +kernel) (pa_cons (pv 5) pa_nil)) pe_int) pe_int) pa_nil)) (pv 1))))))))))), ?_⟩
  refine ⟨fun m σ H2 => ∃ g2 gs2, m = gs2.length ∧ σ = [some (.ref d), some (.int t), none, none, none, none] ∧ H2 d = some (.dK (kvM (.ref c) (.ref g2) (.int spot))) ∧ H2 c = some (.lst (cells.map V.int)) ∧ H2 g2 = some (.lst (gs2.map V.int)) ∧ c ≠ g2 ∧ gs2.length ≤ 1000 ∧
      But H H2 d g ∧ (g2 = g ∨ H g2 = none),
    ⟨greats.length, g, greats, rfl, rfl, hd, hc, hg, ncg, lg, But.refl hg, .inl rfl⟩, ?_⟩
  intro m σ H2 hW
  obtain ⟨g2, gs2, rfl, rfl, hd2, hc2, hg2, ncg2, lg2, but, hfr⟩ := hW
  have ngd2 : g2 ≠ d := ne_of hg2 hd2 (fun e => nomatch e)
  -- m['great'] != []
  refine ⟨.ref d, rfl, d, _, rfl, gM2 hd2, by decide, fun p np => ?_⟩
  have s1 : Same H2 (upd H2 p (.lst [])) := same_upd np
  refine ne_nil (.inl (.inl (s1 _ _ hg2))) upd_same ⟨_, rfl, ?_⟩
  generalize upd H2 p (.lst []) = H3 at s1
  replace hd2 := s1 _ _ hd2
  replace hc2 := s1 _ _ hc2
  replace hg2 := s1 _ _ hg2
  replace but := but.same s1
  clear s1 np
  cases gs2 with
  | nil =>
    refine iteF (iteF ?_)
    refine ⟨.ref d, rfl, d, _, rfl, gM2 hd2, by decide, fun p np => ?_⟩
    have s1 : Same H3 (upd H3 p (.lst [])) := same_upd np
    refine ne_nil (ns := []) (.inl (.inl (s1 _ _ hg2))) upd_same ⟨_, rfl, iteF ?_⟩
    generalize upd H3 p (.lst []) = H4 at s1
    replace hd2 := s1 _ _ hd2
    replace hc2 := s1 _ _ hc2
    replace hg2 := s1 _ _ hg2
    replace but := but.same s1
    refine ⟨.ref d, rfl, d, _, rfl, gM3 hd2, spot, 1, rfl, rfl, ?_⟩
    refine ⟨_, rfl, .ref d, rfl, d, _, rfl, pM3 hd2, ?_⟩
    have hd5 : (upd H4 d (.dK (kvM (.ref c) (.ref g2) (.int ((spot : Int) + 1))))) d = some (.dK (kvM (.ref c) (.ref g2) (.int ((spot : Int) + 1)))) := upd_same
    have hc5 : (upd H4 d (.dK (kvM (.ref c) (.ref g2) (.int ((spot : Int) + 1))))) c = some (.lst (cells.map V.int)) := by rw [upd_ne ncd]; exact hc2
    have hg5 : (upd H4 d (.dK (kvM (.ref c) (.ref g2) (.int ((spot : Int) + 1))))) g2 = some (.lst ([].map V.int)) := by rw [upd_ne ngd2]; exact hg2
    have but5 : But H (upd H4 d (.dK (kvM (.ref c) (.ref g2) (.int ((spot : Int) + 1))))) d g := ⟨fun b o e n1 n2 => by rw [upd_ne n1]; exact but.st b o e n1 n2, let ⟨u, e⟩ := but.gg; ⟨u, by rw [upd_ne ngd]; exact e⟩⟩
    show tSeq _ _ _ _ (upd H4 d (.dK (kvM (.ref c) (.ref g2) (.int ((spot : Int) + 1)))))
    generalize upd H4 d (.dK (kvM (.ref c) (.ref g2) (.int ((spot : Int) + 1)))) = H5 at hd5 hc5 hg5 but5
    refine ⟨.ref d, rfl, d, _, rfl, gM1 hd5, by decide, fun p5 np5 => ?_⟩
    have s5 : Same H5 (upd H5 p5 (.lst [])) := same_upd np5
    refine ne_nil (.inl (.inl (s5 _ _ hc5))) upd_same ⟨_, rfl, ?_⟩
    generalize upd H5 p5 (.lst []) = H6 at s5
    replace hd5 := s5 _ _ hd5
    replace hc5 := s5 _ _ hc5
    replace hg5 := s5 _ _ hg5
    replace but5 := but5.same s5
    have dr : Draw H6 d g2 c (n + 1) := ⟨cells, [], spot + 1, hd5, hc5, hg5, ncg2, lc, by decide, by omega⟩
    refine ite2 (fun e => ?_) (fun e => ?_)
    · have ne : cells ≠ [] := fun x => by rw [x] at e; exact absurd e (by decide)
      have hlen : 0 < cells.length := List.length_pos_iff.mpr ne
      obtain ⟨r1, r2⟩ := fmod_range (a := (spot : Int) + 1) (t := (cells.length : Int)) (by omega)
      obtain ⟨j, hj⟩ : ∃ j : Nat, ((spot : Int) + 1).fmod (cells.length : Int) = j := ⟨_, (Int.toNat_of_nonneg r1).symm⟩
      have hjl : j < cells.length := by omega
      have ha : atI (cells.map V.int) (((spot : Int) + 1).fmod ((cells.map V.int).length : Int)) = some (.int cells[j]) := by
        rw [List.length_map, hj]
        refine atI_nat ?_
        rw [List.getElem?_map, List.getElem?_eq_getElem hjl]
        rfl
      refine ⟨.ref d, rfl, d, _, rfl, gM1 hd5, _, rfl, .inl ⟨_, rfl, .ref d, rfl, d, _, rfl, gM1 hd5, c, _, rfl, .inl (.inl (.inl hc5)), _, _, rfl, rfl, by rw [List.length_map]; omega, c, _, _, _, rfl, rfl, .inl (.inl hc5), ha, ?_⟩⟩
      refine ⟨.int cells[j], rfl, .inl ⟨cells[j], rfl, cells[j], 2147483563, rfl, rfl, (by decide : (2147483563 : Int) ≠ 0), .int ((spot : Int) + 1), rfl, 6067, (spot : Int) + 1, rfl, rfl, .inl ⟨by decide, by decide⟩, _, _, rfl, rfl, .int ((spot : Int) + 1), rfl, 59, (spot : Int) + 1, rfl, rfl, .inl ⟨by decide, by decide⟩, .int ((spot : Int) + 1), rfl, _, (spot : Int) + 1, rfl, rfl, .inr ⟨by omega, by omega⟩, _, _, rfl, rfl, .inl ⟨_, rfl, _, 40014, rfl, rfl, .inr ⟨by decide, by decide⟩, ?_⟩⟩⟩
      refine ⟨_, rfl, .inl ⟨_, rfl, _, 2147483563, rfl, rfl, (by decide : (2147483563 : Int) ≠ 0), .int ((spot : Int) + 1), rfl, 88993, (spot : Int) + 1, rfl, rfl, .inl ⟨by decide, by decide⟩, _, _, rfl, rfl, .inl ⟨_, rfl, _, 742938285, rfl, rfl, .inr ⟨by decide, by decide⟩, ?_⟩⟩⟩
      refine ⟨_, rfl, .inl ⟨_, rfl, _, 2147483549, rfl, rfl, (by decide : (2147483549 : Int) ≠ 0), _, 17, rfl, rfl, ⟨by decide, by decide⟩, .inl ⟨_, rfl, .int t, rfl, _, t, rfl, rfl, by omega, ?_⟩⟩⟩
      exact q H6 g2 _ but5 hfr dr (fmod_range t1).1 (fmod_range t1).2
    · refine ⟨.int 47, rfl, .inl ⟨47, rfl, 47, 2147483563, rfl, rfl, (by decide : (2147483563 : Int) ≠ 0), .int ((spot : Int) + 1), rfl, 6067, (spot : Int) + 1, rfl, rfl, .inl ⟨by decide, by decide⟩, _, _, rfl, rfl, .int ((spot : Int) + 1), rfl, 59, (spot : Int) + 1, rfl, rfl, .inl ⟨by decide, by decide⟩, .int ((spot : Int) + 1), rfl, _, (spot : Int) + 1, rfl, rfl, .inr ⟨by omega, by omega⟩, _, _, rfl, rfl, .inl ⟨_, rfl, _, 40014, rfl, rfl, .inr ⟨by decide, by decide⟩, ?_⟩⟩⟩
      refine ⟨_, rfl, .inl ⟨_, rfl, _, 2147483563, rfl, rfl, (by decide : (2147483563 : Int) ≠ 0), .int ((spot : Int) + 1), rfl, 88993, (spot : Int) + 1, rfl, rfl, .inl ⟨by decide, by decide⟩, _, _, rfl, rfl, .inl ⟨_, rfl, _, 742938285, rfl, rfl, .inr ⟨by decide, by decide⟩, ?_⟩⟩⟩
      refine ⟨_, rfl, .inl ⟨_, rfl, _, 2147483549, rfl, rfl, (by decide : (2147483549 : Int) ≠ 0), _, 17, rfl, rfl, ⟨by decide, by decide⟩, .inl ⟨_, rfl, .int t, rfl, _, t, rfl, rfl, by omega, ?_⟩⟩⟩
      exact q H6 g2 _ but5 hfr dr (fmod_range t1).1 (fmod_range t1).2
  | cons g0 gr =>
    have hat : atI ((g0 :: gr).map V.int) 0 = some (.int g0) := atI_nat (j := 0) rfl
    refine iteT ⟨.ref d, rfl, d, _, rfl, gM2 hd2, g2, _, 0, _, rfl, rfl, .inl (.inl hg2), hat, rfl, _, rfl, ?_⟩
    by_cases e0 : g0 = 0
    · subst e0
      refine iteT ?_
      refine ⟨fun σ H4 => ∃ g4, σ = [some (.ref d), some (.int t), none, none, none, none] ∧ H4 d = some (.dK (kvM (.ref c) (.ref g4) (.int spot))) ∧ H4 c = some (.lst (cells.map V.int)) ∧ H4 g4 = some (.lst (gr.map V.int)) ∧ c ≠ g4 ∧ gr.length ≤ 1000 ∧
          But H H4 d g ∧ (g4 = g ∨ H g4 = none), fun σ H4 hN => ?_, ?_⟩
      · obtain ⟨g4, r⟩ := hN
        exact ⟨gr.length, by rw [List.length_cons]; omega, g4, gr, rfl, r⟩
      · refine ⟨.ref d, rfl, d, _, rfl, gM2 hd2, 1, rfl, ?_⟩
        dsimp only [tNoPart]
        refine ⟨g2, _, rfl, .inl (.inl hg2), fun p np => ?_⟩
        rw [cut_ints]
        have s1 : Same H3 (upd H3 p (.lst (gr.map V.int))) := same_upd np
        have ngp : p ≠ d := fun x => by rw [x, hd2] at np; cases np
        have ncp : c ≠ p := ne_of_none hc2 np
        refine ⟨.ref d, rfl, d, _, rfl, pM2 (s1 _ _ hd2), ?_⟩
        refine ⟨p, rfl, upd_same, ?_, ?_, ncp, by rw [List.length_cons] at lg2; omega, ⟨fun b o e n1 n2 => ?_, ?_⟩, ?_⟩
        · rw [upd_ne ncd]; exact s1 _ _ hc2
        · rw [upd_ne ngp]; exact upd_same
        · rw [upd_ne n1]; exact s1 _ _ (but.st b o e n1 n2)
        · obtain ⟨u, e⟩ := but.gg
          exact ⟨u, by rw [upd_ne ngd]; exact s1 _ _ e⟩
        · by_cases hp : p = g
          · exact .inl hp
          · refine .inr ?_
            cases hq : H p with
            | none => rfl
            | some o =>
              have := but.st p o hq ngp hp
              rw [np] at this
              cases this
    · have e1 : decide (V.int g0 = V.int 0) = false := decide_eq_false (fun x => e0 (by injection x))
      rw [e1]
      refine iteF ?_
      refine ⟨.ref d, rfl, d, _, rfl, gM2 hd2, by decide, fun p np => ?_⟩
      have s1 : Same H3 (upd H3 p (.lst [])) := same_upd np
      refine ne_nil (.inl (.inl (s1 _ _ hg2))) upd_same ⟨_, rfl, iteT ?_⟩
      generalize upd H3 p (.lst []) = H4 at s1
      replace hd2 := s1 _ _ hd2
      replace hc2 := s1 _ _ hc2
      replace hg2 := s1 _ _ hg2
      replace but := but.same s1
      -- rest = int(m['great'][0])
      refine ⟨.ref d, rfl, d, _, rfl, gM2 hd2, g2, _, 0, _, rfl, rfl, .inl (.inl hg2), hat, .inl ⟨g0, rfl, ?_⟩⟩
      -- m['great'][0] = rest // total
      refine ⟨.int g0, rfl, .int t, rfl, g0, t, rfl, rfl, ⟨by omega, by have := log_small (t := t) (by omega); omega⟩, .ref d, rfl, d, _, rfl, gM2 hd2, g2, _, 0, 0, rfl, rfl, hg2, ix0 (by simp), ?_⟩
      have sw : ((g0 :: gr).map V.int).set 0 (.int (g0 / t)) = (g0 / t :: gr).map V.int := rfl
      refine ⟨.int g0, rfl, .int t, rfl, g0, t, rfl, rfl, by omega, ?_⟩
      refine q _ g2 _ ⟨fun b o e n1 n2 => ?_, ?_⟩ hfr ⟨cells, g0 / t :: gr, spot, ?_, ?_, upd_same, ncg2, lc, by rw [List.length_cons] at lg2 ⊢; exact lg2, by omega⟩ (fmod_range t1).1 (fmod_range t1).2
      · have nb : b ≠ g2 := by
          rcases hfr with x | x
          · rw [x]; exact n2
          · exact fun y => by rw [y, x] at e; cases e
        rw [upd_ne nb]; exact but.st b o e n1 n2
      · by_cases x : g = g2
        · rw [x]; exact ⟨_, upd_same⟩
        · obtain ⟨u, e⟩ := but.gg
          exact ⟨u, by rw [upd_ne x]; exact e⟩
      · rw [upd_ne (Ne.symm ngd2)]; exact hd2
      · rw [upd_ne ncg2]; exact hc2

/-! ### the draws over data -/
/-- the state of the draws: at most n drawn -/
def GD : GenP where
  D := Draw
  stab := fun {H H' d g c n} ⟨cells, greats, spot, h1, h2, h3, r⟩ e1 e2 e3 => ⟨cells, greats, spot, e1.trans h1, e3.trans h2, e2.trans h3, r⟩
  dd := fun {H d g c n} ⟨cells, greats, spot, h1, h2, h3, r⟩ => ⟨by rw [h1]; exact nofun, by rw [h3]; exact nofun, by rw [h2]; exact nofun, fun e => by rw [e, h3] at h1; cases h1⟩
  nt := fun {H d g c n xs} ⟨cells, greats, spot, h1, h2, h3, r⟩ => ⟨by rw [h1]; exact nofun, by rw [h3]; exact nofun⟩
structure W__law_next (as : List SV) (Q : QD) : Prop where
  h : ∃ (n : Nat) (t : Int), as = [.gen n, .val (.int t)] ∧ n < 2 ^ 40 ∧ 1 ≤ t ∧ t ≤ 10 ^ 30 ∧ ∀ v, 0 ≤ v → v < t → Q (.int v) (some (n + 1))
theorem lift__law_next (z : Z mg) (hD : Def K mg "_law_next" s__law_next p__law_next) : CalG P w K mg base 2 "_law_next" p__law_next (spL GD K 2 W__law_next) := by
  refine toG (cal_law_next z hD) fun vs H Q E h => ?_
  obtain ⟨F, γ, as, Qd, h1, h2, h3, _, _, h6, ⟨n, t, rfl, hn, t1, t2, q⟩, h8⟩ := h
  match vs, h2 with
  | [v1, v2], ⟨⟨p, hp, e1, dr, fc⟩, e2, _⟩ =>
    subst e1
    cases e2
    obtain ⟨f1, f2⟩ := h6 p hp
    refine ⟨p.1, p.2.1, p.2.2, n, t, rfl, dr, hn, t1, t2, fun H' g' v but fr dr' v1 v2 => ?_⟩
    have keep : ∀ a o, H a = some o → ¬ GA γ a → H' a = some o := fun a o e na => but.st a o e (fun x => na ⟨p, hp, .inl x⟩) (fun x => na ⟨p, hp, .inr x⟩)
    have sub : Same F H' := fun a o e => keep a o (h1 _ _ e) fun ⟨p', hp', x⟩ => by
      rw [hp] at hp'
      cases hp'
      rcases x with rfl | rfl
      · rw [f1] at e; cases e
      · rw [f2] at e; cases e
    obtain ⟨_, _, _, d1, _, _, _⟩ := id dr'
    refine h8 (.int v) H' F (some (p.1, g', p.2.2)) (.int v) (some (n + 1)) keep (fun a o e => ?_) (Same.refl _) sub (fun a o e => .inl e) (.int v) ⟨p, (p.1, g', p.2.2), hp, rfl, rfl, rfl, fr, dr', f1, ?_⟩ (q v v1 v2)
    · by_cases x1 : a = p.1
      · exact ⟨_, by rw [x1]; exact d1⟩
      · by_cases x2 : a = p.2.1
        · obtain ⟨u, hu⟩ := but.gg
          exact ⟨u, by rw [x2]; exact hu⟩
        · exact ⟨o, but.st a o e x1 x2⟩
    · rcases fr with x | x
      · show F g' = none
        rw [x]; exact f2
      · exact Same.free h1 x
/-- m = _law_begun(script) -/
def uBegin (i j : Nat) : US := fun Q ρ => ∃ ns, ρ[i]? = some (some (.val (.scr ns))) ∧ ns.length ≤ 63 ∧ gN ρ = none ∧ Q.nx (ρ.set j (some (.gen 0)))
theorem gN_none : ∀ {ρ : Rho}, gN ρ = none → ∀ (i n : Nat), ρ[i]? ≠ some (some (.gen n))
  | [], _, i, n => by simp
  | none :: r, h, i, n => by
    cases i with
    | zero => exact fun e => by cases e
    | succ i => exact gN_none (ρ := r) h i n
  | some (.val d) :: r, h, i, n => by
    cases i with
    | zero => exact fun e => by cases e
    | succ i => exact gN_none (ρ := r) h i n
  | some (.own d) :: r, h, i, n => by
    cases i with
    | zero => exact fun e => by cases e
    | succ i => exact gN_none (ρ := r) h i n
  | some (.gen _) :: r, h, i, n => by cases h
theorem ls_begin {B : Hp × Hp × GAt} (hB : B.2.2 = none) {i j : Nat} : LS GD K B (tAsg (tCall (spBegun K) [] E0 (tCons (tVar i) tNil)) (gName j)) (uBegin i j) := by
  intro H0 F0 γ0 fi γ σ H F ρ E Q r ⟨ns, e, hl, hg, z⟩ n _ _ _
  have g0 : γ0 = none := (FinerC.g (GP := GD) (K := K) (B := B) H0 F0).trans hB
  obtain ⟨v, e1, e2⟩ := r.val i _ e
  cases e2 with
  | @scr a _ hs =>
    refine ⟨.ref a, e1, a, ns, rfl, r.sub.seq hs, hl, fun H' d g c s nd ng nc dr => ?_⟩
    have r1 := r.same s
    obtain ⟨cells, greats, spot, h1, h2, h3, ncg, h4⟩ := id dr
    have ncd : c ≠ d := fun x => by rw [x, h1] at h2; cases h2
    obtain ⟨c1, c2, c3, c4⟩ := r.newAt nc
    obtain ⟨d1, d2, d3, d4⟩ := r.newAt nd
    obtain ⟨g1, g2, g3, g4⟩ := r.newAt ng
    have sc : Same F (upd F c (.lst (cells.map V.int))) := same_upd c1
    have own4 : ∀ {b l : _}, OwnAt (σ.set j (some (.ref d))) (ρ.set j (some (.gen 0))) b l → OwnAt σ ρ b l := fun {b l} ⟨⟨e, he⟩, h⟩ => by
      by_cases x : l = j
      · subst x; cases (set_at he).1
      · rw [set_none x] at he h; exact ⟨⟨e, he⟩, h⟩
    refine n _ _ (upd F c (.lst (cells.map V.int))) (some (d, g, c)) _ ?_ z
    have nc' : ∀ {b : Addr}, b ≠ c → upd F c (.lst (cells.map V.int)) b = F b := fun h => upd_ne h
    constructor
    · exact r1.f0.trans sc
    · intro b o x
      by_cases y : b = c
      · subst y; rw [upd_same] at x; cases x; exact h2
      · rw [nc' y] at x; exact r1.sub _ _ x
    · exact r1.keep
    · intro b o x
      by_cases y : b = c
      · subst y; exact .inr (.inl c2)
      · rw [nc' y] at x; exact r1.fnew _ _ x
    · exact r1.tr
    · rw [List.length_set, List.length_set]; exact r.len
    · intro l d' x
      by_cases y : l = j
      · subst y; cases (set_at x).1
      · rw [set_none y] at x ⊢
        obtain ⟨w, w1, w2⟩ := r.val l d' x
        exact ⟨w, w1, w2.same sc⟩
    · intro l d' x
      by_cases y : l = j
      · subst y; cases (set_at x).1
      · rw [set_none y] at x
        obtain ⟨b, b1, b2, b3, b4, b5, b6⟩ := r.own l d' x
        obtain ⟨ob, hb⟩ := b2.there
        have off : ∀ {q : Addr}, H q = none → b ≠ q := fun hq e => by rw [e, hq] at hb; cases hb
        refine ⟨b, by rw [set_none y]; exact b1, (b2.move (Same.refl _) ((s _ _ hb).trans hb.symm)).move sc rfl, (nc' (off nc)).trans b3, b4, fun ⟨p, hp, h⟩ => ?_, fun l' h => b6 l' (own4 h)⟩
        cases hp
        rcases h with h | h
        · exact off nd h
        · exact off ng h
    · intro l m x
      by_cases y : l = j
      · subst y
        obtain ⟨e3, e4⟩ := set_at x
        cases e3
        exact ⟨_, rfl, List.getElem?_set_self (by rw [r.len]; exact e4), dr, by show upd F c _ c ≠ none; rw [upd_same]; exact nofun⟩
      · rw [set_none y] at x
        exact absurd x (gN_none hg l m)
    · intro l l' m m' x y
      have at_ : ∀ {l m : Nat}, (ρ.set j (some (.gen 0)))[l]? = some (some (.gen m)) → l = j := fun {l m} h => by
        by_cases q : l = j
        · exact q
        · rw [set_none q] at h; exact absurd h (gN_none hg l m)
      rw [at_ x, at_ y]
    · intro p hp
      rw [g0] at hp; cases hp
    · intro _ p hp
      cases hp
      exact ⟨d2, g2⟩
    · intro p hp
      rw [g0] at hp; cases hp
    · intro p hp
      cases hp
      exact ⟨_, _, h1, h3, fun xs => ⟨nofun, nofun⟩⟩
    · intro p hp
      cases hp
      exact ⟨(nc' (fun e => ncd e.symm)).trans d1, (nc' (fun e => ncg e.symm)).trans g1⟩
end
end LK

namespace LK
open PySem PySem.Spec PyProof.Rows L2 CD DL


section
variable {P : Program} {w : World} {K : PySem.W.Frag} {mg : Str → Option Value} {base : Heap}
def u__law_of : US := (uRet (uOp pIxL (uVar 1) (uCall 2 W__law_next (uCons (uVar 0) (uCons (uCB pLen (uCons (uVar 1) uNil)) uNil)))))
structure W__law_of (as : List SV) (Q : QD) : Prop where
  h : Wof 2 u__law_of as Q
theorem lift__law_of (z : Z mg) (c__law_next : CalG P w K mg base 2 "_law_next" p__law_next (spL GD K 2 W__law_next)) (hD : Def K mg "_law_of" s__law_of p__law_of) : CalG P w K mg base 3 "_law_of" p__law_of (spL GD K 2 W__law_of) := by
  refine CalG.impD (hD.calD sc__law_of u__law_of fun f cdv A outer s H E hgd hr => ?_) fun as Q h => h.h
  have hu := hu_of hr
  refine ⟨_, (pss_one (ps_ret (pe_ix ix_list (pv 1) (pe_calG c__law_next hgd (hr.mono (by decide)) (by rfl) (pa_cons (pv 0) (pa_cons (pe_callB (call_len_seq) (by rfl) z.«len» (by decide +kernel) (pa_cons (pv 1) pa_nil)) pa_nil))) (fun _ _ => rfl)))), ?_⟩
  intro B
  exact (ls_ret (le_op lr_ixL (le_var 1) (le_call (la_cons (le_var 0) (la_cons (le_cb lb_len (la_cons (le_var 1) la_nil)) la_nil)))))
def u__law_scale : US := (uSeq (uPar 1 2 (uOp (pI0 fun i j => D.int (i + j)) (uC (.int 2)) (uCall 2 W__law_next (uCons (uVar 0) (uCons (uC (.int 4)) uNil)))) (uCall 2 W__law_next (uCons (uVar 0) (uCons (uC (.int 3)) uNil))))
    (uSeq (uSet 3 (uLst uNil))
    (uSeq (uFor (uiRng1 (uCons (uIfE (uTest (uOp (pI0 fun i j => D.bl (decide (j < i))) (uVar 2) (uC (.int 0)))) (uVar 1) (uOp (pI0 fun i j => D.int (i + j)) (uC (.int 1)) (uCall 2 W__law_next (uCons (uVar 0) (uCons (uC (.int 5)) uNil))))) uNil)) (ugName 4) (uSeq (uSet 5 (uOp (pI0 fun i j => D.int (i + j)) (uVar 4) (uC (.int 1))))
    (uSeq (uIfS (uTest (uOp (pI0 fun i j => D.bl (decide (i < j))) (uVar 2) (uC (.int 2)))) (uSet 5 (uCall 2 W__law_of (uCons (uVar 0) (uCons (uLst (uCons (uOp (pI0 fun i j => D.int (i + j)) (uVar 4) (uC (.int 1))) (uCons (uVar 4) (uCons (uCall 2 W__law_next (uCons (uVar 0) (uCons (uOp (pI0 fun i j => D.int (i + j)) (uOp (pI CMul fun i j => D.int (i * j)) (uC (.int 2)) (uVar 1)) (uC (.int 2))) uNil))) (uCons (uCall 2 W__law_next (uCons (uVar 0) (uCons (uC (.int 21)) uNil))) uNil))))) uNil)))) uNext)
    (uIfS (uAnd (uTest (uOp (pIn true) (uVar 5) (uVar 3))) (uTest (uOp (pI0 fun i j => D.bl (decide (i < j))) (uCB pLen (uCons (uVar 3) uNil)) (uC (.int 5))))) (uDrop (uInsert 3 (uCons (uCall 2 W__law_next (uCons (uVar 0) (uCons (uOp (pI0 fun i j => D.int (i + j)) (uCB pLen (uCons (uVar 3) uNil)) (uC (.int 1))) uNil))) (uCons (uVar 5) uNil)))) uNext))))
    (uSeq (uSet 6 (uCall 2 W__law_next (uCons (uVar 0) (uCons (uC (.int 21)) uNil))))
    (uSeq (uIfS (uAnd (uTest (uOp (pIn true) (uVar 6) (uVar 3))) (uAnd (uTest (uOp (pI0 fun i j => D.bl (decide (i < j))) (uCB pLen (uCons (uVar 3) uNil)) (uC (.int 5)))) (uTest (uOp pEq (uCall 2 W__law_next (uCons (uVar 0) (uCons (uC (.int 3)) uNil))) (uC (.int 0)))))) (uDrop (uAppend 3 (uVar 6))) uNext)
    (uRet (uTup (uCons (uVar 1) (uCons (uCB pTupOf (uCons (uVar 3) uNil)) uNil)))))))))
structure W__law_scale (as : List SV) (Q : QD) : Prop where
  h : Wof 7 u__law_scale as Q
theorem lift__law_scale (z : Z mg) (c__law_next : CalG P w K mg base 2 "_law_next" p__law_next (spL GD K 2 W__law_next)) (c__law_of : CalG P w K mg base 3 "_law_of" p__law_of (spL GD K 2 W__law_of)) (hD : Def K mg "_law_scale" s__law_scale p__law_scale) : CalG P w K mg base 4 "_law_scale" p__law_scale (spL GD K 1 W__law_scale) := by
  refine CalG.impD (hD.calD sc__law_scale u__law_scale fun f cdv A outer s H E hgd hr => ?_) fun as Q h => h.h
  have hu := hu_of hr
  refine ⟨_, (pss_cons (ps_par (i := 1) (j := 2) rfl sc__law_scale.nd rfl rfl (by decide) rfl rfl (pa_cons (pe_op op_add pe_int (pe_calG c__law_next hgd (hr.mono (by decide)) (by rfl) (pa_cons (pv 0) (pa_cons pe_int pa_nil)))) (pa_cons (pe_calG c__law_next hgd (hr.mono (by decide)) (by rfl) (pa_cons (pv 0) (pa_cons pe_int pa_nil))) pa_nil)) (by rfl))
    (pss_cons (ps_set (i := 3) sc__law_scale.nd rfl (Or.inl rfl) (pe_lst pa_nil))
    (pss_cons (ps_for PassesOwn.never rfl (pi_range1 (by rfl) z.«range» (pa_cons (pe_ifExp (pt_cmpR op_gt (pv 2) pe_int (nomark _)) (pv 1) (pe_op op_add pe_int (pe_calG c__law_next hgd (hr.mono (by decide)) (by rfl) (pa_cons (pv 0) (pa_cons pe_int pa_nil))))) pa_nil)) (pg_name (i := 4) sc__law_scale.nd rfl (Or.inl rfl)) (pss_cons (ps_set (i := 5) sc__law_scale.nd rfl (Or.inl rfl) (pe_op op_add (pv 4) pe_int))
    (pss_cons (ps_if (pt_cmpR op_lt (pv 2) pe_int (nomark _)) (pss_one (ps_set (i := 5) sc__law_scale.nd rfl (Or.inl rfl) (pe_calG c__law_of hgd (hr.mono (by decide)) (by rfl) (pa_cons (pv 0) (pa_cons (pe_lst (pa_cons (pe_op op_add (pv 4) pe_int) (pa_cons (pv 4) (pa_cons (pe_calG c__law_next hgd (hr.mono (by decide)) (by rfl) (pa_cons (pv 0) (pa_cons (pe_op op_add (pe_op op_mul pe_int (pv 1)) pe_int) pa_nil))) (pa_cons (pe_calG c__law_next hgd (hr.mono (by decide)) (by rfl) (pa_cons (pv 0) (pa_cons pe_int pa_nil))) pa_nil))))) pa_nil))))) pss_nil)
    (pss_one (ps_if (PW.pt (pw_and (pt_cmpR op_notIn_seq (pv 5) (pv 3) (by rfl)) (pw_and1 (pt_cmpR op_lt (pe_callB (call_len_seq) (by rfl) z.«len» (by decide +kernel) (pa_cons (pv 3) pa_nil)) pe_int (nomark _))))) (pss_one (ps_expr (pe_bm PySem.F.plainAttrs_list PySem.F.slot_list_insert PySem.F.type_list_insert DL.mt_insert (pv 3) (pa_cons (pe_calG c__law_next hgd (hr.mono (by decide)) (by rfl) (pa_cons (pv 0) (pa_cons (pe_op op_add (pe_callB (call_len_seq) (by rfl) z.«len» (by decide +kernel) (pa_cons (pv 3) pa_nil)) pe_int) pa_nil))) (pa_cons (pv 5) pa_nil))))) pss_nil)))))
    (pss_cons (ps_set (i := 6) sc__law_scale.nd rfl (Or.inl rfl) (pe_calG c__law_next hgd (hr.mono (by decide)) (by rfl) (pa_cons (pv 0) (pa_cons pe_int pa_nil))))
    (pss_cons (ps_if (PW.pt (pw_and (pt_cmpR op_notIn_seq (pv 6) (pv 3) (by rfl)) (pw_and (pt_cmpR op_lt (pe_callB (call_len_seq) (by rfl) z.«len» (by decide +kernel) (pa_cons (pv 3) pa_nil)) pe_int (nomark _)) (pw_and1 (pt_cmpR op_eq (pe_calG c__law_next hgd (hr.mono (by decide)) (by rfl) (pa_cons (pv 0) (pa_cons pe_int pa_nil))) pe_int (nomark _)))))) (pss_one (ps_expr (pe_bm PySem.F.plainAttrs_list PySem.F.slot_list_append PySem.F.type_list_append mt_append (pv 3) (pa_cons (pv 6) pa_nil)))) pss_nil)
    (pss_one (ps_ret (pe_tup (pa_cons (pv 1) (pa_cons (pe_callTy (call_tuple_of) (by rfl) z.«tuple» (by decide +kernel) (pa_cons (pv 3) pa_nil)) pa_nil)))))))))), ?_⟩
  intro B
  exact (ls_seq (ls_par (le_op (lr_I0 (g' := fun i j => D.int (i + j)) fun _ _ => rfl) (le_int _) (le_call (la_cons (le_var 0) (la_cons (le_int _) la_nil)))) (le_call (la_cons (le_var 0) (la_cons (le_int _) la_nil))))
    (ls_seq (ls_set (le_lst la_nil))
    (ls_seq (ls_for (li_rng1 (la_cons (le_if (lt_test (le_op (lr_I0 (g' := fun i j => D.bl (decide (j < i))) fun _ _ => rfl) (le_var 2) (le_int _))) (le_var 1) (le_op (lr_I0 (g' := fun i j => D.int (i + j)) fun _ _ => rfl) (le_int _) (le_call (la_cons (le_var 0) (la_cons (le_int _) la_nil))))) la_nil)) (lg_name 4) (ls_seq (ls_set (le_op (lr_I0 (g' := fun i j => D.int (i + j)) fun _ _ => rfl) (le_var 4) (le_int _)))
    (ls_seq (ls_if (lt_test (le_op (lr_I0 (g' := fun i j => D.bl (decide (i < j))) fun _ _ => rfl) (le_var 2) (le_int _))) (ls_set (le_call (la_cons (le_var 0) (la_cons (le_lst (la_cons (le_op (lr_I0 (g' := fun i j => D.int (i + j)) fun _ _ => rfl) (le_var 4) (le_int _)) (la_cons (le_var 4) (la_cons (le_call (la_cons (le_var 0) (la_cons (le_op (lr_I0 (g' := fun i j => D.int (i + j)) fun _ _ => rfl) (le_op (lr_I (C := CMul) (g' := fun i j => D.int (i * j)) fun _ _ => rfl) (le_int _) (le_var 1)) (le_int _)) la_nil))) (la_cons (le_call (la_cons (le_var 0) (la_cons (le_int _) la_nil))) la_nil))))) la_nil)))) ls_next)
    (ls_if (lt_and (lt_test (le_op (lr_in (neg := true)) (le_var 5) (le_var 3))) (lt_test (le_op (lr_I0 (g' := fun i j => D.bl (decide (i < j))) fun _ _ => rfl) (le_cb lb_len (la_cons (le_var 3) la_nil)) (le_int _)))) (ls_drop (le_insert (la_cons (le_call (la_cons (le_var 0) (la_cons (le_op (lr_I0 (g' := fun i j => D.int (i + j)) fun _ _ => rfl) (le_cb lb_len (la_cons (le_var 3) la_nil)) (le_int _)) la_nil))) (la_cons (le_var 5) la_nil)))) ls_next))))
    (ls_seq (ls_set (le_call (la_cons (le_var 0) (la_cons (le_int _) la_nil))))
    (ls_seq (ls_if (lt_and (lt_test (le_op (lr_in (neg := true)) (le_var 6) (le_var 3))) (lt_and (lt_test (le_op (lr_I0 (g' := fun i j => D.bl (decide (i < j))) fun _ _ => rfl) (le_cb lb_len (la_cons (le_var 3) la_nil)) (le_int _))) (lt_test (le_op lr_eq (le_call (la_cons (le_var 0) (la_cons (le_int _) la_nil))) (le_int _))))) (ls_drop (le_append (le_var 6))) ls_next)
    (ls_ret (le_tup (la_cons (le_var 1) (la_cons (le_cb lb_tupOf (la_cons (le_var 3) la_nil)) la_nil)))))))))
abbrev i_law_1 : US := (uSet 3 (uCall 1 W__law_scale (uCons (uVar 1) uNil)))
abbrev i_law_2 : US := (uSet 4 (uCall 2 W__law_spread (uCons (uVar 3) (uCons (uC (.int 700)) uNil))))
abbrev i_law_3 : US := (uSet 5 (uLc (uiRng1 (uCons (uC (.int 700)) uNil)) (ugName 10) (uTest (uOp pIsN (uOp pIxL (uVar 4) (uVar 10)) (uC .non))) (uVar 10) [10]))
abbrev i_law_4 : US := (uPar 6 7 (uCall 1 W_first_never (uCons (uVar 3) uNil)) (uCall 1 W_full_paper (uCons (uVar 3) uNil)))
abbrev i_law_5 : US := (uIfS (uAnd (uTest (uOp pNeD (uVar 5) (uLst uNil))) (uTest (uOp pNeD (uVar 6) (uOp pIxL (uVar 5) (uC (.int 0)))))) (uRet (uC (.bl false))) uNext)
abbrev i_law_6 : US := (uIfS (uAnd (uTest (uOp pEqD (uVar 5) (uLst uNil))) (uAnd (uTest (uOp pNotN (uVar 6) (uC .non))) (uTest (uOp (pI0 fun i j => D.bl (decide (i < j))) (uVar 6) (uC (.int 700)))))) (uRet (uC (.bl false))) uNext)
abbrev i_law_7 : US := (uIfS (uTest (uOp pNe (uCB pRepr (uCons (uLst (uCons (uCall 1 W_first_never (uCons (uVar 3) uNil)) (uCons (uCall 1 W_full_paper (uCons (uVar 3) uNil)) uNil))) uNil)) (uCB pRepr (uCons (uLst (uCons (uVar 6) (uCons (uVar 7) uNil))) uNil)))) (uRet (uC (.bl false))) uNext)
abbrev i_law_8 : US := (uIfS (uTest (uOp pNeD (uOp pIxT (uVar 7) (uC (.int 0))) (uIfE (uTest (uOp pIsN (uVar 6) (uC .non))) (uC (.str "full")) (uC (.str "never"))))) (uRet (uC (.bl false))) uNext)
abbrev i_law_9 : US := (uIfS (uTest (uOp pNeD (uCall 2 W_check_full (uCons (uVar 3) (uCons (uVar 7) uNil))) (uOp pIxT (uVar 7) (uC (.int 0))))) (uRet (uC (.bl false))) uNext)
abbrev i_law_10 : US := (uIfS (uAnd (uTest (uOp pNotN (uVar 6) (uC .non))) (uTest (uOp pNeD (uOp pIxT (uVar 7) (uC (.int 1))) (uVar 6)))) (uRet (uC (.bl false))) uNext)
abbrev i_law_11 : US := (uIfS (uAnd (uTest (uOp pNotN (uVar 6) (uC .non))) (uTest (uOp pNotN (uSpread (uVar 3) (uVar 6)) (uC .non)))) (uRet (uC (.bl false))) uNext)
abbrev i_law_12 : US := (uSet 9 (uCall 2 W__law_next (uCons (uVar 1) (uCons (uCall 2 W__law_of (uCons (uVar 1) (uCons (uLst (uCons (uOp (pI CPow fun i j => D.int (i ^ j.toNat)) (uC (.int 10)) (uC (.int 5))) (uCons (uOp (pI CPow fun i j => D.int (i ^ j.toNat)) (uC (.int 10)) (uC (.int 30))) uNil))) uNil))) uNil))))
abbrev i_law_13 : US := (uIfS (uOr (uTest (uOp pIsN (uSpread (uVar 3) (uVar 9)) (uC .non))) (uTest (uOp pIsN (uCall 2 W_tick_at (uCons (uVar 3) (uCons (uVar 9) uNil))) (uC .non)))) (uRet (uC (.bl false))) uNext)
abbrev i_law_14 : US := (uFor (uiRng1 (uCons (uOp (pI CMul fun i j => D.int (i * j)) (uC (.int 3)) (uCB pInt1 (uCons (uOp pIsN (uVar 6) (uC .non)) uNil))) uNil)) (ugName 8) (uSeq i_law_12
    i_law_13))
abbrev i_law_15 : US := (uFor (uiRng1 (uCons (uOp (pI0 fun i j => D.int (i + j)) (uC (.int 3)) (uCB pMin2 (uCons (uCB pLen (uCons (uVar 0) uNil)) (uCons (uC (.int 5)) uNil)))) uNil)) (ugName 2) (uSeq i_law_1
    (uSeq i_law_2
    (uSeq i_law_3
    (uSeq i_law_4
    (uSeq i_law_5
    (uSeq i_law_6
    (uSeq i_law_7
    (uSeq i_law_8
    (uSeq i_law_9
    (uSeq i_law_10
    (uSeq i_law_11
    i_law_14))))))))))))
abbrev i_law_16 : US := (uRet (uOp pIsN (uCall 1 W_first_never (uCons (uTup (uCons (uC (.int 5)) (uCons (uTup (uCons (uC (.int 1)) (uCons (uC (.int 2)) (uCons (uC (.int 3)) (uCons (uC (.int 4)) (uCons (uC (.int 5)) uNil)))))) uNil))) uNil)) (uC .non)))
def u_law : US := (uSeq (uBegin 0 1)
    (uSeq i_law_15
    i_law_16))
def W_law : WD := Wof 11 u_law
theorem lift_law (z : Z mg) (c__law_spread_at : Cal P w K mg base 102 "_law_spread_at" p__law_spread_at (spSA K 100)) (c__law_scale : CalG P w K mg base 4 "_law_scale" p__law_scale (spL GD K 1 W__law_scale)) (c__law_spread : CalG P w K mg base 2 "_law_spread" p__law_spread (spL GD K 2 W__law_spread)) (c_first_never : CalG P w K mg base 5 "first_never" p_first_never (spL GD K 1 W_first_never)) (c_full_paper : CalG P w K mg base 6 "full_paper" p_full_paper (spL GD K 1 W_full_paper)) (c_check_full : CalG P w K mg base 6 "check_full" p_check_full (spL GD K 2 W_check_full)) (c__law_next : CalG P w K mg base 2 "_law_next" p__law_next (spL GD K 2 W__law_next)) (c__law_of : CalG P w K mg base 3 "_law_of" p__law_of (spL GD K 2 W__law_of)) (c_tick_at : CalG P w K mg base 4 "tick_at" p_tick_at (spL GD K 2 W_tick_at)) (c__law_begun : Cal P w K mg base 2 "_law_begun" p__law_begun (spBegun K)) (hD : Def K mg "law" s_law p_law) : CalG P w K mg base 103 "law" p_law (spL GD K 1 fun as Q => hasG as = false ∧ W_law as Q) := by
  refine hD.calDL sc_law u_law fun f cdv A outer s H E hgd hr => ?_
  have hu := hu_of hr
  refine ⟨_, (pss_cons (ps_set (i := 1) sc_law.nd rfl (Or.inl rfl) (pe_cal c__law_begun (hr.mono (by decide)) (by rfl) (pa_cons (pv 0) pa_nil)))
    (pss_cons (ps_for PassesOwn.never rfl (pi_range1 (by rfl) z.«range» (pa_cons (pe_op op_add pe_int (pe_callB (call_min2 rfl) (by rfl) z.«min» (by decide +kernel) (pa_cons (pe_callB (call_len_seq) (by rfl) z.«len» (by decide +kernel) (pa_cons (pv 0) pa_nil)) (pa_cons pe_int pa_nil)))) pa_nil)) (pg_name (i := 2) sc_law.nd rfl (Or.inl rfl)) (pss_cons (ps_set (i := 3) sc_law.nd rfl (Or.inl rfl) (pe_calG c__law_scale hgd (hr.mono (by decide)) (by rfl) (pa_cons (pv 1) pa_nil)))
    (pss_cons (ps_set (i := 4) sc_law.nd rfl (Or.inr rfl) (pe_calG c__law_spread hgd (hr.mono (by decide)) (by rfl) (pa_cons (pv 3) (pa_cons pe_int pa_nil))))
    (pss_cons (ps_setLc (i := 5) (own := [("k", 10)]) (g := (gName 10)) rfl sc_law.nd rfl rfl (sw_true rfl rfl rfl (by decide +kernel)) (pi_range1 (by rfl) z.«range» (pa_cons pe_int pa_nil)) (blkOk_by (N := n_law) (sc := defScope s_law) (by decide +kernel)) (fun _ _ _ _ _ => (pg_name (i := 10) sc_law.nd rfl (Or.inl rfl))) (fun _ _ _ _ _ => (pts_one (pt_cmpR op_isN (pe_ix (ix_listK (K := K) rfl) (pv 4) (pv 10) (fun _ _ => rfl)) pe_non (nomark _)))) (fun _ _ _ _ _ => (pv 10)))
    (pss_cons (ps_par (i := 6) (j := 7) rfl sc_law.nd rfl rfl (by decide) rfl rfl (pa_cons (pe_calG c_first_never hgd (hr.mono (by decide)) (by rfl) (pa_cons (pv 3) pa_nil)) (pa_cons (pe_calG c_full_paper hgd (hr.mono (by decide)) (by rfl) (pa_cons (pv 3) pa_nil)) pa_nil)) (by rfl))
    (pss_cons (ps_if (PW.pt (pw_and (pt_cmpR (op_neD hr.units) (pv 5) (pe_lst pa_nil) (nomark _)) (pw_and1 (pt_cmpR (op_neD hr.units) (pv 6) (pe_ix ix_list (pv 5) pe_int (fun _ _ => rfl)) (nomark _))))) (pss_one (ps_ret pe_bl)) pss_nil)
    (pss_cons (ps_if (PW.pt (pw_and (pt_cmpR (op_eqD hr.units) (pv 5) (pe_lst pa_nil) (nomark _)) (pw_and (pt_cmpR op_notN (pv 6) pe_non (nomark _)) (pw_and1 (pt_cmpR op_lt (pv 6) pe_int (nomark _)))))) (pss_one (ps_ret pe_bl)) pss_nil)
    (pss_cons (ps_if (pt_cmpR op_ne (pe_callB (call_reprD hgd hr.units) (by rfl) z.«repr» (by decide +kernel) (pa_cons (pe_lst (pa_cons (pe_calG c_first_never hgd (hr.mono (by decide)) (by rfl) (pa_cons (pv 3) pa_nil)) (pa_cons (pe_calG c_full_paper hgd (hr.mono (by decide)) (by rfl) (pa_cons (pv 3) pa_nil)) pa_nil))) pa_nil)) (pe_callB (call_reprD hgd hr.units) (by rfl) z.«repr» (by decide +kernel) (pa_cons (pe_lst (pa_cons (pv 6) (pa_cons (pv 7) pa_nil))) pa_nil)) (nomark _)) (pss_one (ps_ret pe_bl)) pss_nil)
    (pss_cons (ps_if (pt_cmpR (op_neD hr.units) (pe_ix ix_tup (pv 7) pe_int (fun _ _ => rfl)) (pe_ifExp (pt_cmpR op_isN (pv 6) pe_non (nomark _)) pe_str pe_str) (nomark _)) (pss_one (ps_ret pe_bl)) pss_nil)
    (pss_cons (ps_if (pt_cmpR (op_neD hr.units) (pe_calG c_check_full hgd (hr.mono (by decide)) (by rfl) (pa_cons (pv 3) (pa_cons (pv 7) pa_nil))) (pe_ix ix_tup (pv 7) pe_int (fun _ _ => rfl)) (nomark _)) (pss_one (ps_ret pe_bl)) pss_nil)
    (pss_cons (ps_if (PW.pt (pw_and (pt_cmpR op_notN (pv 6) pe_non (nomark _)) (pw_and1 (pt_cmpR (op_neD hr.units) (pe_ix ix_tup (pv 7) pe_int (fun _ _ => rfl)) (pv 6) (nomark _))))) (pss_one (ps_ret pe_bl)) pss_nil)
    (pss_cons (ps_if (PW.pt (pw_and (pt_cmpR op_notN (pv 6) pe_non (nomark _)) (pw_and1 (pt_cmpR op_notN (pe_cal c__law_spread_at (hr.mono (by decide)) (by rfl) (pa_cons (pv 3) (pa_cons (pv 6) (pa_cons (pe_disp (pps_cons pe_int pe_int pps_nil) (by rfl) (by rfl) (fun z => by cases z) (by decide)) pa_nil)))) pe_non (nomark _))))) (pss_one (ps_ret pe_bl)) pss_nil)
    (pss_one (ps_for PassesOwn.never rfl (pi_range1 (by rfl) z.«range» (pa_cons (pe_op op_mul pe_int (pe_callTy (call_int1) (by rfl) z.«int» (by decide +kernel) (pa_cons (pe_cmpR op_isN (pv 6) pe_non (nomark _)) pa_nil))) pa_nil)) (pg_name (i := 8) sc_law.nd rfl (Or.inl rfl)) (pss_cons (ps_set (i := 9) sc_law.nd rfl (Or.inl rfl) (pe_calG c__law_next hgd (hr.mono (by decide)) (by rfl) (pa_cons (pv 1) (pa_cons (pe_calG c__law_of hgd (hr.mono (by decide)) (by rfl) (pa_cons (pv 1) (pa_cons (pe_lst (pa_cons (pe_op op_pow pe_int pe_int) (pa_cons (pe_op op_pow pe_int pe_int) pa_nil))) pa_nil))) pa_nil))))
    (pss_one (ps_if (PW.pt (pw_or (pt_cmpR op_isN (pe_cal c__law_spread_at (hr.mono (by decide)) (by rfl) (pa_cons (pv 3) (pa_cons (pv 9) (pa_cons (pe_disp (pps_cons pe_int pe_int pps_nil) (by rfl) (by rfl) (fun z => by cases z) (by decide)) pa_nil)))) pe_non (nomark _)) (pw_or1 (pt_cmpR op_isN (pe_calG c_tick_at hgd (hr.mono (by decide)) (by rfl) (pa_cons (pv 3) (pa_cons (pv 9) pa_nil))) pe_non (nomark _))))) (pss_one (ps_ret pe_bl)) pss_nil)))))))))))))))))
    (pss_one (ps_ret (pe_cmpR op_isN (pe_calG c_first_never hgd (hr.mono (by decide)) (by rfl) (pa_cons (pe_tup (pa_cons pe_int (pa_cons (pe_tup (pa_cons pe_int (pa_cons pe_int (pa_cons pe_int (pa_cons pe_int (pa_cons pe_int pa_nil)))))) pa_nil))) pa_nil)) pe_non (nomark _)))))), ?_⟩
  intro B hB
  exact (ls_seq (ls_begin hB)
    (ls_seq (ls_for (li_rng1 (la_cons (le_op (lr_I0 (g' := fun i j => D.int (i + j)) fun _ _ => rfl) (le_int _) (le_cb lb_min2 (la_cons (le_cb lb_len (la_cons (le_var 0) la_nil)) (la_cons (le_int _) la_nil)))) la_nil)) (lg_name 2) (ls_seq (ls_set (le_call (la_cons (le_var 1) la_nil)))
    (ls_seq (ls_set (le_call (la_cons (le_var 3) (la_cons (le_int _) la_nil))))
    (ls_seq (ls_set (le_lc (li_rng1 (la_cons (le_int _) la_nil)) (lg_name 10) (gw_name (by decide)) (lt_test (le_op lr_isN (le_op lr_ixL (le_var 4) (le_var 10)) le_non)) (le_var 10)))
    (ls_seq (ls_par (le_call (la_cons (le_var 3) la_nil)) (le_call (la_cons (le_var 3) la_nil)))
    (ls_seq (ls_if (lt_and (lt_test (le_op lr_neD (le_var 5) (le_lst la_nil))) (lt_test (le_op lr_neD (le_var 6) (le_op lr_ixL (le_var 5) (le_int _))))) (ls_ret (le_bl _)) ls_next)
    (ls_seq (ls_if (lt_and (lt_test (le_op lr_eqD (le_var 5) (le_lst la_nil))) (lt_and (lt_test (le_op lr_notN (le_var 6) le_non)) (lt_test (le_op (lr_I0 (g' := fun i j => D.bl (decide (i < j))) fun _ _ => rfl) (le_var 6) (le_int _))))) (ls_ret (le_bl _)) ls_next)
    (ls_seq (ls_if (lt_test (le_op lr_ne (le_cb lb_repr (la_cons (le_lst (la_cons (le_call (la_cons (le_var 3) la_nil)) (la_cons (le_call (la_cons (le_var 3) la_nil)) la_nil))) la_nil)) (le_cb lb_repr (la_cons (le_lst (la_cons (le_var 6) (la_cons (le_var 7) la_nil))) la_nil)))) (ls_ret (le_bl _)) ls_next)
    (ls_seq (ls_if (lt_test (le_op lr_neD (le_op lr_ixT (le_var 7) (le_int _)) (le_if (lt_test (le_op lr_isN (le_var 6) le_non)) (le_str _) (le_str _)))) (ls_ret (le_bl _)) ls_next)
    (ls_seq (ls_if (lt_test (le_op lr_neD (le_call (la_cons (le_var 3) (la_cons (le_var 7) la_nil))) (le_op lr_ixT (le_var 7) (le_int _)))) (ls_ret (le_bl _)) ls_next)
    (ls_seq (ls_if (lt_and (lt_test (le_op lr_notN (le_var 6) le_non)) (lt_test (le_op lr_neD (le_op lr_ixT (le_var 7) (le_int _)) (le_var 6)))) (ls_ret (le_bl _)) ls_next)
    (ls_seq (ls_if (lt_and (lt_test (le_op lr_notN (le_var 6) le_non)) (lt_test (le_op lr_notN (le_spread (le_var 3) (le_var 6)) le_non))) (ls_ret (le_bl _)) ls_next)
    (ls_for (li_rng1 (la_cons (le_op (lr_I (C := CMul) (g' := fun i j => D.int (i * j)) fun _ _ => rfl) (le_int _) (le_cb lb_int1 (la_cons (le_op lr_isN (le_var 6) le_non) la_nil))) la_nil)) (lg_name 8) (ls_seq (ls_set (le_call (la_cons (le_var 1) (la_cons (le_call (la_cons (le_var 1) (la_cons (le_lst (la_cons (le_op (lr_I (C := CPow) (g' := fun i j => D.int (i ^ j.toNat)) fun _ _ => rfl) (le_int _) (le_int _)) (la_cons (le_op (lr_I (C := CPow) (g' := fun i j => D.int (i ^ j.toNat)) fun _ _ => rfl) (le_int _) (le_int _)) la_nil))) la_nil))) la_nil))))
    (ls_if (lt_or (lt_test (le_op lr_isN (le_spread (le_var 3) (le_var 9)) le_non)) (lt_test (le_op lr_isN (le_call (la_cons (le_var 3) (la_cons (le_var 9) la_nil))) le_non))) (ls_ret (le_bl _)) ls_next)))))))))))))))
    (ls_ret (le_op lr_isN (le_call (la_cons (le_tup (la_cons (le_int _) (la_cons (le_tup (la_cons (le_int _) (la_cons (le_int _) (la_cons (le_int _) (la_cons (le_int _) (la_cons (le_int _) la_nil)))))) la_nil))) la_nil)) le_non))))
end
end LK
namespace LK
open PySem PySem.Spec PyProof.Rows L2 CD DL
/-! ### who is told: mathematics -/
section
variable {N : Int} {ads : List Int}
theorem leastO_ne {l : List Int} (h : l ≠ []) : leastO l ≠ none := fun e => h (leastO_none e)
theorem told_of (S : IsSc N ads) {n a : Int} (h : 1 ≤ n) (ha : a ∈ ads) (h1 : a ≤ n) (h2 : (n - a) % N = 0) (h3 : tk N ads ((n - a) / N) ≠ none) : tk N ads n ≠ none := by
  rw [tk_calls S h]
  apply leastO_ne
  obtain ⟨j, hj, rfl⟩ := List.mem_iff_getElem.mp ha
  have hm : (ads[j], j) ∈ ads.zipIdx := by
    rw [List.mem_zipIdx_iff_getElem?]
    exact List.getElem?_eq_getElem hj
  intro e
  have z := List.filterMap_eq_nil_iff.mp e _ hm
  unfold callT at z
  rw [if_pos ⟨h1, h2⟩] at z
  cases q : tk N ads ((n - ads[j]) / N) with
  | none => exact h3 q
  | some v => simp only [q] at z; cases z
theorem told_by (S : IsSc N ads) {n : Int} (h : 1 ≤ n) (t : tk N ads n ≠ none) : ∃ a ∈ ads, a ≤ n ∧ (n - a) % N = 0 ∧ tk N ads ((n - a) / N) ≠ none := by
  rw [tk_calls S h] at t
  have ne : ads.zipIdx.filterMap (callT N ads n) ≠ [] := fun e => t (by rw [e]; rfl)
  obtain ⟨x, hx⟩ := List.exists_mem_of_ne_nil _ ne
  obtain ⟨⟨a, j⟩, hm, hc⟩ := List.mem_filterMap.mp hx
  unfold callT at hc
  split at hc
  · rename_i c
    refine ⟨a, ?_, c.1, c.2, fun e => ?_⟩
    · rw [List.mem_zipIdx_iff_getElem?] at hm
      exact List.mem_of_getElem? hm
    · dsimp only at e hc
      rw [e] at hc; cases hc
  · cases hc
/-- the greatest add -/
def mx (ads : List Int) : Int := ads.foldl max 0
theorem foldl_max_ge : ∀ (l : List Int) (b : Int), b ≤ l.foldl max b ∧ ∀ a ∈ l, a ≤ l.foldl max b
  | [], b => ⟨Int.le_refl _, fun a h => by cases h⟩
  | x :: r, b => by
    obtain ⟨h1, h2⟩ := foldl_max_ge r (max b x)
    rw [List.foldl_cons]
    refine ⟨by omega, fun a ha => ?_⟩
    rcases List.mem_cons.mp ha with rfl | h
    · omega
    · exact h2 a h
theorem foldl_max_le : ∀ (l : List Int) (b m : Int), b ≤ m → (∀ a ∈ l, a ≤ m) → l.foldl max b ≤ m
  | [], b, m, h, _ => h
  | x :: r, b, m, h, k => by
    rw [List.foldl_cons]
    refine foldl_max_le r _ m ?_ fun a ha => k a (List.mem_cons_of_mem _ ha)
    have := k x List.mem_cons_self
    omega
theorem mx_ge {a : Int} (h : a ∈ ads) : a ≤ mx ads := (foldl_max_ge ads 0).2 a h
theorem mx_le (S : IsSc N ads) : 0 ≤ mx ads ∧ mx ads ≤ 20 := ⟨(foldl_max_ge ads 0).1, foldl_max_le ads 0 20 (by decide) fun a h => (S.rng a h).2⟩
/-- back_of -/
def bk (N : Int) (ads : List Int) : Int := mx ads / (N - 1)
theorem bk_rng (S : IsSc N ads) : 0 ≤ bk N ads ∧ bk N ads ≤ 20 ∧ bk N ads * (N - 1) ≤ mx ads ∧ mx ads < (bk N ads + 1) * (N - 1) := by
  obtain ⟨m0, m1⟩ := mx_le S
  have d2 := S.d2
  have d5 := S.d5
  unfold bk
  have hN : N = 2 ∨ N = 3 ∨ N = 4 ∨ N = 5 := by omega
  rcases hN with h | h | h | h <;> subst h <;> simp only [Int.reduceSub] <;> omega
abbrev dc (N : Int) (ads : List Int) : Int := N * (bk N ads + 1)
theorem dc_rng (S : IsSc N ads) : N ≤ dc N ads ∧ dc N ads ≤ 105 := by
  obtain ⟨b0, b1, _, _⟩ := bk_rng S
  have d2 := S.d2
  have d5 := S.d5
  unfold dc
  have hN : N = 2 ∨ N = 3 ∨ N = 4 ∨ N = 5 := by omega
  rcases hN with h | h | h | h <;> subst h <;> omega
/-- the first dc people are told -/
def Full (N : Int) (ads : List Int) : Prop := ∀ k : Int, 0 ≤ k → k < dc N ads → tk N ads k ≠ none
theorem bk_one (S : IsSc N ads) (h : Full N ads) : 1 ≤ bk N ads := by
  obtain ⟨b0, b1, b2, b3⟩ := bk_rng S
  have d2 := S.d2
  have d5 := S.d5
  refine Decidable.byContradiction fun c => ?_
  have e : bk N ads = 0 := by omega
  have b4 : mx ads < N - 1 := by rw [e] at b3; omega
  have t := h (N - 1) (by omega) (by unfold dc; rw [e]; omega)
  obtain ⟨a, ha, a1, a2, _⟩ := told_by S (by omega) t
  have a3 := (S.rng a ha).1
  have a4 := mx_ge ha
  rw [Int.emod_eq_of_lt (by omega) (by omega)] at a2
  omega
/-- each rest is called -/
theorem full_rest (S : IsSc N ads) (h : Full N ads) (r : Int) (h0 : 0 ≤ r) (h1 : r < N) : ∃ a ∈ ads, a ≤ N * bk N ads + r ∧ (r - a) % N = 0 := by
  have o := bk_one S h
  have d2 := S.d2
  have d5 := S.d5
  have p : N * bk N ads + r < dc N ads := by
    unfold dc
    have : N * (bk N ads + 1) = N * bk N ads + N := by rw [Int.mul_add, Int.mul_one]
    omega
  have q : 1 ≤ N * bk N ads + r := by
    have : N * 1 ≤ N * bk N ads := Int.mul_le_mul_of_nonneg_left o (by omega)
    omega
  obtain ⟨a, ha, a1, a2, _⟩ := told_by S q (h _ (by omega) p)
  refine ⟨a, ha, a1, ?_⟩
  have e : N * bk N ads + r - a = r - a + N * bk N ads := by omega
  rw [e, Int.add_mul_emod_self_left] at a2
  exact a2
theorem all_told (S : IsSc N ads) (h : Full N ads) : ∀ (m : Nat) (n : Int), n ≤ m → 0 ≤ n → tk N ads n ≠ none
  | 0, n, h1, h0 => by
    obtain rfl : n = 0 := by omega
    rw [tk_zero]; exact fun e => by cases e
  | m + 1, n, h1, h0 => by
    have d2 := S.d2
    have d5 := S.d5
    by_cases c : n < dc N ads
    · exact h n h0 c
    · have o := bk_one S h
      have g := dc_rng S
      have r0 : 0 ≤ n % N := Int.emod_nonneg _ (by omega)
      have r1 : n % N < N := Int.emod_lt_of_pos _ (by omega)
      obtain ⟨a, ha, a1, a2⟩ := full_rest S h (n % N) r0 r1
      have dn : dc N ads = N * bk N ads + N := by unfold dc; rw [Int.mul_add, Int.mul_one]
      have an : a ≤ n := by omega
      have e : (n - a) % N = 0 := by
        rw [← Int.emod_emod_of_dvd (n - a) (Int.dvd_refl N)]
        rw [Int.emod_emod_of_dvd _ (Int.dvd_refl N)]
        have : n - a = (n % N - a) + N * (n / N) := by have := Int.emod_add_mul_ediv n N; omega
        rw [this, Int.add_mul_emod_self_left]
        exact a2
      have a3 := (S.rng a ha).1
      have hN : N = 2 ∨ N = 3 ∨ N = 4 ∨ N = 5 := by omega
      have lt : (n - a) / N < n ∧ 0 ≤ (n - a) / N := by rcases hN with h | h | h | h <;> subst h <;> omega
      exact told_of S (by omega) ha an e (all_told S h m _ (by omega) lt.2)
end
end LK
namespace LK
open PySem PySem.Spec PyProof.Rows L2 CD DL
section
variable {N : Int} {ads : List Int}
theorem w_int {i : Int} {Q : QD} (q : Q (.bl true) none) : W_is_integer [.val (.int i)] Q := ⟨⟨by decide, by decide, q⟩⟩
theorem w_num {i lo hi : Int} {Q : QD} (h0 : lo ≤ i) (h1 : i ≤ hi) (q : Q (.bl true) none) : W_is_number [.val (.int i), .val (.int lo), .val (.int hi)] Q := by
  have q2 : Q (.bl (decide (i ≤ hi))) none := by rw [decide_eq_true h1]; exact q
  refine ⟨rfl, rfl, w_int ?_⟩
  conv => whnf
  exact drec (fun _ => q2) (fun e => absurd (decide_eq_true h0) e)
theorem w_back_of (S : IsSc N ads) {Q : QD} (q : Q (.int (bk N ads)) none) : W_back_of [.val (rD N ads)] Q := by
  obtain ⟨a, r, rfl⟩ : ∃ a r, ads = a :: r := by
    cases ads with
    | nil => have := S.one; simp at this
    | cons a r => exact ⟨a, r, rfl⟩
  have e : bk N (a :: r) = (r.foldl max a).fdiv (N - 1) := by
    unfold bk mx
    rw [List.foldl_cons, Int.fdiv_eq_ediv_of_nonneg _ (by have := S.d2; omega)]
    have := (S.rng a List.mem_cons_self).1
    rw [show max 0 a = a by omega]
  rw [e] at q
  have d2 := S.d2
  have d5 := S.d5
  refine ⟨?_⟩
  refine ⟨rfl, a, r, rfl, ?_⟩
  conv => whnf
  refine ⟨⟨by omega, by omega⟩, q⟩
theorem w_decisive (S : IsSc N ads) {Q : QD} (q : Q (.int (dc N ads)) none) : W__decisive [.val (rD N ads)] Q := by
  refine ⟨?_⟩
  have d2 := S.d2
  have d5 := S.d5
  refine ⟨rfl, rfl, rfl, w_back_of S ?_⟩
  conv => whnf
  exact ⟨.inl ⟨by omega, by omega⟩, q⟩
def bit (N : Int) (ads : List Int) (k : Nat) : Int := if tk N ads (k : Int) = none then 0 else 1
def bits (N : Int) (ads : List Int) (m : Nat) : List Int := (List.range m).map (bit N ads)
theorem w_ticks (S : IsSc N ads) {ns : List Int} {ds : List D} {Q : QD} (e : ds = ns.map D.int) (hl : ns.length ≤ 200) (hn : ∀ n ∈ ns, 0 ≤ n ∧ n ≤ 10 ^ 30) (q : ∀ kvs : List (Key × D), (∀ n ∈ ns, lkD kvs (.inl n) = some (oD (tk N ads n))) → Q (.dk kvs) none) :
    W_ticks_of [.val (rD N ads), .val (.list ds)] Q := ⟨N, ads, ns, by rw [e], S, hl, hn, q⟩
theorem rg_ints (n : Nat) : rgD 0 n = ((List.range n).map fun i : Nat => (i : Int)).map D.int := by
  unfold rgD
  rw [List.map_map]
  exact List.map_congr_left fun i _ => by show D.int (0 + (i : Int)) = D.int i; rw [Int.zero_add]
theorem le_1030 {n : Int} (h : n ≤ 1000) : n ≤ 10 ^ 30 := Int.le_trans h (by decide)
theorem oD_non (o : Option Int) : isNon (oD o) = decide (o = none) := by cases o <;> rfl
theorem w_told_bits (S : IsSc N ads) {m : Int} {Q : QD} (h0 : 0 ≤ m) (h1 : m ≤ 105) (q : Q (.list ((bits N ads m.toNat).map .int)) none) : W_told_bits [.val (rD N ads), .val (.int m)] Q := by
  refine ⟨?_⟩
  conv => whnf
  refine ⟨RgOk.of_le (by decide) (by omega) (by decide) h0, rfl, rfl, w_ticks S (rg_ints _) (by rw [List.length_map, List.length_range]; omega) (fun n hn => ?_) fun kvs hk => ?_⟩
  · obtain ⟨i, hi, rfl⟩ := List.mem_map.mp hn
    have := List.mem_range.mp hi
    exact ⟨by omega, le_1030 (by omega)⟩
  · conv => whnf
    refine ⟨by omega, by omega, ?_⟩
    show goLc _ _ _ _ _ (rgD 0 m.toNat) [] _
    rw [rg_ints]
    refine goLc_map (f := fun d => match d with | .int k => .int (bit N ads k.toNat) | d => d) (fun d => ∃ i : Nat, d = .int i ∧ i < m.toNat) rfl (fun d K hd hK => ?_) _ [] (fun d hd => ?_) (by rw [sizeLine_eq]; simp; omega) ?_
    · obtain ⟨i, rfl, hi⟩ := hd
      have hk' := hk i (List.mem_map.mpr ⟨i, List.mem_range.mpr hi, rfl⟩)
      conv => whnf
      have el : lkA (.dk kvs) (.int (i : Int)) = .some (oD (tk N ads i)) := by
        show (match lkD kvs (Sum.inl (i : Int)) with | some d => LkA.some d | none => LkA.none) = _
        rw [hk']
      rw [el]
      have hK : K (RV.val (D.int (bit N ads i))) _ := hK
      unfold bit at hK
      cases c : tk N ads (i : Int) with
      | none => rw [c, if_pos rfl] at hK; exact hK
      | some v => rw [c, if_neg (fun x => by cases x)] at hK; exact hK
    · obtain ⟨i, hi, rfl⟩ := List.mem_map.mp hd
      obtain ⟨j, hj, rfl⟩ := List.mem_map.mp hi
      exact ⟨j, rfl, List.mem_range.mp hj⟩
    · rw [List.nil_append, List.map_map, List.map_map]
      unfold bits at q
      rw [List.map_map] at q
      exact q
/-! ### first_never, full_paper -/
theorem inF_ints (n : Int) : ∀ ns : List Int, inF (.int n) (ns.map D.int) = some (decide (n ∈ ns))
  | [] => by simp [inF]
  | x :: r => by
    rw [List.map_cons]
    unfold inF
    rw [inF_ints n r]
    show some (decide (x = n) || decide (n ∈ r)) = some (decide (n ∈ x :: r))
    by_cases c : x = n
    · simp [c]
    · have c' : ¬ n = x := fun e => c e.symm
      simp [c, c']
def never (N : Int) (ads : List Int) : Option Nat := firstAt 0 (bits N ads (dc N ads).toNat)
def nD : Option Nat → D
  | none => .non
  | some j => .int (j : Nat)
theorem firstAt_none {n : Int} : ∀ {l : List Int}, firstAt n l = none → n ∉ l
  | [], _, h => by cases h
  | x :: r, e, h => by
    unfold firstAt at e
    split at e
    · cases e
    · rename_i c
      rcases List.mem_cons.mp h with rfl | h
      · exact c rfl
      · exact firstAt_none (Option.map_eq_none_iff.mp e) h
theorem firstAt_mem {n : Int} {l : List Int} {j : Nat} (e : firstAt n l = some j) : n ∈ l := List.mem_of_getElem? (firstAt_ok e).1
theorem w_first_never (S : IsSc N ads) {Q : QD} (q : Q (nD (never N ads)) none) : W_first_never [.val (rD N ads)] Q := by
  have g := dc_rng S
  have d2 := S.d2
  refine ⟨?_⟩
  refine ⟨rfl, rfl, ⟨N, ads, rfl, S, ?_⟩⟩
  conv => whnf
  refine ⟨rfl, rfl, w_decisive S ?_⟩
  conv => whnf
  refine ⟨rfl, rfl, w_told_bits S (by omega) (by omega) ?_⟩
  conv => whnf
  refine ⟨rfl, ?_⟩
  conv => whnf
  rw [inF_ints]
  unfold never at q
  cases c : firstAt 0 (bits N ads (dc N ads).toNat) with
  | none =>
    rw [decide_eq_false (firstAt_none c)]
    rw [c] at q
    exact q
  | some j =>
    rw [decide_eq_true (firstAt_mem c)]
    rw [c] at q
    exact ⟨bits N ads (dc N ads).toNat, rfl, rfl, 0, j, rfl, c, q⟩
/-- the table of one row -/
abbrev ones (m : Nat) : D := .tup (List.replicate m (D.int 1))
def paper (N : Int) (ads : List Int) : D := match never N ads with
  | some j => .tup [.str "never", .int (j : Nat)]
  | none => .tup [.str "full", .tup [ones ((bk N ads).toNat + 1)]]
theorem w_full_paper (S : IsSc N ads) {Q : QD} (q : Q (paper N ads) none) : W_full_paper [.val (rD N ads)] Q := by
  obtain ⟨b0, b1, _, _⟩ := bk_rng S
  refine ⟨?_⟩
  refine ⟨rfl, rfl, w_first_never S ?_⟩
  unfold paper at q
  cases c : never N ads with
  | some j =>
    rw [c] at q
    exact ⟨sz rfl, q⟩
  | none =>
    rw [c] at q
    refine ⟨sz rfl, rfl, rfl, w_back_of S ?_⟩
    refine ⟨by simp, by omega, by omega, by decide, ?_⟩
    have e : (List.replicate (bk N ads + 1).toNat [D.int 1]).flatten = List.replicate ((bk N ads).toNat + 1) (D.int 1) := by
      rw [show (bk N ads + 1).toNat = (bk N ads).toNat + 1 by omega]
      generalize (bk N ads).toNat + 1 = n
      induction n with
      | zero => rfl
      | succ n ih => rw [List.replicate_succ, List.flatten_cons, ih, List.replicate_succ]; rfl
    rw [e]
    exact ⟨sz rfl, sz rfl, q⟩
theorem bits_at {m j : Nat} (h : j < m) : (bits N ads m)[j]? = some (bit N ads j) := by
  unfold bits
  rw [List.getElem?_map, List.getElem?_range h]
  rfl
theorem never_some (S : IsSc N ads) {j : Nat} (h : never N ads = some j) : tk N ads j = none ∧ (j : Int) < dc N ads := by
  obtain ⟨h1, _⟩ := firstAt_ok h
  have g := dc_rng S
  have hl : j < (dc N ads).toNat := by
    have := (List.getElem?_eq_some_iff.mp h1).1
    unfold bits at this
    rwa [List.length_map, List.length_range] at this
  rw [bits_at hl] at h1
  have h2 : bit N ads j = 0 := Option.some.inj h1
  unfold bit at h2
  refine ⟨?_, by omega⟩
  by_cases c : tk N ads j = none
  · exact c
  · rw [if_neg c] at h2; cases h2
theorem never_first (S : IsSc N ads) {j i : Nat} (h : never N ads = some j) (hi : i < j) : tk N ads i ≠ none := by
  obtain ⟨h1, h2⟩ := firstAt_ok h
  have hl : j < (dc N ads).toNat := by
    have := (List.getElem?_eq_some_iff.mp h1).1
    unfold bits at this
    rwa [List.length_map, List.length_range] at this
  have := h2 i _ hi (bits_at (by omega))
  unfold bit at this
  intro e
  rw [if_pos e] at this
  exact this rfl
theorem never_none (S : IsSc N ads) (h : never N ads = none) : Full N ads := by
  have z := firstAt_none h
  intro k h0 h1 e
  apply z
  refine List.mem_of_getElem? (i := k.toNat) ?_
  rw [bits_at (by omega)]
  unfold bit
  rw [Int.toNat_of_nonneg h0, if_pos e]
theorem bits_full (S : IsSc N ads) (h : Full N ads) : bits N ads (dc N ads).toNat = List.replicate (dc N ads).toNat 1 := by
  have g := dc_rng S
  apply List.ext_getElem?
  intro i
  by_cases c : i < (dc N ads).toNat
  · rw [bits_at c, List.getElem?_replicate_of_lt c]
    unfold bit
    rw [if_neg (h i (by omega) (by omega))]
  · rw [List.getElem?_eq_none (by unfold bits; rw [List.length_map, List.length_range]; omega), List.getElem?_eq_none (by rw [List.length_replicate]; omega)]
end
end LK
namespace LK
open PySem PySem.Spec PyProof.Rows L2 CD DL
section
variable {N : Int} {ads : List Int}
theorem lk_dk {kvs : List (Key × D)} {n : Int} {d : D} (h : lkD kvs (.inl n) = some d) : lkA (.dk kvs) (.int n) = .some d := by
  show (match lkD kvs (Sum.inl n) with | some d => LkA.some d | none => LkA.none) = _
  rw [h]
theorem w_is_never (S : IsSc N ads) {j : Int} {Q : QD} (h0 : 0 ≤ j) (h1 : j ≤ 1000) (e : tk N ads j = none) (q : Q (.bl true) none) : W__is_never [.val (rD N ads), .val (.int j)] Q := by
  refine ⟨?_⟩
  refine ⟨rfl, rfl, w_num h0 (le_1030 h1) ?_⟩
  conv => whnf
  refine ⟨sz rfl, rfl, rfl, w_ticks S (ns := [j]) rfl (by simp) (fun n hn => ?_) fun kvs hk => ?_⟩
  · rw [List.mem_singleton.mp hn]
    exact ⟨h0, le_1030 h1⟩
  · have hk' := lk_dk (hk j List.mem_cons_self)
    rw [e] at hk'
    conv => whnf
    rw [hk']
    exact q
theorem all_ones (m : Nat) : (List.replicate m (D.int 1)).map (fun _ => D.bl true) = (List.replicate m true).map D.bl := by simp
theorem all_true (m : Nat) : (List.replicate m true).all id = true := by
  induction m with
  | zero => rfl
  | succ m ih => rw [List.replicate_succ, List.all_cons, ih]; rfl
theorem lc_ones {a b : Option SV} {k : List D → Rho → Prop} {m : Nat} (h2 : m ≤ 100) (q : k ((List.replicate m true).map D.bl) [a, b, none]) :
    goLc (ugName 2) uYes (uCall 3 W_is_number (uCons (uVar 2) (uCons (uC (.int 0)) (uCons (uC (.int 1)) uNil)))) [2] k (List.replicate m (D.int 1)) [] [a, b, none] := by
  refine goLc_map (f := fun _ => .bl true) (fun d => d = .int 1) rfl (fun d K hd hK => ?_) _ [] (fun d hd => (List.mem_replicate.mp hd).2) (by rw [sizeLine_eq, List.length_replicate]; simp; omega) ?_
  · subst hd
    exact ⟨rfl, rfl, w_num (by decide) (by decide) hK⟩
  · rw [List.nil_append, all_ones]
    exact q
theorem atI_rep {m : Nat} {x : D} {i : Int} (h0 : 0 ≤ i) (h1 : i < m) : atI (List.replicate m x) i = some x := by
  obtain ⟨j, rfl⟩ : ∃ j : Nat, i = (j : Int) := ⟨i.toNat, by omega⟩
  refine atI_nat ?_
  rw [List.getElem?_replicate_of_lt (by omega)]
theorem w_is_row {m : Nat} {Q : QD} (h1 : 1 ≤ m) (h2 : m ≤ 100) (q : Q (.bl true) none) : W__is_row [.val (ones m), .val (.int m)] Q := by
  refine ⟨?_⟩
  refine ⟨by decide, ?_⟩
  conv => whnf
  refine drec (fun e => ?_) (fun _ => ?_)
  · rw [List.length_replicate, decide_eq_true rfl] at e
    cases e
  · refine lc_ones h2 ?_
    refine ⟨_, rfl, ?_⟩
    rw [all_true]
    conv => whnf
    rw [atI_rep (by decide) (by omega)]
    exact q
theorem w_asc {x : D} {Q : QD} (q : Q (.bl true) none) : W_is_ascending [.val (.tup [x])] Q := by
  refine ⟨?_⟩
  conv => whnf
  exact ⟨[], rfl, q⟩
theorem map_const_rg {x : D} {lo : Int} {n : Nat} : (rgD lo n).map (fun _ => x) = List.replicate n x := by
  rw [List.map_const']
  rw [rg_len]
theorem rg_mem {lo : Int} {n : Nat} {d : D} (h : d ∈ rgD lo n) : ∃ i : Int, d = .int i ∧ lo ≤ i ∧ i < lo + n := by
  obtain ⟨i, hi, rfl⟩ := List.mem_map.mp h
  have := List.mem_range.mp hi
  exact ⟨_, rfl, by omega, by omega⟩
theorem w_rows_of {n s : Nat} {Q : QD} (h1 : s ≤ n) (h2 : n ≤ 105) (q : Q (.list (List.replicate (n - s) (ones s))) none) : W_rows_of [.val (.list (List.replicate n (D.int 1))), .val (.int s)] Q := by
  refine ⟨?_⟩
  have el : ((List.replicate n (D.int 1)).length : Int) = n := by rw [List.length_replicate]
  conv => whnf
  rw [el]
  refine ⟨⟨by omega, by omega, by omega, by omega⟩, ?_⟩
  show goLc _ _ _ _ _ (rgD s ((n : Int) - s).toNat) [] _
  rw [show ((n : Int) - s).toNat = n - s by omega]
  refine goLc_map (f := fun _ => ones s) (fun d => ∃ i : Int, d = .int i ∧ (s : Int) ≤ i ∧ i < n) rfl (fun d K hd hK => ?_) _ [] (fun d hd => ?_) (by rw [sizeLine_eq, rg_len]; simp; omega) ?_
  · obtain ⟨i, rfl, i0, i1⟩ := hd
    conv => whnf
    refine ⟨by omega, by omega, ?_⟩
    show goLc _ _ _ _ _ (rgD 0 ((s : Int)).toNat) [] _
    rw [Int.toNat_natCast]
    refine goLc_map (f := fun _ => .int 1) (fun d => ∃ b : Int, d = .int b ∧ 0 ≤ b ∧ b < s) rfl (fun d K hd hK => ?_) _ [] (fun d hd => ?_) (by rw [sizeLine_eq, rg_len]; simp; omega) ?_
    · obtain ⟨b, rfl, b0, b1⟩ := hd
      conv => whnf
      rw [atI_rep (by omega) (by omega)]
      exact hK
    · obtain ⟨b, rfl, b0, b1⟩ := rg_mem hd
      exact ⟨b, rfl, b0, by omega⟩
    · rw [List.nil_append, map_const_rg]
      exact hK
  · obtain ⟨i, rfl, i0, i1⟩ := rg_mem hd
    exact ⟨i, rfl, i0, by omega⟩
  · rw [List.nil_append, map_const_rg]
    exact q
abbrev hit (N b a : Int) : Bool := decide ((b + a).fmod N = 0)
theorem lc_called {d1 : D} {N b : Int} {m : Nat} {k : List D → Rho → Prop} (hN : 2 ≤ N) : ∀ (as : List Int) (acc : List D), (∀ a ∈ as, hit N b a = true → 0 ≤ (b + a).fdiv N ∧ (b + a).fdiv N < m) → N ≤ 5 → acc.length + as.length ≤ 100 →
    k (acc ++ ((as.filter (hit N b)).map fun _ => true).map D.bl) [some (.val (.int N)), some (.val d1), some (.val (ones m)), some (.val (.int b)), none] →
    goLc (ugName 4) (uTest (uOp pEq (uOp (pI (fun _ j => j ≠ 0) fun i j => D.int (i.fmod j)) (uOp (pI0 fun i j => D.int (i + j)) (uVar 3) (uVar 4)) (uVar 0)) (uC (.int 0)))) (uOp pEq (uOp pIxT (uVar 2) (uOp (pI CDivN fun i j => D.int (i.fdiv j)) (uOp (pI0 fun i j => D.int (i + j)) (uVar 3) (uVar 4)) (uVar 0))) (uC (.int 1))) [4] k (as.map D.int) acc [some (.val (.int N)), some (.val d1), some (.val (ones m)), some (.val (.int b)), none]
  | [], acc, _, _, _, q => by
    rw [List.filter_nil, List.map_nil, List.map_nil, List.append_nil] at q
    exact q
  | a :: r, acc, h, h5, hl, q => by
    rw [List.length_cons] at hl
    rw [List.map_cons]
    refine ⟨rfl, ?_⟩
    conv => whnf
    refine ⟨by omega, ?_⟩
    conv => whnf
    refine drec (fun c => ?_) (fun c => ?_)
    · obtain ⟨f0, f1⟩ := h a List.mem_cons_self c
      conv => whnf
      refine ⟨⟨by omega, by omega⟩, ?_⟩
      conv => whnf
      rw [atI_rep f0 f1]
      refine ⟨by rw [sizeLine_eq]; omega, ?_⟩
      refine lc_called hN r (acc ++ [.bl true]) (fun x hx => h x (List.mem_cons_of_mem _ hx)) h5 (by rw [List.length_append, List.length_singleton]; omega) ?_
      rw [List.filter_cons, if_pos c] at q
      rw [List.append_assoc]
      exact q
    · refine lc_called hN r acc (fun x hx => h x (List.mem_cons_of_mem _ hx)) h5 (by omega) ?_
      rw [List.filter_cons, if_neg c] at q
      exact q
theorem w_called {b : Int} {m : Nat} {Q : QD} (S : IsSc N ads) (h : ∀ a ∈ ads, hit N b a = true → 0 ≤ (b + a).fdiv N ∧ (b + a).fdiv N < m) (ex : ∃ a ∈ ads, hit N b a = true) (q : Q (.bl true) none) :
    W__is_called [.val (.int N), .val (.tup (ads.map .int)), .val (ones m), .val (.int b)] Q := by
  refine ⟨?_⟩
  refine lc_called S.d2 ads [] h S.d5 (by have := S.most; simp; omega) ?_
  rw [List.nil_append]
  refine ⟨_, rfl, ?_⟩
  have e : ((ads.filter (hit N b)).map fun _ => true).any id = true := by
    obtain ⟨a, ha, hc⟩ := ex
    refine List.any_eq_true.mpr ⟨true, List.mem_map.mpr ⟨a, List.mem_filter.mpr ⟨ha, hc⟩, rfl⟩, rfl⟩
  rw [e]
  exact q
abbrev mm (N : Int) (ads : List Int) : Nat := (bk N ads).toNat + 1
theorem w_row_behind {f : Int} {Q : QD} (S : IsSc N ads) (F : Full N ads) (f0 : 0 ≤ f) (f1 : f < N) (q : Q (ones (mm N ads)) none) : W_row_behind [.val (rD N ads), .val (ones (mm N ads)), .val (.int f)] Q := by
  have b := bk_rng S
  have d2 := S.d2
  have d5 := S.d5
  have em : ((mm N ads : Nat) : Int) = bk N ads + 1 := by unfold mm; omega
  refine ⟨?_⟩
  have el : ((List.replicate (mm N ads) (D.int 1)).length : Int) = (mm N ads : Nat) := by rw [List.length_replicate]
  refine ⟨rfl, ?_⟩
  conv => whnf
  rw [el]
  refine ⟨by omega, by omega, ?_⟩
  show goLc _ _ _ _ _ (rgD 0 (((mm N ads : Nat) : Int)).toNat) [] _
  rw [Int.toNat_natCast]
  refine goLc_map (f := fun _ => .int 1) (fun d => ∃ i : Int, d = .int i ∧ 0 ≤ i ∧ i < (mm N ads : Nat)) rfl (fun d K hd hK => ?_) _ [] (fun d hd => ?_) (by rw [sizeLine_eq, rg_len]; simp; omega) ?_
  · obtain ⟨i, rfl, i0, i1⟩ := hd
    refine ⟨rfl, rfl, w_called S (fun a ha c => ?_) ?_ ?_⟩
    · have c' := of_decide_eq_true c
      have a0 := (S.rng a ha).1
      have a1 := mx_ge ha
      rw [Int.fmod_eq_emod_of_nonneg _ (by omega)] at c'
      rw [Int.fdiv_eq_ediv_of_nonneg _ (by omega)]
      obtain ⟨b0, b1, b2, b3⟩ := b
      have hN : N = 2 ∨ N = 3 ∨ N = 4 ∨ N = 5 := by omega
      rcases hN with h | h | h | h <;> subst h <;> omega
    · obtain ⟨a, ha, _, a2⟩ := full_rest S F ((f - i) % N) (Int.emod_nonneg _ (by omega)) (Int.emod_lt_of_pos _ (by omega))
      refine ⟨a, ha, decide_eq_true ?_⟩
      rw [Int.fmod_eq_emod_of_nonneg _ (by omega)]
      have hN : N = 2 ∨ N = 3 ∨ N = 4 ∨ N = 5 := by omega
      rcases hN with h | h | h | h <;> subst h <;> omega
    · exact hK
  · obtain ⟨i, rfl, i0, i1⟩ := rg_mem hd
    exact ⟨i, rfl, i0, by omega⟩
  · rw [List.nil_append, map_const_rg]
    exact q
end
end LK
namespace LK
open PySem PySem.Spec PyProof.Rows L2 CD DL
section
variable {N : Int} {ads : List Int}
theorem w_is_row' {m : Nat} {z : Int} {Q : QD} (e : z = m) (h1 : 1 ≤ m) (h2 : m ≤ 100) (q : Q (.bl true) none) : W__is_row [.val (ones m), .val (.int z)] Q := by
  subst e; exact w_is_row h1 h2 q
theorem w_rows_of' {n s : Nat} {z : Int} {Q : QD} (e : z = s) (h1 : s ≤ n) (h2 : n ≤ 105) (q : Q (.list (List.replicate (n - s) (ones s))) none) : W_rows_of [.val (.list (List.replicate n (D.int 1))), .val (.int z)] Q := by
  subst e; exact w_rows_of h1 h2 q
theorem w_told_full {Q : QD} (S : IsSc N ads) (F : Full N ads) (q : Q (.list (List.replicate (dc N ads).toNat (D.int 1))) none) : W_told_bits [.val (rD N ads), .val (.int (dc N ads))] Q := by
  have g := dc_rng S
  have d2 := S.d2
  refine w_told_bits S (by omega) (by omega) ?_
  rw [bits_full S F, List.map_replicate]
  exact q
theorem keys_ones (m : Nat) : keysD (List.replicate m (D.int 1)) = some (List.replicate m (.inl 1)) := by
  induction m with
  | zero => rfl
  | succ m ih =>
    rw [List.replicate_succ, List.replicate_succ]
    show (match keyD (D.int 1), keysD (List.replicate m (D.int 1)) with | some a, some b => some (a :: b) | _, _ => none) = _
    rw [ih]
    rfl
abbrev held (m : Nat) : D := .dt [(List.replicate m (.inl 1), .bl true)]
theorem in_held (m : Nat) : lkA (held m) (ones m) = .some (.bl true) := by
  show (match keysD (List.replicate m (D.int 1)) with | some k => (match lkD _ k with | some d => LkA.some d | none => LkA.none) | none => LkA.bad) = _
  rw [keys_ones]
  show (match lkD [(List.replicate m (Sum.inl 1 : Key), D.bl true)] (List.replicate m (.inl 1)) with | some d => LkA.some d | none => LkA.none) = _
  unfold lkD
  simp
theorem cut_ones {n : Nat} {x : D} {l h : Option Int} : ∃ k, DL.cutD (List.replicate n x) l h = List.replicate k x := by
  unfold DL.cutD
  rw [List.drop_replicate, List.take_replicate]
  exact ⟨_, rfl⟩
theorem no_zero (k : Nat) : inF (.int 0) (List.replicate k (D.int 1)) = some false := by
  have z := inF_ints 0 (List.replicate k 1)
  rw [List.map_replicate] at z
  rw [z]
  refine congrArg some (decide_eq_false fun h => ?_)
  have := (List.mem_replicate.mp h).2
  omega
theorem lc_held {m n : Nat} {a0 a1 a2 a3 a5 a6 a8 : Option SV} {k : List D → Rho → Prop} (h : n ≤ 105) (q : k ((List.replicate n true).map D.bl) [a0, a1, a2, a3, some (.own (held m)), a5, a6, none, a8]) :
    goLc (ugName 7) uYes (uDIn false (uVar 7) (uVar 4)) [7] k (List.replicate n (ones m)) [] [a0, a1, a2, a3, some (.own (held m)), a5, a6, none, a8] := by
  refine goLc_map (f := fun _ => .bl true) (fun d => d = ones m) rfl (fun d K hd hK => ?_) _ [] (fun d hd => (List.mem_replicate.mp hd).2) (by rw [sizeLine_eq, List.length_replicate]; simp; omega) ?_
  · subst hd
    conv => whnf
    rw [in_held]
    exact hK
  · rw [List.nil_append, List.map_replicate]
    rw [List.map_replicate] at q
    exact q
theorem lc_behind {a1 a2 a3 a5 a6 : Option SV} {k : List D → Rho → Prop} (S : IsSc N ads) (F : Full N ads) (q : k ((List.replicate N.toNat true).map D.bl) [some (.val (rD N ads)), a1, a2, a3, some (.own (held (mm N ads))), a5, a6, some (.val (ones (mm N ads))), none]) :
    goLc (ugName 8) uYes (uDIn false (uCall 3 W_row_behind (uCons (uVar 0) (uCons (uVar 7) (uCons (uVar 8) uNil)))) (uVar 4)) [8] k (rgD 0 N.toNat) [] [some (.val (rD N ads)), a1, a2, a3, some (.own (held (mm N ads))), a5, a6, some (.val (ones (mm N ads))), none] := by
  have d2 := S.d2
  have d5 := S.d5
  refine goLc_map (f := fun _ => .bl true) (fun d => ∃ f : Int, d = .int f ∧ 0 ≤ f ∧ f < N) rfl (fun d K hd hK => ?_) _ [] (fun d hd => ?_) (by rw [sizeLine_eq, rg_len]; simp; omega) ?_
  · obtain ⟨f, rfl, f0, f1⟩ := hd
    refine ⟨rfl, rfl, w_row_behind S F f0 f1 ?_⟩
    conv => whnf
    rw [in_held]
    exact hK
  · obtain ⟨i, rfl, i0, i1⟩ := rg_mem hd
    exact ⟨i, rfl, i0, by omega⟩
  · rw [List.nil_append, map_const_rg]
    rw [List.map_replicate] at q
    exact q
theorem w_is_table {Q : QD} (S : IsSc N ads) (F : Full N ads) (q : Q (.bl true) none) : W__is_table [.val (rD N ads), .val (.tup [ones (mm N ads)])] Q := by
  have b := bk_rng S
  have d2 := S.d2
  have d5 := S.d5
  have g := dc_rng S
  have em : bk N ads + 1 = ((mm N ads : Nat) : Int) := by unfold mm; omega
  have m1 : 1 ≤ mm N ads := by unfold mm; omega
  have m2 : mm N ads ≤ 100 := by unfold mm; omega
  refine ⟨?_⟩
  refine ⟨rfl, rfl, w_back_of S ?_⟩
  conv => whnf
  refine ⟨by decide, ?_⟩
  conv => whnf
  refine ⟨rfl, rfl, rfl, w_is_row' em m1 m2 ?_⟩
  conv => whnf
  refine ⟨sl rfl, [true], rfl, ?_⟩
  conv => whnf
  refine ⟨rfl, rfl, w_asc ?_⟩
  conv => whnf
  refine ⟨rfl, rfl, w_decisive S ?_⟩
  conv => whnf
  refine ⟨rfl, rfl, w_told_full S F ?_⟩
  conv => whnf
  refine ⟨rfl, _, _, rfl, keys_ones _, (by decide : 0 < sizeLine), ?_⟩
  conv => whnf
  refine ⟨rfl, ?_⟩
  have gm : mm N ads ≤ (dc N ads).toNat := by
    unfold mm dc
    obtain ⟨b0, b1, _, _⟩ := b
    have hN : N = 2 ∨ N = 3 ∨ N = 4 ∨ N = 5 := by omega
    rcases hN with h | h | h | h <;> subst h <;> omega
  obtain ⟨kc, ek⟩ := cut_ones (n := (dc N ads).toNat) (x := D.int 1) (l := none) (h := some (bk N ads + 1))
  rw [ek]
  conv => whnf
  rw [no_zero]
  conv => whnf
  refine ⟨rfl, rfl, w_rows_of' em gm (by omega) ?_⟩
  refine lc_held (by omega) ?_
  refine ⟨_, rfl, ?_⟩
  rw [all_true]
  conv => whnf
  refine ⟨rfl, ?_⟩
  conv => whnf
  refine ⟨rfl, ?_⟩
  conv => whnf
  refine ⟨by omega, by omega, ?_⟩
  refine lc_behind S F ?_
  refine ⟨_, rfl, ?_⟩
  rw [all_true]
  exact q
end
end LK
namespace LK
open PySem PySem.Spec PyProof.Rows L2 CD DL
section
variable {N : Int} {ads : List Int}
theorem w_check_never {j : Nat} {Q : QD} (S : IsSc N ads) (h : never N ads = some j) (q : Q (.str "never") none) : W_check_full [.val (rD N ads), .val (.tup [.str "never", .int (j : Nat)])] Q := by
  have g := dc_rng S
  obtain ⟨e, jl⟩ := never_some S h
  refine ⟨?_⟩
  refine ⟨rfl, rfl, ⟨N, ads, rfl, S, ?_⟩⟩
  conv => whnf
  refine ⟨by decide, ?_⟩
  conv => whnf
  refine ⟨by decide, ?_⟩
  conv => whnf
  refine ⟨rfl, ?_⟩
  conv => whnf
  refine ⟨sz rfl, rfl, ?_⟩
  conv => whnf
  refine ⟨rfl, rfl, w_is_never S (by omega) (by omega) e ?_⟩
  conv => whnf
  exact q
theorem w_check_full {Q : QD} (S : IsSc N ads) (h : never N ads = none) (q : Q (.str "full") none) : W_check_full [.val (rD N ads), .val (.tup [.str "full", .tup [ones (mm N ads)]])] Q := by
  have F := never_none S h
  refine ⟨?_⟩
  refine ⟨rfl, rfl, ⟨N, ads, rfl, S, ?_⟩⟩
  conv => whnf
  refine ⟨by decide, ?_⟩
  conv => whnf
  refine ⟨by decide, ?_⟩
  conv => whnf
  refine ⟨rfl, ?_⟩
  conv => whnf
  refine ⟨sz rfl, rfl, ?_⟩
  conv => whnf
  refine ⟨rfl, rfl, w_is_table S F ?_⟩
  conv => whnf
  exact q
end
end LK
namespace LK
open PySem PySem.Spec PyProof.Rows L2 CD DL
theorem w_next {n : Nat} {t : Int} {Q : QD} (h : n < 2 ^ 40) (t1 : 1 ≤ t) (t2 : t ≤ 1000) (q : ∀ v, 0 ≤ v → v < t → Q (.int v) (some (n + 1))) : W__law_next [.gen n, .val (.int t)] Q := ⟨n, t, rfl, h, t1, le_1030 t2, q⟩
theorem w_of {n : Nat} {ds : List D} {Q : QD} (hn : n + 1 < 2 ^ 40) (l1 : 1 ≤ ds.length) (l2 : ds.length ≤ 100) (q : ∀ (j : Nat) (d : D), ds[j]? = some d → Q d (some (n + 1))) : W__law_of [.gen n, .val (.list ds)] Q := by
  refine ⟨⟨rfl, rfl, w_next (by omega) (by omega) (by omega) fun v v0 v1 => ?_⟩⟩
  have hv : v.toNat < ds.length := by omega
  have hx : atI ds v = some ds[v.toNat] := by
    obtain ⟨j, rfl⟩ : ∃ j : Nat, v = (j : Int) := ⟨v.toNat, (Int.toNat_of_nonneg v0).symm⟩
    exact atI_nat (List.getElem?_eq_getElem hv)
  conv => whnf
  rw [hx]
  exact q v.toNat _ (List.getElem?_eq_getElem hv)
structure Gd (L : List Int) : Prop where
  few : L.length ≤ 5
  rng : ∀ a ∈ L, 0 ≤ a ∧ a ≤ 20
  nd : L.Nodup
theorem Gd.add {L : List Int} {m : Int} (g : Gd L) (i : Nat) (h0 : 0 ≤ m) (h1 : m ≤ 20) (n : m ∉ L) (hl : L.length < 5) (hi : i ≤ L.length) : Gd (L.take i ++ m :: L.drop i) ∧ 1 ≤ (L.take i ++ m :: L.drop i).length := by
  have e : (L.take i ++ m :: L.drop i).Perm (m :: L) := by
    refine List.perm_middle.trans (List.Perm.cons _ ?_)
    rw [List.take_append_drop]
  refine ⟨⟨?_, fun a ha => ?_, ?_⟩, ?_⟩
  · rw [e.length_eq, List.length_cons]; omega
  · rcases List.mem_cons.mp (e.mem_iff.mp ha) with rfl | h
    · exact ⟨h0, h1⟩
    · exact g.rng a h
  · exact e.nodup_iff.mpr (List.nodup_cons.mpr ⟨n, g.nd⟩)
  · rw [e.length_eq, List.length_cons]; omega
abbrev bIns : US := (uIfS (uAnd (uTest (uOp (pIn true) (uVar 5) (uVar 3))) (uTest (uOp (pI0 fun i j => D.bl (decide (i < j))) (uCB pLen (uCons (uVar 3) uNil)) (uC (.int 5))))) (uDrop (uInsert 3 (uCons (uCall 2 W__law_next (uCons (uVar 0) (uCons (uOp (pI0 fun i j => D.int (i + j)) (uCB pLen (uCons (uVar 3) uNil)) (uC (.int 1))) uNil))) (uCons (uVar 5) uNil)))) uNext)
theorem ins_ok {c : Nat} {s w k m : Int} {L : List Int} {Q : UEnds} (hc : c + 1 < 2 ^ 40) (g : Gd L) (h0 : 0 ≤ m) (h1 : m ≤ 20)
    (q : ∀ (c' : Nat) (L' : List Int), c' ≤ c + 1 → Gd L' → 1 ≤ L'.length → Q.nx [some (.gen c'), some (.val (.int s)), some (.val (.int w)), some (.own (.list (L'.map D.int))), some (.val (.int k)), some (.val (.int m)), none]) :
    bIns Q [some (.gen c), some (.val (.int s)), some (.val (.int w)), some (.own (.list (L.map D.int))), some (.val (.int k)), some (.val (.int m)), none] := by
  have el : (L.map D.int).length = L.length := List.length_map _
  refine ⟨rfl, ?_⟩
  conv => whnf
  rw [inF_ints]
  by_cases cm : m ∈ L
  · rw [decide_eq_true cm]
    exact q c L (by omega) g (by cases L with | nil => cases cm | cons a r => simp)
  · rw [decide_eq_false cm]
    conv => whnf
    refine drec (fun e => ?_) (fun e => ?_)
    · have l5 : L.length < 5 := by
        rw [el] at e
        have := of_decide_eq_true e
        omega
      refine ⟨rfl, rfl, w_next (by omega) (by rw [el]; omega) (by rw [el]; omega) fun v v0 v1 => ?_⟩
      rw [el] at v1
      conv => whnf
      refine ⟨v0, by rw [el]; omega, by rw [el, sizeLine_eq]; omega, ?_⟩
      obtain ⟨g', l'⟩ := g.add v.toNat h0 h1 cm l5 (by omega)
      have z := q (c + 1) _ (by omega) g' l'
      rw [List.map_append, List.map_cons, List.map_take, List.map_drop] at z
      exact z
    · have l5 : ¬ L.length < 5 := fun x => e (decide_eq_true (by rw [el]; omega))
      exact q c L (by omega) g (by omega)
abbrev bTurn : US := (uSeq (uSet 5 (uOp (pI0 fun i j => D.int (i + j)) (uVar 4) (uC (.int 1))))
    (uSeq (uIfS (uTest (uOp (pI0 fun i j => D.bl (decide (i < j))) (uVar 2) (uC (.int 2)))) (uSet 5 (uCall 2 W__law_of (uCons (uVar 0) (uCons (uLst (uCons (uOp (pI0 fun i j => D.int (i + j)) (uVar 4) (uC (.int 1))) (uCons (uVar 4) (uCons (uCall 2 W__law_next (uCons (uVar 0) (uCons (uOp (pI0 fun i j => D.int (i + j)) (uOp (pI CMul fun i j => D.int (i * j)) (uC (.int 2)) (uVar 1)) (uC (.int 2))) uNil))) (uCons (uCall 2 W__law_next (uCons (uVar 0) (uCons (uC (.int 21)) uNil))) uNil))))) uNil)))) uNext)
    bIns))
theorem turn_ok {c : Nat} {s w k : Int} {L : List Int} {x5 : Option SV} {Q : UEnds} (hc : c + 10 < 2 ^ 40) (s2 : 2 ≤ s) (s5 : s ≤ 5) (k0 : 0 ≤ k) (k4 : k ≤ 4) (g : Gd L)
    (q : ∀ (c' : Nat) (L' : List Int) (m : Int), c' ≤ c + 4 → Gd L' → 1 ≤ L'.length → Q.nx [some (.gen c'), some (.val (.int s)), some (.val (.int w)), some (.own (.list (L'.map D.int))), some (.val (.int k)), some (.val (.int m)), none]) :
    bTurn Q [some (.gen c), some (.val (.int s)), some (.val (.int w)), some (.own (.list (L.map D.int))), some (.val (.int k)), x5, none] := by
  conv => whnf
  refine drec (fun e => ?_) (fun e => ?_)
  · conv => whnf
    refine ⟨.inl ⟨by decide, by decide⟩, rfl, rfl, w_next (by omega) (by omega) (by omega) fun v v0 v1 => ?_⟩
    conv => whnf
    refine ⟨rfl, rfl, w_next (by omega) (by omega) (by omega) fun v' v0' v1' => ?_⟩
    conv => whnf
    refine ⟨sz rfl, rfl, rfl, w_of (by omega) (Nat.le_of_ble_eq_true rfl) (Nat.le_of_ble_eq_true rfl) fun j d hd => ?_⟩
    obtain ⟨m, rfl, m0, m1⟩ : ∃ m, d = .int m ∧ 0 ≤ m ∧ m ≤ 20 := by
      match j, hd with
      | 0, hd => cases hd; exact ⟨_, rfl, by omega, by omega⟩
      | 1, hd => cases hd; exact ⟨_, rfl, by omega, by omega⟩
      | 2, hd => cases hd; exact ⟨_, rfl, by omega, by omega⟩
      | 3, hd => cases hd; exact ⟨_, rfl, by omega, by omega⟩
      | j + 4, hd => cases hd
    exact ins_ok (by omega) g m0 m1 fun c' L' h1 h2 h3 => q c' L' m (by omega) h2 h3
  · exact ins_ok (by omega) g (by omega) (by omega) fun c' L' h1 h2 h3 => q c' L' (k + 1) (by omega) h2 h3
theorem loop_ok {c : Nat} {s w cnt : Int} {Q : UEnds} (hc : c + 40 < 2 ^ 40) (s2 : 2 ≤ s) (s5 : s ≤ 5) (c1 : 1 ≤ cnt) (c5 : cnt ≤ 5)
    (q : ∀ (c' : Nat) (L : List Int) (k m : Int), c' ≤ c + 20 → Gd L → 1 ≤ L.length → Q.nx [some (.gen c'), some (.val (.int s)), some (.val (.int w)), some (.own (.list (L.map D.int))), some (.val (.int k)), some (.val (.int m)), none]) :
    goFor (ugName 4) bTurn Q (rgD 0 cnt.toNat) [some (.gen c), some (.val (.int s)), some (.val (.int w)), some (.own (.list [])), none, none, none] := by
  refine goFor_inv (I := fun i ρ => (i = 0 ∧ ρ = [some (.gen c), some (.val (.int s)), some (.val (.int w)), some (.own (.list [])), none, none, none]) ∨ ∃ (c' : Nat) (L : List Int) (k m : Int), ρ = [some (.gen c'), some (.val (.int s)), some (.val (.int w)), some (.own (.list (L.map D.int))), some (.val (.int k)), some (.val (.int m)), none] ∧ c' ≤ c + 4 * i ∧ Gd L ∧ 1 ≤ L.length)
    (fun d => ∃ k : Int, d = .int k ∧ 0 ≤ k ∧ k ≤ 4) 5 (fun i d ρ Q' hi hd hI hq => ?_) _ 0 _ (by rw [rg_len]; omega) (fun d hd => ?_) (.inl ⟨rfl, rfl⟩) fun ρ hI => ?_
  · obtain ⟨k, rfl, k0, k4⟩ := hd
    rcases hI with ⟨rfl, rfl⟩ | ⟨c', L, k', m', rfl, h1, h2, h3⟩
    · exact turn_ok (L := []) (by omega) s2 s5 k0 k4 ⟨by simp, nofun, List.nodup_nil⟩ fun c' L m h1 h2 h3 => hq _ (.inr ⟨c', L, k, m, rfl, by omega, h2, h3⟩)
    · exact turn_ok (by omega) s2 s5 k0 k4 h2 fun c'' L m h1 h2 h3 => hq _ (.inr ⟨c'', L, k, m, rfl, by omega, h2, h3⟩)
  · obtain ⟨i, rfl, i0, i1⟩ := rg_mem hd
    exact ⟨i, rfl, i0, by omega⟩
  · rw [rg_len] at hI
    rcases hI with ⟨h, _⟩ | ⟨c', L, k', m', rfl, h1, h2, h3⟩
    · omega
    · exact q c' L k' m' (by omega) h2 h3
abbrev bFar : US := (uSeq (uSet 6 (uCall 2 W__law_next (uCons (uVar 0) (uCons (uC (.int 21)) uNil))))
    (uSeq (uIfS (uAnd (uTest (uOp (pIn true) (uVar 6) (uVar 3))) (uAnd (uTest (uOp (pI0 fun i j => D.bl (decide (i < j))) (uCB pLen (uCons (uVar 3) uNil)) (uC (.int 5)))) (uTest (uOp pEq (uCall 2 W__law_next (uCons (uVar 0) (uCons (uC (.int 3)) uNil))) (uC (.int 0)))))) (uDrop (uAppend 3 (uVar 6))) uNext)
    (uRet (uTup (uCons (uVar 1) (uCons (uCB pTupOf (uCons (uVar 3) uNil)) uNil))))))
theorem far_ok {c : Nat} {s w k m : Int} {L : List Int} {Q : UEnds} (hc : c + 10 < 2 ^ 40) (g : Gd L) (l1 : 1 ≤ L.length)
    (q : ∀ (c' : Nat) (L' : List Int) (x : Int), c' ≤ c + 10 → Gd L' → 1 ≤ L'.length → Q.rt (rD s L') [some (.gen c'), some (.val (.int s)), some (.val (.int w)), some (.own (.list (L'.map D.int))), some (.val (.int k)), some (.val (.int m)), some (.val (.int x))]) :
    bFar Q [some (.gen c), some (.val (.int s)), some (.val (.int w)), some (.own (.list (L.map D.int))), some (.val (.int k)), some (.val (.int m)), none] := by
  have el : (L.map D.int).length = L.length := List.length_map _
  refine ⟨rfl, rfl, w_next (by omega) (by omega) (by omega) fun v v0 v1 => ?_⟩
  conv => whnf
  refine ⟨rfl, ?_⟩
  conv => whnf
  rw [inF_ints]
  by_cases cm : v ∈ L
  · rw [decide_eq_true cm]
    exact ⟨sz rfl, q (c + 1) L v (by omega) g l1⟩
  · rw [decide_eq_false cm]
    conv => whnf
    refine drec (fun e => ?_) (fun e => ?_)
    · have l5 : L.length < 5 := by
        rw [el] at e
        have := of_decide_eq_true e
        omega
      conv => whnf
      refine ⟨rfl, rfl, w_next (by omega) (by omega) (by omega) fun u u0 u1 => ?_⟩
      conv => whnf
      refine drec (fun e2 => ?_) (fun e2 => ?_)
      · refine ⟨by rw [el, sizeLine_eq]; omega, ?_⟩
        obtain ⟨g', l'⟩ := g.add L.length v0 (by omega) cm l5 (Nat.le_refl _)
        rw [List.take_length, List.drop_length] at g' l'
        have z := q (c + 1 + 1) _ v (by omega) g' l'
        unfold rD at z
        rw [List.map_append] at z
        exact ⟨sz rfl, z⟩
      · exact ⟨sz rfl, q (c + 1 + 1) L v (by omega) g l1⟩
    · exact ⟨sz rfl, q (c + 1) L v (by omega) g l1⟩
theorem w_law_scale {n : Nat} {Q : QD} (hn : n + 50 < 2 ^ 40) (q : ∀ (N : Int) (ads : List Int) (k : Nat), IsSc N ads → k ≤ n + 50 → Q (rD N ads) (some k)) : W__law_scale [.gen n] Q := by
  refine ⟨?_⟩
  refine ⟨rfl, rfl, w_next (by omega) (by omega) (by omega) fun v v0 v1 => ?_⟩
  conv => whnf
  refine ⟨rfl, rfl, w_next (by omega) (by omega) (by omega) fun w w0 w1 => ?_⟩
  conv => whnf
  refine ⟨sz rfl, ?_⟩
  have fin : ∀ (c : Nat) (L : List Int) (k m : Int), c ≤ n + 30 → Gd L → 1 ≤ L.length → bFar { nx := fun ρ => outQ (hasG [SV.gen n]) Q D.non ρ, rt := fun d ρ => outQ (hasG [SV.gen n]) Q d ρ } [some (.gen c), some (.val (.int (2 + v))), some (.val (.int w)), some (.own (.list (L.map D.int))), some (.val (.int k)), some (.val (.int m)), none] := fun c L k m h1 g h2 =>
    far_ok (by omega) g h2 fun c' L' x h3 g' h4 => q (2 + v) L' c' ⟨by omega, by omega, h4, g'.few, g'.rng, g'.nd⟩ (by omega)
  conv => whnf
  refine drec (fun e => ?_) (fun e => ?_)
  · refine ⟨by omega, by omega, ?_⟩
    exact loop_ok (by omega) (by omega) (by omega) (by omega) (by omega) fun c L k m h1 g h2 => fin c L k m (by omega) g h2
  · refine ⟨rfl, rfl, w_next (by omega) (by omega) (by omega) fun u u0 u1 => ?_⟩
    refine ⟨by omega, by omega, ?_⟩
    exact loop_ok (by omega) (by omega) (by omega) (by omega) (by omega) fun c L k m h1 g h2 => fin c L k m (by omega) g h2
end LK
namespace LK
open PySem PySem.Spec PyProof.Rows L2 CD DL
structure Sm (d : PyData) (dp w : Nat) : Prop where
  can : d.canLay0 = true
  dep : d.depth ≤ dp
  wt : d.weight ≤ w
  sh : d.intsShort 13 = true
  sb : d.showable = true
structure SmL (ds : List PyData) (dp w : Nat) : Prop where
  can : PyData.canLayAll0 ds = true
  dep : PyData.depthAll ds ≤ dp
  wt : PyData.weightAll ds ≤ ds.length * (w + 1)
  sh : PyData.intsShortAll 13 ds = true
  sb : PyData.showableAll ds = true
theorem SmL.nil {dp w : Nat} : SmL [] dp w := ⟨rfl, Nat.zero_le _, Nat.zero_le _, rfl, rfl⟩
theorem SmL.cons {d : PyData} {ds : List PyData} {dp w : Nat} (h : Sm d dp w) (g : SmL ds dp w) : SmL (d :: ds) dp w := by
  refine ⟨?_, ?_, ?_, ?_, ?_⟩
  · rw [PyData.canLayAll0, h.can, g.can]; rfl
  · rw [PyData.depthAll]; exact Nat.max_le.mpr ⟨h.dep, g.dep⟩
  · rw [PyData.weightAll, List.length_cons, Nat.succ_mul]
    have := h.wt
    have := g.wt
    omega
  · rw [PyData.intsShortAll, h.sh, g.sh]; rfl
  · rw [PyData.showableAll, h.sb, g.sb]; rfl
theorem Sm.list {ds : List PyData} {dp w W : Nat} (g : SmL ds dp w) (hW : ds.length * (w + 1) ≤ W) : Sm (.list ds) (dp + 1) W :=
  ⟨by rw [PyData.canLay0]; exact g.can, by rw [PyData.depth]; have := g.dep; omega, by rw [PyData.weight]; exact Nat.le_trans g.wt hW, by rw [PyData.intsShort]; exact g.sh, by rw [PyData.showable]; exact g.sb⟩
theorem Sm.tup {ds : List PyData} {dp w W : Nat} (g : SmL ds dp w) (hW : ds.length * (w + 1) ≤ W) : Sm (.tuple ds) (dp + 1) W :=
  ⟨by rw [PyData.canLay0]; exact g.can, by rw [PyData.depth]; have := g.dep; omega, by rw [PyData.weight]; exact Nat.le_trans g.wt hW, by rw [PyData.intsShort]; exact g.sh, by rw [PyData.showable]; exact g.sb⟩
theorem Sm.up {d : PyData} {dp dp' w w' : Nat} (h : Sm d dp w) (a : dp ≤ dp') (b : w ≤ w') : Sm d dp' w' := ⟨h.can, Nat.le_trans h.dep a, Nat.le_trans h.wt b, h.sh, h.sb⟩
theorem short_all : ((List.range 1001).all fun n => decide ((toString ((n : Nat) : Int) : Str).length ≤ 8)) = true := by decide +kernel
theorem short_int {i : Int} (h0 : 0 ≤ i) (h1 : i ≤ 1000) : (toString i : Str).length ≤ 8 := by
  obtain ⟨n, rfl⟩ : ∃ n : Nat, i = (n : Int) := ⟨i.toNat, (Int.toNat_of_nonneg h0).symm⟩
  exact of_decide_eq_true (List.all_eq_true.mp short_all n (List.mem_range.mpr (by omega)))
theorem log_1000 {i : Int} (h0 : 0 ≤ i) (h1 : i ≤ 1000) : i.natAbs.log2 < 1920 := by
  have : i.natAbs ≤ 1000 := by omega
  by_cases e : i.natAbs = 0
  · rw [e]; decide
  · have := (Nat.log2_lt e (k := 10)).mpr (by omega)
    omega
theorem sm_int {i : Int} (h0 : 0 ≤ i) (h1 : i ≤ 1000) : Sm (.int i) 0 20 := by
  have g2 := short_int h0 h1
  refine ⟨rfl, Nat.le_refl _, ?_, ?_, ?_⟩
  · rw [PyData.weight]
    split
    · omega
    · rename_i hz
      have e : i.natAbs ≠ 0 := fun e => hz (by simp; omega)
      have := (Nat.log2_lt e (k := 10)).mpr (by omega)
      omega
  · rw [PyData.intsShort]
    exact decide_eq_true (by rw [PyData.shown]; omega)
  · rw [PyData.showable]
    exact decide_eq_true (log_1000 h0 h1)
theorem sm_non : Sm .none 0 20 := ⟨rfl, Nat.le_refl _, by decide, rfl, rfl⟩
theorem sm_str {s : Str} {w : Nat} (h : ∀ c ∈ TL.tl s, c < 128) (l : s.length ≤ w) : Sm (.str s) 0 w := by
  refine ⟨?_, Nat.le_refl _, ?_, rfl, rfl⟩
  · rw [PyData.canLay0]
    show s.cps.all (fun c => decide (c < 0x110000)) = true
    rw [← Array.all_toList]
    refine List.all_eq_true.mpr fun c hc => decide_eq_true ?_
    have := h c hc
    omega
  · rw [PyData.weight]
    exact l
theorem sm_ints : ∀ {ns : List Int}, (∀ n ∈ ns, 0 ≤ n ∧ n ≤ 1000) → SmL (ns.map PyData.int) 0 20
  | [], _ => .nil
  | n :: r, h => .cons (sm_int (h n List.mem_cons_self).1 (h n List.mem_cons_self).2) (sm_ints fun x hx => h x (List.mem_cons_of_mem _ hx))
theorem rep_ok {d : PyData} {dp w : Nat} (h : Sm d dp w) (a : dp ≤ 60) (b : w ≤ 2 ^ 20) : RepOk d := by
  have dd := h.dep
  have ww := h.wt
  refine ⟨h.sb, PyData.hasDict_of_canLay _ h.can, by omega, ?_⟩
  have := shown_le13 (d := d) (by
    show (PyData.canLay0 d && decide (PyData.depth d ≤ 64) && decide (PyData.weight d ≤ 2 ^ 20)) = true
    rw [h.can, decide_eq_true (by omega : d.depth ≤ 64), decide_eq_true (by omega : d.weight ≤ 2 ^ 20)]
    rfl) h.sh
  rw [sizeLine_eq]
  omega
theorem shp {p : PyData} {dp w : Nat} (h : Sm p dp w) (l : dp ≤ 64) : SeqAt.shaped p = true := by
  have := h.dep
  show (PyData.canLay0 p && decide (PyData.depth p ≤ 64)) = true
  rw [h.can, decide_eq_true (by omega : p.depth ≤ 64)]
  rfl
/-! ### told, sheet -/
section
variable {N : Int} {ads : List Int}
def nP : Option Nat → PyData
  | none => .none
  | some j => .int (j : Nat)
theorem nP_of (o : Option Nat) : PyOf (nD o) (nP o) := by
  cases o
  · exact .non
  · exact .int _
def paperP (N : Int) (ads : List Int) : PyData := match never N ads with
  | some j => .tuple [.str "never", .int (j : Nat)]
  | none => .tuple [.str "full", .tuple [.tuple ((List.replicate (mm N ads) (1 : Int)).map PyData.int)]]
theorem paper_of : PyOf (paper N ads) (paperP N ads) := by
  unfold paper paperP
  cases never N ads with
  | some j => exact .tup (.cons (.str _) (.cons (.int _) .nil))
  | none =>
    have z := PyOfL.ints (List.replicate (mm N ads) 1)
    rw [List.map_replicate] at z
    exact .tup (.cons (.str _) (.cons (.tup (.cons (.tup z) .nil)) .nil))
theorem nP_sm (S : IsSc N ads) : Sm (nP (never N ads)) 0 20 := by
  have g := dc_rng S
  cases c : never N ads with
  | none => exact sm_non
  | some j =>
    have := (never_some S c).2
    exact sm_int (by omega) (by omega)
theorem paper_sm (S : IsSc N ads) : Sm (paperP N ads) 3 10000 := by
  have g := dc_rng S
  have b := bk_rng S
  unfold paperP
  cases c : never N ads with
  | some j =>
    have := (never_some S c).2
    exact (Sm.tup (w := 20) (W := 10000) (SmL.cons (sm_str (by decide +kernel) (by decide +kernel)) (SmL.cons (sm_int (by omega) (by omega)) .nil)) (by show 2 * _ ≤ _; decide)).up (by decide) (by decide)
  | none =>
    have s1 : Sm (.tuple ((List.replicate (mm N ads) (1 : Int)).map PyData.int)) 1 1000 := Sm.tup (W := 1000) (sm_ints fun n hn => by have := (List.mem_replicate.mp hn).2; omega) (by rw [List.length_map, List.length_replicate]; unfold mm; omega)
    have s2 : Sm (.tuple [.tuple ((List.replicate (mm N ads) (1 : Int)).map PyData.int)]) 2 2000 := Sm.tup (w := 1000) (SmL.cons s1 .nil) (by show 1 * _ ≤ _; decide)
    exact Sm.tup (w := 2000) (SmL.cons ((sm_str (w := 20) (by decide +kernel) (by decide +kernel)).up (by decide) (by decide)) (SmL.cons s2 .nil)) (by show 2 * _ ≤ _; decide)
theorem both_rep (S : IsSc N ads) : RepOk (.list [nP (never N ads), paperP N ads]) :=
  rep_ok (Sm.list (w := 10000) (W := 30000) (SmL.cons ((nP_sm S).up (by decide) (by decide)) (SmL.cons (paper_sm S) .nil)) (by show 2 * _ ≤ _; decide)) (by decide) (by decide)
end
end LK
namespace LK
open PySem PySem.Spec PyProof.Rows L2 CD DL
def sv (x : Option D) : Option SV := x.map SV.val
def so (x : Option (D ⊕ D)) : Option SV := match x with
  | none => none
  | some (.inl d) => some (.val d)
  | some (.inr d) => some (.own d)
def gf (m : Nat) : Option SV → Option SV := fun s => match s with
  | some (.gen _) => some (.gen m)
  | s => s
theorem gf_sv {m : Nat} {x : Option D} : gf m (sv x) = sv x := by cases x <;> rfl
theorem gf_so {m : Nat} {x : Option (D ⊕ D)} : gf m (so x) = so x := by
  match x with
  | none => rfl
  | some (.inl _) => rfl
  | some (.inr _) => rfl
abbrev R (ns : List Int) (k : Nat) (t r f : Option D) (s : Option (D ⊕ D)) (a b g h : Option D) : Rho := [some (.val (.scr ns)), some (.gen k), sv t, sv r, sv f, so s, sv a, sv b, sv g, sv h, none]
section
variable {N : Int} {ads : List Int} {ns : List Int} {k : Nat} {t r f a b g h : Option D} {s : Option (D ⊕ D)} {Q : UEnds}
theorem l_1 (hk : k + 60 < 2 ^ 40) (q : ∀ N ads k', IsSc N ads → k' ≤ k + 50 → Q.nx (R ns k' t (some (rD N ads)) f s a b g h)) : i_law_1 Q (R ns k t r f s a b g h) := by
  refine ⟨rfl, rfl, w_law_scale (by omega) fun N ads k1 S hk1 => ?_⟩
  show Q.nx [some (.val (.scr ns)), some (.gen k1), gf k1 (sv t), some (.val (rD N ads)), gf k1 (sv f), gf k1 (so s), gf k1 (sv a), gf k1 (sv b), gf k1 (sv g), gf k1 (sv h), none]
  simp only [gf_sv, gf_so]
  exact q N ads k1 S hk1
abbrev film (N : Int) (ads : List Int) : D := .list ((filmT N ads 699).map oD)
theorem l_2 (S : IsSc N ads) (q : Q.nx (R ns k t (some (rD N ads)) (some (film N ads)) s a b g h)) : i_law_2 Q (R ns k t (some (rD N ads)) f s a b g h) :=
  ⟨rfl, rfl, ⟨N, ads, 699, rfl, S, by decide, q⟩⟩
abbrev isL (N : Int) (ads : List Int) (x : Int) : Bool := decide (tk N ads x = none)
theorem film_at {x : Int} (h0 : 0 ≤ x) (h1 : x < 700) : atI ((filmT N ads 699).map oD) x = some (oD (tk N ads x)) := by
  obtain ⟨j, rfl⟩ : ∃ j : Nat, x = (j : Int) := ⟨x.toNat, (Int.toNat_of_nonneg h0).symm⟩
  refine atI_nat ?_
  unfold filmT
  rw [List.getElem?_map, List.getElem?_map, List.getElem?_range (by omega)]
  rfl
theorem lc_film {K : List D → Rho → Prop} : ∀ (as : List Int) (acc : List D), (∀ x ∈ as, 0 ≤ x ∧ x < 700) → acc.length + as.length ≤ 700 → K (acc ++ (as.filter (isL N ads)).map D.int) (R ns k t r (some (film N ads)) s a b g h) →
    goLc (ugName 10) (uTest (uOp pIsN (uOp pIxL (uVar 4) (uVar 10)) (uC .non))) (uVar 10) [10] K (as.map D.int) acc (R ns k t r (some (film N ads)) s a b g h)
  | [], acc, _, _, q => by
    rw [List.filter_nil, List.map_nil, List.append_nil] at q
    exact q
  | x :: xs, acc, hx, hl, q => by
    rw [List.length_cons] at hl
    rw [List.map_cons]
    obtain ⟨x0, x1⟩ := hx x List.mem_cons_self
    refine ⟨rfl, ?_⟩
    conv => whnf
    rw [film_at x0 x1]
    have e : isNon (oD (tk N ads x)) = isL N ads x := oD_non _
    conv => whnf
    rw [List.filter_cons] at q
    cases c : tk N ads x with
    | none =>
      rw [if_pos (decide_eq_true c)] at q
      refine ⟨by rw [sizeLine_eq]; omega, ?_⟩
      refine lc_film xs (acc ++ [.int x]) (fun y hy => hx y (List.mem_cons_of_mem _ hy)) (by rw [List.length_append, List.length_singleton]; omega) ?_
      rw [List.append_assoc]
      exact q
    | some v =>
      rw [if_neg (by rw [decide_eq_true_eq, c]; exact nofun)] at q
      exact lc_film xs acc (fun y hy => hx y (List.mem_cons_of_mem _ hy)) (by omega) q
def lost (N : Int) (ads : List Int) : List Int := ((List.range 700).map fun i : Nat => (i : Int)).filter (isL N ads)
theorem l_3 {L : List Int} (eL : lost N ads = L) (q : Q.nx (R ns k t r (some (film N ads)) (some (.inr (.list (L.map D.int)))) a b g h)) : i_law_3 Q (R ns k t r (some (film N ads)) s a b g h) := by
  refine ⟨by decide, by decide, ?_⟩
  show goLc _ _ _ _ _ (rgD 0 700) [] _
  rw [rg_ints]
  refine lc_film _ [] (fun x hx => ?_) (by simp) ?_
  · obtain ⟨i, hi, rfl⟩ := List.mem_map.mp hx
    have := List.mem_range.mp hi
    omega
  · rw [List.nil_append]
    subst eL
    exact q
abbrev RA (N : Int) (ads ns : List Int) (k : Nat) (t g h : Option D) (L : List Int) (told sheet : D) : Rho := R ns k t (some (rD N ads)) (some (film N ads)) (some (.inr (.list (L.map D.int)))) (some told) (some sheet) g h
theorem l_4 {L : List Int} {told sheet : D} (S : IsSc N ads) (et : nD (never N ads) = told) (es : paper N ads = sheet) (q : Q.nx (RA N ads ns k t g h L told sheet)) : i_law_4 Q (R ns k t (some (rD N ads)) (some (film N ads)) (some (.inr (.list (L.map D.int)))) a b g h) := by
  subst et es
  refine ⟨rfl, rfl, w_first_never S ?_⟩
  have f1 : flatD (nD (never N ads)) = true := by cases never N ads <;> rfl
  have f2 : flatD (paper N ads) = false := by
    unfold paper
    cases never N ads <;> rfl
  rw [if_pos f1]
  refine ⟨rfl, rfl, w_full_paper S ?_⟩
  rw [f2]
  exact q
theorem lost_nil (S : IsSc N ads) (c : never N ads = none) : lost N ads = [] := by
  unfold lost
  rw [List.filter_eq_nil_iff]
  intro x hx
  obtain ⟨i, hi, rfl⟩ := List.mem_map.mp hx
  rw [decide_eq_true_eq]
  exact all_told S (never_none S c) i _ (by omega) (by omega)
theorem lost_some (S : IsSc N ads) {j : Nat} (c : never N ads = some j) : ∃ r, lost N ads = (j : Int) :: r ∧ ∀ x ∈ lost N ads, 0 ≤ x ∧ x ≤ 1000 := by
  have g := dc_rng S
  obtain ⟨e, jl⟩ := never_some S c
  have hb : ∀ x ∈ lost N ads, 0 ≤ x ∧ x ≤ 1000 := fun x hx => by
    obtain ⟨hx, _⟩ := List.mem_filter.mp hx
    obtain ⟨i, hi, rfl⟩ := List.mem_map.mp hx
    have := List.mem_range.mp hi
    omega
  obtain ⟨b, hb2⟩ : ∃ b, 700 = j + (b + 1) := ⟨699 - j, by omega⟩
  have er : List.range 700 = List.range j ++ (j :: (List.range b).map fun i => j + (i + 1)) := by
    rw [hb2, List.range_add, List.range_succ_eq_map, List.map_cons, List.map_map]
    rfl
  refine ⟨(((List.range b).map fun i => j + (i + 1)).map fun i : Nat => (i : Int)).filter (isL N ads), ?_, hb⟩
  unfold lost
  rw [er, List.map_append, List.map_cons, List.filter_append, List.filter_cons, if_pos (decide_eq_true e)]
  have z : ((List.range j).map fun i : Nat => (i : Int)).filter (isL N ads) = [] := by
    rw [List.filter_eq_nil_iff]
    intro x hx
    obtain ⟨i, hi, rfl⟩ := List.mem_map.mp hx
    rw [decide_eq_true_eq]
    exact never_first S c (List.mem_range.mp hi)
  rw [z, List.nil_append]
theorem ints_sh {l : List Int} (h : ∀ x ∈ l, 0 ≤ x ∧ x ≤ 1000) : SeqAt.shaped (.list (l.map PyData.int)) = true := shp (Sm.list (sm_ints h) (Nat.le_refl _)) (by decide)
theorem int_sh {i : Int} (h0 : 0 ≤ i) (h1 : i ≤ 1000) : SeqAt.shaped (.int i) = true := shp (sm_int h0 h1) (by decide)
theorem eqv_int (i : Int) : PyData.eqv (.int i) (.int i) = true := by simp [PyData.eqv]
theorem w_fn' {d : D} (S : IsSc N ads) (e : nD (never N ads) = d) {Q : QD} (q : Q d none) : W_first_never [.val (rD N ads)] Q := by
  subst e; exact w_first_never S q
theorem w_fp' {d : D} (S : IsSc N ads) (e : paper N ads = d) {Q : QD} (q : Q d none) : W_full_paper [.val (rD N ads)] Q := by
  subst e; exact w_full_paper S q
-- some lost
abbrev shN (j : Nat) : D := .tup [.str "never", .int (j : Nat)]
section
variable {j : Nat} {r : List Int} (S : IsSc N ads) (c : never N ads = some j) (hb : ∀ x ∈ (j : Int) :: r, 0 ≤ x ∧ x ≤ 1000)
include S c hb
theorem a_5 (q : Q.nx (RA N ads ns k t g h ((j : Int) :: r) (.int j) (shN j))) : i_law_5 Q (RA N ads ns k t g h ((j : Int) :: r) (.int j) (shN j)) := by
  have j0 := hb j List.mem_cons_self
  refine ⟨sz rfl, .list (((j : Int) :: r).map PyData.int), .list [], .list (PyOfL.ints _), .list .nil, ints_sh hb, by decide, ?_⟩
  conv => whnf
  rw [show atI (((j : Int) :: r).map D.int) 0 = some (.int j) from atI_nat (j := 0) rfl]
  refine ⟨.int j, .int j, .int _, .int _, int_sh j0.1 j0.2, int_sh j0.1 j0.2, ?_⟩
  rw [eqv_int]
  exact q
theorem a_6 (q : Q.nx (RA N ads ns k t g h ((j : Int) :: r) (.int j) (shN j))) : i_law_6 Q (RA N ads ns k t g h ((j : Int) :: r) (.int j) (shN j)) := by
  refine ⟨sz rfl, .list (((j : Int) :: r).map PyData.int), .list [], .list (PyOfL.ints _), .list .nil, ints_sh hb, by decide, ?_⟩
  exact q
theorem a_7 (q : Q.nx (RA N ads ns k t g h ((j : Int) :: r) (.int j) (shN j))) : i_law_7 Q (RA N ads ns k t g h ((j : Int) :: r) (.int j) (shN j)) := by
  have et : nD (never N ads) = .int j := by rw [c]; rfl
  have es : paper N ads = shN j := by unfold paper; rw [c]
  have rp : RepOk (.list [.int j, .tuple [.str "never", .int j]]) := by
    have z := both_rep S
    unfold paperP at z
    rw [c] at z
    exact z
  have py : PyOf (.list [.int j, shN j]) (.list [.int j, .tuple [.str "never", .int j]]) := .list (.cons (.int _) (.cons (.tup (.cons (.str _) (.cons (.int _) .nil))) .nil))
  refine ⟨rfl, rfl, w_fn' S et ⟨rfl, rfl, w_fp' S es ⟨sz rfl, _, py, rp, sz rfl, _, py, rp, ?_⟩⟩⟩
  generalize PyData.shown (.list [.int j, .tuple [.str "never", .int j]]) = sx
  conv => whnf
  refine drec (fun x => ?_) (fun _ => q)
  simp at x
theorem a_8 (q : Q.nx (RA N ads ns k t g h ((j : Int) :: r) (.int j) (shN j))) : i_law_8 Q (RA N ads ns k t g h ((j : Int) :: r) (.int j) (shN j)) :=
  ⟨.str "never", .str "never", .str _, .str _, by decide +kernel, by decide +kernel, q⟩
theorem a_9 (q : Q.nx (RA N ads ns k t g h ((j : Int) :: r) (.int j) (shN j))) : i_law_9 Q (RA N ads ns k t g h ((j : Int) :: r) (.int j) (shN j)) :=
  ⟨rfl, rfl, w_check_never S c ⟨.str "never", .str "never", .str _, .str _, by decide +kernel, by decide +kernel, q⟩⟩
theorem a_10 (q : Q.nx (RA N ads ns k t g h ((j : Int) :: r) (.int j) (shN j))) : i_law_10 Q (RA N ads ns k t g h ((j : Int) :: r) (.int j) (shN j)) := by
  have j0 := hb j List.mem_cons_self
  refine ⟨.int j, .int j, .int _, .int _, int_sh j0.1 j0.2, int_sh j0.1 j0.2, ?_⟩
  rw [eqv_int]
  exact q
theorem a_11 (q : Q.nx (RA N ads ns k t g h ((j : Int) :: r) (.int j) (shN j))) : i_law_11 Q (RA N ads ns k t g h ((j : Int) :: r) (.int j) (shN j)) := by
  have j0 := hb j List.mem_cons_self
  refine ⟨N, ads, j, rfl, rfl, S, j0.1, le_1030 j0.2, ?_⟩
  rw [(never_some S c).1]
  exact q
theorem a_14 (q : Q.nx (RA N ads ns k t g h ((j : Int) :: r) (.int j) (shN j))) : i_law_14 Q (RA N ads ns k t g h ((j : Int) :: r) (.int j) (shN j)) :=
  ⟨.inl ⟨by decide, by decide⟩, (by show -(2 : Int) ^ 62 ≤ 3 * 0; decide), (by show (3 : Int) * 0 < 2 ^ 62; decide), q⟩
end
end
end LK
namespace LK
open PySem PySem.Spec PyProof.Rows L2 CD DL
abbrev shF (N : Int) (ads : List Int) : D := .tup [.str "full", .tup [ones (mm N ads)]]
section
variable {N : Int} {ads : List Int} {ns : List Int} {k : Nat} {t r f a b g h : Option D} {s : Option (D ⊕ D)} {Q : UEnds} (S : IsSc N ads) (c : never N ads = none)
include S c
theorem b_5 (q : Q.nx (RA N ads ns k t g h [] .non (shF N ads))) : i_law_5 Q (RA N ads ns k t g h [] .non (shF N ads)) :=
  ⟨sz rfl, .list [], .list [], .list .nil, .list .nil, by decide, by decide, q⟩
theorem b_6 (q : Q.nx (RA N ads ns k t g h [] .non (shF N ads))) : i_law_6 Q (RA N ads ns k t g h [] .non (shF N ads)) :=
  ⟨sz rfl, .list [], .list [], .list .nil, .list .nil, by decide, by decide, q⟩
theorem b_7 (q : Q.nx (RA N ads ns k t g h [] .non (shF N ads))) : i_law_7 Q (RA N ads ns k t g h [] .non (shF N ads)) := by
  have et : nD (never N ads) = .non := by rw [c]; rfl
  have es : paper N ads = shF N ads := by unfold paper; rw [c]
  have rp : RepOk (.list [.none, .tuple [.str "full", .tuple [.tuple ((List.replicate (mm N ads) (1 : Int)).map PyData.int)]]]) := by
    have z := both_rep S
    unfold paperP at z
    rw [c] at z
    exact z
  have py : PyOf (.list [.non, shF N ads]) (.list [.none, .tuple [.str "full", .tuple [.tuple ((List.replicate (mm N ads) (1 : Int)).map PyData.int)]]]) := by
    have z := PyOfL.ints (List.replicate (mm N ads) 1)
    rw [List.map_replicate] at z
    exact .list (.cons .non (.cons (.tup (.cons (.str _) (.cons (.tup (.cons (.tup z) .nil)) .nil))) .nil))
  refine ⟨rfl, rfl, w_fn' S et ⟨rfl, rfl, w_fp' S es ⟨sz rfl, _, py, rp, sz rfl, _, py, rp, ?_⟩⟩⟩
  generalize PyData.shown (.list [.none, .tuple [.str "full", .tuple [.tuple ((List.replicate (mm N ads) (1 : Int)).map PyData.int)]]]) = sx
  conv => whnf
  refine drec (fun x => ?_) (fun _ => q)
  simp at x
theorem b_8 (q : Q.nx (RA N ads ns k t g h [] .non (shF N ads))) : i_law_8 Q (RA N ads ns k t g h [] .non (shF N ads)) :=
  ⟨.str "full", .str "full", .str _, .str _, by decide +kernel, by decide +kernel, q⟩
theorem b_9 (q : Q.nx (RA N ads ns k t g h [] .non (shF N ads))) : i_law_9 Q (RA N ads ns k t g h [] .non (shF N ads)) :=
  ⟨rfl, rfl, w_check_full S c ⟨.str "full", .str "full", .str _, .str _, by decide +kernel, by decide +kernel, q⟩⟩
theorem b_10 (q : Q.nx (RA N ads ns k t g h [] .non (shF N ads))) : i_law_10 Q (RA N ads ns k t g h [] .non (shF N ads)) := q
theorem b_11 (q : Q.nx (RA N ads ns k t g h [] .non (shF N ads))) : i_law_11 Q (RA N ads ns k t g h [] .non (shF N ads)) := q
theorem b_12 (hk : k + 10 < 2 ^ 40) (q : ∀ (v : Int) (k' : Nat), 0 ≤ v → v < 10 ^ 30 → k' ≤ k + 2 → Q.nx (RA N ads ns k' t g (some (.int v)) [] .non (shF N ads))) : i_law_12 Q (RA N ads ns k t g h [] .non (shF N ads)) := by
  refine ⟨⟨by decide, by decide, by decide⟩, ⟨by decide, by decide, by decide⟩, sz rfl, rfl, rfl, w_of (by omega) (Nat.le_of_ble_eq_true rfl) (Nat.le_of_ble_eq_true rfl) fun j d hd => ?_⟩
  obtain ⟨m, rfl, m0, m1⟩ : ∃ m : Int, d = .int m ∧ 1 ≤ m ∧ m ≤ 10 ^ 30 := by
    match j, hd with
    | 0, hd => cases hd; exact ⟨_, rfl, by decide, by decide⟩
    | 1, hd => cases hd; exact ⟨_, rfl, by decide, by decide⟩
    | j + 2, hd => cases hd
  refine ⟨rfl, rfl, ⟨k + 1, m, rfl, by omega, m0, m1, fun v v0 v1 => ?_⟩⟩
  show Q.nx [some (.val (.scr ns)), some (.gen (k + 1 + 1)), gf (k + 1 + 1) (gf (k + 1) (sv t)), some (.val (rD N ads)), some (.val (film N ads)), some (.own (.list [])), some (.val .non), some (.val (shF N ads)), gf (k + 1 + 1) (gf (k + 1) (sv g)), some (.val (.int v)), none]
  simp only [gf_sv]
  exact q v (k + 1 + 1) v0 (Int.lt_of_lt_of_le v1 m1) (by omega)
theorem b_13 {v : Int} (v0 : 0 ≤ v) (v1 : v < 10 ^ 30) (q : Q.nx (RA N ads ns k t g (some (.int v)) [] .non (shF N ads))) : i_law_13 Q (RA N ads ns k t g (some (.int v)) [] .non (shF N ads)) := by
  have tv := all_told S (never_none S c) v.toNat v (by omega) v0
  have vl := Int.le_of_lt v1
  cases e : tk N ads v with
  | none => exact absurd e tv
  | some u =>
    refine ⟨N, ads, v, rfl, rfl, S, v0, vl, ?_⟩
    rw [e]
    refine ⟨rfl, rfl, ⟨N, ads, v, rfl, S, v0, vl, ?_⟩⟩
    rw [e]
    exact q
theorem b_14 (hk : k + 20 < 2 ^ 40) (q : ∀ (k' : Nat) g h, k' ≤ k + 6 → Q.nx (RA N ads ns k' t g h [] .non (shF N ads))) : i_law_14 Q (RA N ads ns k t g h [] .non (shF N ads)) := by
  refine ⟨.inl ⟨by decide, by decide⟩, by decide, by decide, ?_⟩
  show goFor (ugName 8) (uSeq i_law_12 i_law_13) Q (rgD 0 3) (RA N ads ns k t g h [] .non (shF N ads))
  refine goFor_inv (I := fun j ρ => ∃ (k' : Nat) (g h : Option D), k' ≤ k + 2 * j ∧ ρ = RA N ads ns k' t g h [] .non (shF N ads)) (fun _ => True) 3 (fun j x ρ Q' hj _ hI hq => ?_) _ 0 _ (by rw [rg_len]; omega) (fun _ _ => trivial) ⟨k, g, h, by omega, rfl⟩ (fun ρ' hI => ?_)
  · obtain ⟨k', g, h, hk', rfl⟩ := hI
    show uSeq i_law_12 i_law_13 Q' (RA N ads ns k' t (some x) h [] .non (shF N ads))
    refine seq_of (b_12 S c (by omega) fun v k2 v0 v1 hk2 => ?_)
    dsimp only
    exact b_13 S c v0 v1 (hq _ ⟨k2, some x, some (.int v), by omega, rfl⟩)
  · obtain ⟨k', g, h, hk', rfl⟩ := hI
    rw [rg_len] at hk'
    exact q k' g h (by omega)
end
end LK
namespace LK
open PySem PySem.Spec PyProof.Rows L2 CD DL
theorem body_ok {ns : List Int} {k : Nat} {t r f : Option D} {s : Option (D ⊕ D)} {a b g h : Option D} {Q : UEnds} (hk : k + 100 < 2 ^ 40) (hq : ∀ k' t r f s a b g h, k' ≤ k + 60 → Q.nx (R ns k' t r f s a b g h)) :
    (uSeq i_law_1 (uSeq i_law_2 (uSeq i_law_3 (uSeq i_law_4 (uSeq i_law_5 (uSeq i_law_6 (uSeq i_law_7 (uSeq i_law_8 (uSeq i_law_9 (uSeq i_law_10 (uSeq i_law_11 i_law_14))))))))))) Q (R ns k t r f s a b g h) := by
  refine seq_of (l_1 (by omega) fun N ads k1 S hk1 => ?_)
  dsimp only
  refine seq_of (l_2 S ?_)
  dsimp only
  cases c : never N ads with
  | none =>
    have es : paper N ads = shF N ads := by unfold paper; rw [c]
    refine seq_of (l_3 (lost_nil S c) ?_)
    dsimp only
    refine seq_of (l_4 (told := .non) S (by rw [c]; rfl) es ?_)
    dsimp only
    refine seq_of (b_5 S c ?_)
    dsimp only
    refine seq_of (b_6 S c ?_)
    dsimp only
    refine seq_of (b_7 S c ?_)
    dsimp only
    refine seq_of (b_8 S c ?_)
    dsimp only
    refine seq_of (b_9 S c ?_)
    dsimp only
    refine seq_of (b_10 S c ?_)
    dsimp only
    refine seq_of (b_11 S c ?_)
    dsimp only
    exact b_14 S c (by omega) fun k' g h hk' => hq _ _ _ _ _ _ _ _ _ (by omega)
  | some j =>
    have es : paper N ads = shN j := by unfold paper; rw [c]
    obtain ⟨rs, el, hb⟩ := lost_some S c
    rw [el] at hb
    refine seq_of (l_3 el ?_)
    dsimp only
    refine seq_of (l_4 (told := .int j) S (by rw [c]; rfl) es ?_)
    dsimp only
    refine seq_of (a_5 S c hb ?_)
    dsimp only
    refine seq_of (a_6 S c hb ?_)
    dsimp only
    refine seq_of (a_7 S c hb ?_)
    dsimp only
    refine seq_of (a_8 S c hb ?_)
    dsimp only
    refine seq_of (a_9 S c hb ?_)
    dsimp only
    refine seq_of (a_10 S c hb ?_)
    dsimp only
    refine seq_of (a_11 S c hb ?_)
    dsimp only
    exact a_14 S c hb (hq _ _ _ _ _ _ _ _ _ (by omega))
theorem l_15 {ns : List Int} {Q : UEnds} (hn : ns.length ≤ 63) (q : ∀ k t r f s a b g h, Q.nx (R ns k t r f s a b g h)) : i_law_15 Q (R ns 0 none none none none none none none none) := by
  have key : ∀ c : Int, 0 ≤ c → c ≤ 12 → goFor (ugName 2) (uSeq i_law_1 (uSeq i_law_2 (uSeq i_law_3 (uSeq i_law_4 (uSeq i_law_5 (uSeq i_law_6 (uSeq i_law_7 (uSeq i_law_8 (uSeq i_law_9 (uSeq i_law_10 (uSeq i_law_11 i_law_14))))))))))) Q (rgD 0 c.toNat) (R ns 0 none none none none none none none none) := fun c c0 c1 => by
    refine goFor_inv (I := fun j ρ => ∃ k t r f s a b g h, k ≤ 60 * j ∧ ρ = R ns k t r f s a b g h) (fun _ => True) 12 (fun j x ρ Q' hj _ hI hq => ?_) _ 0 _ (by rw [rg_len]; omega) (fun _ _ => trivial) ⟨0, none, none, none, none, none, none, none, none, by omega, rfl⟩ (fun ρ' hI => ?_)
    · obtain ⟨k, t, r, f, s, a, b, g, h, hk, rfl⟩ := hI
      exact body_ok (t := some x) (by omega) fun k' t r f s a b g h hk' => hq _ ⟨k', t, r, f, s, a, b, g, h, by omega, rfl⟩
    · obtain ⟨k, t, r, f, s, a, b, g, h, hk, rfl⟩ := hI
      exact q _ _ _ _ _ _ _ _ _
  refine ⟨?_, ?_, ?_⟩
  · split <;> omega
  · split <;> omega
  · exact key _ (by split <;> omega) (by split <;> omega)
theorem last_sc : IsSc 5 [1, 2, 3, 4, 5] := ⟨by decide, by decide, by decide, by decide, by decide, by decide⟩
theorem last_full : never 5 [1, 2, 3, 4, 5] = none := by decide +kernel
theorem l_16 {ns : List Int} {k : Nat} {t r f : Option D} {s : Option (D ⊕ D)} {a b g h : Option D} {Q : UEnds} (q : ∀ ρ, Q.rt (.bl true) ρ) : i_law_16 Q (R ns k t r f s a b g h) :=
  ⟨sz rfl, sz rfl, rfl, rfl, w_fn' (d := .non) last_sc (by rw [last_full]; rfl) (q _)⟩
theorem s_0 {ns : List Int} {Q : UEnds} (h : ns.length ≤ 63) (q : Q.nx (R ns 0 none none none none none none none none)) : uBegin 0 1 Q [some (.val (.scr ns)), none, none, none, none, none, none, none, none, none, none] := ⟨ns, rfl, h, rfl, q⟩
theorem u_law_ok {ns : List Int} {Q : UEnds} (h : ns.length ≤ 63) (q : ∀ ρ', Q.rt (.bl true) ρ') : u_law Q [some (.val (.scr ns)), none, none, none, none, none, none, none, none, none, none] := by
  unfold u_law
  refine seq_of (s_0 h ?_)
  dsimp only
  refine seq_of (l_15 h fun k t r f s a b g h => ?_)
  dsimp only
  exact l_16 q
theorem w_law (ns : List Int) (h : ns.length ≤ 63) : W_law [.val (.scr ns)] fun d _ => d = .bl true := by
  unfold W_law Wof
  exact u_law_ok h fun _ => rfl
end LK
namespace LK
open PySem PySem.Spec PyProof.Rows L2 CD DL
/-! ### what the top has written -/
theorem all_mk {P : Program} {w : World} {K : PySem.W.Frag} {h : Heap} {mg : Str → Option Value} (X : K.In h) (G : h.Ns mainGlobals mg)
    {f0 : Addr} {od0 an0 : Option Addr} {sl0 : Array (Option Value)} {oc0 kV0 dc0 pm0 cd0 ct0 : Value} (a0 : PySem.W.nsIn K mainGlobals "is_integer" = some (some (.ref f0)))
    (l0 : K.lookup f0 = some ⟨oc0, od0, .func (PySem.W.fnOf "is_integer" "is_integer" (defArgs s_is_integer) (defBody s_is_integer) (defScope s_is_integer) .none kV0 dc0 pm0 an0 cd0 ct0), sl0⟩)
    (c0 : PySem.W.codeIn K cd0 "is_integer" = true)
    (k0 : PySem.W.keepIn K (.ref f0) = true)
    {f1 : Addr} {od1 an1 : Option Addr} {sl1 : Array (Option Value)} {oc1 kV1 dc1 pm1 cd1 ct1 : Value} (a1 : PySem.W.nsIn K mainGlobals "is_number" = some (some (.ref f1)))
    (l1 : K.lookup f1 = some ⟨oc1, od1, .func (PySem.W.fnOf "is_number" "is_number" (defArgs s_is_number) (defBody s_is_number) (defScope s_is_number) .none kV1 dc1 pm1 an1 cd1 ct1), sl1⟩)
    (c1 : PySem.W.codeIn K cd1 "is_number" = true)
    (k1 : PySem.W.keepIn K (.ref f1) = true)
    {f2 : Addr} {od2 an2 : Option Addr} {sl2 : Array (Option Value)} {oc2 kV2 dc2 pm2 cd2 ct2 : Value} (a2 : PySem.W.nsIn K mainGlobals "is_ascending" = some (some (.ref f2)))
    (l2 : K.lookup f2 = some ⟨oc2, od2, .func (PySem.W.fnOf "is_ascending" "is_ascending" (defArgs s_is_ascending) (defBody s_is_ascending) (defScope s_is_ascending) .none kV2 dc2 pm2 an2 cd2 ct2), sl2⟩)
    (c2 : PySem.W.codeIn K cd2 "is_ascending" = true)
    (k2 : PySem.W.keepIn K (.ref f2) = true)
    {f3 : Addr} {od3 an3 : Option Addr} {sl3 : Array (Option Value)} {oc3 kV3 dc3 pm3 cd3 ct3 : Value} (a3 : PySem.W.nsIn K mainGlobals "need_person" = some (some (.ref f3)))
    (l3 : K.lookup f3 = some ⟨oc3, od3, .func (PySem.W.fnOf "need_person" "need_person" (defArgs s_need_person) (defBody s_need_person) (defScope s_need_person) .none kV3 dc3 pm3 an3 cd3 ct3), sl3⟩)
    (c3 : PySem.W.codeIn K cd3 "need_person" = true)
    (k3 : PySem.W.keepIn K (.ref f3) = true)
    {f4 : Addr} {od4 an4 : Option Addr} {sl4 : Array (Option Value)} {oc4 kV4 dc4 pm4 cd4 ct4 : Value} (a4 : PySem.W.nsIn K mainGlobals "back_of" = some (some (.ref f4)))
    (l4 : K.lookup f4 = some ⟨oc4, od4, .func (PySem.W.fnOf "back_of" "back_of" (defArgs s_back_of) (defBody s_back_of) (defScope s_back_of) .none kV4 dc4 pm4 an4 cd4 ct4), sl4⟩)
    (c4 : PySem.W.codeIn K cd4 "back_of" = true)
    (k4 : PySem.W.keepIn K (.ref f4) = true)
    {f5 : Addr} {od5 an5 : Option Addr} {sl5 : Array (Option Value)} {oc5 kV5 dc5 pm5 cd5 ct5 : Value} (a5 : PySem.W.nsIn K mainGlobals "callers_of" = some (some (.ref f5)))
    (l5 : K.lookup f5 = some ⟨oc5, od5, .func (PySem.W.fnOf "callers_of" "callers_of" (defArgs s_callers_of) (defBody s_callers_of) (defScope s_callers_of) .none kV5 dc5 pm5 an5 cd5 ct5), sl5⟩)
    (c5 : PySem.W.codeIn K cd5 "callers_of" = true)
    (k5 : PySem.W.keepIn K (.ref f5) = true)
    {f6 : Addr} {od6 an6 : Option Addr} {sl6 : Array (Option Value)} {oc6 kV6 dc6 pm6 cd6 ct6 : Value} (a6 : PySem.W.nsIn K mainGlobals "ticks_of" = some (some (.ref f6)))
    (l6 : K.lookup f6 = some ⟨oc6, od6, .func (PySem.W.fnOf "ticks_of" "ticks_of" (defArgs s_ticks_of) (defBody s_ticks_of) (defScope s_ticks_of) .none kV6 dc6 pm6 an6 cd6 ct6), sl6⟩)
    (c6 : PySem.W.codeIn K cd6 "ticks_of" = true)
    (k6 : PySem.W.keepIn K (.ref f6) = true)
    {f7 : Addr} {od7 an7 : Option Addr} {sl7 : Array (Option Value)} {oc7 kV7 dc7 pm7 cd7 ct7 : Value} (a7 : PySem.W.nsIn K mainGlobals "told_bits" = some (some (.ref f7)))
    (l7 : K.lookup f7 = some ⟨oc7, od7, .func (PySem.W.fnOf "told_bits" "told_bits" (defArgs s_told_bits) (defBody s_told_bits) (defScope s_told_bits) .none kV7 dc7 pm7 an7 cd7 ct7), sl7⟩)
    (c7 : PySem.W.codeIn K cd7 "told_bits" = true)
    (k7 : PySem.W.keepIn K (.ref f7) = true)
    {f8 : Addr} {od8 an8 : Option Addr} {sl8 : Array (Option Value)} {oc8 kV8 dc8 pm8 cd8 ct8 : Value} (a8 : PySem.W.nsIn K mainGlobals "rows_of" = some (some (.ref f8)))
    (l8 : K.lookup f8 = some ⟨oc8, od8, .func (PySem.W.fnOf "rows_of" "rows_of" (defArgs s_rows_of) (defBody s_rows_of) (defScope s_rows_of) .none kV8 dc8 pm8 an8 cd8 ct8), sl8⟩)
    (c8 : PySem.W.codeIn K cd8 "rows_of" = true)
    (k8 : PySem.W.keepIn K (.ref f8) = true)
    {f9 : Addr} {od9 an9 : Option Addr} {sl9 : Array (Option Value)} {oc9 kV9 dc9 pm9 cd9 ct9 : Value} (a9 : PySem.W.nsIn K mainGlobals "row_behind" = some (some (.ref f9)))
    (l9 : K.lookup f9 = some ⟨oc9, od9, .func (PySem.W.fnOf "row_behind" "row_behind" (defArgs s_row_behind) (defBody s_row_behind) (defScope s_row_behind) .none kV9 dc9 pm9 an9 cd9 ct9), sl9⟩)
    (c9 : PySem.W.codeIn K cd9 "row_behind" = true)
    (k9 : PySem.W.keepIn K (.ref f9) = true)
    {f10 : Addr} {od10 an10 : Option Addr} {sl10 : Array (Option Value)} {oc10 kV10 dc10 pm10 cd10 ct10 : Value} (a10 : PySem.W.nsIn K mainGlobals "_is_called" = some (some (.ref f10)))
    (l10 : K.lookup f10 = some ⟨oc10, od10, .func (PySem.W.fnOf "_is_called" "_is_called" (defArgs s__is_called) (defBody s__is_called) (defScope s__is_called) .none kV10 dc10 pm10 an10 cd10 ct10), sl10⟩)
    (c10 : PySem.W.codeIn K cd10 "_is_called" = true)
    (k10 : PySem.W.keepIn K (.ref f10) = true)
    {f11 : Addr} {od11 an11 : Option Addr} {sl11 : Array (Option Value)} {oc11 kV11 dc11 pm11 cd11 ct11 : Value} (a11 : PySem.W.nsIn K mainGlobals "need_scaled" = some (some (.ref f11)))
    (l11 : K.lookup f11 = some ⟨oc11, od11, .func (PySem.W.fnOf "need_scaled" "need_scaled" (defArgs s_need_scaled) (defBody s_need_scaled) (defScope s_need_scaled) .none kV11 dc11 pm11 an11 cd11 ct11), sl11⟩)
    (c11 : PySem.W.codeIn K cd11 "need_scaled" = true)
    (k11 : PySem.W.keepIn K (.ref f11) = true)
    {f12 : Addr} {od12 an12 : Option Addr} {sl12 : Array (Option Value)} {oc12 kV12 dc12 pm12 cd12 ct12 : Value} (a12 : PySem.W.nsIn K mainGlobals "tick_at" = some (some (.ref f12)))
    (l12 : K.lookup f12 = some ⟨oc12, od12, .func (PySem.W.fnOf "tick_at" "tick_at" (defArgs s_tick_at) (defBody s_tick_at) (defScope s_tick_at) .none kV12 dc12 pm12 an12 cd12 ct12), sl12⟩)
    (c12 : PySem.W.codeIn K cd12 "tick_at" = true)
    (k12 : PySem.W.keepIn K (.ref f12) = true)
    {f13 : Addr} {od13 an13 : Option Addr} {sl13 : Array (Option Value)} {oc13 kV13 dc13 pm13 cd13 ct13 : Value} (a13 : PySem.W.nsIn K mainGlobals "first_never" = some (some (.ref f13)))
    (l13 : K.lookup f13 = some ⟨oc13, od13, .func (PySem.W.fnOf "first_never" "first_never" (defArgs s_first_never) (defBody s_first_never) (defScope s_first_never) .none kV13 dc13 pm13 an13 cd13 ct13), sl13⟩)
    (c13 : PySem.W.codeIn K cd13 "first_never" = true)
    (k13 : PySem.W.keepIn K (.ref f13) = true)
    {f14 : Addr} {od14 an14 : Option Addr} {sl14 : Array (Option Value)} {oc14 kV14 dc14 pm14 cd14 ct14 : Value} (a14 : PySem.W.nsIn K mainGlobals "full_paper" = some (some (.ref f14)))
    (l14 : K.lookup f14 = some ⟨oc14, od14, .func (PySem.W.fnOf "full_paper" "full_paper" (defArgs s_full_paper) (defBody s_full_paper) (defScope s_full_paper) .none kV14 dc14 pm14 an14 cd14 ct14), sl14⟩)
    (c14 : PySem.W.codeIn K cd14 "full_paper" = true)
    (k14 : PySem.W.keepIn K (.ref f14) = true)
    {f15 : Addr} {od15 an15 : Option Addr} {sl15 : Array (Option Value)} {oc15 kV15 dc15 pm15 cd15 ct15 : Value} (a15 : PySem.W.nsIn K mainGlobals "check_full" = some (some (.ref f15)))
    (l15 : K.lookup f15 = some ⟨oc15, od15, .func (PySem.W.fnOf "check_full" "check_full" (defArgs s_check_full) (defBody s_check_full) (defScope s_check_full) .none kV15 dc15 pm15 an15 cd15 ct15), sl15⟩)
    (c15 : PySem.W.codeIn K cd15 "check_full" = true)
    (k15 : PySem.W.keepIn K (.ref f15) = true)
    {f16 : Addr} {od16 an16 : Option Addr} {sl16 : Array (Option Value)} {oc16 kV16 dc16 pm16 cd16 ct16 : Value} (a16 : PySem.W.nsIn K mainGlobals "_decisive" = some (some (.ref f16)))
    (l16 : K.lookup f16 = some ⟨oc16, od16, .func (PySem.W.fnOf "_decisive" "_decisive" (defArgs s__decisive) (defBody s__decisive) (defScope s__decisive) .none kV16 dc16 pm16 an16 cd16 ct16), sl16⟩)
    (c16 : PySem.W.codeIn K cd16 "_decisive" = true)
    (k16 : PySem.W.keepIn K (.ref f16) = true)
    {f17 : Addr} {od17 an17 : Option Addr} {sl17 : Array (Option Value)} {oc17 kV17 dc17 pm17 cd17 ct17 : Value} (a17 : PySem.W.nsIn K mainGlobals "_is_never" = some (some (.ref f17)))
    (l17 : K.lookup f17 = some ⟨oc17, od17, .func (PySem.W.fnOf "_is_never" "_is_never" (defArgs s__is_never) (defBody s__is_never) (defScope s__is_never) .none kV17 dc17 pm17 an17 cd17 ct17), sl17⟩)
    (c17 : PySem.W.codeIn K cd17 "_is_never" = true)
    (k17 : PySem.W.keepIn K (.ref f17) = true)
    {f18 : Addr} {od18 an18 : Option Addr} {sl18 : Array (Option Value)} {oc18 kV18 dc18 pm18 cd18 ct18 : Value} (a18 : PySem.W.nsIn K mainGlobals "_is_row" = some (some (.ref f18)))
    (l18 : K.lookup f18 = some ⟨oc18, od18, .func (PySem.W.fnOf "_is_row" "_is_row" (defArgs s__is_row) (defBody s__is_row) (defScope s__is_row) .none kV18 dc18 pm18 an18 cd18 ct18), sl18⟩)
    (c18 : PySem.W.codeIn K cd18 "_is_row" = true)
    (k18 : PySem.W.keepIn K (.ref f18) = true)
    {f19 : Addr} {od19 an19 : Option Addr} {sl19 : Array (Option Value)} {oc19 kV19 dc19 pm19 cd19 ct19 : Value} (a19 : PySem.W.nsIn K mainGlobals "_is_table" = some (some (.ref f19)))
    (l19 : K.lookup f19 = some ⟨oc19, od19, .func (PySem.W.fnOf "_is_table" "_is_table" (defArgs s__is_table) (defBody s__is_table) (defScope s__is_table) .none kV19 dc19 pm19 an19 cd19 ct19), sl19⟩)
    (c19 : PySem.W.codeIn K cd19 "_is_table" = true)
    (k19 : PySem.W.keepIn K (.ref f19) = true)
    {f20 : Addr} {od20 an20 : Option Addr} {sl20 : Array (Option Value)} {oc20 kV20 dc20 pm20 cd20 ct20 : Value} (a20 : PySem.W.nsIn K mainGlobals "_law_begun" = some (some (.ref f20)))
    (l20 : K.lookup f20 = some ⟨oc20, od20, .func (PySem.W.fnOf "_law_begun" "_law_begun" (defArgs s__law_begun) (defBody s__law_begun) (defScope s__law_begun) .none kV20 dc20 pm20 an20 cd20 ct20), sl20⟩)
    (c20 : PySem.W.codeIn K cd20 "_law_begun" = true)
    (k20 : PySem.W.keepIn K (.ref f20) = true)
    {f21 : Addr} {od21 an21 : Option Addr} {sl21 : Array (Option Value)} {oc21 kV21 dc21 pm21 cd21 ct21 : Value} (a21 : PySem.W.nsIn K mainGlobals "_law_next" = some (some (.ref f21)))
    (l21 : K.lookup f21 = some ⟨oc21, od21, .func (PySem.W.fnOf "_law_next" "_law_next" (defArgs s__law_next) (defBody s__law_next) (defScope s__law_next) .none kV21 dc21 pm21 an21 cd21 ct21), sl21⟩)
    (c21 : PySem.W.codeIn K cd21 "_law_next" = true)
    (k21 : PySem.W.keepIn K (.ref f21) = true)
    {f22 : Addr} {od22 an22 : Option Addr} {sl22 : Array (Option Value)} {oc22 kV22 dc22 pm22 cd22 ct22 : Value} (a22 : PySem.W.nsIn K mainGlobals "_law_of" = some (some (.ref f22)))
    (l22 : K.lookup f22 = some ⟨oc22, od22, .func (PySem.W.fnOf "_law_of" "_law_of" (defArgs s__law_of) (defBody s__law_of) (defScope s__law_of) .none kV22 dc22 pm22 an22 cd22 ct22), sl22⟩)
    (c22 : PySem.W.codeIn K cd22 "_law_of" = true)
    (k22 : PySem.W.keepIn K (.ref f22) = true)
    {f23 : Addr} {od23 an23 : Option Addr} {sl23 : Array (Option Value)} {oc23 kV23 dc23 pm23 cd23 ct23 : Value} (a23 : PySem.W.nsIn K mainGlobals "_law_scale" = some (some (.ref f23)))
    (l23 : K.lookup f23 = some ⟨oc23, od23, .func (PySem.W.fnOf "_law_scale" "_law_scale" (defArgs s__law_scale) (defBody s__law_scale) (defScope s__law_scale) .none kV23 dc23 pm23 an23 cd23 ct23), sl23⟩)
    (c23 : PySem.W.codeIn K cd23 "_law_scale" = true)
    (k23 : PySem.W.keepIn K (.ref f23) = true)
    {f24 : Addr} {od24 an24 : Option Addr} {sl24 : Array (Option Value)} {oc24 kV24 dc24 pm24 cd24 ct24 : Value} (a24 : PySem.W.nsIn K mainGlobals "_law_spread" = some (some (.ref f24)))
    (l24 : K.lookup f24 = some ⟨oc24, od24, .func (PySem.W.fnOf "_law_spread" "_law_spread" (defArgs s__law_spread) (defBody s__law_spread) (defScope s__law_spread) .none kV24 dc24 pm24 an24 cd24 ct24), sl24⟩)
    (c24 : PySem.W.codeIn K cd24 "_law_spread" = true)
    (k24 : PySem.W.keepIn K (.ref f24) = true)
    {f25 : Addr} {od25 an25 : Option Addr} {sl25 : Array (Option Value)} {oc25 kV25 dc25 pm25 cd25 ct25 : Value} (a25 : PySem.W.nsIn K mainGlobals "_law_spread_at" = some (some (.ref f25)))
    (l25 : K.lookup f25 = some ⟨oc25, od25, .func (PySem.W.fnOf "_law_spread_at" "_law_spread_at" (defArgs s__law_spread_at) (defBody s__law_spread_at) (defScope s__law_spread_at) .none kV25 dc25 pm25 an25 cd25 ct25), sl25⟩)
    (c25 : PySem.W.codeIn K cd25 "_law_spread_at" = true)
    (k25 : PySem.W.keepIn K (.ref f25) = true)
    {f26 : Addr} {od26 an26 : Option Addr} {sl26 : Array (Option Value)} {oc26 kV26 dc26 pm26 cd26 ct26 : Value} (a26 : PySem.W.nsIn K mainGlobals "law" = some (some (.ref f26)))
    (l26 : K.lookup f26 = some ⟨oc26, od26, .func (PySem.W.fnOf "law" "law" (defArgs s_law) (defBody s_law) (defScope s_law) .none kV26 dc26 pm26 an26 cd26 ct26), sl26⟩)
    (c26 : PySem.W.codeIn K cd26 "law" = true)
    (k26 : PySem.W.keepIn K (.ref f26) = true)
    (z0 : PySem.W.nsIn K mainGlobals "all" = some none)
    (z1 : PySem.W.nsIn K mainGlobals "any" = some none)
    (z2 : PySem.W.nsIn K mainGlobals "bool" = some none)
    (z3 : PySem.W.nsIn K mainGlobals "divmod" = some none)
    (z4 : PySem.W.nsIn K mainGlobals "enumerate" = some none)
    (z5 : PySem.W.nsIn K mainGlobals "int" = some none)
    (z6 : PySem.W.nsIn K mainGlobals "isinstance" = some none)
    (z7 : PySem.W.nsIn K mainGlobals "len" = some none)
    (z8 : PySem.W.nsIn K mainGlobals "list" = some none)
    (z9 : PySem.W.nsIn K mainGlobals "max" = some none)
    (z10 : PySem.W.nsIn K mainGlobals "min" = some none)
    (z11 : PySem.W.nsIn K mainGlobals "range" = some none)
    (z12 : PySem.W.nsIn K mainGlobals "repr" = some none)
    (z13 : PySem.W.nsIn K mainGlobals "reversed" = some none)
    (z14 : PySem.W.nsIn K mainGlobals "set" = some none)
    (z15 : PySem.W.nsIn K mainGlobals "sorted" = some none)
    (z16 : PySem.W.nsIn K mainGlobals "str" = some none)
    (z17 : PySem.W.nsIn K mainGlobals "sum" = some none)
    (z18 : PySem.W.nsIn K mainGlobals "tuple" = some none)
    (z19 : PySem.W.nsIn K mainGlobals "zip" = some none)
    {i0 : Int} {t0 : Tok} (m0 : PySem.W.nsIn K mainGlobals "MOST_NUMBER" = some (some (.int i0 t0)))
    (e0 : i0 = 10 ^ 30)
    {i1 : Int} {t1 : Tok} (m1 : PySem.W.nsIn K mainGlobals "LEAST_SCALE" = some (some (.int i1 t1)))
    (e1 : i1 = 2)
    {i2 : Int} {t2 : Tok} (m2 : PySem.W.nsIn K mainGlobals "GREATEST_SCALE" = some (some (.int i2 t2)))
    (e2 : i2 = 5)
    {i3 : Int} {t3 : Tok} (m3 : PySem.W.nsIn K mainGlobals "MOST_ADDS" = some (some (.int i3 t3)))
    (e3 : i3 = 5)
    {i4 : Int} {t4 : Tok} (m4 : PySem.W.nsIn K mainGlobals "GREATEST_ADD" = some (some (.int i4 t4)))
    (e4 : i4 = 20) :
    ∀ base : Heap, K.In base → base.Ns mainGlobals mg → CalG P w K mg base 103 "law" ["script"] (spL GD K 1 fun as Q => hasG as = false ∧ W_law as Q) := by
  intro base _ _
  have z : Z mg := ⟨PySem.W.mg_none_of X G z0, PySem.W.mg_none_of X G z1, PySem.W.mg_none_of X G z2, PySem.W.mg_none_of X G z3, PySem.W.mg_none_of X G z4, PySem.W.mg_none_of X G z5, PySem.W.mg_none_of X G z6, PySem.W.mg_none_of X G z7, PySem.W.mg_none_of X G z8, PySem.W.mg_none_of X G z9, PySem.W.mg_none_of X G z10, PySem.W.mg_none_of X G z11, PySem.W.mg_none_of X G z12, PySem.W.mg_none_of X G z13, PySem.W.mg_none_of X G z14, PySem.W.mg_none_of X G z15, PySem.W.mg_none_of X G z16, PySem.W.mg_none_of X G z17, PySem.W.mg_none_of X G z18, PySem.W.mg_none_of X G z19⟩
  have v_MOST_NUMBER := mg_int X G m0 e0
  have v_LEAST_SCALE := mg_int X G m1 e1
  have v_GREATEST_SCALE := mg_int X G m2 e2
  have v_MOST_ADDS := mg_int X G m3 e3
  have v_GREATEST_ADD := mg_int X G m4 e4
  have D_is_integer := def_mk (st := s_is_integer) (ps := p_is_integer) X G a0 l0 c0 k0 fun _ _ _ _ _ _ us hl => match us, hl with | [_], _ => rfl
  have D_is_number := def_mk (st := s_is_number) (ps := p_is_number) X G a1 l1 c1 k1 fun _ _ _ _ _ _ us hl => match us, hl with | [_, _, _], _ => rfl
  have D_is_ascending := def_mk (st := s_is_ascending) (ps := p_is_ascending) X G a2 l2 c2 k2 fun _ _ _ _ _ _ us hl => match us, hl with | [_], _ => rfl
  have D_need_person := def_mk (st := s_need_person) (ps := p_need_person) X G a3 l3 c3 k3 fun _ _ _ _ _ _ us hl => match us, hl with | [_], _ => rfl
  have D_back_of := def_mk (st := s_back_of) (ps := p_back_of) X G a4 l4 c4 k4 fun _ _ _ _ _ _ us hl => match us, hl with | [_], _ => rfl
  have D_callers_of := def_mk (st := s_callers_of) (ps := p_callers_of) X G a5 l5 c5 k5 fun _ _ _ _ _ _ us hl => match us, hl with | [_, _], _ => rfl
  have D_ticks_of := def_mk (st := s_ticks_of) (ps := p_ticks_of) X G a6 l6 c6 k6 fun _ _ _ _ _ _ us hl => match us, hl with | [_, _], _ => rfl
  have D_told_bits := def_mk (st := s_told_bits) (ps := p_told_bits) X G a7 l7 c7 k7 fun _ _ _ _ _ _ us hl => match us, hl with | [_, _], _ => rfl
  have D_rows_of := def_mk (st := s_rows_of) (ps := p_rows_of) X G a8 l8 c8 k8 fun _ _ _ _ _ _ us hl => match us, hl with | [_, _], _ => rfl
  have D_row_behind := def_mk (st := s_row_behind) (ps := p_row_behind) X G a9 l9 c9 k9 fun _ _ _ _ _ _ us hl => match us, hl with | [_, _, _], _ => rfl
  have D__is_called := def_mk (st := s__is_called) (ps := p__is_called) X G a10 l10 c10 k10 fun _ _ _ _ _ _ us hl => match us, hl with | [_, _, _, _], _ => rfl
  have D_need_scaled := def_mk (st := s_need_scaled) (ps := p_need_scaled) X G a11 l11 c11 k11 fun _ _ _ _ _ _ us hl => match us, hl with | [_], _ => rfl
  have D_tick_at := def_mk (st := s_tick_at) (ps := p_tick_at) X G a12 l12 c12 k12 fun _ _ _ _ _ _ us hl => match us, hl with | [_, _], _ => rfl
  have D_first_never := def_mk (st := s_first_never) (ps := p_first_never) X G a13 l13 c13 k13 fun _ _ _ _ _ _ us hl => match us, hl with | [_], _ => rfl
  have D_full_paper := def_mk (st := s_full_paper) (ps := p_full_paper) X G a14 l14 c14 k14 fun _ _ _ _ _ _ us hl => match us, hl with | [_], _ => rfl
  have D_check_full := def_mk (st := s_check_full) (ps := p_check_full) X G a15 l15 c15 k15 fun _ _ _ _ _ _ us hl => match us, hl with | [_, _], _ => rfl
  have D__decisive := def_mk (st := s__decisive) (ps := p__decisive) X G a16 l16 c16 k16 fun _ _ _ _ _ _ us hl => match us, hl with | [_], _ => rfl
  have D__is_never := def_mk (st := s__is_never) (ps := p__is_never) X G a17 l17 c17 k17 fun _ _ _ _ _ _ us hl => match us, hl with | [_, _], _ => rfl
  have D__is_row := def_mk (st := s__is_row) (ps := p__is_row) X G a18 l18 c18 k18 fun _ _ _ _ _ _ us hl => match us, hl with | [_, _], _ => rfl
  have D__is_table := def_mk (st := s__is_table) (ps := p__is_table) X G a19 l19 c19 k19 fun _ _ _ _ _ _ us hl => match us, hl with | [_, _], _ => rfl
  have D__law_begun := def_mk (st := s__law_begun) (ps := p__law_begun) X G a20 l20 c20 k20 fun _ _ _ _ _ _ us hl => match us, hl with | [_], _ => rfl
  have D__law_next := def_mk (st := s__law_next) (ps := p__law_next) X G a21 l21 c21 k21 fun _ _ _ _ _ _ us hl => match us, hl with | [_, _], _ => rfl
  have D__law_of := def_mk (st := s__law_of) (ps := p__law_of) X G a22 l22 c22 k22 fun _ _ _ _ _ _ us hl => match us, hl with | [_, _], _ => rfl
  have D__law_scale := def_mk (st := s__law_scale) (ps := p__law_scale) X G a23 l23 c23 k23 fun _ _ _ _ _ _ us hl => match us, hl with | [_], _ => rfl
  have D__law_spread := def_mk (st := s__law_spread) (ps := p__law_spread) X G a24 l24 c24 k24 fun _ _ _ _ _ _ us hl => match us, hl with | [_, _], _ => rfl
  have D__law_spread_at := def_mk (st := s__law_spread_at) (ps := p__law_spread_at) X G a25 l25 c25 k25 fun _ _ _ _ _ _ us hl => match us, hl with | [_, _, _], _ => rfl
  have D_law := def_mk (st := s_law) (ps := p_law) X G a26 l26 c26 k26 fun _ _ _ _ _ _ us hl => match us, hl with | [_], _ => rfl
  have c__law_begun := cal_law_begun (P := P) (w := w) (base := base) z D__law_begun
  have o_is_integer := cal_is_integer (P := P) (w := w) (base := base) z D_is_integer
  have o_is_number := cal_is_number (P := P) (w := w) (base := base) z o_is_integer D_is_number
  have o_need_person := cal_need_person (P := P) (w := w) (base := base) z v_MOST_NUMBER o_is_number D_need_person
  have o_need_scaled := cal_need_scaled (P := P) (w := w) (base := base) z v_LEAST_SCALE v_GREATEST_SCALE v_MOST_ADDS v_GREATEST_ADD o_is_number D_need_scaled
  have o_callers_of := cal_callers_of (P := P) (w := w) (base := base) z D_callers_of
  have o_ticks_of := cal_ticks_of (P := P) (w := w) (base := base) z o_callers_of D_ticks_of
  have o_tick_at := cal_tick_at (P := P) (w := w) (base := base) z o_need_scaled o_need_person o_ticks_of D_tick_at
  have c_need_scaled := liftO_need_scaled (GP := GD) o_need_scaled
  have c_ticks_of := liftO_ticks_of (GP := GD) o_ticks_of
  have c_tick_at := liftO_tick_at (GP := GD) o_tick_at
  have c__law_spread := liftO__law_spread (GP := GD) (cal_law_spread (P := P) (w := w) (base := base) z D__law_spread)
  have c__law_spread_at := (spread_all (P := P) (w := w) (base := base) z D__law_spread_at 100).mono (by decide : 101 ≤ 102)
  have c_is_integer := lift_is_integer (P := P) (w := w) (base := base) (GP := GD) z D_is_integer
  have c_is_number := lift_is_number (P := P) (w := w) (base := base) (GP := GD) z c_is_integer D_is_number
  have c_is_ascending := lift_is_ascending (P := P) (w := w) (base := base) (GP := GD) z D_is_ascending
  have c_back_of := lift_back_of (P := P) (w := w) (base := base) (GP := GD) z D_back_of
  have c_told_bits := lift_told_bits (P := P) (w := w) (base := base) (GP := GD) z c_ticks_of D_told_bits
  have c_rows_of := lift_rows_of (P := P) (w := w) (base := base) (GP := GD) z D_rows_of
  have c__is_called := lift__is_called (P := P) (w := w) (base := base) (GP := GD) z D__is_called
  have c_row_behind := lift_row_behind (P := P) (w := w) (base := base) (GP := GD) z c__is_called D_row_behind
  have c__decisive := lift__decisive (P := P) (w := w) (base := base) (GP := GD) z c_back_of D__decisive
  have c_first_never := lift_first_never (P := P) (w := w) (base := base) (GP := GD) z c_need_scaled c_told_bits c__decisive D_first_never
  have c_full_paper := lift_full_paper (P := P) (w := w) (base := base) (GP := GD) z c_first_never c_back_of D_full_paper
  have c__is_never := lift__is_never (P := P) (w := w) (base := base) (GP := GD) z v_MOST_NUMBER c_is_number c_ticks_of D__is_never
  have c__is_row := lift__is_row (P := P) (w := w) (base := base) (GP := GD) z c_is_number D__is_row
  have c__is_table := lift__is_table (P := P) (w := w) (base := base) (GP := GD) z c_back_of c__is_row c_is_ascending c_told_bits c__decisive c_rows_of c_row_behind D__is_table
  have c_check_full := lift_check_full (P := P) (w := w) (base := base) (GP := GD) z c_need_scaled c__is_never c__is_table D_check_full
  have c__law_next := lift__law_next (P := P) (w := w) (base := base) z D__law_next
  have c__law_of := lift__law_of (P := P) (w := w) (base := base) z c__law_next D__law_of
  have c__law_scale := lift__law_scale (P := P) (w := w) (base := base) z c__law_next c__law_of D__law_scale
  exact lift_law (P := P) (w := w) (base := base) z c__law_spread_at c__law_scale c__law_spread c_first_never c_full_paper c_check_full c__law_next c__law_of c_tick_at c__law_begun D_law
end LK
open PySem PySem.W PyProof.Rows
set_option maxHeartbeats 0 in
theorem PySem.Challenge.cw_callsdown_k52_whole_full_rules_holds : PySem.Challenge.rw_callsdown_k52_whole_full_rules.Holds := by
  w_on
  o_law
  k_head
  (case hw => w_witness2)
  k_fill
  refine DL.walk_c (l := PySem.Challenge.rw_callsdown_k52_whole_full_rules) (n := 63) (k := 103) (x := "script") (sp := fun w => DL.spL LK.GD _ 1 fun as Q => DL.hasG as = false ∧ LK.W_law as Q) rfl (by decide) rfl ⟨rfl, by decide, by decide⟩ (fun w h Y => PySem.W.kIn_of Y) ?F (fun w H a ns hl hS => DL.spL_law LK.w_law H a ns hl hS)
  case F =>
    intro w mg fa h KX G hmg
    refine' LK.all_mk KX G ?a0 ?l0 ?c0 ?k0 ?a1 ?l1 ?c1 ?k1 ?a2 ?l2 ?c2 ?k2 ?a3 ?l3 ?c3 ?k3 ?a4 ?l4 ?c4 ?k4 ?a5 ?l5 ?c5 ?k5 ?a6 ?l6 ?c6 ?k6 ?a7 ?l7 ?c7 ?k7 ?a8 ?l8 ?c8 ?k8 ?a9 ?l9 ?c9 ?k9 ?a10 ?l10 ?c10 ?k10 ?a11 ?l11 ?c11 ?k11 ?a12 ?l12 ?c12 ?k12 ?a13 ?l13 ?c13 ?k13 ?a14 ?l14 ?c14 ?k14 ?a15 ?l15 ?c15 ?k15 ?a16 ?l16 ?c16 ?k16 ?a17 ?l17 ?c17 ?k17 ?a18 ?l18 ?c18 ?k18 ?a19 ?l19 ?c19 ?k19 ?a20 ?l20 ?c20 ?k20 ?a21 ?l21 ?c21 ?k21 ?a22 ?l22 ?c22 ?k22 ?a23 ?l23 ?c23 ?k23 ?a24 ?l24 ?c24 ?k24 ?a25 ?l25 ?c25 ?k25 ?a26 ?l26 ?c26 ?k26 ?z0 ?z1 ?z2 ?z3 ?z4 ?z5 ?z6 ?z7 ?z8 ?z9 ?z10 ?z11 ?z12 ?z13 ?z14 ?z15 ?z16 ?z17 ?z18 ?z19 ?m0 ?e0 ?m1 ?e1 ?m2 ?e2 ?m3 ?e3 ?m4 ?e4
    (case a0 => k_is)
    (case l0 => k_is)
    (case c0 => k_is)
    (case k0 => k_is)
    (case a1 => k_is)
    (case l1 => k_is)
    (case c1 => k_is)
    (case k1 => k_is)
    (case a2 => k_is)
    (case l2 => k_is)
    (case c2 => k_is)
    (case k2 => k_is)
    (case a3 => k_is)
    (case l3 => k_is)
    (case c3 => k_is)
    (case k3 => k_is)
    (case a4 => k_is)
    (case l4 => k_is)
    (case c4 => k_is)
    (case k4 => k_is)
    (case a5 => k_is)
    (case l5 => k_is)
    (case c5 => k_is)
    (case k5 => k_is)
    (case a6 => k_is)
    (case l6 => k_is)
    (case c6 => k_is)
    (case k6 => k_is)
    (case a7 => k_is)
    (case l7 => k_is)
    (case c7 => k_is)
    (case k7 => k_is)
    (case a8 => k_is)
    (case l8 => k_is)
    (case c8 => k_is)
    (case k8 => k_is)
    (case a9 => k_is)
    (case l9 => k_is)
    (case c9 => k_is)
    (case k9 => k_is)
    (case a10 => k_is)
    (case l10 => k_is)
    (case c10 => k_is)
    (case k10 => k_is)
    (case a11 => k_is)
    (case l11 => k_is)
    (case c11 => k_is)
    (case k11 => k_is)
    (case a12 => k_is)
    (case l12 => k_is)
    (case c12 => k_is)
    (case k12 => k_is)
    (case a13 => k_is)
    (case l13 => k_is)
    (case c13 => k_is)
    (case k13 => k_is)
    (case a14 => k_is)
    (case l14 => k_is)
    (case c14 => k_is)
    (case k14 => k_is)
    (case a15 => k_is)
    (case l15 => k_is)
    (case c15 => k_is)
    (case k15 => k_is)
    (case a16 => k_is)
    (case l16 => k_is)
    (case c16 => k_is)
    (case k16 => k_is)
    (case a17 => k_is)
    (case l17 => k_is)
    (case c17 => k_is)
    (case k17 => k_is)
    (case a18 => k_is)
    (case l18 => k_is)
    (case c18 => k_is)
    (case k18 => k_is)
    (case a19 => k_is)
    (case l19 => k_is)
    (case c19 => k_is)
    (case k19 => k_is)
    (case a20 => k_is)
    (case l20 => k_is)
    (case c20 => k_is)
    (case k20 => k_is)
    (case a21 => k_is)
    (case l21 => k_is)
    (case c21 => k_is)
    (case k21 => k_is)
    (case a22 => k_is)
    (case l22 => k_is)
    (case c22 => k_is)
    (case k22 => k_is)
    (case a23 => k_is)
    (case l23 => k_is)
    (case c23 => k_is)
    (case k23 => k_is)
    (case a24 => k_is)
    (case l24 => k_is)
    (case c24 => k_is)
    (case k24 => k_is)
    (case a25 => k_is)
    (case l25 => k_is)
    (case c25 => k_is)
    (case k25 => k_is)
    (case a26 => k_is)
    (case l26 => k_is)
    (case c26 => k_is)
    (case k26 => k_is)
    (case z0 => k_is)
    (case z1 => k_is)
    (case z2 => k_is)
    (case z3 => k_is)
    (case z4 => k_is)
    (case z5 => k_is)
    (case z6 => k_is)
    (case z7 => k_is)
    (case z8 => k_is)
    (case z9 => k_is)
    (case z10 => k_is)
    (case z11 => k_is)
    (case z12 => k_is)
    (case z13 => k_is)
    (case z14 => k_is)
    (case z15 => k_is)
    (case z16 => k_is)
    (case z17 => k_is)
    (case z18 => k_is)
    (case z19 => k_is)
    (case m0 => k_is)
    (case e0 => decide)
    (case m1 => k_is)
    (case e1 => decide)
    (case m2 => k_is)
    (case e2 => decide)
    (case m3 => k_is)
    (case e3 => decide)
    (case m4 => k_is)
    (case e4 => decide)
