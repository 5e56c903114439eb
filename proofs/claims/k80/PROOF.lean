import PyProof.Rows.All
import Wide.All
import OpenK.AllK
import Wide.FinOn
import KE.DatumOrd
import KE.GoesEnumKw
import HandS.ForMost
import HandS.Walk
import HandS.Zip
import HandS.SortKw
import HandS.TupAny
import HandS.TupMul
import HandS.IsInst
import HandS.SetFor
import HandS.RaiseMore
import PyProof.ReprRoads
import HandS.Lambda
import HandS.Strs
import PyProof.EnumMake
import HandS.Conv
import HandS.SortInts
import HandS.TupLen
import HandS.Wide
import HandS.Style
import HandS.ExcInit
import HandS.ExcField
import HandS.TryMany
import HandS.WordsExc
import HandS.ExcIs
import HandS.Text
import HandS.StrMore
import HandS.CallLocal
import HandS.DictComp
import KE.KDflt
import KE.KExcIs
import KE.KTryMore
import HandS.EndTab
import HandS.Iter
import HandS.Codes
import KE.KRevSl
import HandS.TupSets
import HandS.Deep
import HandS.Gcd
import KE.SortKeyHeap
import KE.KeyNested
import HandS.SetKeys
import PyProof.ReprLen
import PyProof.FitsInt
import PySem.Challenge.RW_callsdown_k80_whole_lines_beside
set_option Elab.async false
set_option linter.all false
set_option maxRecDepth 100000
set_option maxHeartbeats 4000000
/-! own rules: a dict with tuple keys of None and ints -/
namespace CD
open PySem PySem.Spec PyProof.Rows L2

/-! ### keys: None or an int -/
def oIs : Option Int → Value → Bool
  | none, .none => true
  | none, _ => false
  | some i, v => Value.isInt i v
def oH : Option Int → Int
  | none => 0xFCA86420
  | some i => hashInt i
def oV : Option Int → V
  | none => .non
  | some i => .int i
theorem oIs_shape : ∀ {k : Option Int} {v : Value}, oIs k v = true → (k = none ∧ v = Value.none) ∨ (∃ i t, k = some i ∧ v = Value.int i t)
  | none, v, h => by
    cases v <;> first | exact .inl ⟨rfl, rfl⟩ | exact absurd h (by simp [oIs])
  | some i, v, h => by
    obtain ⟨t, e⟩ := Value.isInt_shape (k := i) (v := v) h
    exact .inr ⟨i, t, rfl, e⟩
theorem oIs_none : oIs none .none = true := rfl
theorem oIs_int (i : Int) (t : Tok) : oIs (some i) (.int i t) = true := by simp [oIs, Value.isInt]
theorem wpAny_pyHash_none {prog : Program} {w : World} {A : Around} {E : Value → Shared → Prop} {s : Shared} {Q : Int → Shared → Prop} (h : Q 0xFCA86420 { s with toks := s.toks + 1 }) :
    wpAny (model prog w) A (pyHash .none) Q E s := by
  unfold pyHash
  have hT : s.TypeIs Value.none "NoneType" := rfl
  have hv : [Value.none].any Value.onHeap = false := rfl
  refine wpAny_bind ?_
  rw [cRoomFor, if_neg (by rw [hv]; exact Bool.false_ne_true)]; refine wpAny_pure ?_
  refine wpAny_bind (wpAny_specialOf hT F.slot_NoneType_hash.lookup ?_)
  show wpAny _ _ (if (some (Value.builtin "NoneType.__hash__") == some Value.none) = true then _ else _) Q E s
  rw [if_neg (by rw [beq_builtin_none]; exact Bool.false_ne_true)]
  refine wpAny_bind (wpAny_specialOf hT F.slot_NoneType_hash.lookup ?_)
  show wpAny _ _ (callSpecialIfBoundUnlessNone? .none "__hash__" _ >>= _) Q E s
  refine wpAny_bind (wpAny_callSpecialIfBoundUnlessNone?_slot hT F.slot_NoneType_hash
    (wpAny_call_entry F.slot_NoneType_hash hT F.entry_NoneType_hash
      (show wpAny _ _ (do ret (← mkInt 0xFCA86420)) _ _ s from wpAny_ret_mkInt ?_) (F.args_NoneType_hash_1 _)))
  show wpAny _ _ (if (decide (-(2 : Int) ^ 63 ≤ 0xFCA86420) && decide ((0xFCA86420 : Int) < 2 ^ 63)) = true then _ else _) Q E _
  rw [if_pos (by decide)]
  exact wpAny_pure h
theorem okey_ss (a b : Int) : decide (some a = some b) = (a == b) := by
  by_cases e : a = b
  · subst e; simp
  · have h : ¬ some a = some b := fun q => e (Option.some.inj q)
    rw [decide_eq_false h]
    exact (beq_eq_false_iff_ne.mpr e).symm
theorem wpAny_eqBool_none {prog : Program} {w : World} {A : Around} {E : Value → Shared → Prop} {s : Shared} {Q : Bool → Shared → Prop} (h : Q true s) :
    wpAny (model prog w) A (eqBool .none .none) Q E s := by
  unfold eqBool
  try with_reducible refine wpAny_holding ?_
  show wpAny _ _ (if (Value.none == Value.none) = true then _ else _) Q E s
  rw [if_pos (by rfl)]
  exact wpAny_bind (wpAny_rule (wpAny_pure h))
def optKind (prog : Program) (w : World) : PySem.KeyKind prog w (Option Int) where
  is := oIs
  hash := oH
  inj := fun v a b ha hb => by
    rcases oIs_shape ha with ⟨rfl, rfl⟩ | ⟨i, t, rfl, rfl⟩
    · rcases oIs_shape hb with ⟨rfl, _⟩ | ⟨j, u, rfl, e⟩
      · rfl
      · exact nomatch e
    · rcases oIs_shape hb with ⟨rfl, e⟩ | ⟨j, u, rfl, e⟩
      · exact nomatch e
      · injection e with e1 _; rw [e1]
  byValue := fun k v h => by
    rcases oIs_shape h with ⟨rfl, rfl⟩ | ⟨i, t, rfl, rfl⟩ <;> rfl
  pyHash := fun hv h => by
    rcases oIs_shape hv with ⟨rfl, rfl⟩ | ⟨i, t, rfl, rfl⟩
    · exact wpAny_pyHash_none h
    · exact wpAny_pyHash_int h
  eqBool := fun hu hv h => by
    rcases oIs_shape hu with ⟨rfl, rfl⟩ | ⟨i, t, rfl, rfl⟩
    · rcases oIs_shape hv with ⟨rfl, rfl⟩ | ⟨j, u, rfl, rfl⟩
      · rw [decide_eq_true rfl] at h; exact wpAny_eqBool_none h
      · rw [decide_eq_false (fun q => nomatch q)] at h; exact SeqAt.EqAt.none_int j u _ _ _ _ h
    · rcases oIs_shape hv with ⟨rfl, rfl⟩ | ⟨j, u, rfl, rfl⟩
      · rw [decide_eq_false (fun q => nomatch q)] at h; exact SeqAt.EqAt.int_none i t _ _ _ _ h
      · rw [okey_ss] at h; exact wpAny_eqBool_int h
  «strs» := fun k x t v h => by
    rcases oIs_shape h with ⟨rfl, e⟩ | ⟨i, u, rfl, e⟩ <;> exact nomatch e
theorem oV_is {P : Program} {w : World} {k : Option Int} {u : Value} (r : RelV (oV k) u) : (optKind P w).is k u = true := by
  cases k with
  | none => cases (show u = Value.none from r); rfl
  | some i => obtain ⟨t, e⟩ := (show ∃ t, u = Value.int i t from r); subst e; exact oIs_int i t
theorem oV_inj {a b : Option Int} (e : oV a = oV b) : a = b := by
  cases a <;> cases b
  · rfl
  · exact nomatch (show V.non = V.int _ from e)
  · exact nomatch (show V.int _ = V.non from e)
  · have e' : V.int _ = V.int _ := e; injection e' with e'; rw [e']
theorem oitems_are {P : Program} {w : World} : ∀ {ks : List (Option Int)} {us : List Value}, Vals (ks.map oV) us → ItemsAre (optKind P w) ks us
  | [], _, r => by rw [List.map_nil] at r; cases r; exact .nil
  | k :: ks, _, r => by
    rw [List.map_cons] at r
    cases r with
    | cons h t => exact .cons (oV_is h) (oitems_are t)

/-! ### the dict -/
abbrev OKey := List (Option Int)
/-- the raw dict object at a: xs its entries (key, where the key's tuple lies, value) -/
def RawO (P : Program) (w : World) (a : Addr) (xs : List (OKey × Addr × Value)) (h : Heap) : Prop :=
  ∃ o es ep, h.get? a = some o ∧ o.ExactDict ∧ o.data = .dict es ep ∧ es.toList = xs.map (entryOfKey (tupleKind (optKind P w))) ∧ (xs.map (·.1)).Nodup
/-- a dict with keys of None and ints: its entries, where each key lies -/
def DO (P : Program) (w : World) (a : Addr) (ds : List (OKey × Addr × V)) : HO :=
  .ext fun h => ∃ xs : List (OKey × Addr × Value), Paired (fun (p : OKey × Addr × V) (q : OKey × Addr × Value) => p.1 = q.1 ∧ p.2.1 = q.2.1 ∧ RelV p.2.2 q.2.2) ds xs ∧ (a == sysModules) = false ∧ RawO P w a xs h
/-- the keys lie where they are said to lie -/
def KeysO (H : Hp) (ds : List (OKey × Addr × V)) : Prop := ∀ p ∈ ds, H p.2.1 = some (.tup (p.1.map oV))
def valO (ds : List (OKey × Addr × V)) (k : OKey) : Option V := (ds.find? fun p => decide (p.1 = k)).map (·.2.2)

section
variable {P : Program} {w : World} {H : Hp} {h : Heap} {a : Addr}
theorem okey_of {ks : OKey} (ok : HOk P w H h) (e : H a = some (.tup (ks.map oV))) : (tupleKind (optKind P w)).is h ks a := by
  obtain ⟨_, its, r, o, h1, h2, n, h3⟩ := (show ObjOk P w H h a (.tup (ks.map oV)) from ok a _ e)
  exact ⟨o, its.toArray, n, h1, h2, h3, by simpa using oitems_are r⟩
abbrev OP := Paired (fun (p : OKey × Addr × V) (q : OKey × Addr × Value) => p.1 = q.1 ∧ p.2.1 = q.2.1 ∧ RelV p.2.2 q.2.2)
theorem OP.val {ds : List (OKey × Addr × V)} {xs : List (OKey × Addr × Value)} (r : OP ds xs) (k : OKey) : RelO (valO ds k) ((atKey xs k).map (·.2)) := by
  induction r with
  | nil => exact True.intro
  | @cons p q ps qs h t ih =>
    obtain ⟨h1, _, h2⟩ := h
    by_cases e : p.1 = k
    · have e' : q.1 = k := h1.symm.trans e
      have b : atKey (q :: qs) k = some q.2 := by simp [atKey, List.find?_cons, e']
      have c : valO (p :: ps) k = some p.2.2 := by simp [valO, List.find?_cons, e]
      rw [c, b]; exact h2
    · have e' : ¬ q.1 = k := fun z => e (h1.trans z)
      have b : atKey (q :: qs) k = atKey qs k := by simp [atKey, List.find?_cons, e']
      have c : valO (p :: ps) k = valO ps k := by simp [valO, List.find?_cons, e]
      rw [c, b]; exact ih
theorem do_of {ds : List (OKey × Addr × V)} (ok : HOk P w H h) (e : H a = some (DO P w a ds)) (ks : KeysO H ds) : (a == sysModules) = false ∧ ∃ xs, OP ds xs ∧ h.DictOfH (tupleKind (optKind P w)) a xs := by
  obtain ⟨⟨xs, r, y, o, es, ep, h1, h2, h3, h4, h5⟩, _, _⟩ := (show ObjOk P w H h a (DO P w a ds) from ok a _ e)
  refine ⟨y, xs, r, o, es, ep, h1, h2, h3, h4, fun x hx => ?_, h5⟩
  have all : ∀ {l : List (OKey × Addr × V)} {m : List (OKey × Addr × Value)}, OP l m → KeysO H l → ∀ x ∈ m, (tupleKind (optKind P w)).is h x.1 x.2.1 := by
    intro l m q
    induction q with
    | nil => intro _ x hx; exact nomatch hx
    | @cons p q ps qs hq t ih =>
      intro kk x hx
      rcases List.mem_cons.mp hx with e | hx
      · subst e
        have z := kk p List.mem_cons_self
        rw [hq.2.1] at z
        exact okey_of ok (by rw [← hq.1]; exact z)
      · exact ih (fun p hp => kk p (List.mem_cons_of_mem _ hp)) x hx
  exact all r ks x hx
theorem do_ok {ds : List (OKey × Addr × V)} {xs : List (OKey × Addr × Value)} {H' : Hp} {h' : Heap} (y : (a == sysModules) = false) (r : OP ds xs) (d : h'.DictOfH (tupleKind (optKind P w)) a xs) : ObjOk P w H' h' a (DO P w a ds) := by
  obtain ⟨o, es, ep, h1, h2, h3, h4, h5, h6⟩ := d
  refine ⟨⟨xs, r, y, o, es, ep, h1, h2, h3, h4, h6⟩, ⟨o, h1⟩, fun g1 g2 hg k => ?_⟩
  obtain ⟨xs', r', y', o', es', ep', e1, e2, e3, e4, e5⟩ := hg
  exact ⟨xs', r', y', o', es', ep', k _ e1, e2, e3, e4, e5⟩
end

section
variable {X : Cx} {pins : List (Addr × Obj)} {σ : L2.St} {H : Hp} {s : Shared} {a b : Addr} {v : V} {r : Value} {A : Around} {E : Value → Shared → Prop} {ds : List (OKey × Addr × V)} {k : OKey}
theorem o_getItem {Q : Value → Shared → Prop} (hu : A.units + 1 < cLine) (I : Inv X pins σ H s) (e : H a = some (DO X.prog X.w a ds)) (ks : KeysO H ds) (eb : H b = some (.tup (k.map oV))) (l : valO ds k = some v) (h : ∀ w' s', Inv X pins σ H s' → RelV v w' → Q w' s') :
    wpAny (model X.prog X.w) A (getItem (.ref a) (.ref b)) Q E s := by
  obtain ⟨hd, xs, rel, dd⟩ := do_of I.hok e ks
  obtain ⟨w', hw, rw'⟩ := RelO.some_of (v := v) (o := (atKey xs k).map (·.2)) (by rw [← l]; exact rel.val k)
  obtain ⟨p, hp, hp2⟩ := Option.map_eq_some_iff.mp hw
  refine wpAny_getItem_heap (tupleKind_room_in1 hu) (okey_of I.hok eb) dd hp ?_
  rw [hp2]
  exact h w' _ (I.tok _) rw'
theorem o_in {Q : Value → Shared → Prop} (hu : A.units + 1 < cLine) (I : Inv X pins σ H s) (e : H a = some (DO X.prog X.w a ds)) (ks : KeysO H ds) (eb : H b = some (.tup (k.map oV))) (h : ∀ s', Inv X pins σ H s' → Q (.bool (valO ds k).isSome) s') :
    wpAny (model X.prog X.w) A (compareOp .In (.ref b) (.ref a)) Q E s := by
  obtain ⟨hd, xs, rel, dd⟩ := do_of I.hok e ks
  refine wpAny_in_heap (tupleKind_room_in1 hu) (okey_of I.hok eb) hd dd ?_
  have q := (rel.val k).isSome_eq
  rw [Option.isSome_map] at q
  rw [← q]
  exact h _ (I.tok _)
theorem o_setItem {Q : Unit → Shared → Prop} (hu : A.units + 1 < cLine) (I : Inv X pins σ H s) (e : H a = some (DO X.prog X.w a ds)) (ks : KeysO H ds) (eb : H b = some (.tup (k.map oV))) (hn : valO ds k = none) (hl : ds.length < sizeLine) (rv : RelV v r)
    (h : ∀ s', Inv X pins σ (upd H a (DO X.prog X.w a (ds ++ [(k, b, v)]))) s' → Q () s') :
    wpAny (model X.prog X.w) A (setItem (.ref a) (.ref b) r) Q E s := by
  obtain ⟨hd, xs, rel, dd⟩ := do_of I.hok e ks
  have hz : xs.length ≤ sizeLine := by rw [← Paired.length rel]; exact Nat.le_of_lt hl
  refine wpAny_setItem_heap (hsz := hz) (tupleKind_room_in1 hu) (okey_of I.hok eb) dd fun h' dd' hs => h _ ?_
  have q := (rel.val k).isSome_eq
  rw [Option.isSome_map, hn] at q
  have es : storedH xs k b r = xs ++ [(k, b, r)] := by
    unfold storedH
    rw [← q]
    rfl
  rw [es] at dd'
  have he : ∃ q, h'.get? a = some q := let ⟨q, _, _, hq, _⟩ := dd'; ⟨q, hq⟩
  exact d_write I (by rw [e]; exact True.intro) hs he (do_ok hd (Paired.snoc (b := (k, b, r)) (a := (k, b, v)) rel ⟨rfl, rfl, rv⟩) dd')
end
/-- d[t], t in d, d[t] = v (t new) -/
def tOGet (P : Program) (w : World) (td ty : TE) : TE := fun σ H Q => td σ H fun x H1 => ty σ H1 fun y H2 => ∃ a b ds k v, x = .ref a ∧ y = .ref b ∧ H2 a = some (DO P w a ds) ∧ KeysO H2 ds ∧ H2 b = some (.tup (k.map oV)) ∧ valO ds k = some v ∧ Q v H2
def tOIn (P : Program) (w : World) (ty td : TE) : TE := fun σ H Q => ty σ H fun y H1 => td σ H1 fun x H2 => ∃ a b ds k, x = .ref a ∧ y = .ref b ∧ H2 a = some (DO P w a ds) ∧ KeysO H2 ds ∧ H2 b = some (.tup (k.map oV)) ∧ Q (.bl (valO ds k).isSome) H2
def sOPut (P : Program) (w : World) (td ty tv : TE) : TS := fun D σ H => tv σ H fun v H1 => td σ H1 fun x H2 => ty σ H2 fun y H3 => ∃ a b ds k, x = .ref a ∧ y = .ref b ∧ H3 a = some (DO P w a ds) ∧ KeysO H3 ds ∧ H3 b = some (.tup (k.map oV)) ∧ valO ds k = none ∧ ds.length < sizeLine ∧ D.nx σ (upd H3 a (DO P w a (ds ++ [(k, b, v)])))
section
variable {X : Cx} {o i e value : Expr} {pos pos' tpos : Pos} {td ty tv : TE}
theorem pe_oget (hu : X.A.units + 1 < cLine) (ho : PE X o td) (hi : PE X i ty) (hs : NoSl i) : PE X (.Subscript o i pos) (tOGet X.prog X.w td ty) := by
  refine ⟨fun pins s σ H Q I h => ?_⟩
  refine subD_of PySem.F.slot_dict_getitem.lookup hs (thn (ho.run pins s σ H _ I h) fun u s1 ⟨x, H1, I1, rx, q1⟩ => thn (hi.run pins s1 σ H1 _ I1 q1) fun iv s2 ⟨y, H2, I2, ry, a, b, ds, k, v, ex, ey, e1, e2, e3, e4, q2⟩ => ?_)
  subst ex ey
  obtain rfl : u = Value.ref a := rx
  obtain rfl : iv = Value.ref b := ry
  obtain ⟨_, xs, _, dd⟩ := do_of I2.hok e1 e2
  exact ⟨dd.typeIs, o_getItem hu I2 e1 e2 e3 e4 fun w' s3 I3 rw' => ⟨v, H2, I3, rw', q2⟩⟩
theorem pc_oin (hu : X.A.units + 1 < cLine) (hi : PE X i ty) (ho : PE X o td) : PC X .In i o (tOIn X.prog X.w ty td) := by
  refine ⟨fun pins s σ H Q I h => ?_⟩
  refine thn (hi.run pins s σ H _ I h) fun iv s1 ⟨y, H1, I1, ry, q1⟩ => thn (ho.run pins s1 σ H1 _ I1 q1) fun u s2 ⟨x, H2, I2, rx, a, b, ds, k, ex, ey, e1, e2, e3, q2⟩ => ?_
  subst ex ey
  obtain rfl : u = Value.ref a := rx
  obtain rfl : iv = Value.ref b := ry
  exact o_in hu I2 e1 e2 e3 fun s3 I3 => ⟨.bl _, H2, I3, rfl, q2⟩
theorem ps_oput (hu : X.A.units + 1 < cLine) (ho : PE X o td) (hi : PE X i ty) (hv : PE X value tv) (hs : swapsWith value (some (.Subscript o i pos')) pos.line X.env = pure false) :
    PS X (.Assign [.Subscript o i pos'] value pos) (sOPut X.prog X.w td ty tv) := by
  refine ⟨fun pins s σ H D I h => ?_⟩
  refine wpAny_Assign_Subscript (thn (hv.run pins s σ H _ I h) fun r s1 ⟨v, H1, I1, rv, q1⟩ => thn (ho.run pins s1 σ H1 _ I1 q1) fun u s2 ⟨x, H2, I2, rx, q2⟩ => thn (hi.run pins s2 σ H2 _ I2 q2) fun iv s3 ⟨y, H3, I3, ry, a, b, ds, k, ex, ey, e1, e2, e3, e4, e5, q3⟩ => ?_) hs
  subst ex ey
  obtain rfl : u = Value.ref a := rx
  obtain rfl : iv = Value.ref b := ry
  exact o_setItem hu I3 e1 e2 e3 e4 e5 rv fun s4 I4 => ⟨σ, _, I4, q3⟩
/-- {}: to be such a dict -/
def tDNewO (P : Program) (w : World) : TE := fun _ H Q => ∀ p, H p = none → Q (.ref p) (upd H p (DO P w p []))
theorem do_empty {P : Program} {w : World} {H : Hp} (h : Heap) (hb : sysModules < h.objs.size) : ObjOk P w H (h.push { cls := .type "dict", data := .dict #[] }) h.objs.size (DO P w h.objs.size []) := by
  have e := Heap.get?_push_size h (o := { cls := .type "dict", data := .dict #[] }) rfl
  refine ⟨⟨[], .nil, beq_eq_false_iff_ne.mpr (Ne.symm (Nat.ne_of_lt hb)), _, #[], 0, e, ⟨rfl, rfl, rfl⟩, rfl, rfl, List.nodup_nil⟩, ⟨_, e⟩, fun g1 g2 hg k => ?_⟩
  obtain ⟨xs', r', y', o', es', ep', e1, e2, e3, e4, e5⟩ := hg
  exact ⟨xs', r', y', o', es', ep', k _ e1, e2, e3, e4, e5⟩
theorem pe_dnewO : PE X (.Dict [] [] pos) (tDNewO X.prog X.w) := ⟨fun pins s σ H Q I h =>
  wpAny_Dict_empty ⟨.ref s.heap.objs.size, _, I.laid (a := s.heap.objs.size) (o := DO X.prog X.w s.heap.objs.size []) (t' := s.toks) (fun _ _ q => Heap.get?_push_of_some _ q) (Nat.le_refl _) (do_empty s.heap I.big), rfl, h _ (I.hok.fresh (Nat.le_refl _))⟩⟩
end
end CD
/-! the mathematics of line rules: the walk from person to person, rounds that come again -/
namespace CD
abbrev Win := List (Option Int)
def leastO : List Int → Option Int
  | [] => none
  | n :: ns => some (ns.foldl min n)
/-- window[-step] -/
def back (ws : Win) (s : Int) : Option Int := ws.getD (ws.length - s.toNat) none
def callAt (ws : Win) (p : Int × Nat) : Option Int := (back ws p.1).map (· + (p.2 : Int))
def calls (rule : List Int) (ws : Win) : List Int := (rule.zipIdx 1).filterMap (callAt ws)
def calledAt (rule : List Int) (ws : Win) : Option Int := leastO (calls rule ws)
abbrev LState := Win × Int
def lastOf (tick : Option Int) (last : Int) : Int := match tick with | some t => if last < t then t else last | none => last
def behindP (st : LState) (tick : Option Int) : LState := (st.1.tail ++ [tick], lastOf tick st.2)
def few (rule : List Int) : Nat → LState → LState
  | 0, st => st
  | n + 1, st => few rule n (behindP st (calledAt rule st.1))
def laterW (ws : Win) (m : Int) : Win := ws.map (·.map (· + m))
def told (ws : Win) : List Int := ws.filterMap id
def baseOf (ws : Win) : Int := (leastO (told ws)).getD 0
def shapeOf (ws : Win) : Win := laterW ws (-(baseOf ws))
/-- a LINE RULE -/
structure IsRule (rule : List Int) : Prop where
  pos : 1 ≤ rule.length
  most : rule.length ≤ 4
  step : ∀ s ∈ rule, 1 ≤ s ∧ s ≤ 6
  nodup : rule.Nodup
def reach (rule : List Int) : Nat := (rule.foldl max 0).toNat
def ascB (ns : List Int) : Bool := (ns.zip ns.tail).all fun p => decide (p.1 < p.2)
theorem zip_at {α β : Type} {xs : List α} {ys : List β} {i : Nat} {p : α × β} (h : (xs.zip ys)[i]? = some p) : xs[i]? = some p.1 ∧ ys[i]? = some p.2 := by
  have z := List.getElem?_zip_eq_some.mp h
  exact z
end CD
set_option maxHeartbeats 400000
/-! own rules 2: min(default=), max of a tuple, (x,) * k, enumerate(t, start=), sorted(t, reverse=True), len(set(t)), repr -/
namespace CD
open PySem PySem.Spec PyProof.Rows L2
section
variable {X : Cx}

/-! ### min(xs, default=d), max(t) -/
theorem alike_ints (ns : List Int)   : PySem.W.AlikeAll (ns.map PyData.int) := by
  refine ⟨fun x hx y hy => ?_, fun x hx e => ?_⟩
  · obtain ⟨i, _, rfl⟩ := List.mem_map.mp hx
    obtain ⟨j, _, rfl⟩ := List.mem_map.mp hy
    simp only [PySem.W.alike]
  · obtain ⟨i, _, rfl⟩ := List.mem_map.mp hx
    cases e
theorem reads_ints {h : Heap} : ∀ {us : List Value} {ns : List Int}, IntsAre us ns → ReadsAll h us (ns.map PyData.int) []
  | _, _, .nil => .nil
  | _, _, .cons n t r => ReadsAll.cons (as := []) (bs := []) (.int n t) (reads_ints r)
theorem depth_ints : ∀ ns : List Int, PyData.depthAll (ns.map PyData.int) = 0
  | [] => rfl
  | n :: ns => by
    rw [List.map_cons, PyData.depthAll, depth_ints ns]
    rfl
def orD (d : V) : Option Int → V
  | none => d
  | some m => .int m
def rMinD (K : PySem.W.Frag) : List V → List V → Hp → VK → Prop := fun vs zs H Q => ∃ (a : Addr) (ns : List Int) (d : V), vs = [V.ref a] ∧ zs = [d] ∧ SqL K H a (ns.map V.int) ∧ Q (orD d (leastO ns)) H
theorem cr_minDef (hc : X.calm = true) (hu : X.A.units + 1 < cLine) : CallRK X (.builtin "min") [Str.ofString "default"] (rMinD X.K) := by
  intro pins s σ H vs zs us ws Q I r rz h
  obtain ⟨a, ns, d, rfl, rfl, hs, q⟩ := h
  obtain rfl := Vals.ref1 r
  obtain ⟨w1, rfl, e1⟩ := vals1 rz
  obtain ⟨its, rv, hl, _⟩ := I.list hs
  have hi := rv.ints
  refine PySem.W.min_list_default (I.ok.hd hc) hl.isList (xs := ns.map PyData.int) (as := []) (by simpa using reads_ints hi) (alike_ints ns) (by rw [depth_ints]; exact hu) (fun e h' tk hk => ?_) fun y ys i v h' tk bs e hv hr hk => ?_
  · have e2 : ns = [] := List.map_eq_nil_iff.mp e
    subst e2
    exact ⟨d, H, I.kept hk, e1, q⟩
  · cases ns with
    | nil => cases e
    | cons n ns =>
      rw [List.map_cons] at e
      injection e with e2 e3
      subst e2 e3
      rw [PySem.W.minD_ints] at hr
      cases hr with
      | int i t => exact ⟨.int _, H, I.kept hk, ⟨t, rfl⟩, q⟩
def rMaxT (K : PySem.W.Frag) : List V → Hp → VK → Prop := fun vs H Q => ∃ (a : Addr) (n : Int) (ns : List Int), vs = [V.ref a] ∧ SqT K H a ((n :: ns).map V.int) ∧ Q (.int (ns.foldl max n)) H
theorem cr_maxT (hc : X.calm = true) (hu : X.A.units + 1 < cLine) : CallR X (.builtin "max") (rMaxT X.K) := by
  intro pins s σ H vs us Q I r h
  obtain ⟨a, n, ns, rfl, hs, q⟩ := h
  obtain rfl := Vals.ref1 r
  obtain ⟨its, rv, hl, _⟩ := I.tuple hs
  have hi := rv.ints
  refine PySem.W.max_tuple_data (I.ok.hd hc) (show s.heap.IsTuple a its.toArray from hl) (x := .int n) (xs := ns.map PyData.int) (as := []) (by simpa using reads_ints hi) (alike_ints (n :: ns)) (by
    have := depth_ints (n :: ns)
    rw [List.map_cons] at this
    rw [this]
    exact hu) fun i v h' tk bs hv hr hk => ?_
  rw [PySem.W.maxD_ints] at hr
  cases hr with
  | int i t => exact ⟨.int _, H, I.kept hk, ⟨t, rfl⟩, q⟩

/-! ### t * k, k at most 1 -/
theorem tuple_mul1 (l : Addr) (items : Array Value) (n : Nat) (dd : Option Addr) (sl : Array (Option Value)) (u : Tok) :
    Meets (Builtin.«tuple.__mul__» ⟨[.ref l, .int 1 u], []⟩) (fun _ R s => s.heap.get? l = some { cls := .type "tuple", dict := dd, data := .seq items n, slots := sl } ∧ R (.ok (.ret (Value.ref l))) s) :=
  .of_wp fun prog w A R s h => by
    obtain ⟨hp, g, d, tk, os⟩ := s
    obtain ⟨hl, h⟩ := h
    have f1 := AutoSeq1.idx_int
    wp_walk using wpAny_loadPart' hl
    repeat (first
      | (refine wpAny_ite_false (by decide) ?_; wp_walk using wpAny_loadPart' hl)
      | (refine wpAny_ite_true (by simp) ?_; wp_walk using wpAny_loadPart' hl))
    exact ⟨_, rfl, h⟩
theorem tuple_mul0 (l : Addr) (items : Array Value) (n : Nat) (dd : Option Addr) (sl : Array (Option Value)) (u : Tok) (c1 : items.isEmpty = false) :
    Meets (Builtin.«tuple.__mul__» ⟨[.ref l, .int 0 u], []⟩) (fun _ R s => s.heap.get? l = some { cls := .type "tuple", dict := dd, data := .seq items n, slots := sl } ∧
      R (.ok (.ret (Value.ref s.heap.objs.size))) { s with heap := s.heap.push { cls := Value.type "tuple", data := Data.seq #[] }, toks := s.toks }) :=
  .of_wp fun prog w A R s h => by
    obtain ⟨hp, g, d, tk, os⟩ := s
    obtain ⟨hl, h⟩ := h
    have f1 := AutoSeq1.idx_int
    wp_walk using wpAny_loadPart' hl
    repeat (first
      | (refine wpAny_ite_false (by rw [c1]; decide) ?_; wp_walk using wpAny_loadPart' hl)
      | (refine wpAny_ite_false (by decide) ?_; wp_walk using wpAny_loadPart' hl)
      | (refine wpAny_ite_true (by simp) ?_; wp_walk using wpAny_loadPart' hl))
    exact ⟨_, rfl, h⟩
/-- t * k for k = 0, 1 and more -/
def rRepA (K : PySem.W.Frag) : R2 := fun x y H Q => ∃ l xs, ∃ k : Nat, x = .ref l ∧ y = .int k ∧ SqT K H l xs ∧ xs ≠ [] ∧ k ≤ 1000 ∧ xs.length ≤ 1000 ∧
  (k = 1 → Q (.ref l) H) ∧ (k ≠ 1 → ∀ p, H p = none → Q (.ref p) (upd H p (.tup (List.replicate k xs).flatten)))
theorem op_repA : OpR X (binaryOp .Mult) (rRepA X.K) := by
  intro pins s σ H x y v u Q I rx ry h
  obtain ⟨l, xs, k, rfl, rfl, hT, hne, h2, hz, q1, q2⟩ := h
  by_cases k2 : 2 ≤ k
  · refine op_repT pins s σ H _ _ v u Q I rx ry ⟨l, (k : Int), xs, rfl, rfl, hT, hne, by omega, by omega, hz, ?_⟩
    rw [Int.toNat_natCast]
    exact q2 (by omega)
  · cases rx
    obtain ⟨t, rfl⟩ := ry
    obtain ⟨its, r, ⟨⟨cls, dd, data, sl⟩, ho, hc, n, hd⟩, hs⟩ := I.tuple hT
    simp only at hc hd
    subst hc hd
    have hi : its.toArray.isEmpty = false := by
      cases its with
      | nil =>
        have e := r.length
        cases xs with
        | nil => exact absurd rfl hne
        | cons a b => simp at e
      | cons a b => rfl
    have road : ∀ {Q' : Value → Shared → Prop} (kk : Int), wpAny (model X.prog X.w) X.A (call (.builtin "tuple.__mul__") [.ref l, .int kk t]) Q' X.xe s → wpAny (model X.prog X.w) X.A (binaryOp .Mult (.ref l) (.int kk t)) Q' X.xe s := fun {Q'} kk hq =>
      wpAny_binaryOp_repeat_ref (T := "tuple") (U := "int") (by decide) ⟨_, ho, rfl⟩ (fun s' => typeIs_int s' kk t) noFill_tuple_mul F.fills_int_mul F.slot_int_rmul repeat_tuple F.slot_int_index.lookup
        (call_meets F.slot_int_rmul (typeIs_int s kk t) F.entry_int_rmul (F.args_int_rmul_2 _ _) (int_rmul_tuple kk t l its.toArray n dd sl) ⟨ho, rfl, ⟨_, ho, rfl⟩, hq⟩)
    by_cases k1 : k = 1
    · subst k1
      refine road 1 (call_meets F.slot_tuple_mul ⟨_, ho, rfl⟩ F.entry_tuple_mul (F.args_tuple_mul_2 _ _) (tuple_mul1 l its.toArray n dd sl t) ⟨ho, ?_⟩)
      exact ⟨.ref l, H, I, rfl, q1 rfl⟩
    · obtain rfl : k = 0 := by omega
      refine road 0 (call_meets F.slot_tuple_mul ⟨_, ho, rfl⟩ F.entry_tuple_mul (F.args_tuple_mul_2 _ _) (tuple_mul0 l its.toArray n dd sl t hi) ⟨ho, ?_⟩)
      exact ⟨.ref s.heap.objs.size, _, I.laid (t' := s.toks) (o := .tup []) (fun b ob q => Heap.get?_push_of_some _ q) (Nat.le_refl _) ⟨Nat.zero_le _, [], .nil, IsTup.new _ _⟩, rfl, q2 (by omega) _ (I.hok.fresh (Nat.le_refl _))⟩

/-! ### for i, x in enumerate(t, start=k), t a tuple -/
def IteT (K : PySem.W.Frag) (a : Addr) (k : Int) : It :=
  ⟨fun i H => ∃ (xs : List V) (x : V), SqT K H a xs ∧ xs[i]? = some x,
    fun i H v H' => ∃ T x, v = .ref T ∧ H T = none ∧ H' = upd H T (.tup [.int (k + (i : Nat)), x]) ∧ ∀ xs, SqT K H a xs → xs[i]? = some x,
    fun i H => ∃ xs : List V, SqT K H a xs ∧ xs.length = i⟩
theorem turn_enumT {P : Program} {w : World} {K : PySem.W.Frag} {elts : List Expr} {kk : Nat} {tpos : Pos} (a e it : Addr) (k : Int) :
    Turn P w K (.Tuple elts kk tpos) (IteT K a k) [e, it] e (fun i h => (∃ old, IsEnum h e it (k + (i : Nat)) old) ∧ h.IsTupleIter it a i ∧ e ≠ it) where
  mem := by simp
  obj := fun i h st b hb => by
    obtain ⟨⟨old, he⟩, ⟨o, ho, hc, hd⟩, _⟩ := st
    rcases (by simpa using hb : b = e ∨ b = it) with rfl | rfl
    · exact ⟨_, he, fun v q => nomatch q⟩
    · exact ⟨o, ho, fun v q => by rw [hd] at q; cases q⟩
  keep := fun i h h' st q => ⟨⟨st.1.choose, q e (by simp) _ st.1.choose_spec⟩, st.2.1.at fun o z => q it (by simp) o z, st.2.2⟩
  item := by
    intro X hP hw hK hc i pins s σ H E I hf st hg
    subst hP hw hK
    obtain ⟨⟨old, he⟩, hit, hne⟩ := st
    obtain ⟨xs, x, hq, hx⟩ := hg
    obtain ⟨its, rv, p, hz⟩ := I.tuple hq
    obtain ⟨u, hu, ru⟩ := rv.get hx
    have hel : e < s.heap.objs.size := Heap.lt_size he
    have hil : it < s.heap.objs.size := by obtain ⟨_, q, _⟩ := hit; exact Heap.lt_size q
    have hai : a ≠ it := by
      intro z
      obtain ⟨o1, h1, c1, _⟩ := p
      obtain ⟨o2, h2, c2, _⟩ := hit
      rw [z, h2] at h1
      cases h1
      rw [c1] at c2
      exact absurd c2 (by decide)
    have hae : e ≠ a := by
      intro z
      obtain ⟨o1, h1, c1, _⟩ := p
      rw [← z, he] at h1
      cases h1
      have c2 : Value.type "enumerate" = Value.type "tuple" := c1
      exact absurd c2 (by decide)
    have hlen : its.toArray.size = xs.length := by rw [List.size_toArray]; exact rv.length.symm
    have hi : i < its.toArray.size := by
      rw [hlen]
      exact (List.getElem?_eq_some_iff.mp hx).1
    refine PySem.wpAny_pyNext_enum_itemC (Draws.tuple (A := X.A.in1) (I.ok.hd hc) it a hai its.toArray) he ⟨hit, show s.heap.IsTuple a its.toArray from p⟩ hi hne (by simp [hne, hae]) fun y h' tk hy ho hst' hT hsz hk => ?_
    obtain rfl : u = y := by
      have z : its.toArray[i]? = some u := by simpa using hu
      exact Option.some.inj (z.symm.trans hy)
    refine ⟨_, rfl, wpAny_letOwnedTupleGo_enum (s := { s with heap := h', toks := tk + 1 }) ho fun h'' he' sb => ?_⟩
    have hT2 := (sb.2 _ (Nat.ne_of_gt hel)).trans hT
    have new : ObjOk X.prog X.w (upd H s.heap.objs.size (.tup [.int (k + (i : Nat)), x])) h'' s.heap.objs.size (.tup [.int (k + (i : Nat)), x]) :=
      ⟨(by decide : 2 ≤ sizeLine), _, .cons ⟨tk, rfl⟩ (.cons ru .nil), ⟨_, hT2, rfl, _, rfl⟩⟩
    have ap : ∀ b, b ∉ [e, it] → b ≠ e ∧ b ≠ it := fun b hb => by simpa using hb
    have I1 := I.turnedNew (t' := tk + 1) (ch := [e, it]) (fun b ob hb q => (sb.2 b (ap b hb).1).trans (hk b ob (ap b hb).1 (ap b hb).2 q)) hf (Nat.le_refl _) new
    refine ⟨.ref s.heap.objs.size, _, I1, rfl, ⟨_, x, rfl, I.hok.fresh (Nat.le_refl _), rfl, fun ys hy => by rw [I.tuple_inj hy hq]; exact hx⟩, ⟨⟨u, ?_⟩, hst'.1.at fun o q => (sb.2 it (Ne.symm hne)).trans q, hne⟩, fun b hb => ?_⟩
    · have e1 : k + ((i + 1 : Nat) : Int) = k + (i : Nat) + 1 := by omega
      rw [e1]; exact he'
    · have hb' : b < s.heap.objs.size := by
        rcases (by simpa using hb : b = e ∨ b = it) with rfl | rfl
        · exact hel
        · exact hil
      rw [upd_ne (Nat.ne_of_lt hb')]
      exact (hf b hb).1
  done := by
    intro X hP hw hK hc i pins s σ H E I hf st hg
    subst hP hw hK
    obtain ⟨⟨old, he⟩, hit, hne⟩ := st
    obtain ⟨xs, hq, hx⟩ := hg
    obtain ⟨its, rv, p, hz⟩ := I.tuple hq
    obtain ⟨f0, f1, f2, f3, f4, f5⟩ := hf it (by simp)
    have hl := rv.length
    have hai : a ≠ it := by
      intro z
      obtain ⟨o1, h1, c1, _⟩ := p
      obtain ⟨o2, h2, c2, _⟩ := hit
      rw [z, h2] at h1
      cases h1
      rw [c1] at c2
      exact absurd c2 (by decide)
    have hsz : i = its.toArray.size := by rw [List.size_toArray]; omega
    subst hsz
    refine PySem.wpAny_pyNext_enum_endD (Draws.tuple (A := X.A.in1) (I.ok.hd hc) it a hai its.toArray) he ⟨hit, show s.heap.IsTuple a its.toArray from p⟩ fun h' eb => ?_
    exact ⟨rfl, I.turned (t' := s.toks) (fun b o hb q => eb b o hb q) f0 f1 f3 f4 f5⟩
  self := fun A i s Q E st h => wpAny_pyIter_enum st.1.choose_spec h
theorem walk_enumT {K : PySem.W.Frag} {a : Addr} {k : Int} {xs : List V} : Walk (IteT K a k) xs.length (fun H => SqT K H a xs) (YPair (fun i => some (.int (k + (i : Nat)))) (fun i => xs[i]?)) := by
  refine ⟨fun i _ hi q => ⟨xs, xs[i], q, by simp [hi]⟩, fun _ q => ⟨xs, q, rfl⟩, fun i H v H' _ q y => ?_⟩
  obtain ⟨T, x, h1, h2, h3, h4⟩ := y
  exact ⟨T, .int (k + (i : Nat)), x, h1, h2, h3, rfl, h4 xs q⟩
theorem callWith_tyK {M : Model} {A : Around} {E : Value → Shared → Prop} {s : Shared} {env : Env} {pos : Pos} {T : String} {e : Expr} {kws : List Keyword} {Q : Value → Shared → Prop}
    (h : wpAny M A (spliced (backTo pos (starEach [e] env))) (fun vs s₁ => wpAny M A (evalAll ((backToKw pos (keywordEach kws env)).map (·.2)))
      (fun kvs s₂ => wpAny M A (call (.type T) vs (((backToKw pos (keywordEach kws env)).filterMap (·.1)).zip kvs)) Q E s₂) E s₁) E s)
    (he : backTo pos (starEach [e] env) = [(false, eval e env)])
    (hall : (backToKw pos (keywordEach kws env)).all (·.1.isSome) = true)
    (hkw : (backToKw pos (keywordEach kws env)).any (·.1.isNone) = false) :
    wpAny M A (callWith pos (.type T) [] (backTo pos (starEach [e] env)) (backToKw pos (keywordEach kws env))) Q E s := by
  rw [he] at h ⊢
  have h2 := PyProof.Rows.evalArgs_kwB (f := .type T) (Q := fun a s₁ => wpAny M A (call (.type T) ([] ++ a.pos) a.kw) Q E s₁) hall h
  unfold callWith
  refine wpAny_bind (wpAny_holding (wpAny_mono h2 (fun a s₁ h₁ => wpAny_bind (wpAny_standAt ?_)) fun _ _ z => z))
  simp only [List.any_cons, List.any_nil, hkw, Bool.or_false]
  refine wpAny_bind (wpAny_pure ?_)
  refine wpAny_bind (wpAny_mono h₁ (fun r s₂ hr => ?_) fun _ _ z => z)
  exact wpAny_bind (wpAny_holding (wpAny_point (wpAny_pure hr)))
def iEnumT (K : PySem.W.Frag) (ta tk : TA) : TI := fun σ H R => ta σ H fun vs H1 => tk σ H1 fun zs H2 => ∃ a xs k, vs = [.ref a] ∧ zs = [.int k] ∧ -(2 ^ 63) ≤ k ∧ k < 2 ^ 63 ∧ SqT K H2 a xs ∧ R (IteT K a k) H2
theorem pi_enumT {e e2 : Expr} {ta tk : TA} {p pos tpos kpos : Pos} {elts : List Expr} {kk : Nat} (hg : Gl X "enumerate") (hm : X.mg "enumerate" = none) (ha : PA X [e] ta) (hk : PK X [⟨some (Str.ofString "start"), e2, kpos⟩] tk)
    (hs : backTo pos (starEach [e] X.env) = [(false, eval e X.env)] := by rfl)
    (hall : (backToKw pos (keywordEach [⟨some (Str.ofString "start"), e2, kpos⟩] X.env)).all (·.1.isSome) = true := by rfl) (hnone : (backToKw pos (keywordEach [⟨some (Str.ofString "start"), e2, kpos⟩] X.env)).any (·.1.isNone) = false := by rfl)
    (hks : (backToKw pos (keywordEach [⟨some (Str.ofString "start"), e2, kpos⟩] X.env)).filterMap (·.1) = [Str.ofString "start"] := by rfl) :
    PI X (.Tuple elts kk tpos) (.Call (.Name "enumerate" p) [e] [⟨some (Str.ofString "start"), e2, kpos⟩] pos) (iEnumT X.K ta tk) := by
  refine ⟨fun pins s σ H R I h => ?_⟩
  refine wpAny_Call_Name_kw (ld_blt I hg hm boot_enumerate ?_)
  refine callWith_tyK (thn (ha.run pos pins s σ H _ I h) fun us s1 ⟨vs, H1, I1, r1, q1⟩ => thn (hk.run pos pins s1 σ H1 _ I1 q1) fun ws s2 ⟨zs, H2, I2, r2, q2⟩ => ?_) hs hall hnone
  obtain ⟨a, xs, k, rfl, rfl, k0, k1, hq, q⟩ := q2
  obtain rfl := Vals.ref1 r1
  obtain ⟨w1, rfl, tk1, rfl⟩ := vals1 r2
  rw [hks]
  obtain ⟨its, rv, pt, hz⟩ := I2.tuple hq
  refine PySem.enum_begins_start (PySem.begins_tuple a its.toArray) (show s2.heap.IsTuple a its.toArray from pt) k0 k1 fun h' he hit hsz hkeep => wpAny_pyIter_enum he ?_
  have I3 : Inv X pins σ H2 { s2 with heap := h' } := I2.kept (t' := s2.toks) hkeep
  have he0 : IsEnum h' (s2.heap.objs.size + 1) s2.heap.objs.size (k + ((0 : Nat) : Int)) .none := by
    rw [show k + ((0 : Nat) : Int) = k by omega]
    exact he
  have hit0 : h'.IsTupleIter s2.heap.objs.size a 0 := ⟨_, hit, rfl, rfl⟩
  refine ⟨s2.heap.objs.size + 1, [s2.heap.objs.size + 1, s2.heap.objs.size], _, _, H2, rfl, I3, turn_enumT a (s2.heap.objs.size + 1) s2.heap.objs.size k, ?_, fun b hb => ?_, q⟩
  · exact ⟨⟨.none, he0⟩, hit0, Nat.succ_ne_self _⟩
  · have hle : s2.heap.objs.size ≤ b := by
      rcases (by simpa using hb : b = s2.heap.objs.size + 1 ∨ b = s2.heap.objs.size) with z | z
      · rw [z]; exact Nat.le_succ _
      · rw [z]; exact Nat.le_refl _
    exact I2.fpOk hle (I2.hok.fresh hle)
end
end CD
/-! own rules 3: len(set(t)), repr of data, sorted(t, reverse=True) -/
namespace CD
open PySem PySem.Spec PyProof.Rows L2
section
variable {X : Cx}
/-! ### len(set(t)), t a tuple of unlike ints -/
def tLenSetT (K : PySem.W.Frag) (ta : TE) : TE := fun σ H Q => ta σ H fun x H1 => ∃ (l : Addr) (ns : List Int), x = .ref l ∧ SqT K H1 l (ns.map V.int) ∧ ns.Nodup ∧ ns.length ≤ 1000 ∧ Q (.int (ns.length : Nat)) H1
theorem pe_lenSetT {a : Expr} {ta : TE} {p p2 q pos : Pos} (hg : Gl X "len") (hm : X.mg "len" = none) (hg2 : Gl X "set") (hm2 : X.mg "set" = none) (ha : PE X a ta) (hc : X.calm = true := by rfl)
    (na : starEach [a] X.env = (false, eval a X.env) :: starEach [] X.env := by rfl) : PE X (.Call (.Name "len" p) [.Call (.Name "set" p2) [a] [] q] [] pos) (tLenSetT X.K ta) := by
  refine ⟨fun pins s σ H Q I h => ?_⟩
  refine Call_ (ld_blt I hg hm boot_len (PyProof.Rows.callWith_builtin1 (PyProof.Rows.args_cons ?_ rfl) rfl rfl))
  refine Call_ (ld_blt I hg2 hm2 boot_set (PyProof.Rows.callWith_type1 (PyProof.Rows.args_cons (thn (ha.run pins s σ H _ I h) fun v s1 ⟨x, H1, I1, r1, l, ns, ex, hq, hnd, hl, q1⟩ => PyProof.Rows.args_nil ?_) na) na rfl))
  subst ex
  cases r1
  obtain ⟨its, r, pl, hz⟩ := I1.tuple hq
  refine call_set_tupI ns (I1.ok.hd hc) (show s1.heap.IsTuple l its.toArray from pl) (by simpa using ints_of_vals r) (by unfold scanBound; omega) fun h' tk c hS hcl hk => PyProof.Rows.args_nil ?_
  obtain ⟨o, es, ep, t, ho, hex, hdt, g, nd, hm3, hb, hf, hn, _, _⟩ := hS
  have hlen : es.size = ns.length := by
    have e1 : (es.toList.map keyOf).Perm ns := (List.perm_ext_iff_of_nodup nd hnd).mpr fun j => by
      have z : decide (j ∈ ns) = true ↔ j ∈ es.toList.map keyOf := hm3 j
      rw [decide_eq_true_eq] at z
      exact z.symm
    have := e1.length_eq
    simpa using this
  have I2 : Inv X pins σ H1 { s1 with heap := h', toks := tk } := I1.kept hk
  exact call_len_set ho hex hdt hf (by omega) ⟨.int ns.length, H1, I2.tok _, ⟨_, by rw [hlen]⟩, q1⟩

/-! ### repr of data -/
def rRepr (K : PySem.W.Frag) : List V → Hp → VK → Prop := fun vs H Q => ∃ (x : V) (d : PyData), vs = [x] ∧ Dp K H x d ∧ d.showable = true ∧ d.hasDict = false ∧ d.depth ≤ 60 ∧ d.shown.length ≤ sizeLine ∧ Q (.str d.shown) H
theorem call_reprD (hg : X.A.guards = some []) (hu : X.A.units + 64 < cLine) : CallR X (.builtin "repr") (rRepr X.K) := by
  intro pins s σ H xs us Q I r h
  obtain ⟨x, d, rfl, hd, hs, hn, hp, hz, q⟩ := h
  obtain ⟨u, rfl, ru⟩ := vals1 r
  obtain ⟨as, rd⟩ := Dp.reads I d x u hd ru
  have nd : d.hasDict = true → sysModules ∉ as := fun e => by rw [hn] at e; cases e
  cases rd with
  | list h1 h2 h3 h4 => exact repr_of_reads' (.list h1 h2 h3 h4) hs nd hg (by omega) (fun _ _ e => e) (fun h' u tk hk => ⟨.str _, H, I.kept hk, ⟨_, rfl⟩, q⟩) hz
  | tuple h1 h2 h3 h4 => exact repr_of_reads' (.tuple h1 h2 h3 h4) hs nd hg (by omega) (fun _ _ e => e) (fun h' u tk hk => ⟨.str _, H, I.kept hk, ⟨_, rfl⟩, q⟩) hz
  | dict h1 h2 h3 h4 h5 => exact repr_of_reads' (.dict h1 h2 h3 h4 h5) hs nd hg (by omega) (fun _ _ e => e) (fun h' u tk hk => ⟨.str _, H, I.kept hk, ⟨_, rfl⟩, q⟩) hz
  | int i t => exact PySem.P.repr_of_int (by simpa [PyData.showable] using hs) ⟨.str _, H, I.tok _, ⟨_, rfl⟩, q⟩
  | none => exact PySem.P.repr_of_none ⟨.str _, H, I.tok _, ⟨_, rfl⟩, q⟩
  | bool b => exact PySem.P.repr_of_bool ⟨.str _, H, I.tok _, ⟨_, rfl⟩, q⟩
  | str y t => exact PySem.P.repr_of_str ⟨.str _, H, I.tok _, ⟨_, rfl⟩, q⟩ hz

/-! ### sorted(t, reverse=True), t a tuple of ints -/
theorem collect_tup {prog : Program} {w : World} {A : Around} {E : Value → Shared → Prop} {s : Shared} {l : Addr} {vs : List Value} {Q : List Value → Shared → Prop} (hl : IsTup s.heap l vs.toArray) (hsz : vs.length ≤ sizeLine)
    (h : Q vs { s with heap := (s.heap.push (seqObj "list" #[] 0)).update s.heap.objs.size (Obj.mapSeq (· ++ vs.toArray)) }) : wpAny (model prog w) A (collect (.ref l)) Q E s := by
  obtain ⟨o, ho, hc, n, hd⟩ := id hl
  have e0 : (s.heap.push (seqObj "list" #[] 0)).get? s.heap.objs.size = some (seqObj "list" #[] 0) := Heap.get?_push_size _ rfl
  have e1 : (s.heap.push (seqObj "list" #[] 0)).get? l = some o := Heap.get?_push_of_some _ ho
  unfold collect
  refine wpAny_bind (wpAny_runValue (codeAny_builtin entry_proto_collect' (wpAny_bind (wpAny_newList (wpAny_pure ⟨Code.quiet_builtin _ (by decide +kernel), codeAny_builtin entry_list_iadd' ?_⟩)))))
  show wpAny _ _ (Builtin.List.listExtendWith (.ref s.heap.objs.size) (.ref l) (.ref s.heap.objs.size)) _ _ { s with heap := s.heap.push (seqObj "list" #[] 0) }
  unfold Builtin.List.listExtendWith
  refine wpAny_bind (wpAny_typeOf (T := "tuple") ⟨o, e1, hc⟩ ?_)
  rw [if_pos (by rw [show (Value.type "tuple" == Value.type "tuple") = true by rfl]; simp)]
  refine wpAny_bind (listItems_at e1 hd (wpAny_bind (listItems_at (xs := #[]) (n := 0) e0 rfl ?_)))
  rw [if_neg (by simp)]
  refine wpAny_bind (listUpdate_at (xs := #[]) (n := 0) e0 rfl (wpAny_pure ?_) (Nat.zero_le _) (by show (#[] ++ vs.toArray).size ≤ sizeLine + 1; simp only [Array.size_append, List.size_toArray, List.length_nil]; omega))
  refine wpAny_bind (wpAny_load (get?_update_seq e0 _) ?_)
  show wpAny _ _ (pure ((#[] : Array Value) ++ vs.toArray).toList) Q E _
  have e3 : ((#[] : Array Value) ++ vs.toArray).toList = vs := by simp
  rw [e3]
  exact wpAny_pure h
theorem sorted_tup {prog : Program} {w : World} {A : Around} {E : Value → Shared → Prop} {s : Shared} {l : Addr} {vs : List Value} {ns : List Int} {b : Bool} {Q : Value → Shared → Prop} (hl : IsTup s.heap l vs.toArray) (hz : vs.length ≤ sizeLine) (hi : IntsAre vs ns)
    (h : ∀ (out : Array Value) (ns' : List Int), IntsAre out.toList ns' → ns'.Perm ns → OrdB b ns' → Q (.ref (s.heap.objs.size + 1)) { s with heap := sortedAll s.heap vs out }) :
    wpAny (model prog w) A (call (.builtin "sorted") [.ref l] [(Str.ofString "reverse", .bool b)]) Q E s := by
  refine call_function_entry_kw kind_sorted plain_sorted entry_sorted (PyProof.Rows.args_sorted_rev _ _) ?_
  unfold Builtin.«sorted»
  refine wpAny_bind (m := checkCount "sorted" 1 1 _) (wpAny_pure (wpAny_bind (collect_tup hl hz (wpAny_bind (wpAny_newList ?_ hz)))))
  have z0 : (s.heap.push (seqObj "list" #[] 0)).objs.size = s.heap.objs.size + 1 := Heap.size_push ..
  generalize hg1 : (s.heap.push (seqObj "list" #[] 0)).update s.heap.objs.size (Obj.mapSeq (· ++ vs.toArray)) = h1
  have z1 : h1.objs.size = s.heap.objs.size + 1 := by rw [← hg1, Heap.size_update, z0]
  have k1 : ∀ c u, s.heap.get? c = some u → h1.get? c = some u := fun c u q => by
    have lt := Heap.lt_size q
    rw [← hg1, Heap.get?_update_ne _ _ _ _ (Nat.ne_of_lt lt)]
    exact Heap.get?_push_of_some _ q
  have o1 : (h1.push (seqObj "list" vs.toArray 0)).get? (s.heap.objs.size + 1) = some (seqObj "list" vs.toArray 0) := by
    rw [← z1]; exact Heap.get?_push_size _ rfl
  show wpAny _ _ _ _ _ { s with heap := h1.push (seqObj "list" vs.toArray 0) }
  rw [z1]
  refine wpAny_bind (wpAny_holding (wpAny_call_entry_kw slot_list_sort ⟨_, o1, rfl⟩ entry_list_sort ?_ (PyProof.Rows.args_list_sort_rev _ _)))
  refine SrtR.list_sort_ordR (b := b) SrtO.swo_int o1 hz (fun h2 => SrtO.ints_sortable hi h2) fun out hs hb => ⟨_, rfl, wpAny_pure ⟨_, rfl, ?_⟩⟩
  obtain ⟨ns', k1, k2, k3⟩ := SrtR.ints_outR hi hs hb
  have := h _ ns' k1 k2 k3
  rw [← hg1]
  exact this
/-- sorted(t, reverse=b) -/
def rSortedT (K : PySem.W.Frag) (b : Bool) : List V → List V → Hp → VK → Prop := fun vs zs H Q => ∃ (a : Addr) (ns : List Int), vs = [V.ref a] ∧ zs = [.bl b] ∧ SqT K H a (ns.map V.int) ∧
  ∀ (ns' : List Int) (p : Addr), ns'.Perm ns → OrdB b ns' → H p = none → Q (.ref p) (upd H p (.lst (ns'.map V.int)))
theorem cr_sortedTRev {b : Bool} : CallRK X (.builtin "sorted") [Str.ofString "reverse"] (rSortedT X.K b) := by
  intro pins s σ H vs zs us ws Q I r rz h
  obtain ⟨a, ns, rfl, rfl, hs, q⟩ := h
  obtain rfl := Vals.ref1 r
  obtain ⟨w1, rfl, e1⟩ := vals1 rz
  obtain rfl : w1 = Value.bool b := e1
  obtain ⟨its, rv, hl, hz⟩ := I.tuple hs
  refine sorted_tup hl (by rw [← rv.length]; exact hz) rv.ints fun out ns' k1 k2 k3 => ?_
  obtain ⟨ep, he'⟩ := PyProof.Rows.sortedAll_at s.heap its out
  have hlen : (ns'.map V.int).length ≤ sizeLine := by
    rw [List.length_map, k2.length_eq]
    rw [List.length_map] at hz
    exact hz
  have e0 : out.toList.toArray = out := Array.toArray_toList
  exact ⟨.ref _, upd H (s.heap.objs.size + 1) (.lst (ns'.map V.int)), I.laid (t' := s.toks) (fun _ _ => PyProof.Rows.sortedAll_old) (Nat.le_succ _) ⟨hlen, _, ep, vals_of_ints k1, by rw [e0]; exact he'⟩, rfl, q _ _ k2 k3 (I.hok.fresh (Nat.le_succ _))⟩
end

/-! ### a def that asks that nothing is under repr -/
structure GOk (P : Program) (w : World) (K : PySem.W.Frag) (mg : Str → Option Value) (base : Heap) (k : Nat) (f : Addr) (fd : FuncData) (ps : List Str) (sp : Sp) : Prop where
  len : ∀ vs H Q E, sp vs H Q E → vs.length = ps.length
  run : ∀ (A : Around) (outer : List Env) (s : Shared) (H : Hp) (args : Args) (us : List Value) (vs : List V) (Q : VK) (E : XK), A.guards = some [] → Room k A → Env0 P w K mg base A outer s H → BindsTo s fd args (ps.zip us) → Vals vs us → sp vs H Q E →
    codeAny (model P w) A (.call (.ref f) args) (CR CX0 outer P w H s Q E) s
end CD
/-! own rules 4: defs that call repr, the law's end over such -/
namespace CD
open PySem PySem.Spec PyProof.Rows L2
section
variable {P : Program} {w : World} {K : PySem.W.Frag} {mg : Str → Option Value} {base : Heap}
theorem g_ok {x qual : Str} {st : Stmt} {f : Addr} {fd : FuncData} {N ps : List Str} {k : Nat} {sp : Sp} (F : Fun K x qual st f fd) (S : FnScope N ps (defScope st)) (len : ∀ vs H Q E, sp vs H Q E → vs.length = ps.length)
    (body : ∀ (cdv : Value) (A : Around) (outer : List Env) (s : Shared) (H : Hp) (vs : List V) (Q : VK) (E : XK), A.guards = some [] → Room k (A.deeper (envOfC qual (defScope st) s.heap.objs.size f cdv)) → sp vs H Q E →
      ∃ t, PSs (cxOf CX0 P w K mg base N qual (defScope st) f cdv A outer s H E).nox (defBody st) t ∧ t { nx := fun _ H' => Q .non H', rt := Q } (start N vs) H) : GOk P w K mg base (k + 1) f fd ps sp := by
  obtain ⟨oc, od, kV, doc, pm, an, cdv, ct, osl, rfl, lk, hcd⟩ := F.ex
  refine ⟨len, fun A outer s H args us vs Q E hg hr e0 hb r hsp => ?_⟩
  -- the promise at this one A, as if there were no other
  have one : FnOk P w K mg base CX0 (k + 1) f (PySem.W.fnOf x qual (defArgs st) (defBody st) (defScope st) .none kV doc pm an cdv ct) ps
      (fun vs' H' Q' E' => sp vs' H' Q' E') → codeAny (model P w) A (.call (.ref f) args) (CR CX0 outer P w H s Q E) s := fun G => G.run A outer s H args us vs Q E hr e0 hb r hsp
  have keepB : ∀ b o, base.get? b = some o → s.heap.get? b = some o := fun b o e => (e0.bs b o e).1
  refine codeAny_call_function hr.depth ((e0.mod.kin.keeps keepB) _ _ lk) rfl S.co S.gen rfl (PySem.W.codeRec_of (e0.mod.kin.keeps keepB) hcd) (hb _ _ _ _ ?_)
  refine wpAny_newFunctionEnv_cells S.kind (fun y hy => ?_) fun env he s1 x1 => ?_
  · rcases S.par y.1 (List.of_mem_zip hy).1 with q | q
    · exact .inl q
    · exact .inr ⟨q, PySem.W.cellsFrom_some _ _ _ (.inl q)⟩
  subst he
  refine ⟨(e0.mod.nolimit.keeps keepB).keeps x1.toInCall.keep, codeAny_func ?_⟩
  obtain ⟨t, ht, hq⟩ := body cdv A outer s H vs Q E hg (hr.deeper _) hsp
  refine wpAny_mono (ht.nox.run [] s1 (start N vs) H _ (inv_start S hr.hd e0 (len _ _ _ _ hsp) r x1) hq) (fun fl s' hs => ?_) fun e s' hs => hs
  match fl, hs with
  | .ret u, ⟨v, σ', H', J, rv, q⟩ => exact ⟨v, H', J.os, J.bare, J.base, J.hok, rv, q⟩
  | .next, ⟨σ', H', J, q⟩ => exact ⟨V.non, H', J.os, J.bare, J.base, J.hok, rfl, q⟩
  | .brk, ⟨_, _, _, q⟩ => exact False.elim q
  | .cont, ⟨_, _, _, q⟩ => exact False.elim q
end
section
variable {X : Cx} {k : Nat} {f : Addr} {fd : FuncData} {ps : List Str} {sp : Sp} {x : Str} {p pos : Pos} {e : Expr} {es : List Expr} {t : TA}
theorem pe_callG (G : GOk X.prog X.w X.K X.mg X.base k f fd ps sp) (hgd : X.A.guards = some []) (hr : Room k X.A) (hg : Gl X x) (hm : X.mg x = some (.ref f)) (hk : PySem.W.keepIn X.K (.ref f) = true) (hb : Binds X.K fd ps [])
    (ha : PA X (e :: es) t) (hdb : (x == ("__debug__" : Str)) = false := by decide) (he : starEach (e :: es) X.env = (false, eval e X.env) :: starEach es X.env := by rfl) (hpl : (backTo pos (starEach es X.env)).any (·.1) = false := by rfl) :
    PE X (.Call (.Name x p) (e :: es) [] pos) (tCall sp [] E0 t) := by
  refine ⟨fun pins s σ H Q I h => wpAny_Call_Name_kw (ld_glob I hg hm ?_ hdb)⟩
  refine PySem.W.callWith_K (h₀ := X.base) I.ok.mod.kin hk (thn (ha.run pos pins s σ H _ I h) fun us s1 ⟨vs, H1, I1, r, q⟩ => ⟨I1.kIn, ?_⟩) he hpl
  have q' : sp vs H1 Q E0 := by
    have z : sp (vs ++ []) H1 Q E0 := q
    rwa [List.append_nil] at z
  have hl : (us ++ []).length = ps.length := by rw [List.append_nil, ← r.length]; exact G.len _ _ _ _ q'
  have hbb := hb s1 us I1.kIn hl
  rw [List.append_nil] at hbb
  refine wpAny_call (codeAny_mono (G.run X.A X.stack s1 H1 ⟨us, []⟩ us vs Q E0 hgd hr I1.env0 hbb r q') fun r s' hq => ?_)
  match r, hq with
  | .error _, hq => exact False.elim hq
  | .ok (.ret u), hq => exact I1.after hq
  | .ok .next, hq => exact False.elim hq
  | .ok .brk, hq => exact False.elim hq
  | .ok .cont, hq => exact False.elim hq
end
/-! ### the law's end -/
/-- the abstract heap at the law's entry: the script alone, if it is none of the module's own objects -/
def H00 (K : PySem.W.Frag) (a : Addr) (o : Obj) (ns : List Int) : Hp := fun b => if b = a ∧ K.lookup a = none then some (.frz o (.lst (ns.map V.int))) else none
theorem law_g {P : Program} {w : World} {K : PySem.W.Frag} {mg mb : Str → Option Value} {k : Nat} {fa a : Addr} {fd : FuncData} {x : Str} {sp : Sp} {s₁ : Shared} {vs : List Value} {ns : List Int}
    (KX : K.In s₁.heap) (hns : s₁.heap.Ns mainGlobals mg) (hb : s₁.heap.Ns builtinsNs mb) (hbb : ∀ x : Str, x ≠ "__name__" → mb x = bootBuiltins x) (hlim : s₁.heap.NoLimit) (hg : s₁.gens = #[])
    (ha : s₁.heap.get? a = some { cls := .type "list", data := .seq vs.toArray }) (hi : IntsAre vs ns) (hl : ns.length ≤ sizeLine) (hr : Room k callerA)
    (F : ∀ base : Heap, K.In base → base.Ns mainGlobals mg → GOk P w K mg base k fa fd [x] sp) (hbind : ∀ (s : Shared) (u : Value), BindsTo s fd ⟨[u], []⟩ [(x, u)])
    (hsp : ∀ H : Hp, SqL K H a (ns.map V.int) → sp [.ref a] H (fun v _ => v = .bl true) fun _ _ _ => False) :
    codeAny (model P w) callerA (.call (.ref fa) ⟨[.ref a], []⟩) (fun r s' => r = .ok (.ret (.bool true)) ∧ OldK s₁.heap s'.heap ∧ s'.os = s₁.os ∧ AllBare s'.gens) s₁ := by
  have rv := vals_ints hi
  generalize hO : ({ cls := .type "list", data := .seq vs.toArray } : Obj) = o at ha
  generalize hH : H00 K a o ns = H
  have tr : ∀ b u, H b = some u → b = a ∧ K.lookup a = none ∧ u = .frz o (.lst (ns.map V.int)) := fun b u e => by
    rw [← hH] at e
    unfold H00 at e
    by_cases c : b = a ∧ K.lookup a = none
    · rw [if_pos c] at e; exact ⟨c.1, c.2, (Option.some.inj e).symm⟩
    · rw [if_neg c] at e; cases e
  have own : s₁.heap.get? a = some { cls := .type "list", data := .seq vs.toArray } := by rw [hO]; exact ha
  have okF : HOk P w H s₁.heap := fun b u e => by
    obtain ⟨rfl, _, rfl⟩ := tr b u e
    exact ⟨ha, by rw [List.length_map]; exact hl, vs, _, rv, own⟩
  have free : ∀ {b : Addr} {u : Obj}, s₁.heap.get? b = some u → (∀ es ep, o.data = .dict es ep → False) → (b = a → False) → H b = none := fun {b u} _ _ n => by
    cases q : H b with
    | none => rfl
    | some z => exact absurd (tr b z q).1 n
  have ndata : ∀ es ep, o.data = Data.dict es ep → False := fun es ep e => by rw [← hO] at e; cases e
  have hidn : ∀ {b : Addr} {m : Str → Option Value}, s₁.heap.Ns b m → (hidT s₁.heap H).Ns b m := fun {b m} ⟨u, es, ep, e, d, r⟩ => ⟨u, es, ep, hidT_get e (free e ndata fun z => by
    subst z
    rw [ha] at e
    cases e
    exact ndata _ _ d), d, r⟩
  have kin : K.In (hidT s₁.heap H) := fun b u e => hidT_get (KX b u e) (by
    cases q : H b with
    | none => rfl
    | some z =>
      obtain ⟨rfl, n, _⟩ := tr b z q
      rw [n] at e; cases e)
  have sq : SqL K H a (ns.map V.int) := by
    cases hk : K.lookup a with
    | none => exact .inl (.inr ⟨o, by rw [← hH]; unfold H00; rw [if_pos ⟨rfl, hk⟩]⟩)
    | some u =>
      have e := KX a u hk
      rw [own] at e
      cases e
      exact .inr ⟨_, vs.toArray, _, hk, rfl, rfl, rfl, by rw [List.size_toArray, hi.length]; exact hl, by simpa using rv⟩
  have hM : Mod K mg (hidT s₁.heap H) := ⟨kin, hidn hns, ⟨mb, hidn hb, hbb⟩, let ⟨mc, h1, h2⟩ := hlim; ⟨mc, hidn h1, h2⟩⟩
  have e0 : Env0 P w K mg (hidT s₁.heap H) callerA [] s₁ H := ⟨rfl, hM, fun b u e => of_hidT e, Nat.le_of_eq (hidT_size _ _), trivial, fun b hm => (by cases hm), okF, .of_eq hg⟩
  refine codeAny_mono ((F _ kin (hidn hns)).run callerA [] s₁ H ⟨[.ref a], []⟩ [.ref a] [.ref a] _ _ rfl hr e0 (hbind s₁ (.ref a)) (.cons rfl .nil) (hsp H sq)) fun r s' h => ?_
  match r, h with
  | .error _, h => exact False.elim h
  | .ok .next, h => exact False.elim h
  | .ok .brk, h => exact False.elim h
  | .ok .cont, h => exact False.elim h
  | .ok (.ret u), ⟨v, H', os, bare, un, ok', r', q⟩ =>
    obtain rfl : v = .bl true := q
    obtain rfl : u = Value.bool true := r'
    refine ⟨rfl, OldK.of_keep fun b u e => ?_, os, bare⟩
    cases q : H b with
    | none => exact un.keep b u e q (fun z => by cases z) (fun z => by cases z)
    | some z =>
      obtain ⟨rfl, _, rfl⟩ := tr b z q
      obtain ⟨e1, _⟩ := okF b _ q
      obtain ⟨e2, _⟩ := ok' b _ (un.frzs b o _ q)
      rw [e] at e1; cases e1
      exact e2
theorem walk_g {l : PySem.W.OpenLaw} {n k : Nat} {q : Program} {loose : List Str} {XP : (Str → Option Value) → Heap → Prop} {YP : World → Heap → Prop} {d : DefRec} {K : Params → PySem.W.Frag} {sp : World → Sp} {x : Str}
    (hn : l.most = some n) (hn2 : n ≤ sizeLine) (hdf : d.params.defaults = []) (hr : Room k callerA)
    (hY : ∀ (w : World) (h : Heap), YP w h → (K w.params).In h)
    (F : ∀ (w : World) (mg : Str → Option Value) (fa : Addr) (h : Heap), (K w.params).In h → h.Ns mainGlobals mg → mg d.name = some (.ref fa) →
      ∃ fd : FuncData, (∀ (s : Shared) (u : Value), BindsTo s fd ⟨[u], []⟩ [(x, u)]) ∧
        ∀ base : Heap, (K w.params).In base → base.Ns mainGlobals mg → GOk l.prog w (K w.params) mg base k fa fd [x] (sp w))
    (hsp : ∀ (w : World) (H : Hp) (a : Addr) (ns : List Int), ns.length ≤ n → SqL (K w.params) H a (ns.map V.int) → sp w [.ref a] H (fun v _ => v = .bl true) fun _ _ _ => False) :
    PySem.W.WalkO q loose XP YP l.row.toRowW d [] (fun f vs => PySem.call f vs) := by
  refine Att.attach_call hn hdf fun w s₀ s₁ mg mb fa o pm cd doc a vs ns G Y ho hd hcd hmg hobj hints hlen hg => ?_
  obtain ⟨fd, hb, hF⟩ := F w mg fa _ (hY w _ Y) G.T.g hmg
  exact law_g (hY w _ Y) G.T.g G.T.b G.T.builtins G.T.nolimit hg hobj hints (Nat.le_trans hlen hn2) hr hF hb fun H hS => hsp w H a ns hlen hS
end CD
/-! own words 5: a def of the text and its promise, by name -/
namespace CD
open PySem PySem.Spec PyProof.Rows L2
/-- no built-in's name is the text's own -/
structure Z (mg : Str → Option Value) : Prop where
  «all» : mg "all" = none
  «any» : mg "any" = none
  «bool» : mg "bool" = none
  «divmod» : mg "divmod" = none
  «enumerate» : mg "enumerate" = none
  «int» : mg "int" = none
  «isinstance» : mg "isinstance" = none
  «len» : mg "len" = none
  «list» : mg "list" = none
  «max» : mg "max" = none
  «min» : mg "min" = none
  «range» : mg "range" = none
  «repr» : mg "repr" = none
  «reversed» : mg "reversed" = none
  «set» : mg "set" = none
  «sorted» : mg "sorted" = none
  «str» : mg "str" = none
  «sum» : mg "sum" = none
  «tuple» : mg "tuple" = none
  «zip» : mg "zip" = none
/-- a def of the text, where it stands -/
def Def (K : PySem.W.Frag) (mg : Str → Option Value) (x : Str) (st : Stmt) (ps : List Str) : Prop :=
  ∃ f fd, Fun K x x st f fd ∧ mg x = some (.ref f) ∧ Binds K fd ps []
/-- what is known of a def by its name -/
def Cal (P : Program) (w : World) (K : PySem.W.Frag) (mg : Str → Option Value) (base : Heap) (k : Nat) (x : Str) (ps : List Str) (sp : Sp) : Prop :=
  ∃ f fd, FnOk P w K mg base CX0 k f fd ps sp ∧ mg x = some (.ref f) ∧ PySem.W.keepIn K (.ref f) = true ∧ Binds K fd ps []
def CalG (P : Program) (w : World) (K : PySem.W.Frag) (mg : Str → Option Value) (base : Heap) (k : Nat) (x : Str) (ps : List Str) (sp : Sp) : Prop :=
  ∃ f fd, GOk P w K mg base k f fd ps sp ∧ mg x = some (.ref f) ∧ PySem.W.keepIn K (.ref f) = true ∧ Binds K fd ps []
section
variable {P : Program} {w : World} {K : PySem.W.Frag} {mg : Str → Option Value} {base : Heap} {x : Str} {st : Stmt} {N ps : List Str} {k : Nat} {sp : Sp}
theorem Def.cal (D : Def K mg x st ps) (S : FnScope N ps (defScope st)) (len : ∀ vs H Q E, sp vs H Q E → vs.length = ps.length)
    (body : ∀ (f : Addr) (cdv : Value) (A : Around) (outer : List Env) (s : Shared) (H : Hp) (vs : List V) (Q : VK) (E : XK), Room k (A.deeper (envOfC x (defScope st) s.heap.objs.size f cdv)) → sp vs H Q E →
      ∃ t, PSs (cxOf CX0 P w K mg base N x (defScope st) f cdv A outer s H E).nox (defBody st) t ∧ t { nx := fun _ H' => Q .non H', rt := Q } (start N vs) H) : Cal P w K mg base (k + 1) x ps sp := by
  obtain ⟨f, fd, F, m, b⟩ := D
  exact ⟨f, fd, F.ok S len fun cdv A outer s H vs Q E => body f cdv A outer s H vs Q E, m, F.kp, b⟩
theorem Def.calG (D : Def K mg x st ps) (S : FnScope N ps (defScope st)) (len : ∀ vs H Q E, sp vs H Q E → vs.length = ps.length)
    (body : ∀ (f : Addr) (cdv : Value) (A : Around) (outer : List Env) (s : Shared) (H : Hp) (vs : List V) (Q : VK) (E : XK), A.guards = some [] → Room k (A.deeper (envOfC x (defScope st) s.heap.objs.size f cdv)) → sp vs H Q E →
      ∃ t, PSs (cxOf CX0 P w K mg base N x (defScope st) f cdv A outer s H E).nox (defBody st) t ∧ t { nx := fun _ H' => Q .non H', rt := Q } (start N vs) H) : CalG P w K mg base (k + 1) x ps sp := by
  obtain ⟨f, fd, F, m, b⟩ := D
  exact ⟨f, fd, g_ok F S len fun cdv A outer s H vs Q E => body f cdv A outer s H vs Q E, m, F.kp, b⟩
theorem Cal.mono {j : Nat} (C : Cal P w K mg base j x ps sp) (h : j ≤ k) : Cal P w K mg base k x ps sp := by
  obtain ⟨f, fd, F, r⟩ := C
  exact ⟨f, fd, F.mono h, r⟩
theorem Cal.imp {sp' : Sp} (C : Cal P w K mg base k x ps sp) (h : ∀ vs H Q E, sp' vs H Q E → sp vs H Q E) : Cal P w K mg base k x ps sp' := by
  obtain ⟨f, fd, F, r⟩ := C
  exact ⟨f, fd, F.imp h, r⟩
end
section
variable {X : Cx} {k : Nat} {ps : List Str} {sp : Sp} {x : Str} {p pos : Pos} {e : Expr} {es : List Expr} {t : TA}
theorem pe_cal (C : Cal X.prog X.w X.K X.mg X.base k x ps sp) (hr : Room k X.A) (hg : Gl X x) (ha : PA X (e :: es) t) (hdb : (x == ("__debug__" : Str)) = false := by decide)
    (he : starEach (e :: es) X.env = (false, eval e X.env) :: starEach es X.env := by rfl) (hpl : (backTo pos (starEach es X.env)).any (·.1) = false := by rfl) : PE X (.Call (.Name x p) (e :: es) [] pos) (tCall sp [] E0 t) := by
  obtain ⟨f, fd, F, m, kp, b⟩ := C
  exact pe_call F hr hg m kp b .nil pass0 ha hdb he hpl
theorem pe_cal0 (C : Cal X.prog X.w X.K X.mg X.base k x ps sp) (hr : Room k X.A) (hg : Gl X x) (hdb : (x == ("__debug__" : Str)) = false := by decide) : PE X (.Call (.Name x p) [] [] pos) (tCall sp [] E0 tNil) := by
  obtain ⟨f, fd, F, m, kp, b⟩ := C
  exact pe_call0 F hr hg m kp b .nil pass0 hdb
theorem pe_calG (C : CalG X.prog X.w X.K X.mg X.base k x ps sp) (hgd : X.A.guards = some []) (hr : Room k X.A) (hg : Gl X x) (ha : PA X (e :: es) t) (hdb : (x == ("__debug__" : Str)) = false := by decide)
    (he : starEach (e :: es) X.env = (false, eval e X.env) :: starEach es X.env := by rfl) (hpl : (backTo pos (starEach es X.env)).any (·.1) = false := by rfl) : PE X (.Call (.Name x p) (e :: es) [] pos) (tCall sp [] E0 t) := by
  obtain ⟨f, fd, F, m, kp, b⟩ := C
  exact pe_callG F hgd hr hg m kp b ha hdb he hpl
end
/-- what was tracked stays; a new object besides -/
theorem same_upd {H : Hp} {p : Addr} {o : HO} (h : H p = none) : Same H (upd H p o) := fun b x e => by
  rw [upd_ne (ne_of_none e h)]
  exact e
theorem _root_.L2.Same.tup {K : PySem.W.Frag} {H H' : Hp} {a : Addr} {xs : List V} (e : Same H H') (h : SqT K H a xs) : SqT K H' a xs := by
  rcases h with (h | ⟨o, h⟩) | h
  · exact .inl (.inl (e _ _ h))
  · exact .inl (.inr ⟨o, e _ _ h⟩)
  · exact .inr h
/-- a comprehension in which each turn gives what h says of the item, and changes nothing that was tracked -/
theorem lc_std {J : It} {n : Nat} {G : Hp → Prop} {Y : Nat → Hp → V → Hp → Prop} {α : Type} (w : Walk J n G Y) {g : TG} {tt : TT} {te : TE} {vs : List Nat} {σ : L2.St} {H1 : Hp} {D : Addr} {Qd : Hp → Prop}
    (ys : List α) (h : α → Option V) (hn : ys.length = n) (hz : n < sizeLine) (hD : H1 D = none) (hG : ∀ H, Same H1 H → G H)
    (hs : ∀ i x H H' a (R : Option V → Hp → Prop), ys[i]? = some a → Same H1 H → Y i H x H' → (∀ H4, Same H H4 → R (h a) H4) →
      g x (wipe σ vs) H' fun σ2 H2 => wipe σ2 vs = wipe σ vs ∧ tt σ2 H2 fun b H3 => if b = true then te σ2 H3 fun y H4 => R (some y) H4 else R none H3)
    (hd : ∀ H, Same H1 H → H D = some (.lst (ys.filterMap h)) → Qd H) :
    ∃ W : Nat → Nat → Hp → Prop, (∃ m, W 0 m (upd H1 D (.lst []))) ∧ ∀ i m H, W i m H →
      (J.stop i H ∧ Qd H) ∨ (J.go i H ∧ ∃ Nx : Hp → Prop, (∀ H', Nx H' → ∃ m', m' < m ∧ W (i + 1) m' H') ∧ ∀ x H', J.yld i H x H' → g x (wipe σ vs) H' fun σ2 H2 => wipe σ2 vs = wipe σ vs ∧ tt σ2 H2 fun b H3 =>
        if b = true then te σ2 H3 fun y H4 => ∃ acc, H4 D = some (.lst acc) ∧ acc.length < sizeLine ∧ Nx (upd H4 D (.lst (acc ++ [y]))) else Nx H3) := by
  refine lc_it w (fun i H => Same H1 H ∧ H D = some (.lst ((ys.take i).filterMap h))) ⟨same_upd hD, by rw [upd_same]; rfl⟩ (fun i H _ q => hG H q.1) (fun i x H H' hi q y => ?_) fun H q => hd H q.1 (by rw [q.2, ← hn, List.take_length])
  obtain ⟨sm, eD⟩ := q
  have hi' : i < ys.length := by omega
  have ha : ys[i]? = some ys[i] := List.getElem?_eq_getElem hi'
  have tk : (ys.take (i + 1)).filterMap h = (ys.take i).filterMap h ++ (h ys[i]).toList := by
    rw [List.take_add_one, ha, List.filterMap_append]
    cases e : h ys[i] <;> simp [e]
  have ln : ((ys.take i).filterMap h).length < sizeLine := by
    have z := List.length_filterMap_le h (ys.take i)
    rw [List.length_take] at z
    omega
  have go := hs i x H H' ys[i] (fun o H4 => match o with
    | some y => ∃ acc, H4 D = some (.lst acc) ∧ acc.length < sizeLine ∧ (Same H1 (upd H4 D (.lst (acc ++ [y]))) ∧ (upd H4 D (.lst (acc ++ [y]))) D = some (.lst ((ys.take (i + 1)).filterMap h)))
    | none => Same H1 H4 ∧ H4 D = some (.lst ((ys.take (i + 1)).filterMap h))) ha sm y (fun H4 s4 => by
      have e4 : H4 D = some (.lst ((ys.take i).filterMap h)) := s4 _ _ eD
      cases e : h ys[i] with
      | none =>
        rw [e] at tk
        exact ⟨sm.trans s4, by rw [e4, tk]; simp⟩
      | some y =>
        rw [e] at tk
        refine ⟨_, e4, ln, fun b o eb => ?_, ?_⟩
        · have nb : b ≠ D := ne_of_none eb hD
          rw [upd_ne nb]
          exact s4 _ _ (sm _ _ eb)
        · rw [upd_same, tk]
          simp)
  exact go
/-! ### tuples -/
theorem tyx_tup {K : PySem.W.Frag} {H : Hp} {a : Addr} {xs : List V} (h : SqT K H a xs) : TyX K H (.ref a) (.type "tuple") := by
  rcases h with (h | ⟨o, h⟩) | ⟨o, its, n, h, c, _⟩
  · exact .base (.tup h)
  · exact .fTuple h
  · exact .kTuple h c
theorem cut_tail (xs : List V) : cutV xs (some 1) none = xs.tail := by
  unfold cutV
  rw [show HT.sIx xs.length 0 (some 1) = min 1 xs.length from HT.sIx_nat xs.length 0 1, HT.sIx_none]
  cases xs with
  | nil => rfl
  | cons x r =>
    have e : min 1 (x :: r).length = 1 := by rw [List.length_cons]; omega
    rw [e]
    show List.take ((x :: r).length - 1) r = r
    rw [List.length_cons, Nat.add_sub_cancel, List.take_length]
/-- t[1:] -/
theorem sl_tail {K : PySem.W.Frag} {H : Hp} {a : Addr} {xs : List V} {R : VK} (hS : SqT K H a xs) (h : ∀ c Hc, Same H Hc → SqT K Hc c xs.tail → R (.ref c) Hc) : rSlA K (.ref a) (some 1) none H R := by
  refine ⟨a, xs, rfl, hS, fun e => ?_, fun _ p hp => ?_⟩
  · have e1 : HT.sIx xs.length 0 (some 1) = min 1 xs.length := HT.sIx_nat xs.length 0 1
    have e2 : xs = [] := by
      cases xs with
      | nil => rfl
      | cons x r =>
        have z := e.1
        rw [e1, List.length_cons] at z
        omega
    subst e2
    exact h a H (Same.refl H) hS
  · exact h p _ (same_upd hp) (.inl (.inl (by rw [upd_same, cut_tail])))
/-- t + u, u new -/
theorem cat_new {K : PySem.W.Frag} {H : Hp} {a b : Addr} {xs ys : List V} {R : VK} (hS : SqT K H a xs) (hb : H b = some (.tup ys)) (hy : ys ≠ []) (hz : xs.length + ys.length ≤ 1000)
    (h : ∀ c Hc, Same H Hc → Hc c = some (.tup (xs ++ ys)) → R (.ref c) Hc) : rCatA K (.ref a) (.ref b) H R := by
  refine ⟨a, b, xs, ys, rfl, rfl, hS, .inl (.inl hb), Nat.le_of_lt (small1000 hz), fun e => ?_, fun _ e => absurd e hy, fun _ _ p hp => h p _ (same_upd hp) upd_same⟩
  subst e
  exact h b H (Same.refl H) hb
/-- t[-i], i from 1 to the length -/
theorem at_neg {α : Type} {xs : List α} {i : Nat} {v : α} (h1 : 1 ≤ i) (h2 : i ≤ xs.length) (h : xs[xs.length - i]? = some v) : atI xs (-(i : Int)) = some v := by
  have e : ixN xs.length (-(i : Int)) = some (xs.length - i) := by
    unfold ixN
    rw [if_neg (by omega)]
    rw [if_pos (by omega)]
    congr 1
    omega
  unfold atI
  rw [e]
  exact h
theorem walk_zipT {K : PySem.W.Frag} {a b : Addr} {xs ys : List V} {n : Nat} (hn : n = min xs.length ys.length) : Walk (RZ.ItzT K a b) n (fun H => SqT K H a xs ∧ SqT K H b ys) (YPair (fun i => xs[i]?) (fun i => ys[i]?)) := by
  subst hn
  refine ⟨fun i _ hi q => ?_, fun _ q => ⟨xs, ys, q.1, q.2, by omega⟩, fun i H v H' _ q y => ?_⟩
  · have h1 : i < xs.length := by omega
    have h2 : i < ys.length := by omega
    exact ⟨xs, ys, xs[i], ys[i], q.1, q.2, by simp [h1], by simp [h2]⟩
  · obtain ⟨T, x, y', h1, h2, h3, h4, h5⟩ := y
    exact ⟨T, x, y', h1, h2, h3, h4 _ q.1, h5 _ q.2⟩
theorem map_at {α β : Type} {f : α → β} {xs : List α} {i : Nat} {a : α} {b : β} (h : xs[i]? = some a) (g : (xs.map f)[i]? = some b) : b = f a := by
  rw [List.getElem?_map, h] at g
  exact (Option.some.inj g).symm
theorem filterMap_some {α β : Type} (f : α → β) : ∀ xs : List α, xs.filterMap (fun x => some (f x)) = xs.map f
  | [] => rfl
  | x :: r => by rw [List.filterMap_cons, List.map_cons, filterMap_some f r]
theorem pe_globI {X : Cx} {x : Str} {pos : Pos} {n : Int} {t : Tok} (hg : Gl X x) (hm : X.mg x = some (.int n t)) (hd : (x == ("__debug__" : Str)) = false := by decide) : PE X (.Name x pos) (tC (.int n)) := by
  first
    | exact pe_glob hg hm ⟨t, rfl⟩ hd
    | exact pe_glob hg hm ⟨t, rfl⟩
theorem ix_tupK {X : Cx} {K : PySem.W.Frag} (h : X.K = K) : IxR X (rIxT K) := h ▸ ix_tup
theorem ix_listK {X : Cx} {K : PySem.W.Frag} (h : X.K = K) : IxR X (rIxL K) := h ▸ ix_list
/-- t * k -/
theorem rep_any {K : PySem.W.Frag} {H : Hp} {l : Addr} {xs : List V} {k : Nat} {v : V} {R : VK} (e : v = .int k) (hS : SqT K H l xs) (hx : xs ≠ []) (hk : k ≤ 1000) (hl : xs.length ≤ 1000)
    (h : ∀ c Hc, Same H Hc → SqT K Hc c (List.replicate k xs).flatten → R (.ref c) Hc) : rRepA K (.ref l) v H R := by
  refine ⟨l, xs, k, rfl, e, hS, hx, hk, hl, fun e1 => ?_, fun _ p np => h p _ (same_upd np) (.inl (.inl upd_same))⟩
  subst e1
  refine h l H (Same.refl H) ?_
  have z : (List.replicate 1 xs).flatten = xs := by simp
  rw [z]
  exact hS
theorem flat_one {α : Type} (x : α) : ∀ n : Nat, (List.replicate n [x]).flatten = List.replicate n x
  | 0 => rfl
  | n + 1 => by rw [List.replicate_succ, List.flatten_cons, flat_one x n]; rfl
theorem in_ints (n : Int) : ∀ ns : List Int, inV (.int n) (ns.map V.int) = decide (n ∈ ns)
  | [] => rfl
  | k :: r => by
    have ih := in_ints n r
    unfold inV at ih ⊢
    rw [List.map_cons, List.any_cons, ih]
    show (k == n || decide (n ∈ r)) = _
    by_cases c : n = k
    · subst c; simp
    · have c2 : (k == n) = false := by simpa using fun e => c e.symm
      rw [c2, Bool.false_or]
      exact decide_eq_decide.mpr ⟨fun h => List.mem_cons_of_mem _ h, fun h => (List.mem_cons.mp h).resolve_left c⟩
theorem flat_ints : ∀ ns : List Int, (ns.map V.int).all flatV = true
  | [] => rfl
  | _ :: r => flat_ints r
/-! ### data of ints -/
theorem dp_ints {K : PySem.W.Frag} {H : Hp} : ∀ ns : List Int, DpAll K H (ns.map V.int) (ns.map PyData.int)
  | [] => .nil
  | n :: r => .cons (.int n) (dp_ints r)
theorem can_ints : ∀ ns : List Int, PyData.canLayAll0 (ns.map PyData.int) = true
  | [] => by rw [List.map_nil, PyData.canLayAll0]
  | n :: r => by rw [List.map_cons, PyData.canLayAll0, can_ints r, PyData.canLay0]; rfl
theorem shaped_ints (ns : List Int) : SeqAt.shaped (.list (ns.map PyData.int)) = true := by
  unfold SeqAt.shaped
  rw [PyData.canLay0, can_ints, PyData.depth, depth_ints]
  decide
theorem eqv_nil (ns : List Int) : PyData.eqv (.list (ns.map PyData.int)) (.list []) = ns.isEmpty := by
  cases ns with
  | nil => rw [List.map_nil, PyData.eqv, PyData.eqvAll]; rfl
  | cons n r => rw [List.map_cons, PyData.eqv, PyData.eqvAll]; rfl
/-- xs != [] of a list of ints, the other one new -/
theorem ne_nil {K : PySem.W.Frag} {H : Hp} {g p : Addr} {ns : List Int} {R : VK} (hg : SqL K H g (ns.map V.int)) (hp : H p = some (.lst [])) (h : R (.bl (!ns.isEmpty)) H) : rNeD K (.ref g) (.ref p) H R := by
  refine ⟨.list (ns.map .int), .list [], .lst hg (dp_ints ns), .lst (.inl (.inl hp)) .nil, shaped_ints ns, shaped_ints [], ?_⟩
  rw [eqv_nil]
  exact h
/-! ### a step into a reading -/
theorem seq_go {t u : TS} {D : Ends} {σ : L2.St} {H : Hp} (h : t { D with nx := fun σ1 H1 => u D σ1 H1 } σ H) : tSeq t u D σ H := h
theorem asg_go {te : TE} {g : TG} {D : Ends} {σ : L2.St} {H : Hp} (h : te σ H fun v H1 => g v σ H1 D.nx) : tAsg te g D σ H := h
theorem drop_go {te : TE} {D : Ends} {σ : L2.St} {H : Hp} (h : te σ H fun _ H1 => D.nx σ H1) : tDrop te D σ H := h
theorem ret_go {te : TE} {D : Ends} {σ : L2.St} {H : Hp} (h : te σ H D.rt) : tRet te D σ H := h
theorem lst_go {t : TA} {σ : L2.St} {H : Hp} {Q : VK} (h : t σ H fun xs H1 => xs.length ≤ sizeLine ∧ ∀ p, H1 p = none → Q (.ref p) (upd H1 p (.lst xs))) : tLst t σ H Q := h
theorem tup_go {t : TA} {σ : L2.St} {H : Hp} {Q : VK} (h : t σ H fun xs H1 => xs.length ≤ sizeLine ∧ ∀ p, H1 p = none → Q (.ref p) (upd H1 p (.tup xs))) : tTup t σ H Q := h
theorem cons_go {ta : TE} {tr : TA} {σ : L2.St} {H : Hp} {Q : List V → Hp → Prop} (h : ta σ H fun x H1 => tr σ H1 fun xs H2 => Q (x :: xs) H2) : tCons ta tr σ H Q := h
theorem op_go {r : R2} {ta tb : TE} {σ : L2.St} {H : Hp} {Q : VK} (h : ta σ H fun x H1 => tb σ H1 fun y H2 => r x y H2 Q) : tOp r ta tb σ H Q := h
theorem cb_go {r : List V → Hp → VK → Prop} {t : TA} {σ : L2.St} {H : Hp} {Q : VK} (h : t σ H fun vs H1 => r vs H1 Q) : tCB r t σ H Q := h
theorem call_go {sp : Sp} {dvs : List V} {E : XK} {t : TA} {σ : L2.St} {H : Hp} {Q : VK} (h : t σ H fun vs H1 => sp (vs ++ dvs) H1 Q E) : tCall sp dvs E t σ H Q := h
end CD
/-! lifted readings 1: data over a frozen part of the heap; what the slots hold; how both stay -/
namespace DL
open PySem PySem.Spec PyProof.Rows L2 CD
/-! ### data -/
inductive D where
  | non | bl (b : Bool) | int (i : Int) | str (x : Str) | list (xs : List D) | tup (xs : List D)
  | dk (kvs : List (Key × D)) | dt (kvs : List (List Key × D)) | set (xs : List Int) | scr (ns : List Int) | fn (a : Addr)
mutual
/-- data at a value, over the frozen heap -/
inductive Dd (K : PySem.W.Frag) (F : Hp) : V → D → Prop
  | non : Dd K F .non .non
  | bl (b : Bool) : Dd K F (.bl b) (.bl b)
  | int (i : Int) : Dd K F (.int i) (.int i)
  | str (x : Str) : Dd K F (.str x) (.str x)
  | fn (a : Addr) : Dd K F (.ref a) (.fn a)
  | lst {a : Addr} {xs : List V} {ds : List D} : F a = some (.lst xs) → DdL K F xs ds → Dd K F (.ref a) (.list ds)
  | scr {a : Addr} {ns : List Int} : SqL K F a (ns.map V.int) → Dd K F (.ref a) (.scr ns)
  | tup {a : Addr} {xs : List V} {ds : List D} : F a = some (.tup xs) → DdL K F xs ds → Dd K F (.ref a) (.tup ds)
  | dK {a : Addr} {kvs : List (Key × V)} {ds : List (Key × D)} : F a = some (.dK kvs) → DdK K F kvs ds → Dd K F (.ref a) (.dk ds)
  | dT {a : Addr} {kvs : List (List Key × V)} {ds : List (List Key × D)} : F a = some (.dT kvs) → DdT K F kvs ds → Dd K F (.ref a) (.dt ds)
  | set {a : Addr} {S : Int → Bool} {n : Nat} {xs : List Int} : F a = some (.set S n) → (∀ i, S i = decide (i ∈ xs)) → n = xs.length → xs.Nodup → Dd K F (.ref a) (.set xs)
inductive DdL (K : PySem.W.Frag) (F : Hp) : List V → List D → Prop
  | nil : DdL K F [] []
  | cons {v : V} {vs : List V} {d : D} {ds : List D} : Dd K F v d → DdL K F vs ds → DdL K F (v :: vs) (d :: ds)
inductive DdK (K : PySem.W.Frag) (F : Hp) : List (Key × V) → List (Key × D) → Prop
  | nil : DdK K F [] []
  | cons {k : Key} {v : V} {vs : List (Key × V)} {d : D} {ds : List (Key × D)} : Dd K F v d → DdK K F vs ds → DdK K F ((k, v) :: vs) ((k, d) :: ds)
inductive DdT (K : PySem.W.Frag) (F : Hp) : List (List Key × V) → List (List Key × D) → Prop
  | nil : DdT K F [] []
  | cons {k : List Key} {v : V} {vs : List (List Key × V)} {d : D} {ds : List (List Key × D)} : Dd K F v d → DdT K F vs ds → DdT K F ((k, v) :: vs) ((k, d) :: ds)
end
theorem rd_same {F F' : Hp} {a : Addr} {u : HO} (s : Same F F') (h : Rd F a u) : Rd F' a u := by
  rcases h with h | ⟨o, h⟩
  · exact .inl (s _ _ h)
  · exact .inr ⟨o, s _ _ h⟩
section
variable {K : PySem.W.Frag} {F F' H H' : Hp}
mutual
theorem Dd.same (s : Same F F') : ∀ {v : V} {d : D}, Dd K F v d → Dd K F' v d
  | _, _, .non => .non
  | _, _, .bl b => .bl b
  | _, _, .int i => .int i
  | _, _, .str x => .str x
  | _, _, .fn a => .fn a
  | _, _, .lst h g => .lst (s _ _ h) (DdL.same s g)
  | _, _, .scr h => .scr (s.seq h)
  | _, _, .tup h g => .tup (s _ _ h) (DdL.same s g)
  | _, _, .dK h g => .dK (s _ _ h) (DdK.same s g)
  | _, _, .dT h g => .dT (s _ _ h) (DdT.same s g)
  | _, _, .set h g n m => .set (s _ _ h) g n m
theorem DdL.same (s : Same F F') : ∀ {v : List V} {d : List D}, DdL K F v d → DdL K F' v d
  | _, _, .nil => .nil
  | _, _, .cons h g => .cons (Dd.same s h) (DdL.same s g)
theorem DdK.same (s : Same F F') : ∀ {v : List (Key × V)} {d : List (Key × D)}, DdK K F v d → DdK K F' v d
  | _, _, .nil => .nil
  | _, _, .cons h g => .cons (Dd.same s h) (DdK.same s g)
theorem DdT.same (s : Same F F') : ∀ {v : List (List Key × V)} {d : List (List Key × D)}, DdT K F v d → DdT K F' v d
  | _, _, .nil => .nil
  | _, _, .cons h g => .cons (Dd.same s h) (DdT.same s g)
end
theorem DdL.length : ∀ {xs : List V} {ds : List D}, DdL K F xs ds → xs.length = ds.length
  | _, _, .nil => rfl
  | _, _, .cons _ g => by rw [List.length_cons, List.length_cons, g.length]
theorem DdL.get : ∀ {xs : List V} {ds : List D} {i : Nat} {d : D}, DdL K F xs ds → ds[i]? = some d → ∃ v, xs[i]? = some v ∧ Dd K F v d
  | _, _, _, _, .nil, e => by simp at e
  | _, _, 0, _, .cons h _, e => by simp at e; subst e; exact ⟨_, rfl, h⟩
  | _, _, i + 1, d, .cons _ g, e => by
    obtain ⟨v, h1, h2⟩ := DdL.get (i := i) (d := d) g (by simpa using e)
    exact ⟨v, by simpa using h1, h2⟩
theorem DdL.get' : ∀ {xs : List V} {ds : List D} {i : Nat} {v : V}, DdL K F xs ds → xs[i]? = some v → ∃ d, ds[i]? = some d ∧ Dd K F v d
  | _, _, _, _, .nil, e => by simp at e
  | _, _, 0, _, .cons h _, e => by simp at e; subst e; exact ⟨_, rfl, h⟩
  | _, _, i + 1, v, .cons _ g, e => by
    obtain ⟨d, h1, h2⟩ := DdL.get' (i := i) (v := v) g (by simpa using e)
    exact ⟨d, by simpa using h1, h2⟩
theorem DdL.append : ∀ {xs ys : List V} {ds es : List D}, DdL K F xs ds → DdL K F ys es → DdL K F (xs ++ ys) (ds ++ es)
  | _, _, _, _, .nil, g => g
  | _, _, _, _, .cons h t, g => .cons h (DdL.append t g)
theorem DdL.take : ∀ {xs : List V} {ds : List D} (n : Nat), DdL K F xs ds → DdL K F (xs.take n) (ds.take n)
  | _, _, 0, _ => .nil
  | _, _, _ + 1, .nil => .nil
  | _, _, n + 1, .cons h t => .cons h (DdL.take n t)
theorem DdL.drop : ∀ {xs : List V} {ds : List D} (n : Nat), DdL K F xs ds → DdL K F (xs.drop n) (ds.drop n)
  | _, _, 0, h => h
  | _, _, _ + 1, .nil => .nil
  | _, _, n + 1, .cons _ t => DdL.drop n t
theorem DdL.set {v : V} {d : D} (h : Dd K F v d) : ∀ {xs : List V} {ds : List D} (n : Nat), DdL K F xs ds → DdL K F (xs.set n v) (ds.set n d)
  | _, _, _, .nil => .nil
  | _, _, 0, .cons _ t => .cons h t
  | _, _, n + 1, .cons g t => .cons g (DdL.set h n t)
theorem DdL.reverse : ∀ {xs : List V} {ds : List D}, DdL K F xs ds → DdL K F xs.reverse ds.reverse
  | _, _, .nil => .nil
  | _, _, .cons h t => by
    rw [List.reverse_cons, List.reverse_cons]
    exact (DdL.reverse t).append (.cons h .nil)
theorem DdL.ints : ∀ {xs : List V} {ns : List Int}, DdL K F xs (ns.map D.int) → xs = ns.map V.int
  | _, [], h => by cases h; rfl
  | _, n :: r, h => by
    cases h with
    | cons h g => cases h; rw [DdL.ints g]; rfl
theorem DdL.of_ints : ∀ ns : List Int, DdL K F (ns.map V.int) (ns.map D.int)
  | [] => .nil
  | n :: r => .cons (.int n) (DdL.of_ints r)
/-- an object of ours: its own content lies at a, what it holds is frozen -/
inductive Own (K : PySem.W.Frag) (F H : Hp) (a : Addr) : D → Prop
  | lst {xs : List V} {ds : List D} : H a = some (.lst xs) → DdL K F xs ds → Own K F H a (.list ds)
  | dK {kvs : List (Key × V)} {ds : List (Key × D)} : H a = some (.dK kvs) → DdK K F kvs ds → Own K F H a (.dk ds)
  | dT {kvs : List (List Key × V)} {ds : List (List Key × D)} : H a = some (.dT kvs) → DdT K F kvs ds → Own K F H a (.dt ds)
  | set {S : Int → Bool} {n : Nat} {xs : List Int} : H a = some (.set S n) → (∀ i, S i = decide (i ∈ xs)) → n = xs.length → xs.Nodup → Own K F H a (.set xs)
theorem Own.there {a : Addr} {d : D} (h : Own K F H a d) : ∃ o, H a = some o := by
  cases h <;> exact ⟨_, ‹_›⟩
theorem Own.noTE {a : Addr} {d : D} {o : HO} (h : Own K F H a d) (e : H a = some o) : (∀ ps, o ≠ .tbl ps) ∧ ∀ f, o ≠ .ext f := by
  cases h with
  | lst h _ => rw [h] at e; cases e; exact ⟨nofun, nofun⟩
  | dK h _ => rw [h] at e; cases e; exact ⟨nofun, nofun⟩
  | dT h _ => rw [h] at e; cases e; exact ⟨nofun, nofun⟩
  | set h _ _ _ => rw [h] at e; cases e; exact ⟨nofun, nofun⟩
theorem Own.nt {a : Addr} {d : D} {xs : List V} (h : Own K F H a d) : H a ≠ some (.tup xs) := by
  cases h with
  | lst h _ => rw [h]; exact fun e => by cases e
  | dK h _ => rw [h]; exact fun e => by cases e
  | dT h _ => rw [h]; exact fun e => by cases e
  | set h _ _ _ => rw [h]; exact fun e => by cases e
theorem Own.move {a : Addr} {d : D} (h : Own K F H a d) (s : Same F F') (e : H' a = H a) : Own K F' H' a d := by
  cases h with
  | lst h g => exact .lst (e.trans h) (g.same s)
  | dK h g => exact .dK (e.trans h) (g.same s)
  | dT h g => exact .dT (e.trans h) (g.same s)
  | set h g n m => exact .set (e.trans h) g n m
/-- frozen as it stands -/
theorem Own.frozen {a : Addr} {d : D} {o : HO} (h : Own K F H a d) (n : F a = none) (e : H a = some o) : Dd K (upd F a o) (.ref a) d := by
  have s : Same F (upd F a o) := same_upd n
  cases h with
  | lst h g => rw [h] at e; cases e; exact .lst upd_same (g.same s)
  | dK h g => rw [h] at e; cases e; exact .dK upd_same (g.same s)
  | dT h g => rw [h] at e; cases e; exact .dT upd_same (g.same s)
  | set h g n m => rw [h] at e; cases e; exact .set upd_same g n m
theorem same_none (H : Hp) : Same (fun _ => none) H := fun _ _ h => nomatch h
/-- what may be read at a value: frozen, our own, or written in the text -/
def Cnt (K : PySem.W.Frag) (F H : Hp) (v : V) (d : D) : Prop :=
  Dd K F v d ∨ (∃ a, v = .ref a ∧ Own K F H a d) ∨ ∃ a xs ds, v = .ref a ∧ d = .tup ds ∧ SqT K (fun _ => none) a xs ∧ DdL K (fun _ => none) xs ds
theorem Cnt.list {v : V} {ds : List D} (s : Same F H) (h : Cnt K F H v (.list ds)) : ∃ a xs, v = .ref a ∧ H a = some (.lst xs) ∧ DdL K F xs ds := by
  rcases h with h | ⟨a, rfl, h⟩ | ⟨_, _, _, _, e, _⟩
  · cases h with
    | lst h g => exact ⟨_, _, rfl, s _ _ h, g⟩
  · cases h with
    | lst h g => exact ⟨_, _, rfl, h, g⟩
  · cases e
theorem Cnt.scr {v : V} {ns : List Int} (s : Same F H) (h : Cnt K F H v (.scr ns)) : ∃ a, v = .ref a ∧ SqL K H a (ns.map V.int) := by
  rcases h with h | ⟨a, rfl, h⟩ | ⟨_, _, _, _, e, _⟩
  · cases h with
    | scr h => exact ⟨_, rfl, s.seq h⟩
  · cases h
  · cases e
theorem Cnt.tup {v : V} {ds : List D} (s : Same F H) (h : Cnt K F H v (.tup ds)) : ∃ a xs, v = .ref a ∧ SqT K H a xs ∧ DdL K F xs ds := by
  rcases h with h | ⟨a, rfl, h⟩ | ⟨a, xs, ds', rfl, e, h, g⟩
  · cases h with
    | tup h g => exact ⟨_, _, rfl, .inl (.inl (s _ _ h)), g⟩
  · cases h
  · cases e
    exact ⟨a, xs, rfl, (same_none H).tup h, g.same (same_none F)⟩
theorem Cnt.dk {v : V} {ds : List (Key × D)} (s : Same F H) (h : Cnt K F H v (.dk ds)) : ∃ a kvs, v = .ref a ∧ H a = some (.dK kvs) ∧ DdK K F kvs ds := by
  rcases h with h | ⟨a, rfl, h⟩ | ⟨_, _, _, _, e, _⟩
  · cases h with
    | dK h g => exact ⟨_, _, rfl, s _ _ h, g⟩
  · cases h with
    | dK h g => exact ⟨_, _, rfl, h, g⟩
  · cases e
theorem Cnt.dt {v : V} {ds : List (List Key × D)} (s : Same F H) (h : Cnt K F H v (.dt ds)) : ∃ a kvs, v = .ref a ∧ H a = some (.dT kvs) ∧ DdT K F kvs ds := by
  rcases h with h | ⟨a, rfl, h⟩ | ⟨_, _, _, _, e, _⟩
  · cases h with
    | dT h g => exact ⟨_, _, rfl, s _ _ h, g⟩
  · cases h with
    | dT h g => exact ⟨_, _, rfl, h, g⟩
  · cases e
theorem Cnt.int {v : V} {i : Int} (h : Cnt K F H v (.int i)) : v = .int i := by
  rcases h with h | ⟨a, _, h⟩ | ⟨_, _, _, _, e, _⟩
  · cases h; rfl
  · cases h
  · cases e
theorem Cnt.bl {v : V} {i : Bool} (h : Cnt K F H v (.bl i)) : v = .bl i := by
  rcases h with h | ⟨a, _, h⟩ | ⟨_, _, _, _, e, _⟩
  · cases h; rfl
  · cases h
  · cases e
theorem Cnt.str {v : V} {i : Str} (h : Cnt K F H v (.str i)) : v = .str i := by
  rcases h with h | ⟨a, _, h⟩ | ⟨_, _, _, _, e, _⟩
  · cases h; rfl
  · cases h
  · cases e
theorem Cnt.non {v : V} (h : Cnt K F H v .non) : v = .non := by
  rcases h with h | ⟨a, _, h⟩ | ⟨_, _, _, _, e, _⟩
  · cases h; rfl
  · cases h
  · cases e
theorem Cnt.move {v : V} {d : D} (h : Cnt K F H v d) (s : Same F F') (s2 : Same H H') : Cnt K F' H' v d := by
  rcases h with h | ⟨a, rfl, h⟩ | ⟨a, xs, ds', rfl, e, h, g⟩
  · exact .inl (h.same s)
  · obtain ⟨o, e⟩ := h.there
    exact .inr (.inl ⟨a, rfl, h.move s ((s2 _ _ e).trans e.symm)⟩)
  · exact .inr (.inr ⟨a, xs, ds', rfl, e, h, g⟩)
end
/-! ### what the slots hold -/
/-- no table, no code object -/
def noTE (o : HO) : Prop := (∀ ps, o ≠ .tbl ps) ∧ ∀ f, o ≠ .ext f
structure GenP where
  T : List (Addr × Str) := []
  D : Hp → Addr → Addr → Addr → Nat → Prop
  stab : ∀ {H H' : Hp} {d g c : Addr} {n : Nat}, D H d g c n → H' d = H d → H' g = H g → H' c = H c → D H' d g c n
  dd : ∀ {H : Hp} {d g c : Addr} {n : Nat}, D H d g c n → H d ≠ none ∧ H g ≠ none ∧ H c ≠ none ∧ d ≠ g
  nt : ∀ {H : Hp} {d g c : Addr} {n : Nat} {xs : List V}, D H d g c n → H d ≠ some (.tup xs) ∧ H g ≠ some (.tup xs)
  nx : ∀ {H : Hp} {d g c : Addr} {n : Nat} {o : HO}, D H d g c n → H d = some o ∨ H g = some o → noTE o
/-- the same with tables -/
def GenP.tb (G : GenP) (T : List (Addr × Str)) : GenP := { G with T := T }
inductive SV where
  | val (d : D) | own (d : D) | gen (n : Nat)
abbrev Rho := List (Option SV)
inductive RV where
  | val (d : D) | fr (d : D) | kon (d : D) | sl (i : Nat)
abbrev GAt := Option (Addr × Addr × Addr)
/-- a table of code objects lies at a -/
def TbA (T : List (Addr × Str)) (a : Addr) : Prop := ∃ q, (a, q) ∈ T
/-- what a def may change: the draws' objects, the tables -/
def GA (GP : GenP) (γ : GAt) (a : Addr) : Prop := (∃ p, γ = some p ∧ (a = p.1 ∨ a = p.2.1)) ∨ TbA GP.T a
theorem tabs_there {T : List (Addr × Str)} {H : Hp} {a : Addr} (t : LamX.Tabs T H) (h : TbA T a) : ∃ ps, H a = some (.tbl ps) := by
  obtain ⟨q, hq⟩ := h
  obtain ⟨ps, h1, _⟩ := t _ hq
  exact ⟨ps, h1⟩
/-- the tables stay if tables and code objects do -/
theorem tabs_stay {T : List (Addr × Str)} {H H' : Hp} (t : LamX.Tabs T H) (e : ∀ a o, H a = some o → ¬ noTE o → H' a = some o) : LamX.Tabs T H' := fun p hp => by
  obtain ⟨ps, h1, h2, h3⟩ := t p hp
  refine ⟨ps, e _ _ h1 (fun n => n.1 ps rfl), h2, fun pos cv hc => ?_⟩
  obtain ⟨c, e1, e2⟩ := h3 pos cv hc
  exact ⟨c, e1, e _ _ e2 (fun n => n.2 _ rfl)⟩
theorem tabs_upd {T : List (Addr × Str)} {H : Hp} {a : Addr} {o : HO} (t : LamX.Tabs T H) (n : ∀ u, H a = some u → noTE u) : LamX.Tabs T (upd H a o) := tabs_stay t fun b u h nb => by
  have : b ≠ a := fun x => nb (n u (x ▸ h))
  rw [upd_ne this]; exact h
/-- a belongs to slot j as our own -/
def OwnAt (σ : L2.St) (ρ : Rho) (a : Addr) (j : Nat) : Prop := (∃ e, ρ[j]? = some (some (.own e))) ∧ σ[j]? = some (some (.ref a))
structure Rp (GP : GenP) (K : PySem.W.Frag) (H0 F0 : Hp) (γ0 γ : GAt) (σ : L2.St) (H F : Hp) (ρ : Rho) : Prop where
  f0 : Same F0 F
  sub : Same F H
  keep : ∀ a o, H0 a = some o → ¬ GA GP γ0 a → H a = some o
  fnew : ∀ a o, F a = some o → F0 a = some o ∨ H0 a = none ∨ ∃ xs, o = .tup xs
  tr : ∀ a o, H0 a = some o → ∃ u, H a = some u
  len : σ.length = ρ.length
  val : ∀ (i : Nat) (d : D), ρ[i]? = some (some (.val d)) → ∃ v, σ[i]? = some (some v) ∧ Dd K F v d
  own : ∀ (i : Nat) (d : D), ρ[i]? = some (some (.own d)) → ∃ a, σ[i]? = some (some (.ref a)) ∧ Own K F H a d ∧ F a = none ∧ H0 a = none ∧ (¬ GA GP γ a) ∧ ∀ j, OwnAt σ ρ a j → j = i
  gen : ∀ (i n : Nat), ρ[i]? = some (some (.gen n)) → ∃ p, γ = some p ∧ σ[i]? = some (some (.ref p.1)) ∧ GP.D H p.1 p.2.1 p.2.2 n ∧ F p.2.2 ≠ none
  one : ∀ (i j n m : Nat), ρ[i]? = some (some (.gen n)) → ρ[j]? = some (some (.gen m)) → i = j
  g0 : ∀ p, γ0 = some p → ∃ q, γ = some q ∧ q.1 = p.1 ∧ q.2.2 = p.2.2 ∧ (q.2.1 = p.2.1 ∨ H0 q.2.1 = none)
  g1 : γ0 = none → ∀ p, γ = some p → H0 p.1 = none ∧ H0 p.2.1 = none
  gt0 : ∀ p, γ0 = some p → ∃ o u, H0 p.1 = some o ∧ H0 p.2.1 = some u
  gt : ∀ p, γ = some p → ∃ o u, H p.1 = some o ∧ H p.2.1 = some u ∧ ∀ xs, o ≠ .tup xs ∧ u ≠ .tup xs
  gf : ∀ p, γ = some p → F p.1 = none ∧ F p.2.1 = none
  tabs : LamX.Tabs GP.T H
  tin : ∀ a, TbA GP.T a → F a = none ∧ ∃ o, H0 a = some o
  gn : ∀ p, γ = some p → ¬ TbA GP.T p.1 ∧ ¬ TbA GP.T p.2.1
/-- a result -/
def RVok (GP : GenP) (K : PySem.W.Frag) (H0 : Hp) (γ0 γ : GAt) (σ : L2.St) (H F : Hp) (ρ : Rho) (v : V) : RV → Prop
  | .val d => Dd K F v d
  | .fr d => ∃ a, v = .ref a ∧ Own K F H a d ∧ F a = none ∧ H0 a = none ∧ (¬ GA GP γ a) ∧ ∀ j, ¬ OwnAt σ ρ a j
  | .kon d => ∃ a xs ds, v = .ref a ∧ d = .tup ds ∧ SqT K (fun _ => none) a xs ∧ DdL K (fun _ => none) xs ds
  | .sl i => σ[i]? = some (some v)
def cn (ρ : Rho) : RV → Option D
  | .val d => some d
  | .fr d => some d
  | .kon d => some d
  | .sl i => match ρ[i]? with
    | some (some (.val d)) => some d
    | some (some (.own d)) => some d
    | _ => none
section
variable {GP : GenP} {K : PySem.W.Frag} {H0 F0 H H' F F' : Hp} {γ0 γ : GAt} {σ : L2.St} {ρ : Rho} {v : V} {d : D}
theorem RVok.cnt {x : RV} (r : Rp GP K H0 F0 γ0 γ σ H F ρ) (h : RVok GP K H0 γ0 γ σ H F ρ v x) (e : cn ρ x = some d) : Cnt K F H v d := by
  cases x with
  | val d' => cases e; exact .inl h
  | fr d' => cases e; obtain ⟨a, rfl, o, _⟩ := h; exact .inr (.inl ⟨a, rfl, o⟩)
  | kon d' =>
    cases e
    exact .inr (.inr h)
  | sl i =>
    have h : σ[i]? = some (some v) := h
    dsimp only [cn] at e
    cases q : ρ[i]? with
    | none => rw [q] at e; cases e
    | some s =>
      rw [q] at e
      cases s with
      | none => cases e
      | some s =>
        cases s with
        | val d' =>
          cases e
          obtain ⟨u, e1, e2⟩ := r.val i d q
          rw [h] at e1; cases e1
          exact .inl e2
        | own d' =>
          cases e
          obtain ⟨a, e1, e2, _⟩ := r.own i d q
          rw [h] at e1; cases e1
          exact .inr (.inl ⟨a, rfl, e2⟩)
        | gen n => cases e
/-- nothing but new objects -/
theorem Rp.same (r : Rp GP K H0 F0 γ0 γ σ H F ρ) (s : Same H H') : Rp GP K H0 F0 γ0 γ σ H' F ρ where
  f0 := r.f0
  sub := r.sub.trans s
  keep := fun a o e n => s _ _ (r.keep a o e n)
  fnew := r.fnew
  tr := fun a o e => let ⟨u, h⟩ := r.tr a o e; ⟨u, s _ _ h⟩
  len := r.len
  val := r.val
  own := fun i d e => by
    obtain ⟨a, h1, h2, h3⟩ := r.own i d e
    obtain ⟨o, h4⟩ := h2.there
    exact ⟨a, h1, h2.move (Same.refl _) ((s _ _ h4).trans h4.symm), h3⟩
  gen := fun i n e => by
    obtain ⟨p, h1, h2, h3, h4⟩ := r.gen i n e
    have st : ∀ a, H a ≠ none → H' a = H a := fun a n => by
      cases q : H a with
      | none => exact absurd q n
      | some o => exact s _ _ q
    obtain ⟨n1, n2, n3, _⟩ := GP.dd h3
    exact ⟨p, h1, h2, GP.stab h3 (st _ n1) (st _ n2) (st _ n3), h4⟩
  one := r.one
  g0 := r.g0
  g1 := r.g1
  gt0 := r.gt0
  gt := fun p e => let ⟨o, u, h1, h2, h3⟩ := r.gt p e; ⟨o, u, s _ _ h1, s _ _ h2, h3⟩
  gf := r.gf
  tabs := r.tabs.ext s
  tin := r.tin
  gn := r.gn
/-- an own object, of no slot, is frozen -/
theorem Rp.freeze {a : Addr} {o : HO} (r : Rp GP K H0 F0 γ0 γ σ H F ρ) (e : H a = some o) (n : F a = none) (h0 : H0 a = none) (hg : ¬ GA GP γ a) (ho : ∀ j, ¬ OwnAt σ ρ a j) : Rp GP K H0 F0 γ0 γ σ H (upd F a o) ρ where
  f0 := r.f0.trans (same_upd n)
  sub := fun b u h => by
    by_cases c : b = a
    · subst c; rw [upd_same] at h; cases h; exact e
    · rw [upd_ne c] at h; exact r.sub _ _ h
  keep := r.keep
  fnew := fun b u h => by
    by_cases c : b = a
    · subst c; exact .inr (.inl h0)
    · rw [upd_ne c] at h; exact r.fnew _ _ h
  tr := r.tr
  len := r.len
  val := fun i d q => let ⟨v, h1, h2⟩ := r.val i d q; ⟨v, h1, h2.same (same_upd n)⟩
  own := fun i d q => by
    obtain ⟨b, h1, h2, h3, h4⟩ := r.own i d q
    have nb : b ≠ a := fun x => ho i ⟨⟨d, q⟩, x ▸ h1⟩
    exact ⟨b, h1, h2.move (same_upd n) rfl, by rw [upd_ne nb]; exact h3, h4⟩
  gen := fun i m q => by
    obtain ⟨p, h1, h2, h3, h6⟩ := r.gen i m q
    refine ⟨p, h1, h2, h3, ?_⟩
    by_cases c1 : p.2.2 = a
    · rw [c1, upd_same]; exact fun x => nomatch x
    · rw [upd_ne c1]; exact h6
  one := r.one
  g0 := r.g0
  g1 := r.g1
  gt0 := r.gt0
  gt := r.gt
  gf := fun p q => by
    have n1 : p.1 ≠ a := fun x => hg (.inl ⟨p, q, .inl x.symm⟩)
    have n2 : p.2.1 ≠ a := fun x => hg (.inl ⟨p, q, .inr x.symm⟩)
    rw [upd_ne n1, upd_ne n2]
    exact r.gf p q
  tabs := r.tabs
  tin := fun b hb => by
    have nb : b ≠ a := fun x => hg (.inr (x ▸ hb))
    rw [upd_ne nb]
    exact r.tin b hb
  gn := r.gn
theorem set_none {α : Type} {l : List α} {i j : Nat} {x : α} (h : j ≠ i) : (l.set i x)[j]? = l[j]? := List.getElem?_set_ne (Ne.symm h)
theorem set_at {α : Type} {l : List α} {i : Nat} {x y : α} (h : (l.set i x)[i]? = some y) : x = y ∧ i < l.length := by
  by_cases c : i < l.length
  · rw [List.getElem?_set_self c] at h; exact ⟨Option.some.inj h, c⟩
  · rw [List.getElem?_set, if_pos rfl, if_neg c] at h; cases h
/-- a slot's own object no longer its own -/
theorem Rp.disown (r : Rp GP K H0 F0 γ0 γ σ H F ρ) (i : Nat) : Rp GP K H0 F0 γ0 γ σ H F (ρ.set i none) where
  f0 := r.f0
  sub := r.sub
  keep := r.keep
  fnew := r.fnew
  tr := r.tr
  len := by rw [List.length_set]; exact r.len
  val := fun j d q => by
    by_cases c : j = i
    · subst c; cases (set_at q).1
    · rw [set_none c] at q; exact r.val j d q
  own := fun j d q => by
    by_cases c : j = i
    · subst c; cases (set_at q).1
    · rw [set_none c] at q
      obtain ⟨a, h1, h2, h3, h4, h5, h6⟩ := r.own j d q
      refine ⟨a, h1, h2, h3, h4, h5, fun l hl => h6 l ⟨?_, hl.2⟩⟩
      obtain ⟨⟨e, he⟩, _⟩ := hl
      by_cases c2 : l = i
      · subst c2; cases (set_at he).1
      · rw [set_none c2] at he; exact ⟨e, he⟩
  gen := fun j n q => by
    by_cases c : j = i
    · subst c; cases (set_at q).1
    · rw [set_none c] at q; exact r.gen j n q
  one := fun j l n m q1 q2 => by
    by_cases c : j = i
    · subst c; cases (set_at q1).1
    · by_cases c2 : l = i
      · subst c2; cases (set_at q2).1
      · rw [set_none c] at q1; rw [set_none c2] at q2; exact r.one j l n m q1 q2
  g0 := r.g0
  g1 := r.g1
  gt0 := r.gt0
  gt := r.gt
  gf := r.gf
  tabs := r.tabs
  tin := r.tin
  gn := r.gn
theorem ownAt_disown {a : Addr} {i j : Nat} (h : OwnAt σ (ρ.set i none) a j) : OwnAt σ ρ a j ∧ j ≠ i := by
  obtain ⟨⟨e, he⟩, h2⟩ := h
  by_cases c : j = i
  · subst c; cases (set_at he).1
  · rw [set_none c] at he; exact ⟨⟨⟨e, he⟩, h2⟩, c⟩
/-- a slot takes a frozen value -/
theorem Rp.setVal (r : Rp GP K H0 F0 γ0 γ σ H F ρ) (i : Nat) (h : Dd K F v d) : Rp GP K H0 F0 γ0 γ (σ.set i (some v)) H F (ρ.set i (some (.val d))) where
  f0 := r.f0
  sub := r.sub
  keep := r.keep
  fnew := r.fnew
  tr := r.tr
  len := by rw [List.length_set, List.length_set]; exact r.len
  val := fun j e q => by
    by_cases c : j = i
    · subst c
      obtain ⟨h1, h2⟩ := set_at q
      cases h1
      exact ⟨v, List.getElem?_set_self (by rw [r.len]; exact h2), h⟩
    · rw [set_none c] at q ⊢; exact r.val j e q
  own := fun j e q => by
    by_cases c : j = i
    · subst c; cases (set_at q).1
    · rw [set_none c] at q
      obtain ⟨a, h1, h2, h3, h4, h5, h6⟩ := r.own j e q
      refine ⟨a, by rw [set_none c]; exact h1, h2, h3, h4, h5, fun l hl => ?_⟩
      obtain ⟨⟨e, he⟩, h7⟩ := hl
      by_cases c2 : l = i
      · subst c2; cases (set_at he).1
      · rw [set_none c2] at he h7; exact h6 l ⟨⟨e, he⟩, h7⟩
  gen := fun j n q => by
    by_cases c : j = i
    · subst c; cases (set_at q).1
    · rw [set_none c] at q ⊢; exact r.gen j n q
  one := fun j l n m q1 q2 => by
    by_cases c : j = i
    · subst c; cases (set_at q1).1
    · by_cases c2 : l = i
      · subst c2; cases (set_at q2).1
      · rw [set_none c] at q1; rw [set_none c2] at q2; exact r.one j l n m q1 q2
  g0 := r.g0
  g1 := r.g1
  gt0 := r.gt0
  gt := r.gt
  gf := r.gf
  tabs := r.tabs
  tin := r.tin
  gn := r.gn
/-- the slot holds what it held, now frozen -/
theorem Rp.valAt (r : Rp GP K H0 F0 γ0 γ σ H F ρ) (i : Nat) (e : σ[i]? = some (some v)) (h : Dd K F v d) : Rp GP K H0 F0 γ0 γ σ H F (ρ.set i (some (.val d))) := by
  have q := r.setVal i h
  have es : σ.set i (some v) = σ := by
    obtain ⟨hi, e1⟩ := List.getElem?_eq_some_iff.mp e
    rw [← e1]
    exact List.set_getElem_self hi
  rw [es] at q
  exact q
/-- a slot takes an own object -/
theorem Rp.setOwn {a : Addr} (r : Rp GP K H0 F0 γ0 γ σ H F ρ) (i : Nat) (h : Own K F H a d) (n : F a = none) (h0 : H0 a = none) (hg : ¬ GA GP γ a) (ho : ∀ j, ¬ OwnAt σ ρ a j) :
    Rp GP K H0 F0 γ0 γ (σ.set i (some (.ref a))) H F (ρ.set i (some (.own d))) where
  f0 := r.f0
  sub := r.sub
  keep := r.keep
  fnew := r.fnew
  tr := r.tr
  len := by rw [List.length_set, List.length_set]; exact r.len
  val := fun j e q => by
    by_cases c : j = i
    · subst c; cases (set_at q).1
    · rw [set_none c] at q ⊢; exact r.val j e q
  own := fun j e q => by
    by_cases c : j = i
    · subst c
      obtain ⟨h1, h2⟩ := set_at q
      cases h1
      refine ⟨a, List.getElem?_set_self (by rw [r.len]; exact h2), h, n, h0, hg, fun l hl => ?_⟩
      obtain ⟨⟨e, he⟩, h7⟩ := hl
      by_cases c2 : l = j
      · exact c2
      · rw [set_none c2] at he h7; exact absurd ⟨⟨e, he⟩, h7⟩ (ho l)
    · rw [set_none c] at q
      obtain ⟨b, h1, h2, h3, h4, h5, h6⟩ := r.own j e q
      refine ⟨b, by rw [set_none c]; exact h1, h2, h3, h4, h5, fun l hl => ?_⟩
      obtain ⟨⟨e', he⟩, h7⟩ := hl
      by_cases c2 : l = i
      · subst c2
        have hl : l < σ.length := by rw [r.len]; exact (set_at he).2
        rw [List.getElem?_set_self hl] at h7
        have : a = b := by injection h7 with h7; injection h7 with h7; injection h7
        exact absurd ⟨⟨e, q⟩, this ▸ h1⟩ (ho j)
      · rw [set_none c2] at he h7; exact h6 l ⟨⟨e', he⟩, h7⟩
  gen := fun j n q => by
    by_cases c : j = i
    · subst c; cases (set_at q).1
    · rw [set_none c] at q ⊢; exact r.gen j n q
  one := fun j l n m q1 q2 => by
    by_cases c : j = i
    · subst c; cases (set_at q1).1
    · by_cases c2 : l = i
      · subst c2; cases (set_at q2).1
      · rw [set_none c] at q1; rw [set_none c2] at q2; exact r.one j l n m q1 q2
  g0 := r.g0
  g1 := r.g1
  gt0 := r.gt0
  gt := r.gt
  gf := r.gf
  tabs := r.tabs
  tin := r.tin
  gn := r.gn
/-- an own object is written -/
theorem Rp.write {a : Addr} {o : HO} {e : D} {i : Nat} (r : Rp GP K H0 F0 γ0 γ σ H F ρ) (q : ρ[i]? = some (some (.own e))) (ea : σ[i]? = some (some (.ref a))) (h : Own K F (upd H a o) a d) :
    Rp GP K H0 F0 γ0 γ σ (upd H a o) F (ρ.set i (some (.own d))) := by
  obtain ⟨b, b1, b2, b3, b4, b5, b6⟩ := r.own i e q
  rw [ea] at b1
  cases b1
  have hi : i < ρ.length := (List.getElem?_eq_some_iff.mp q).1
  have sub : Same F (upd H a o) := fun b u hb => by
    have : b ≠ a := fun x => by subst x; rw [b3] at hb; cases hb
    rw [upd_ne this]; exact r.sub _ _ hb
  have nba : ∀ b u, H0 b = some u → b ≠ a := fun b u hb x => by
    subst x
    rw [b4] at hb; cases hb
  refine ⟨r.f0, sub, fun b u hb hn => ?_, r.fnew, fun b u hb => ?_, by rw [List.length_set]; exact r.len, fun j f qj => ?_, fun j f qj => ?_, fun j n qj => ?_, fun j l n m q1 q2 => ?_, r.g0, r.g1, r.gt0, fun p hp => ?_, r.gf, tabs_upd r.tabs (fun u hu => b2.noTE hu), r.tin, r.gn⟩
  · rw [upd_ne (nba b u hb)]; exact r.keep _ _ hb hn
  · rw [upd_ne (nba b u hb)]; exact r.tr b u hb
  · by_cases c : j = i
    · subst c; cases (set_at qj).1
    · rw [set_none c] at qj; exact r.val j f qj
  · by_cases c : j = i
    · subst c
      have := (set_at qj).1
      cases this
      refine ⟨a, ea, h, b3, b4, b5, fun l hl => ?_⟩
      obtain ⟨⟨e', he⟩, h7⟩ := hl
      by_cases c2 : l = j
      · exact c2
      · rw [set_none c2] at he; exact b6 l ⟨⟨e', he⟩, h7⟩
    · rw [set_none c] at qj
      obtain ⟨b, h1, h2, h3, h4, h5, h6⟩ := r.own j f qj
      have nb : b ≠ a := fun x => c (b6 j ⟨⟨f, qj⟩, x ▸ h1⟩)
      refine ⟨b, h1, h2.move (Same.refl _) (upd_ne nb), h3, h4, h5, fun l hl => ?_⟩
      obtain ⟨⟨e', he⟩, h7⟩ := hl
      by_cases c2 : l = i
      · subst c2
        rw [ea] at h7
        injection h7 with h7; injection h7 with h7; injection h7 with h7
        exact absurd h7.symm nb
      · rw [set_none c2] at he; exact h6 l ⟨⟨e', he⟩, h7⟩
  · by_cases c : j = i
    · subst c; cases (set_at qj).1
    · rw [set_none c] at qj
      obtain ⟨p, h1, h2, h3, h6⟩ := r.gen j n qj
      have nd : p.1 ≠ a := fun x => b5 (.inl ⟨p, h1, .inl x.symm⟩)
      have ng : p.2.1 ≠ a := fun x => b5 (.inl ⟨p, h1, .inr x.symm⟩)
      have nc : p.2.2 ≠ a := fun x => h6 (x ▸ b3)
      exact ⟨p, h1, h2, GP.stab h3 (upd_ne nd) (upd_ne ng) (upd_ne nc), h6⟩
  · by_cases c : j = i
    · subst c; cases (set_at q1).1
    · by_cases c2 : l = i
      · subst c2; cases (set_at q2).1
      · rw [set_none c] at q1; rw [set_none c2] at q2; exact r.one j l n m q1 q2
  · obtain ⟨o', u', h1, h2, h3⟩ := r.gt p hp
    have n1 : p.1 ≠ a := fun x => b5 (.inl ⟨p, hp, .inl x.symm⟩)
    have n2 : p.2.1 ≠ a := fun x => b5 (.inl ⟨p, hp, .inr x.symm⟩)
    exact ⟨o', u', by rw [upd_ne n1]; exact h1, by rw [upd_ne n2]; exact h2, h3⟩
/-- a slot's own object is frozen -/
theorem Rp.freezeAt {a : Addr} {i : Nat} (r : Rp GP K H0 F0 γ0 γ σ H F ρ) (q : ρ[i]? = some (some (.own d))) (ea : σ[i]? = some (some (.ref a))) :
    ∃ F', Rp GP K H0 F0 γ0 γ σ H F' (ρ.set i (some (.val d))) ∧ Same F F' ∧ Dd K F' (.ref a) d := by
  obtain ⟨b, b1, b2, b3, b4, b5, b6⟩ := r.own i d q
  rw [ea] at b1
  cases b1
  obtain ⟨o, ho⟩ := b2.there
  have r2 := (r.disown i).freeze ho b3 b4 b5 fun j hj => by
    obtain ⟨h1, h2⟩ := ownAt_disown hj
    exact h2 (b6 j h1)
  have dd := b2.frozen b3 ho
  have r3 := r2.valAt i ea dd
  rw [List.set_set] at r3
  exact ⟨_, r3, same_upd b3, dd⟩
/-- the data of a result, frozen; what it was a slot's own is now frozen there -/
def fz (x : RV) (ρ : Rho) (k : D → Rho → Prop) : Prop := match x with
  | .val d => k d ρ
  | .fr d => k d ρ
  | .kon _ => False
  | .sl i => match ρ[i]? with
    | some (some (.val d)) => k d ρ
    | some (some (.own d)) => k d (ρ.set i (some (.val d)))
    | _ => False
theorem fz_ok {x : RV} {k : D → Rho → Prop} (r : Rp GP K H0 F0 γ0 γ σ H F ρ) (h : RVok GP K H0 γ0 γ σ H F ρ v x) (z : fz x ρ k) :
    ∃ F' ρ' d, Rp GP K H0 F0 γ0 γ σ H F' ρ' ∧ Same F F' ∧ Dd K F' v d ∧ k d ρ' := by
  cases x with
  | val d => exact ⟨F, ρ, d, r, Same.refl _, h, z⟩
  | fr d =>
    obtain ⟨a, rfl, o, h1, h2, h3, h4⟩ := h
    obtain ⟨u, hu⟩ := o.there
    exact ⟨_, ρ, d, r.freeze hu h1 h2 h3 h4, same_upd h1, o.frozen h1 hu, z⟩
  | kon d => exact False.elim z
  | sl i =>
    have h : σ[i]? = some (some v) := h
    dsimp only [fz] at z
    cases q : ρ[i]? with
    | none => rw [q] at z; exact False.elim z
    | some s =>
      rw [q] at z
      cases s with
      | none => exact False.elim z
      | some s =>
        cases s with
        | val d =>
          obtain ⟨u, e1, e2⟩ := r.val i d q
          rw [h] at e1; cases e1
          exact ⟨F, ρ, d, r, Same.refl _, e2, z⟩
        | own d =>
          obtain ⟨a, e1, _⟩ := r.own i d q
          rw [h] at e1; cases e1
          obtain ⟨F', r', s', d'⟩ := r.freezeAt q h
          exact ⟨F', _, d, r', s', d', z⟩
        | gen n => exact False.elim z
/-- no new address is the draws' of the entry -/
theorem Rp.nga {a : Addr} (r : Rp GP K H0 F0 γ0 γ σ H F ρ) (h : H0 a = none) : ¬ GA GP γ0 a := fun z => by
  rcases z with ⟨p, hp, e⟩ | z
  · obtain ⟨o, u, h1, h2⟩ := r.gt0 p hp
    rcases e with rfl | rfl
    · rw [h1] at h; cases h
    · rw [h2] at h; cases h
  · obtain ⟨_, o, h1⟩ := r.tin a z
    rw [h1] at h; cases h
/-- what is tracked no more is new to the entry -/
theorem Rp.new0 {a : Addr} (r : Rp GP K H0 F0 γ0 γ σ H F ρ) (h : H a = none) : H0 a = none := by
  cases q : H0 a with
  | none => rfl
  | some o =>
    obtain ⟨u, hu⟩ := r.tr a o q
    rw [hu] at h; cases h
/-- an own object of no slot is held: it counts as the entry's -/
theorem Rp.hold {a : Addr} {o : HO} (r : Rp GP K H0 F0 γ0 γ σ H F ρ) (e : H a = some o) (n : F a = none) (h0 : H0 a = none) (hg : ¬ GA GP γ a) (ho : ∀ j, ¬ OwnAt σ ρ a j) : Rp GP K (upd H0 a o) F0 γ0 γ σ H F ρ where
  f0 := r.f0
  sub := r.sub
  keep := fun b u h nb => by
    by_cases c : b = a
    · subst c; rw [upd_same] at h; cases h; exact e
    · rw [upd_ne c] at h; exact r.keep b u h nb
  fnew := fun b u h => by
    rcases r.fnew b u h with z | z | z
    · exact .inl z
    · have c : b ≠ a := fun x => by rw [x, n] at h; cases h
      exact .inr (.inl (by rw [upd_ne c]; exact z))
    · exact .inr (.inr z)
  tr := fun b u h => by
    by_cases c : b = a
    · subst c; exact ⟨o, e⟩
    · rw [upd_ne c] at h; exact r.tr b u h
  len := r.len
  val := r.val
  own := fun i d q => by
    obtain ⟨b, h1, h2, h3, h4, h5⟩ := r.own i d q
    have c : b ≠ a := fun x => ho i ⟨⟨d, q⟩, x ▸ h1⟩
    exact ⟨b, h1, h2, h3, by rw [upd_ne c]; exact h4, h5⟩
  gen := r.gen
  one := r.one
  g0 := fun p hp => by
    obtain ⟨q, hq, e1, e3, e2⟩ := r.g0 p hp
    refine ⟨q, hq, e1, e3, ?_⟩
    rcases e2 with z | z
    · exact .inl z
    · have c : q.2.1 ≠ a := fun x => hg (.inl ⟨q, hq, .inr x.symm⟩)
      exact .inr (by rw [upd_ne c]; exact z)
  g1 := fun h p hp => by
    have c1 : p.1 ≠ a := fun x => hg (.inl ⟨p, hp, .inl x.symm⟩)
    have c2 : p.2.1 ≠ a := fun x => hg (.inl ⟨p, hp, .inr x.symm⟩)
    rw [upd_ne c1, upd_ne c2]
    exact r.g1 h p hp
  gt0 := fun p hp => by
    obtain ⟨o', u', h1, h2⟩ := r.gt0 p hp
    have c1 : p.1 ≠ a := fun x => by rw [x, h0] at h1; cases h1
    have c2 : p.2.1 ≠ a := fun x => by rw [x, h0] at h2; cases h2
    exact ⟨o', u', by rw [upd_ne c1]; exact h1, by rw [upd_ne c2]; exact h2⟩
  gt := r.gt
  gf := r.gf
  tabs := r.tabs
  tin := fun b hb => by
    obtain ⟨h1, u, h2⟩ := r.tin b hb
    have c : b ≠ a := fun x => by rw [x, h0] at h2; cases h2
    exact ⟨h1, u, by rw [upd_ne c]; exact h2⟩
  gn := r.gn
/-- .. and let go -/
theorem Rp.letgo {a : Addr} {o : HO} (r : Rp GP K (upd H0 a o) F0 γ0 γ σ H F ρ) (h0 : H0 a = none) (f0 : F0 a = none) (ng : ¬ GA GP γ0 a) (nt : ∀ xs, o ≠ .tup xs) : Rp GP K H0 F0 γ0 γ σ H F ρ ∧ H a = some o ∧ F a = none ∧ (¬ GA GP γ a) ∧ ∀ j, ¬ OwnAt σ ρ a j := by
  have ne0 : ∀ b u, H0 b = some u → b ≠ a := fun b u h x => by rw [x, h0] at h; cases h
  have nn : ∀ b, upd H0 a o b = none → b ≠ a ∧ H0 b = none := fun b h => by
    by_cases c : b = a
    · subst c; rw [upd_same] at h; cases h
    · rw [upd_ne c] at h; exact ⟨c, h⟩
  refine ⟨⟨r.f0, r.sub, fun b u h nb => r.keep b u (by rw [upd_ne (ne0 b u h)]; exact h) nb, fun b u h => ?_, fun b u h => r.tr b u (by rw [upd_ne (ne0 b u h)]; exact h), r.len, r.val, fun i d q => ?_, r.gen, r.one, fun p hp => ?_, fun h p hp => ?_, fun p hp => ?_, r.gt, r.gf, r.tabs, fun b hb => ?_, r.gn⟩, ?_, ?_, ?_, ?_⟩
  · rcases r.fnew b u h with z | z | z
    · exact .inl z
    · exact .inr (.inl (nn b z).2)
    · exact .inr (.inr z)
  · obtain ⟨b, h1, h2, h3, h4, h5⟩ := r.own i d q
    exact ⟨b, h1, h2, h3, (nn b h4).2, h5⟩
  · obtain ⟨q, hq, e1, e3, e2⟩ := r.g0 p hp
    refine ⟨q, hq, e1, e3, ?_⟩
    rcases e2 with z | z
    · exact .inl z
    · exact .inr (nn _ z).2
  · obtain ⟨z1, z2⟩ := r.g1 h p hp
    exact ⟨(nn _ z1).2, (nn _ z2).2⟩
  · obtain ⟨o', u', h1, h2⟩ := r.gt0 p hp
    have c1 : p.1 ≠ a := fun x => ng (.inl ⟨p, hp, .inl x.symm⟩)
    have c2 : p.2.1 ≠ a := fun x => ng (.inl ⟨p, hp, .inr x.symm⟩)
    rw [upd_ne c1] at h1
    rw [upd_ne c2] at h2
    exact ⟨o', u', h1, h2⟩
  · obtain ⟨h1, u, h2⟩ := r.tin b hb
    have c : b ≠ a := fun x => ng (.inr (x ▸ hb))
    rw [upd_ne c] at h2
    exact ⟨h1, u, h2⟩
  · exact r.keep a o upd_same ng
  · cases q : F a with
    | none => rfl
    | some u =>
      rcases r.fnew a u q with z | z | ⟨xs, z⟩
      · rw [z] at f0; cases f0
      · exact absurd rfl (nn a z).1
      · have h1 := r.sub _ _ q
        rw [r.keep a o upd_same ng] at h1
        cases h1
        exact absurd z (nt xs)
  · intro z
    rcases z with ⟨p, hp, e⟩ | z
    case inr => exact ng (.inr z)
    cases hg : γ0 with
    | none =>
      obtain ⟨z1, z2⟩ := r.g1 hg p hp
      rcases e with e | e
      · exact (nn _ z1).1 e.symm
      · exact (nn _ z2).1 e.symm
    | some p0 =>
      obtain ⟨q, hq, e1, _, e2⟩ := r.g0 p0 hg
      rw [hp] at hq
      cases hq
      rcases e with e | e
      · exact ng (.inl ⟨p0, hg, .inl (e.trans e1)⟩)
      · rcases e2 with z | z
        · exact ng (.inl ⟨p0, hg, .inr (e.trans z)⟩)
        · exact (nn _ z).1 e.symm
  · rintro j ⟨⟨e, he⟩, h2⟩
    obtain ⟨b, h1, _, _, h4, _⟩ := r.own j e he
    rw [h2] at h1
    cases h1
    exact (nn _ h4).1 rfl
end
end DL
/-! lifted readings 2: the judgements; expressions -/
namespace DL
open PySem PySem.Spec PyProof.Rows L2 CD
abbrev UE := Rho → (RV → Rho → Prop) → Prop
abbrev UT := Rho → (Bool → Rho → Prop) → Prop
abbrev UA := Rho → (List RV → Rho → Prop) → Prop
structure UEnds where
  nx : Rho → Prop
  rt : D → Rho → Prop
  bk : Rho → Prop := fun _ => False
  ct : Rho → Prop := fun _ => False
abbrev US := UEnds → Rho → Prop
variable {GP : GenP} {K : PySem.W.Frag}
/-- what a finer base tells, the base tells too -/
class FinerC (GP : GenP) (K : PySem.W.Frag) (B : Hp × Hp × GAt) (H0 F0 : Hp) (γ0 : GAt) : Prop where
  fin : ∀ {γ : GAt} {σ : L2.St} {H F : Hp} {ρ : Rho}, Rp GP K H0 F0 γ0 γ σ H F ρ → Rp GP K B.1 B.2.1 B.2.2 γ σ H F ρ
  g : γ0 = B.2.2
variable {B : Hp × Hp × GAt}
variable (GP K) in
def LE (B : Hp × Hp × GAt) (t : TE) (u : UE) : Prop := ∀ ⦃H0 F0 : Hp⦄ ⦃γ0 : GAt⦄ [FinerC GP K B H0 F0 γ0] ⦃γ : GAt⦄ ⦃σ : L2.St⦄ ⦃H F : Hp⦄ ⦃ρ : Rho⦄ (R : VK) (Q : RV → Rho → Prop), Rp GP K H0 F0 γ0 γ σ H F ρ → u ρ Q →
  (∀ H' F' γ' ρ' v x, Rp GP K H0 F0 γ0 γ' σ H' F' ρ' → Same F F' → RVok GP K H0 γ0 γ' σ H' F' ρ' v x → Q x ρ' → R v H') → t σ H R
variable (GP K) in
def LT (B : Hp × Hp × GAt) (t : TT) (u : UT) : Prop := ∀ ⦃H0 F0 : Hp⦄ ⦃γ0 : GAt⦄ [FinerC GP K B H0 F0 γ0] ⦃γ : GAt⦄ ⦃σ : L2.St⦄ ⦃H F : Hp⦄ ⦃ρ : Rho⦄ (R : Bool → Hp → Prop) (Q : Bool → Rho → Prop), Rp GP K H0 F0 γ0 γ σ H F ρ → u ρ Q →
  (∀ H' F' γ' ρ' b, Rp GP K H0 F0 γ0 γ' σ H' F' ρ' → Same F F' → Q b ρ' → R b H') → t σ H R
/-- results that stay through what comes behind: none of them is new and of no slot -/
def RVs (K : PySem.W.Frag) (σ : L2.St) (F : Hp) : List V → List RV → Prop
  | [], [] => True
  | v :: vs, x :: xs => (match x with
    | .val d => Dd K F v d
    | .fr _ => False
    | .kon d => ∃ a xs ds, v = .ref a ∧ d = .tup ds ∧ SqT K (fun _ => none) a xs ∧ DdL K (fun _ => none) xs ds
    | .sl i => σ[i]? = some (some v)) ∧ RVs K σ F vs xs
  | _, _ => False
variable (GP K) in
def LA (B : Hp × Hp × GAt) (t : TA) (u : UA) : Prop := ∀ ⦃H0 F0 : Hp⦄ ⦃γ0 : GAt⦄ [FinerC GP K B H0 F0 γ0] ⦃γ : GAt⦄ ⦃σ : L2.St⦄ ⦃H F : Hp⦄ ⦃ρ : Rho⦄ (R : List V → Hp → Prop) (Q : List RV → Rho → Prop), Rp GP K H0 F0 γ0 γ σ H F ρ → u ρ Q →
  (∀ H' F' γ' ρ' vs xs, Rp GP K H0 F0 γ0 γ' σ H' F' ρ' → Same F F' → RVs K σ F' vs xs → Q xs ρ' → R vs H') → t σ H R
section
variable {H0 F0 H H' F F' : Hp} {γ0 γ : GAt} {σ : L2.St} {ρ : Rho} {v : V} {d : D}
/-- a new object of no slot is frozen, the rest is as it is -/
def sf : RV → RV
  | .fr d => .val d
  | x => x
theorem sf_ok {x : RV} (r : Rp GP K H0 F0 γ0 γ σ H F ρ) (h : RVok GP K H0 γ0 γ σ H F ρ v x) : ∃ F', Rp GP K H0 F0 γ0 γ σ H F' ρ ∧ Same F F' ∧ RVs K σ F' [v] [sf x] := by
  cases x with
  | val d => exact ⟨F, r, Same.refl _, h, trivial⟩
  | fr d =>
    obtain ⟨a, rfl, o, h1, h2, h3, h4⟩ := h
    obtain ⟨u, hu⟩ := o.there
    exact ⟨_, r.freeze hu h1 h2 h3 h4, same_upd h1, o.frozen h1 hu, trivial⟩
  | kon d => exact ⟨F, r, Same.refl _, h, trivial⟩
  | sl i => exact ⟨F, r, Same.refl _, h, trivial⟩
theorem RVs.one {x : RV} (h : RVs K σ F [v] [x]) : RVok GP K H0 γ0 γ σ H F ρ v x := by
  obtain ⟨h, _⟩ := h
  cases x with
  | val d => exact h
  | fr d => exact False.elim h
  | kon d => exact h
  | sl i => exact h
theorem RVs.cons {vs : List V} {x : RV} {xs : List RV} (h : RVs K σ F [v] [x]) (g : RVs K σ F vs xs) : RVs K σ F (v :: vs) (x :: xs) := ⟨h.1, g⟩
theorem RVs.same : ∀ {vs : List V} {xs : List RV}, Same F F' → RVs K σ F vs xs → RVs K σ F' vs xs
  | [], [], _, _ => trivial
  | v :: vs, x :: xs, s, h => by
    obtain ⟨h, g⟩ := h
    refine ⟨?_, RVs.same s g⟩
    cases x with
    | val d => exact h.same s
    | fr d => exact h
    | kon d => exact h
    | sl i => exact h
  | [], _ :: _, _, h => h.elim
  | _ :: _, [], _, h => h.elim
theorem RVs.nil_of {vs : List V} (h : RVs K σ F vs []) : vs = [] := by
  cases vs with
  | nil => rfl
  | cons _ _ => exact h.elim
theorem RVs.cons_of {vs : List V} {x : RV} {xs : List RV} (h : RVs K σ F vs (x :: xs)) : ∃ v ws, vs = v :: ws ∧ RVs K σ F [v] [x] ∧ RVs K σ F ws xs := by
  cases vs with
  | nil => exact h.elim
  | cons v ws => exact ⟨v, ws, rfl, ⟨h.1, trivial⟩, h.2⟩
end
/-! ### names, constants -/
def uVar (i : Nat) : UE := fun ρ Q => match ρ[i]? with
  | some (some (.val d)) => Q (.val d) ρ
  | some (some _) => Q (.sl i) ρ
  | _ => False
theorem le_var (i : Nat) : LE GP K B (tVar i) (uVar i) := fun H0 F0 γ0 _ γ σ H F ρ R Q r u h => by
  dsimp only [uVar] at u
  cases q : ρ[i]? with
  | none => rw [q] at u; exact False.elim u
  | some s =>
    rw [q] at u
    cases s with
    | none => exact False.elim u
    | some s =>
      cases s with
      | val d =>
        obtain ⟨v, h1, h2⟩ := r.val i d q
        exact ⟨v, h1, h _ _ _ _ _ (.val d) r (Same.refl _) h2 u⟩
      | own d =>
        obtain ⟨a, h1, _⟩ := r.own i d q
        exact ⟨_, h1, h _ _ _ _ _ (.sl i) r (Same.refl _) h1 u⟩
      | gen n =>
        obtain ⟨p, _, h1, _⟩ := r.gen i n q
        exact ⟨_, h1, h _ _ _ _ _ (.sl i) r (Same.refl _) h1 u⟩
/-- a flat value -/
def fD : V → Option D
  | .non => some .non
  | .bl b => some (.bl b)
  | .int i => some (.int i)
  | .str s => some (.str s)
  | _ => none
def uC (d : D) : UE := fun ρ Q => Q (.val d) ρ
theorem le_int (i : Int) : LE GP K B (tC (.int i)) (uC (.int i)) := fun H0 F0 γ0 _ γ σ H F ρ R Q r u h => h _ _ _ _ _ (.val _) r (Same.refl _) (Dd.int i) u
theorem le_bl (i : Bool) : LE GP K B (tC (.bl i)) (uC (.bl i)) := fun H0 F0 γ0 _ γ σ H F ρ R Q r u h => h _ _ _ _ _ (.val _) r (Same.refl _) (Dd.bl i) u
theorem le_str (i : Str) : LE GP K B (tC (.str i)) (uC (.str i)) := fun H0 F0 γ0 _ γ σ H F ρ R Q r u h => h _ _ _ _ _ (.val _) r (Same.refl _) (Dd.str i) u
theorem le_non : LE GP K B (tC .non) (uC .non) := fun H0 F0 γ0 _ γ σ H F ρ R Q r u h => h _ _ _ _ _ (.val _) r (Same.refl _) Dd.non u
/-- a tuple that is written in the text -/
def uK (d : D) : UE := fun ρ Q => Q (.kon d) ρ
theorem le_kon {a : Addr} {xs : List V} {ds : List D} (h1 : SqT K (fun _ => none) a xs) (h2 : DdL K (fun _ => none) xs ds) : LE GP K B (tC (.ref a)) (uK (.tup ds)) :=
  fun H0 F0 γ0 _ γ σ H F ρ R Q r u h => h _ _ _ _ _ (.kon _) r (Same.refl _) ⟨a, xs, ds, rfl, rfl, h1, h2⟩ u
/-! ### operators -/
/-- what an operation gives: flat or frozen data, or a new object -/
def Opk (K : PySem.W.Frag) (F H H' : Hp) (v : V) : RV → Prop
  | .val d => Dd K F v d
  | .fr (.tup ds) => ∃ a xs, v = .ref a ∧ H a = none ∧ H' a = some (.tup xs) ∧ DdL K F xs ds
  | .fr d => ∃ a, v = .ref a ∧ H a = none ∧ Own K F H' a d
  | _ => False
/-- a new tuple counts as frozen -/
def nrm : RV → RV
  | .fr (.tup ds) => .val (.tup ds)
  | x => x
theorem fr_ok {H0 F0 H H' F : Hp} {γ0 γ : GAt} {σ : L2.St} {ρ : Rho} {a : Addr} {d : D} (r : Rp GP K H0 F0 γ0 γ σ H F ρ) (s : Same H H') (n : H a = none) (o : Own K F H' a d) : RVok GP K H0 γ0 γ σ H' F ρ (.ref a) (.fr d) := by
  refine ⟨a, rfl, o, Same.free r.sub n, r.new0 n, fun hg => ?_, fun j hj => ?_⟩
  · rcases hg with ⟨p, hp, e⟩ | z
    · obtain ⟨o', u', h1, h2, _⟩ := r.gt p hp
      rcases e with rfl | rfl
      · rw [h1] at n; cases n
      · rw [h2] at n; cases n
    · obtain ⟨ps, h1⟩ := tabs_there r.tabs z
      rw [h1] at n; cases n
  · obtain ⟨⟨e, he⟩, hs⟩ := hj
    obtain ⟨b, b1, b2, _⟩ := r.own j e he
    rw [hs] at b1; cases b1
    obtain ⟨o', ho⟩ := b2.there
    rw [ho] at n; cases n
/-- a tuple that is tracked is frozen -/
theorem tup_frz {H0 F0 H F : Hp} {γ0 γ : GAt} {σ : L2.St} {ρ : Rho} {a : Addr} {xs : List V} {ds : List D} (r : Rp GP K H0 F0 γ0 γ σ H F ρ) (h : H a = some (.tup xs)) (g : DdL K F xs ds) :
    ∃ F', Rp GP K H0 F0 γ0 γ σ H F' ρ ∧ Same F F' ∧ Dd K F' (.ref a) (.tup ds) := by
  cases q : F a with
  | some o =>
    have := r.sub _ _ q
    rw [h] at this
    cases this
    exact ⟨F, r, Same.refl _, .tup q g⟩
  | none =>
    have s := same_upd (o := .tup xs) q
    have own : ∀ (i : Nat) (d : D), ρ[i]? = some (some (.own d)) → σ[i]? ≠ some (some (.ref a)) := fun i d q e => by
      obtain ⟨b, b1, b2, _⟩ := r.own i d q
      rw [e] at b1; cases b1
      exact b2.nt h
    have ga : ¬ GA GP γ a := fun z => by
      rcases z with ⟨p, hp, e⟩ | z
      · obtain ⟨o, u, h1, h2, h3⟩ := r.gt p hp
        rcases e with rfl | rfl
        · rw [h] at h1; cases h1; exact (h3 xs).1 rfl
        · rw [h] at h2; cases h2; exact (h3 xs).2 rfl
      · obtain ⟨ps, h1⟩ := tabs_there r.tabs z
        rw [h] at h1; cases h1
    refine ⟨upd F a (.tup xs), ⟨r.f0.trans s, fun b u hb => ?_, r.keep, fun b u hb => ?_, r.tr, r.len, fun i d q => ?_, fun i d q => ?_, fun i n q => ?_, r.one, r.g0, r.g1, r.gt0, r.gt, fun p hp => ?_, r.tabs, fun b hb => ?_, r.gn⟩, s, .tup upd_same (g.same s)⟩
    · by_cases c : b = a
      · subst c; rw [upd_same] at hb; cases hb; exact h
      · rw [upd_ne c] at hb; exact r.sub _ _ hb
    · by_cases c : b = a
      · subst c; rw [upd_same] at hb; cases hb; exact .inr (.inr ⟨xs, rfl⟩)
      · rw [upd_ne c] at hb; exact r.fnew _ _ hb
    · obtain ⟨v, h1, h2⟩ := r.val i d q
      exact ⟨v, h1, h2.same s⟩
    · obtain ⟨b, h1, h2, h3, h4⟩ := r.own i d q
      have nb : b ≠ a := fun x => own i d q (x ▸ h1)
      exact ⟨b, h1, h2.move s rfl, by rw [upd_ne nb]; exact h3, h4⟩
    · obtain ⟨p, h1, h2, h3, h4⟩ := r.gen i n q
      refine ⟨p, h1, h2, h3, ?_⟩
      by_cases c : p.2.2 = a
      · rw [c, upd_same]; exact fun x => nomatch x
      · rw [upd_ne c]; exact h4
    · obtain ⟨f1, f2⟩ := r.gf p hp
      have n1 : p.1 ≠ a := fun x => ga (.inl ⟨p, hp, .inl x.symm⟩)
      have n2 : p.2.1 ≠ a := fun x => ga (.inl ⟨p, hp, .inr x.symm⟩)
      rw [upd_ne n1, upd_ne n2]
      exact ⟨f1, f2⟩
    · have nb : b ≠ a := fun x => ga (.inr (x ▸ hb))
      rw [upd_ne nb]
      exact r.tin b hb
/-- .. all of them -/
theorem opk_ok {H0 F0 H H' F : Hp} {γ0 γ : GAt} {σ : L2.St} {ρ : Rho} {v : V} {x : RV} (r : Rp GP K H0 F0 γ0 γ σ H F ρ) (s : Same H H') (h : Opk K F H H' v x) :
    ∃ F', Rp GP K H0 F0 γ0 γ σ H' F' ρ ∧ Same F F' ∧ RVok GP K H0 γ0 γ σ H' F' ρ v (nrm x) := by
  have r' := r.same s
  cases x with
  | val d => exact ⟨F, r', Same.refl _, h⟩
  | fr d =>
    cases d with
    | tup ds =>
      obtain ⟨a, xs, rfl, n, e, g⟩ := h
      obtain ⟨F', r2, s2, d2⟩ := tup_frz r' e g
      exact ⟨F', r2, s2, d2⟩
    | _ =>
      obtain ⟨a, rfl, n, o⟩ := h
      exact ⟨F, r', Same.refl _, fr_ok r s n o⟩
  | kon d => exact False.elim h
  | sl i => exact False.elim h
abbrev P1 := D → (RV → Prop) → Prop
abbrev P2 := D → D → (RV → Prop) → Prop
abbrev PN := List D → (RV → Prop) → Prop
variable (K) in
def LR (r : R2) (p : P2) : Prop := ∀ ⦃F H : Hp⦄ ⦃x y : V⦄ ⦃dx dy : D⦄ (R : VK) (Q : RV → Prop), Same F H → Cnt K F H x dx → Cnt K F H y dy → p dx dy Q →
  (∀ v H' rv, Same H H' → Opk K F H H' v rv → Q rv → R v H') → r x y H R
variable (K) in
def LU (r : V → Hp → VK → Prop) (p : P1) : Prop := ∀ ⦃F H : Hp⦄ ⦃x : V⦄ ⦃dx : D⦄ (R : VK) (Q : RV → Prop), Same F H → Cnt K F H x dx → p dx Q →
  (∀ v H' rv, Same H H' → Opk K F H H' v rv → Q rv → R v H') → r x H R
def uOp (p : P2) (ua ub : UE) : UE := fun ρ Q => ua ρ fun x ρ1 => ub ρ1 fun y ρ2 => match cn ρ2 (sf x), cn ρ2 y with
  | some dx, some dy => p dx dy fun z => Q (nrm z) ρ2
  | _, _ => False
theorem le_op {r : R2} {p : P2} {ta tb : TE} {ua ub : UE} (hr : LR K r p) (ha : LE GP K B ta ua) (hb : LE GP K B tb ub) : LE GP K B (tOp r ta tb) (uOp p ua ub) := by
  intro H0 F0 γ0 _ γ σ H F ρ R Q r0 u h
  refine ha _ _ r0 u fun H1 F1 γ1 ρ1 v x r1 s1 k1 u1 => ?_
  obtain ⟨F2, r2, s2, k2⟩ := sf_ok r1 k1
  refine hb _ _ r2 u1 fun H3 F3 γ3 ρ3 w y r3 s3 k3 u3 => ?_
  split at u3
  · rename_i dx dy e1 e2
    have c1 := RVok.cnt r3 ((k2.same s3).one) e1
    have c2 := RVok.cnt r3 k3 e2
    exact hr _ _ r3.sub c1 c2 u3 fun v' H' rv sH ok q => let ⟨_, r9, s9, k9⟩ := opk_ok r3 sH ok; h _ _ _ _ _ (nrm rv) r9 (s1.trans (s2.trans (s3.trans s9))) k9 q
  · exact False.elim u3
def uUn (p : P1) (ua : UE) : UE := fun ρ Q => ua ρ fun x ρ1 => match cn ρ1 x with
  | some dx => p dx fun z => Q (nrm z) ρ1
  | _ => False
theorem le_un {r : V → Hp → VK → Prop} {p : P1} {ta : TE} {ua : UE} (hr : LU K r p) (ha : LE GP K B ta ua) : LE GP K B (tUn r ta) (uUn p ua) := by
  intro H0 F0 γ0 _ γ σ H F ρ R Q r0 u h
  refine ha _ _ r0 u fun H1 F1 γ1 ρ1 v x r1 s1 k1 u1 => ?_
  split at u1
  · rename_i dx e1
    exact hr _ _ r1.sub (RVok.cnt r1 k1 e1) u1 fun v' H' rv sH ok q => let ⟨_, r9, s9, k9⟩ := opk_ok r1 sH ok; h _ _ _ _ _ (nrm rv) r9 (s1.trans s9) k9 q
  · exact False.elim u1
/-- ints -/
def pI (C : Int → Int → Prop) (g : Int → Int → D) : P2 := fun x y Q => match x, y with
  | .int i, .int j => C i j ∧ Q (.val (g i j))
  | _, _ => False
def pI0 (g : Int → Int → D) : P2 := fun x y Q => match x, y with
  | .int i, .int j => Q (.val (g i j))
  | _, _ => False
theorem flat_dd {F : Hp} : ∀ {v : V} {d : D}, fD v = some d → Dd K F v d
  | .non, _, h => by cases h; exact .non
  | .bl b, _, h => by cases h; exact .bl b
  | .int i, _, h => by cases h; exact .int i
  | .str s, _, h => by cases h; exact .str s
theorem lr_I {C : Int → Int → Prop} {g : Int → Int → V} {g' : Int → Int → D} (e : ∀ i j, fD (g i j) = some (g' i j)) : LR K (rI C g) (pI C g') := by
  intro F H x y dx dy R Q s c1 c2 p h
  unfold pI at p
  split at p
  · rename_i i j
    exact ⟨i, j, c1.int, c2.int, p.1, h _ _ (.val _) (Same.refl _) (flat_dd (e i j)) p.2⟩
  · exact False.elim p
theorem lr_I0 {g : Int → Int → V} {g' : Int → Int → D} (e : ∀ i j, fD (g i j) = some (g' i j)) : LR K (rI0 g) (pI0 g') := by
  intro F H x y dx dy R Q s c1 c2 p h
  unfold pI0 at p
  split at p
  · rename_i i j
    exact ⟨i, j, c1.int, c2.int, h _ _ (.val _) (Same.refl _) (flat_dd (e i j)) p⟩
  · exact False.elim p
/-! ### tests -/
def uTest (u : UE) : UT := fun ρ Q => u ρ fun x ρ' => match cn ρ' x with
  | some (.bl b) => Q b ρ'
  | _ => False
theorem lt_test {t : TE} {u : UE} (h : LE GP K B t u) : LT GP K B (tTest t) (uTest u) := by
  intro H0 F0 γ0 _ γ σ H F ρ R Q r0 u0 k
  refine h _ _ r0 u0 fun H1 F1 γ1 ρ1 v x r1 s1 k1 u1 => ?_
  split at u1
  · rename_i b e
    exact ⟨b, (RVok.cnt r1 k1 e).bl, k _ _ _ _ _ r1 s1 u1⟩
  · exact False.elim u1
theorem lt_B {t : TE} {u : UE} (h : LE GP K B t u) : LT GP K B (tB t) (uTest u) := lt_test h
def uAnd (a b : UT) : UT := fun ρ Q => a ρ fun c ρ1 => if c = true then b ρ1 Q else Q false ρ1
def uOr (a b : UT) : UT := fun ρ Q => a ρ fun c ρ1 => if c = true then Q true ρ1 else b ρ1 Q
def uNot (a : UT) : UT := fun ρ Q => a ρ fun c ρ1 => Q (!c) ρ1
theorem lt_and {t t' : TT} {u u' : UT} (h : LT GP K B t u) (h' : LT GP K B t' u') : LT GP K B (tAnd t t') (uAnd u u') := by
  intro H0 F0 γ0 _ γ σ H F ρ R Q r0 u0 k
  refine h _ _ r0 u0 fun H1 F1 γ1 ρ1 b r1 s1 u1 => ?_
  split
  · rename_i c
    rw [if_pos c] at u1
    exact h' _ _ r1 u1 fun H2 F2 γ2 ρ2 b r2 s2 u2 => k _ _ _ _ _ r2 (s1.trans s2) u2
  · rename_i c
    rw [if_neg c] at u1
    exact k _ _ _ _ _ r1 s1 u1
theorem lt_or {t t' : TT} {u u' : UT} (h : LT GP K B t u) (h' : LT GP K B t' u') : LT GP K B (tOr t t') (uOr u u') := by
  intro H0 F0 γ0 _ γ σ H F ρ R Q r0 u0 k
  refine h _ _ r0 u0 fun H1 F1 γ1 ρ1 b r1 s1 u1 => ?_
  split
  · rename_i c
    rw [if_pos c] at u1
    exact k _ _ _ _ _ r1 s1 u1
  · rename_i c
    rw [if_neg c] at u1
    exact h' _ _ r1 u1 fun H2 F2 γ2 ρ2 b r2 s2 u2 => k _ _ _ _ _ r2 (s1.trans s2) u2
theorem lt_not {t : TT} {u : UT} (h : LT GP K B t u) : LT GP K B (tNot t) (uNot u) := by
  intro H0 F0 γ0 _ γ σ H F ρ R Q r0 u0 k
  exact h _ _ r0 u0 fun H1 F1 γ1 ρ1 b r1 s1 u1 => k _ _ _ _ _ r1 s1 u1
def uYes : UT := fun ρ Q => Q true ρ
theorem lt_yes : LT GP K B tYes uYes := fun H0 F0 γ0 _ γ σ H F ρ R Q r0 u0 k => k _ _ _ _ _ r0 (Same.refl _) u0
def uAndV (a b : UE) : UE := fun ρ Q => a ρ fun x ρ1 => match cn ρ1 x with
  | some (.bl c) => if c = true then b ρ1 Q else Q (.val (.bl false)) ρ1
  | _ => False
def uOrV (a b : UE) : UE := fun ρ Q => a ρ fun x ρ1 => match cn ρ1 x with
  | some (.bl c) => if c = true then Q (.val (.bl true)) ρ1 else b ρ1 Q
  | _ => False
def uNotV (a : UE) : UE := fun ρ Q => a ρ fun x ρ1 => match cn ρ1 x with
  | some (.bl c) => Q (.val (.bl (!c))) ρ1
  | _ => False
theorem le_and {t t' : TE} {u u' : UE} (h : LE GP K B t u) (h' : LE GP K B t' u') : LE GP K B (tAndV t t') (uAndV u u') := by
  intro H0 F0 γ0 _ γ σ H F ρ R Q r0 u0 k
  refine h _ _ r0 u0 fun H1 F1 γ1 ρ1 v x r1 s1 k1 u1 => ?_
  split at u1
  · rename_i b e
    refine ⟨b, (RVok.cnt r1 k1 e).bl, ?_⟩
    split
    · rename_i c
      rw [if_pos c] at u1
      exact h' _ _ r1 u1 fun H2 F2 γ2 ρ2 v x r2 s2 k2 u2 => k _ _ _ _ _ _ r2 (s1.trans s2) k2 u2
    · rename_i c
      rw [if_neg c] at u1
      exact k _ _ _ _ _ (.val _) r1 s1 (Dd.bl _) u1
  · exact False.elim u1
theorem le_or {t t' : TE} {u u' : UE} (h : LE GP K B t u) (h' : LE GP K B t' u') : LE GP K B (tOrV t t') (uOrV u u') := by
  intro H0 F0 γ0 _ γ σ H F ρ R Q r0 u0 k
  refine h _ _ r0 u0 fun H1 F1 γ1 ρ1 v x r1 s1 k1 u1 => ?_
  split at u1
  · rename_i b e
    refine ⟨b, (RVok.cnt r1 k1 e).bl, ?_⟩
    split
    · rename_i c
      rw [if_pos c] at u1
      exact k _ _ _ _ _ (.val _) r1 s1 (Dd.bl _) u1
    · rename_i c
      rw [if_neg c] at u1
      exact h' _ _ r1 u1 fun H2 F2 γ2 ρ2 v x r2 s2 k2 u2 => k _ _ _ _ _ _ r2 (s1.trans s2) k2 u2
  · exact False.elim u1
theorem le_not {t : TE} {u : UE} (h : LE GP K B t u) : LE GP K B (tNotV t) (uNotV u) := by
  intro H0 F0 γ0 _ γ σ H F ρ R Q r0 u0 k
  refine h _ _ r0 u0 fun H1 F1 γ1 ρ1 v x r1 s1 k1 u1 => ?_
  split at u1
  · rename_i b e
    exact ⟨b, (RVok.cnt r1 k1 e).bl, k _ _ _ _ _ (.val _) r1 s1 (Dd.bl _) u1⟩
  · exact False.elim u1
def uIfE (c : UT) (a b : UE) : UE := fun ρ Q => c ρ fun z ρ1 => if z = true then a ρ1 Q else b ρ1 Q
theorem le_if {t : TT} {u : UT} {ta tb : TE} {ua ub : UE} (h : LT GP K B t u) (ha : LE GP K B ta ua) (hb : LE GP K B tb ub) : LE GP K B (tIf t ta tb) (uIfE u ua ub) := by
  intro H0 F0 γ0 _ γ σ H F ρ R Q r0 u0 k
  refine h _ _ r0 u0 fun H1 F1 γ1 ρ1 b r1 s1 u1 => ?_
  split
  · rename_i c
    rw [if_pos c] at u1
    exact ha _ _ r1 u1 fun H2 F2 γ2 ρ2 v x r2 s2 k2 u2 => k _ _ _ _ _ _ r2 (s1.trans s2) k2 u2
  · rename_i c
    rw [if_neg c] at u1
    exact hb _ _ r1 u1 fun H2 F2 γ2 ρ2 v x r2 s2 k2 u2 => k _ _ _ _ _ _ r2 (s1.trans s2) k2 u2
/-- a op b op' c -/
def uChain (p p' : P2) (ua ub uc : UE) : UE := fun ρ Q => ua ρ fun x ρ1 => ub ρ1 fun y ρ2 => match cn ρ2 (sf x), cn ρ2 (sf y) with
  | some dx, some dy => p dx dy fun z => match z with
    | .val (.bl k) => if k = true then uc ρ2 (fun w ρ3 => match cn ρ3 (sf y), cn ρ3 w with
        | some dy, some dw => p' dy dw fun z => Q (nrm z) ρ3
        | _, _ => False) else Q (.val (.bl false)) ρ2
    | _ => False
  | _, _ => False
theorem le_chain {r r' : R2} {p p' : P2} {ta tb tc : TE} {ua ub uc : UE} (hr : LR K r p) (hr' : LR K r' p') (ha : LE GP K B ta ua) (hb : LE GP K B tb ub) (hc : LE GP K B tc uc) : LE GP K B (tChain r r' ta tb tc) (uChain p p' ua ub uc) := by
  intro H0 F0 γ0 _ γ σ H F ρ R Q r0 u h
  refine ha _ _ r0 u fun H1 F1 γ1 ρ1 v x r1 s1 k1 u1 => ?_
  obtain ⟨F2, r2, s2, k2⟩ := sf_ok r1 k1
  refine hb _ _ r2 u1 fun H3 F3 γ3 ρ3 w y r3 s3 k3 u3 => ?_
  obtain ⟨F4, r4, s4, k4⟩ := sf_ok r3 k3
  split at u3
  · rename_i dx dy e1 e2
    have c1 := RVok.cnt r4 (((k2.same s3).same s4).one) e1
    have c2 := RVok.cnt r4 k4.one e2
    refine hr _ _ r4.sub c1 c2 u3 fun v' H' rv sH ok q => ?_
    split at q
    · rename_i k
      cases ok
      refine ⟨k, rfl, ?_⟩
      split
      · rename_i c
        rw [if_pos c] at q
        refine hc _ _ (r4.same sH) q fun H5 F5 γ5 ρ5 v5 x5 r5 s5 k5 u5 => ?_
        split at u5
        · rename_i dy' dw e3 e4
          have c3 := RVok.cnt r5 ((k4.same s5).one) e3
          have c4 := RVok.cnt r5 k5 e4
          exact hr' _ _ r5.sub c3 c4 u5 fun v' H' rv sH ok q => let ⟨_, r9, s9, k9⟩ := opk_ok r5 sH ok; h _ _ _ _ _ (nrm rv) r9 (s1.trans (s2.trans (s3.trans (s4.trans (s5.trans s9))))) k9 q
        · exact False.elim u5
      · rename_i c
        rw [if_neg c] at q
        exact h _ _ _ _ _ (.val _) (r4.same sH) (s1.trans (s2.trans (s3.trans s4))) (Dd.bl _) q
    · exact False.elim q
  · exact False.elim u3
/-! ### argument lists, displays -/
def uNil : UA := fun ρ Q => Q [] ρ
def uCons (a : UE) (b : UA) : UA := fun ρ Q => a ρ fun x ρ1 => b ρ1 fun xs ρ2 => Q (sf x :: xs) ρ2
theorem la_nil : LA GP K B tNil uNil := fun H0 F0 γ0 _ γ σ H F ρ R Q r0 u0 k => k _ _ _ _ _ [] r0 (Same.refl _) trivial u0
theorem la_cons {ta : TE} {tr : TA} {ua : UE} {ur : UA} (ha : LE GP K B ta ua) (hr : LA GP K B tr ur) : LA GP K B (tCons ta tr) (uCons ua ur) := by
  intro H0 F0 γ0 _ γ σ H F ρ R Q r0 u h
  refine ha _ _ r0 u fun H1 F1 γ1 ρ1 v x r1 s1 k1 u1 => ?_
  obtain ⟨F2, r2, s2, k2⟩ := sf_ok r1 k1
  exact hr _ _ r2 u1 fun H3 F3 γ3 ρ3 vs xs r3 s3 k3 u3 => h _ _ _ _ _ _ r3 (s1.trans (s2.trans s3)) ((k2.same s3).cons k3) u3
/-- all of them frozen -/
def fzs : List RV → Rho → (List D → Rho → Prop) → Prop
  | [], ρ, k => k [] ρ
  | x :: xs, ρ, k => fz x ρ fun d ρ1 => fzs xs ρ1 fun ds ρ2 => k (d :: ds) ρ2
theorem fzs_ok {H0 F0 H : Hp} {γ0 γ : GAt} {σ : L2.St} : ∀ {xs : List RV} {vs : List V} {F : Hp} {ρ : Rho} {k : List D → Rho → Prop}, Rp GP K H0 F0 γ0 γ σ H F ρ → RVs K σ F vs xs → fzs xs ρ k →
    ∃ F' ρ' ds, Rp GP K H0 F0 γ0 γ σ H F' ρ' ∧ Same F F' ∧ DdL K F' vs ds ∧ k ds ρ'
  | [], vs, F, ρ, k, r, h, z => by
    obtain rfl := h.nil_of
    exact ⟨F, ρ, [], r, Same.refl _, .nil, z⟩
  | x :: xs, vs, F, ρ, k, r, h, z => by
    obtain ⟨v, ws, rfl, h1, h2⟩ := h.cons_of
    obtain ⟨F1, ρ1, d, r1, s1, d1, z1⟩ := fz_ok r h1.one z
    obtain ⟨F2, ρ2, ds, r2, s2, d2, z2⟩ := fzs_ok r1 (h2.same s1) z1
    exact ⟨F2, ρ2, d :: ds, r2, s1.trans s2, .cons (d1.same s2) d2, z2⟩
def uTup (a : UA) : UE := fun ρ Q => a ρ fun xs ρ1 => fzs xs ρ1 fun ds ρ2 => ds.length ≤ sizeLine ∧ Q (.val (.tup ds)) ρ2
def uLst (a : UA) : UE := fun ρ Q => a ρ fun xs ρ1 => fzs xs ρ1 fun ds ρ2 => ds.length ≤ sizeLine ∧ Q (.fr (.list ds)) ρ2
theorem fr_new {H0 F0 H F : Hp} {γ0 γ : GAt} {σ : L2.St} {ρ : Rho} {p : Addr} {o : HO} {d : D} (r : Rp GP K H0 F0 γ0 γ σ H F ρ) (n : H p = none) (h : Own K F (upd H p o) p d) :
    RVok GP K H0 γ0 γ σ (upd H p o) F ρ (.ref p) (.fr d) := fr_ok r (same_upd n) n h
/-- a new tuple frozen at once -/
theorem new_tup {H0 F0 H F : Hp} {γ0 γ : GAt} {σ : L2.St} {ρ : Rho} {p : Addr} {xs : List V} {ds : List D} (r : Rp GP K H0 F0 γ0 γ σ H F ρ) (n : H p = none) (h : DdL K F xs ds) :
    ∃ F', Rp GP K H0 F0 γ0 γ σ (upd H p (.tup xs)) F' ρ ∧ Same F F' ∧ Dd K F' (.ref p) (.tup ds) := tup_frz (r.same (same_upd n)) upd_same h
theorem le_tup {t : TA} {u : UA} (ha : LA GP K B t u) : LE GP K B (tTup t) (uTup u) := by
  intro H0 F0 γ0 _ γ σ H F ρ R Q r0 u0 h
  refine ha _ _ r0 u0 fun H1 F1 γ1 ρ1 vs xs r1 s1 k1 u1 => ?_
  obtain ⟨F2, ρ2, ds, r2, s2, d2, z1, z2⟩ := fzs_ok r1 k1 u1
  refine ⟨by rw [d2.length]; exact z1, fun p np => ?_⟩
  obtain ⟨F3, r3, s3, d3⟩ := new_tup r2 np d2
  exact h _ _ _ _ _ (.val _) r3 (s1.trans (s2.trans s3)) d3 z2
theorem le_lst {t : TA} {u : UA} (ha : LA GP K B t u) : LE GP K B (tLst t) (uLst u) := by
  intro H0 F0 γ0 _ γ σ H F ρ R Q r0 u0 h
  refine ha _ _ r0 u0 fun H1 F1 γ1 ρ1 vs xs r1 s1 k1 u1 => ?_
  obtain ⟨F2, ρ2, ds, r2, s2, d2, z1, z2⟩ := fzs_ok r1 k1 u1
  exact ⟨by rw [d2.length]; exact z1, fun p np => h _ _ _ _ _ (.fr _) (r2.same (same_upd np)) (s1.trans s2) (fr_new r2 np (.lst upd_same d2)) z2⟩
/-! ### built-ins of values -/
def CntL (K : PySem.W.Frag) (F H : Hp) : List V → List D → Prop
  | [], [] => True
  | v :: vs, d :: ds => Cnt K F H v d ∧ CntL K F H vs ds
  | _, _ => False
variable (K) in
def LB (r : List V → Hp → VK → Prop) (p : PN) : Prop := ∀ ⦃F H : Hp⦄ ⦃vs : List V⦄ ⦃ds : List D⦄ (R : VK) (Q : RV → Prop), Same F H → CntL K F H vs ds → p ds Q →
  (∀ v H' rv, Same H H' → Opk K F H H' v rv → Q rv → R v H') → r vs H R
def cns (ρ : Rho) : List RV → Option (List D)
  | [] => some []
  | x :: xs => match cn ρ x, cns ρ xs with
    | some d, some ds => some (d :: ds)
    | _, _ => none
theorem cns_ok {H0 F0 H F : Hp} {γ0 γ : GAt} {σ : L2.St} {ρ : Rho} (r : Rp GP K H0 F0 γ0 γ σ H F ρ) : ∀ {xs : List RV} {vs : List V} {ds : List D}, RVs K σ F vs xs → cns ρ xs = some ds → CntL K F H vs ds
  | [], vs, ds, h, e => by
    obtain rfl := h.nil_of
    cases e
    trivial
  | x :: xs, vs, ds, h, e => by
    obtain ⟨v, ws, rfl, h1, h2⟩ := h.cons_of
    dsimp only [cns] at e
    split at e
    · rename_i d ds' e1 e2
      cases e
      exact ⟨RVok.cnt r h1.one e1, cns_ok r h2 e2⟩
    · cases e
def uCB (p : PN) (a : UA) : UE := fun ρ Q => a ρ fun xs ρ1 => match cns ρ1 xs with
  | some ds => p ds fun z => Q (nrm z) ρ1
  | none => False
theorem le_cb {r : List V → Hp → VK → Prop} {p : PN} {t : TA} {u : UA} (hr : LB K r p) (ha : LA GP K B t u) : LE GP K B (tCB r t) (uCB p u) := by
  intro H0 F0 γ0 _ γ σ H F ρ R Q r0 u0 h
  refine ha _ _ r0 u0 fun H1 F1 γ1 ρ1 vs xs r1 s1 k1 u1 => ?_
  split at u1
  · rename_i ds e
    exact hr _ _ r1.sub (cns_ok r1 k1 e) u1 fun v' H' rv sH ok q => let ⟨_, r9, s9, k9⟩ := opk_ok r1 sH ok; h _ _ _ _ _ (nrm rv) r9 (s1.trans s9) k9 q
  · exact False.elim u1
/-! ### slices -/
abbrev UO := Rho → (Option Int → Rho → Prop) → Prop
variable (GP K) in
def LO (B : Hp × Hp × GAt) (t : TO) (u : UO) : Prop := ∀ ⦃H0 F0 : Hp⦄ ⦃γ0 : GAt⦄ [FinerC GP K B H0 F0 γ0] ⦃γ : GAt⦄ ⦃σ : L2.St⦄ ⦃H F : Hp⦄ ⦃ρ : Rho⦄ (R : Option Int → Hp → Prop) (Q : Option Int → Rho → Prop), Rp GP K H0 F0 γ0 γ σ H F ρ → u ρ Q →
  (∀ H' F' γ' ρ' b, Rp GP K H0 F0 γ0 γ' σ H' F' ρ' → Same F F' → Q b ρ' → R b H') → t σ H R
def uNoPart : UO := fun ρ Q => Q none ρ
def uPart (u : UE) : UO := fun ρ Q => u ρ fun x ρ1 => match cn ρ1 x with
  | some (.int i) => Q (some i) ρ1
  | _ => False
theorem lo_none : LO GP K B tNoPart uNoPart := fun H0 F0 γ0 _ γ σ H F ρ R Q r0 u0 k => k _ _ _ _ _ r0 (Same.refl _) u0
theorem lo_some {t : TE} {u : UE} (h : LE GP K B t u) : LO GP K B (tPart t) (uPart u) := by
  intro H0 F0 γ0 _ γ σ H F ρ R Q r0 u0 k
  refine h _ _ r0 u0 fun H1 F1 γ1 ρ1 v x r1 s1 k1 u1 => ?_
  split at u1
  · rename_i b e
    exact ⟨b, (RVok.cnt r1 k1 e).int, k _ _ _ _ _ r1 s1 u1⟩
  · exact False.elim u1
abbrev PS3 := D → Option Int → Option Int → (RV → Prop) → Prop
variable (K) in
def LSl (r : V → Option Int → Option Int → Hp → VK → Prop) (p : PS3) : Prop := ∀ ⦃F H : Hp⦄ ⦃x : V⦄ ⦃dx : D⦄ (l h : Option Int) (R : VK) (Q : RV → Prop), Same F H → Cnt K F H x dx → p dx l h Q →
  (∀ v H' rv, Same H H' → Opk K F H H' v rv → Q rv → R v H') → r x l h H R
def uSl (p : PS3) (a : UE) (l h : UO) : UE := fun ρ Q => a ρ fun x ρ1 => l ρ1 fun i ρ2 => h ρ2 fun j ρ3 => match cn ρ3 (sf x) with
  | some d => p d i j fun z => Q (nrm z) ρ3
  | none => False
theorem le_sl {r : V → Option Int → Option Int → Hp → VK → Prop} {p : PS3} {te : TE} {tl th : TO} {ue : UE} {ul uh : UO} (hr : LSl K r p) (he : LE GP K B te ue) (hl : LO GP K B tl ul) (hh : LO GP K B th uh) : LE GP K B (tSl r te tl th) (uSl p ue ul uh) := by
  intro H0 F0 γ0 _ γ σ H F ρ R Q r0 u0 h
  refine he _ _ r0 u0 fun H1 F1 γ1 ρ1 v x r1 s1 k1 u1 => ?_
  obtain ⟨F2, r2, s2, k2⟩ := sf_ok r1 k1
  refine hl _ _ r2 u1 fun H3 F3 γ3 ρ3 i r3 s3 u3 => ?_
  refine hh _ _ r3 u3 fun H4 F4 γ4 ρ4 j r4 s4 u4 => ?_
  split at u4
  · rename_i d e
    exact hr _ _ _ _ r4.sub (RVok.cnt r4 ((k2.same s3).same s4).one e) u4 fun v' H' rv sH ok q => let ⟨_, r9, s9, k9⟩ := opk_ok r4 sH ok; h _ _ _ _ _ (nrm rv) r9 (s1.trans (s2.trans (s3.trans (s4.trans s9)))) k9 q
  · exact False.elim u4
end DL
/-! lifted readings 3: calls; statements; loops -/
namespace DL
open PySem PySem.Spec PyProof.Rows L2 CD
variable {GP : GenP} {K : PySem.W.Frag}
variable {B : Hp × Hp × GAt}
/-! ### a def's promise over data -/
def hasG : List SV → Bool
  | [] => false
  | .gen _ :: _ => true
  | _ :: r => hasG r
def noG : List SV → Bool
  | [] => true
  | .gen _ :: _ => false
  | _ :: r => noG r
def oneG : List SV → Bool
  | [] => true
  | .gen _ :: r => noG r
  | _ :: r => oneG r
def ArgsOk (GP : GenP) (K : PySem.W.Frag) (F H : Hp) (γ : GAt) : List V → List SV → Prop
  | [], [] => True
  | v :: vs, s :: as => (match s with
    | .val d => Dd K F v d
    | .gen n => ∃ p, γ = some p ∧ v = .ref p.1 ∧ GP.D H p.1 p.2.1 p.2.2 n ∧ F p.2.2 ≠ none
    | .own _ => False) ∧ ArgsOk GP K F H γ vs as
  | _, _ => False
abbrev QD := D → Option Nat → Prop
abbrev WD := List SV → QD → Prop
def GenAfter (GP : GenP) (H H' F' : Hp) (γ γ' : GAt) : Option Nat → Prop
  | none => γ = none
  | some k => ∃ p q, γ = some p ∧ γ' = some q ∧ q.1 = p.1 ∧ q.2.2 = p.2.2 ∧ (q.2.1 = p.2.1 ∨ H q.2.1 = none) ∧ GP.D H' q.1 q.2.1 q.2.2 k ∧ F' q.1 = none ∧ F' q.2.1 = none
/-- the tables at the entry -/
def TabsF (GP : GenP) (H F : Hp) : Prop := LamX.Tabs GP.T H ∧ ∀ a, TbA GP.T a → F a = none
def spL (GP : GenP) (K : PySem.W.Frag) (n : Nat) (W : WD) : Sp := fun vs H R _ => ∃ (F : Hp) (γ : GAt) (as : List SV) (Q : QD), Same F H ∧ ArgsOk GP K F H γ vs as ∧ (hasG as = γ.isSome) ∧ oneG as = true ∧ as.length = n ∧
  (∀ p, γ = some p → F p.1 = none ∧ F p.2.1 = none) ∧ TabsF GP H F ∧ W as Q ∧
  ∀ v H' F' γ' d m, LamX.Tabs GP.T H' → (∀ a o, H a = some o → ¬ GA GP γ a → H' a = some o) → (∀ a o, H a = some o → ∃ u, H' a = some u) → Same F F' → Same F' H' → (∀ a o, F' a = some o → F a = some o ∨ H a = none ∨ ∃ xs, o = .tup xs) → Dd K F' v d →
    GenAfter GP H H' F' γ γ' m → Q d m → R v H'
theorem Rp.tabsF {H0 F0 H F : Hp} {γ0 γ : GAt} {σ : L2.St} {ρ : Rho} (r : Rp GP K H0 F0 γ0 γ σ H F ρ) : TabsF GP H F := ⟨r.tabs, fun a h => (r.tin a h).1⟩
theorem ArgsOk.length {F H : Hp} {γ : GAt} : ∀ {vs : List V} {as : List SV}, ArgsOk GP K F H γ vs as → vs.length = as.length
  | [], [], _ => rfl
  | v :: vs, s :: as, h => by rw [List.length_cons, List.length_cons, ArgsOk.length h.2]
  | [], _ :: _, h => h.elim
  | _ :: _, [], h => h.elim
theorem spL_len {n : Nat} {W : WD} {vs : List V} {H : Hp} {Q : VK} {E : XK} (h : spL GP K n W vs H Q E) : vs.length = n := by
  obtain ⟨F, γ, as, Q, _, h2, _, _, h5, _⟩ := h
  rw [h2.length, h5]
def gN : Rho → Option Nat
  | [] => none
  | some (.gen n) :: _ => some n
  | _ :: r => gN r
def outQ (b : Bool) (Q : QD) (d : D) (ρ : Rho) : Prop := if b = true then (match gN ρ with
  | some k => Q d (some k)
  | none => False) else Q d none
/-- the slots at the entry -/
def start0 (n : Nat) (as : List SV) : Rho := as.map some ++ List.replicate (n - as.length) none
theorem gN_at : ∀ {ρ : Rho} {k : Nat}, gN ρ = some k → ∃ i : Nat, ρ[i]? = some (some (.gen k))
  | [], _, h => by cases h
  | none :: r, k, h => by
    obtain ⟨i, hi⟩ := gN_at (ρ := r) (k := k) h
    exact ⟨i + 1, by simpa using hi⟩
  | some (.val d) :: r, k, h => by
    obtain ⟨i, hi⟩ := gN_at (ρ := r) (k := k) h
    exact ⟨i + 1, by simpa using hi⟩
  | some (.own d) :: r, k, h => by
    obtain ⟨i, hi⟩ := gN_at (ρ := r) (k := k) h
    exact ⟨i + 1, by simpa using hi⟩
  | some (.gen n) :: r, k, h => by
    cases h
    exact ⟨0, rfl⟩
theorem gt_of {H : Hp} {d g c : Addr} {n : Nat} (h : GP.D H d g c n) : ∃ o u, H d = some o ∧ H g = some u ∧ ∀ xs, o ≠ .tup xs ∧ u ≠ .tup xs := by
  obtain ⟨n1, n2, _⟩ := GP.dd h
  obtain ⟨o, ho⟩ := Option.ne_none_iff_exists'.mp n1
  obtain ⟨u, hu⟩ := Option.ne_none_iff_exists'.mp n2
  refine ⟨o, u, ho, hu, fun xs => ⟨fun e => (GP.nt (xs := xs) h).1 (by rw [ho, e]), fun e => (GP.nt (xs := xs) h).2 (by rw [hu, e])⟩⟩
/-- the entry -/
theorem start_rp {N : List Str} {vs : List V} {as : List SV} {H F : Hp} {γ : GAt} (s : Same F H) (a : ArgsOk GP K F H γ vs as) (hg : hasG as = γ.isSome) (h1 : oneG as = true) (gf : ∀ p, γ = some p → F p.1 = none ∧ F p.2.1 = none) (hT : TabsF GP H F) (hn : vs.length ≤ N.length) :
    Rp GP K H F γ γ (L2.start N vs) H F (start0 N.length as) := by
  have el := a.length
  have at_ : ∀ (i : Nat) (x : SV), (start0 N.length as)[i]? = some (some x) → as[i]? = some x ∧ i < vs.length := fun i x h => by
    unfold start0 at h
    by_cases c : i < as.length
    · rw [List.getElem?_append_left (by simpa using c), List.getElem?_map] at h
      cases q : as[i]? with
      | none => rw [q] at h; cases h
      | some y => rw [q] at h; cases h; exact ⟨rfl, by omega⟩
    · rw [List.getElem?_append_right (by simpa using c), List.getElem?_replicate] at h
      split at h <;> cases h
  have st : ∀ (i : Nat) (v : V), vs[i]? = some v → (L2.start N vs)[i]? = some (some v) := fun i v h => by
    have hi := (List.getElem?_eq_some_iff.mp h).1
    unfold L2.start
    rw [List.getElem?_append_left (by simpa using hi), List.getElem?_map, h]
    rfl
  have arg : ∀ {vs : List V} {as : List SV}, ArgsOk GP K F H γ vs as → ∀ (i : Nat) (x : SV), as[i]? = some x → ∃ v, vs[i]? = some v ∧ (match x with
    | .val d => Dd K F v d
    | .gen n => ∃ p, γ = some p ∧ v = .ref p.1 ∧ GP.D H p.1 p.2.1 p.2.2 n ∧ F p.2.2 ≠ none
    | .own _ => False) := by
    intro vs as
    induction vs generalizing as with
    | nil =>
      intro h i x e
      cases as with
      | nil => simp at e
      | cons _ _ => exact h.elim
    | cons v vs ih =>
      intro h i x e
      cases as with
      | nil => exact h.elim
      | cons a as =>
        cases i with
        | zero => simp at e; subst e; exact ⟨v, rfl, h.1⟩
        | succ i =>
          obtain ⟨w, h1, h2⟩ := ih h.2 i x (by simpa using e)
          exact ⟨w, by simpa using h1, h2⟩
  have none_ : ∀ as : List SV, noG as = true → ∀ (i n : Nat), as[i]? ≠ some (.gen n) := by
    intro as
    induction as with
    | nil => intro _ i n h; simp at h
    | cons a as ih =>
      intro h i n e
      cases a with
      | val d => cases i with
        | zero => simp at e
        | succ i => exact ih h i n (by simpa using e)
      | own d => cases i with
        | zero => simp at e
        | succ i => exact ih h i n (by simpa using e)
      | gen m => cases h
  have one_ : ∀ as : List SV, oneG as = true → ∀ (i j n m : Nat), as[i]? = some (.gen n) → as[j]? = some (.gen m) → i = j := by
    intro as
    induction as with
    | nil => intro _ i j n m h; simp at h
    | cons a as ih =>
      intro h i j n m e1 e2
      cases a with
      | val d =>
        cases i with
        | zero => simp at e1
        | succ i => cases j with
          | zero => simp at e2
          | succ j => exact congrArg _ (ih h i j n m (by simpa using e1) (by simpa using e2))
      | own d =>
        cases i with
        | zero => simp at e1
        | succ i => cases j with
          | zero => simp at e2
          | succ j => exact congrArg _ (ih h i j n m (by simpa using e1) (by simpa using e2))
      | gen k =>
        cases i with
        | zero => cases j with
          | zero => rfl
          | succ j => exact absurd (by simpa using e2) (none_ as h j m)
        | succ i => exact absurd (by simpa using e1) (none_ as h i n)
  have gex : ∀ p, γ = some p → ∃ n, GP.D H p.1 p.2.1 p.2.2 n := by
    intro p hp
    rw [hp] at hg
    have : ∀ as : List SV, hasG as = true → ∃ (i n : Nat), as[i]? = some (.gen n) := by
      intro as
      induction as with
      | nil => intro h; cases h
      | cons a as ih =>
        intro h
        cases a with
        | val d => obtain ⟨i, n, e⟩ := ih h; exact ⟨i + 1, n, by simpa using e⟩
        | own d => obtain ⟨i, n, e⟩ := ih h; exact ⟨i + 1, n, by simpa using e⟩
        | gen n => exact ⟨0, n, rfl⟩
    obtain ⟨i, n, e⟩ := this as hg
    obtain ⟨v, _, q, h1, _, h2, _⟩ := arg a i _ e
    rw [hp] at h1
    cases h1
    exact ⟨n, h2⟩
  have gt : ∀ p, γ = some p → ∃ o u, H p.1 = some o ∧ H p.2.1 = some u ∧ ∀ xs, o ≠ .tup xs ∧ u ≠ .tup xs := fun p hp => by
    obtain ⟨n, h⟩ := gex p hp
    exact gt_of h
  refine ⟨Same.refl _, s, fun _ _ h _ => h, fun _ _ h => .inl h, fun _ o h => ⟨o, h⟩, ?_, fun i d h => ?_, fun i d h => ?_, fun i n h => ?_, fun i j n m k1 k2 => ?_, fun p hp => ⟨p, hp, rfl, rfl, .inl rfl⟩, fun h p hp => ?_, fun p hp => let ⟨o, u, h1, h2, _⟩ := gt p hp; ⟨o, u, h1, h2⟩, gt, gf, hT.1, fun a z => ⟨hT.2 a z, let ⟨_, e⟩ := tabs_there hT.1 z; ⟨_, e⟩⟩, fun p hp => ?_⟩
  · unfold L2.start start0
    rw [List.length_append, List.length_append, List.length_map, List.length_map, List.length_replicate, List.length_replicate, el]
  · obtain ⟨e1, _⟩ := at_ i _ h
    obtain ⟨v, e2, e3⟩ := arg a i _ e1
    exact ⟨v, st i v e2, e3⟩
  · obtain ⟨e1, _⟩ := at_ i _ h
    obtain ⟨v, e2, e3⟩ := arg a i _ e1
    exact e3.elim
  · obtain ⟨e1, _⟩ := at_ i _ h
    obtain ⟨v, e2, p, h1, h2, h3, h4⟩ := arg a i _ e1
    exact ⟨p, h1, by rw [st i v e2, h2], h3, h4⟩
  · exact one_ as h1 i j n m (at_ i _ k1).1 (at_ j _ k2).1
  · rw [h] at hp; cases hp
  · obtain ⟨n, hD⟩ := gex p hp
    exact ⟨fun z => by
      obtain ⟨ps, e⟩ := tabs_there hT.1 z
      exact (GP.nx hD (.inl e)).1 ps rfl, fun z => by
      obtain ⟨ps, e⟩ := tabs_there hT.1 z
      exact (GP.nx hD (.inr e)).1 ps rfl⟩
/-! ### calls -/
def argsK : List RV → Rho → (List SV → Rho → Prop) → Prop
  | [], ρ, k => k [] ρ
  | .val d :: xs, ρ, k => argsK xs ρ fun as ρ' => k (.val d :: as) ρ'
  | .sl i :: xs, ρ, k => match ρ[i]? with
    | some (some (.val d)) => argsK xs ρ fun as ρ' => k (.val d :: as) ρ'
    | some (some (.own d)) => argsK xs (ρ.set i (some (.val d))) fun as ρ' => k (.val d :: as) ρ'
    | some (some (.gen n)) => argsK xs ρ fun as ρ' => k (.gen n :: as) ρ'
    | _ => False
  | _ :: _, _, _ => False
theorem argsK_ok {H0 F0 H : Hp} {γ0 γ : GAt} {σ : L2.St} : ∀ {xs : List RV} {vs : List V} {F : Hp} {ρ : Rho} {k : List SV → Rho → Prop}, Rp GP K H0 F0 γ0 γ σ H F ρ → RVs K σ F vs xs → argsK xs ρ k →
    ∃ F' ρ' as, Rp GP K H0 F0 γ0 γ σ H F' ρ' ∧ Same F F' ∧ ArgsOk GP K F' H γ vs as ∧ k as ρ' ∧ (∀ (i n : Nat), ρ'[i]? = some (some (.gen n)) ↔ ρ[i]? = some (some (.gen n)))
  | [], vs, F, ρ, k, r, h, z => by
    obtain rfl := h.nil_of
    exact ⟨F, ρ, [], r, Same.refl _, trivial, z, fun _ _ => Iff.rfl⟩
  | .val d :: xs, vs, F, ρ, k, r, h, z => by
    obtain ⟨v, ws, rfl, h1, h2⟩ := h.cons_of
    obtain ⟨F2, ρ2, as, r2, s2, a2, z2, g2⟩ := argsK_ok r h2 z
    exact ⟨F2, ρ2, .val d :: as, r2, s2, ⟨h1.1.same s2, a2⟩, z2, g2⟩
  | .fr d :: xs, vs, F, ρ, k, r, h, z => z.elim
  | .kon d :: xs, vs, F, ρ, k, r, h, z => z.elim
  | .sl i :: xs, vs, F, ρ, k, r, h, z => by
    obtain ⟨v, ws, rfl, h1, h2⟩ := h.cons_of
    have hv : σ[i]? = some (some v) := h1.1
    dsimp only [argsK] at z
    cases q : ρ[i]? with
    | none => rw [q] at z; exact z.elim
    | some s =>
      rw [q] at z
      cases s with
      | none => exact z.elim
      | some s =>
        cases s with
        | val d =>
          obtain ⟨F2, ρ2, as, r2, s2, a2, z2, g2⟩ := argsK_ok r h2 z
          obtain ⟨u, e1, e2⟩ := r.val i d q
          rw [hv] at e1; cases e1
          exact ⟨F2, ρ2, .val d :: as, r2, s2, ⟨e2.same s2, a2⟩, z2, g2⟩
        | own d =>
          obtain ⟨a, e1, _⟩ := r.own i d q
          rw [hv] at e1; cases e1
          obtain ⟨F1, r1, s1, d1⟩ := r.freezeAt q hv
          obtain ⟨F2, ρ2, as, r2, s2, a2, z2, g2⟩ := argsK_ok r1 (h2.same s1) z
          refine ⟨F2, ρ2, .val d :: as, r2, s1.trans s2, ⟨d1.same s2, a2⟩, z2, fun j n => (g2 j n).trans ?_⟩
          by_cases c : j = i
          · subst c
            rw [q, List.getElem?_set_self (List.getElem?_eq_some_iff.mp q).1]
            exact ⟨fun e => (by cases e), fun e => (by cases e)⟩
          · rw [set_none c]
        | gen n =>
          obtain ⟨F2, ρ2, as, r2, s2, a2, z2, g2⟩ := argsK_ok r h2 z
          obtain ⟨p', f1, f2, f3, f4⟩ := r2.gen i n ((g2 i n).mpr q)
          rw [hv] at f2
          injection f2 with f2
          injection f2 with f2
          exact ⟨F2, ρ2, .gen n :: as, r2, s2, ⟨⟨p', f1, f2, f3, f4⟩, a2⟩, z2, g2⟩
def flatD : D → Bool
  | .non => true
  | .bl _ => true
  | .int _ => true
  | .str _ => true
  | _ => false
theorem Dd.flat {F F' : Hp} {v : V} {d : D} (h : Dd K F v d) (f : flatD d = true) : Dd K F' v d := by
  cases h with
  | non => exact .non
  | bl b => exact .bl b
  | int i => exact .int i
  | str x => exact .str x
  | fn _ => cases f
  | lst _ _ => cases f
  | scr _ => cases f
  | tup _ _ => cases f
  | dK _ _ => cases f
  | dT _ _ => cases f
  | set _ _ _ _ => cases f
def setG (m : Option Nat) (ρ : Rho) : Rho := match m with
  | none => ρ
  | some k => ρ.map fun s => match s with
    | some (.gen _) => some (.gen k)
    | s => s
theorem setG_val {m : Option Nat} {ρ : Rho} {i : Nat} {d : D} : (setG m ρ)[i]? = some (some (.val d)) ↔ ρ[i]? = some (some (.val d)) := by
  cases m with
  | none => exact Iff.rfl
  | some k =>
    show (ρ.map _)[i]? = _ ↔ _
    rw [List.getElem?_map]
    cases q : ρ[i]? with
    | none => simp
    | some s => cases s with
      | none => simp
      | some s => cases s <;> simp
theorem setG_own {m : Option Nat} {ρ : Rho} {i : Nat} {d : D} : (setG m ρ)[i]? = some (some (.own d)) ↔ ρ[i]? = some (some (.own d)) := by
  cases m with
  | none => exact Iff.rfl
  | some k =>
    show (ρ.map _)[i]? = _ ↔ _
    rw [List.getElem?_map]
    cases q : ρ[i]? with
    | none => simp
    | some s => cases s with
      | none => simp
      | some s => cases s <;> simp
theorem setG_gen {k n : Nat} {ρ : Rho} {i : Nat} (h : (setG (some k) ρ)[i]? = some (some (.gen n))) : n = k ∧ ∃ j, ρ[i]? = some (some (.gen j)) := by
  have h : (ρ.map _)[i]? = _ := h
  rw [List.getElem?_map] at h
  cases q : ρ[i]? with
  | none => rw [q] at h; simp at h
  | some s => cases s with
    | none => rw [q] at h; simp at h
    | some s => cases s with
      | val d => rw [q] at h; simp at h
      | own d => rw [q] at h; simp at h
      | gen j => rw [q] at h; simp at h; exact ⟨h.symm, j, rfl⟩
theorem setG_len {m : Option Nat} {ρ : Rho} : (setG m ρ).length = ρ.length := by
  cases m with
  | none => rfl
  | some k => exact List.length_map _
/-- behind a call -/
theorem Rp.after {H0 F0 H H' F F' Fc : Hp} {γ0 γ γc γ' : GAt} {σ : L2.St} {ρ : Rho} {m : Option Nat} (r : Rp GP K H0 F0 γ0 γ σ H F ρ) (hc : γc = none ∨ γc = γ) (tb : LamX.Tabs GP.T H') (kp : ∀ a o, H a = some o → ¬ GA GP γc a → H' a = some o) (tr : ∀ a o, H a = some o → ∃ u, H' a = some u)
    (s : Same F F') (sub : Same F' H') (fnew : ∀ a o, F' a = some o → F a = some o ∨ H a = none ∨ ∃ xs, o = .tup xs) (g : GenAfter GP H H' Fc γc γ' m) (hF : F' = F ∨ F' = Fc) : ∃ γ2, Rp GP K H0 F0 γ0 γ2 σ H' F' (setG m ρ) := by
  have nf : ∀ a o, H a = some o → (∀ xs, H' a ≠ some (.tup xs)) → F a = none → F' a = none := fun a o h nt n => by
    cases q : F' a with
    | none => rfl
    | some u =>
      rcases fnew a u q with z | z | ⟨xs, z⟩
      · rw [n] at z; cases z
      · rw [h] at z; cases z
      · exact absurd (by rw [sub _ _ q, z]) (nt xs)
  have gsub : ∀ a, GA GP γc a → GA GP γ a := fun a h => by
    rcases hc with e | e
    · rw [e] at h
      rcases h with ⟨p, hp, _⟩ | z
      · cases hp
      · exact .inr z
    · rw [← e]; exact h
  have g0sub : ∀ a o, H0 a = some o → ¬ GA GP γ0 a → ¬ GA GP γ a := fun a o h n z => by
    rcases z with ⟨p, hp, e⟩ | z
    case inr => exact n (.inr z)
    cases q : γ0 with
    | none =>
      obtain ⟨z1, z2⟩ := r.g1 q p hp
      rcases e with rfl | rfl
      · rw [z1] at h; cases h
      · rw [z2] at h; cases h
    | some p0 =>
      obtain ⟨p', hp', e1, _, e2⟩ := r.g0 p0 q
      rw [hp] at hp'
      cases hp'
      rcases e with e | e
      · exact n (.inl ⟨p0, q, .inl (e.trans e1)⟩)
      · rcases e2 with z | z
        · exact n (.inl ⟨p0, q, .inr (e.trans z)⟩)
        · rw [e, z] at h; cases h
  have keep : ∀ a o, H0 a = some o → ¬ GA GP γ0 a → H' a = some o := fun a o h n => kp a o (r.keep a o h n) fun z => g0sub a o h n (gsub a z)
  have fn : ∀ a o, F' a = some o → F0 a = some o ∨ H0 a = none ∨ ∃ xs, o = .tup xs := fun a o h => by
    rcases fnew a o h with z | z | z
    · exact r.fnew a o z
    · exact .inr (.inl (r.new0 z))
    · exact .inr (.inr z)
  have tin : ∀ a, TbA GP.T a → F' a = none ∧ ∃ o, H0 a = some o := fun a z => by
    obtain ⟨z1, z2⟩ := r.tin a z
    obtain ⟨ps, hh⟩ := tabs_there r.tabs z
    obtain ⟨ps', hh'⟩ := tabs_there tb z
    exact ⟨nf a _ hh (fun xs e => by rw [hh'] at e; cases e) z1, z2⟩
  have tr2 : ∀ a o, H0 a = some o → ∃ u, H' a = some u := fun a o h => let ⟨u, hu⟩ := r.tr a o h; tr a u hu
  have own : ∀ (γ2 : GAt), (∀ a o, H a = some o → ¬ GA GP γ a → ¬ GA GP γ2 a) → ∀ (i : Nat) (d : D), (setG m ρ)[i]? = some (some (.own d)) → ∃ a, σ[i]? = some (some (.ref a)) ∧ Own K F' H' a d ∧ F' a = none ∧ H0 a = none ∧ (¬ GA GP γ2 a) ∧ ∀ j, OwnAt σ (setG m ρ) a j → j = i := fun γ2 h2 i d q => by
    obtain ⟨a, b1, b2, b3, b4, b5, b6⟩ := r.own i d (setG_own.mp q)
    obtain ⟨o, ho⟩ := b2.there
    have eH : H' a = H a := by rw [ho]; exact kp a o ho fun z => b5 (gsub a z)
    refine ⟨a, b1, b2.move s eH, nf a o ho (fun xs => by rw [eH]; exact b2.nt) b3, b4, h2 a o ho b5, fun j ⟨⟨e, he⟩, hs⟩ => b6 j ⟨⟨e, setG_own.mp he⟩, hs⟩⟩
  have val : ∀ (i : Nat) (d : D), (setG m ρ)[i]? = some (some (.val d)) → ∃ v, σ[i]? = some (some v) ∧ Dd K F' v d := fun i d q => let ⟨v, h1, h2⟩ := r.val i d (setG_val.mp q); ⟨v, h1, h2.same s⟩
  have len : σ.length = (setG m ρ).length := by rw [setG_len]; exact r.len
  cases m with
  | none =>
    have gc : γc = none := g
    have same : ∀ a o, H a = some o → ¬ TbA GP.T a → H' a = some o := fun a o h n => kp a o h fun z => by
      rcases z with ⟨p, hp, _⟩ | z
      · rw [gc] at hp; cases hp
      · exact n z
    refine ⟨γ, r.f0.trans s, sub, keep, fn, tr2, len, val, own γ fun _ _ _ n => n, fun i n q => ?_, r.one, r.g0, r.g1, r.gt0, fun p hp => ?_, fun p hp => ?_, tb, tin, r.gn⟩
    · obtain ⟨p, h1, h2, h3, h4⟩ := r.gen i n q
      obtain ⟨n1, n2, n3, _⟩ := GP.dd h3
      have st : ∀ a, H a ≠ none → ¬ TbA GP.T a → H' a = H a := fun a n nt => by
        cases q : H a with
        | none => exact absurd q n
        | some o => exact same _ _ q nt
      refine ⟨p, h1, h2, GP.stab h3 (st _ n1 (r.gn p h1).1) (st _ n2 (r.gn p h1).2) (st _ n3 fun z => h4 (r.tin _ z).1), ?_⟩
      cases q2 : F p.2.2 with
      | none => exact absurd q2 h4
      | some o => rw [s _ _ q2]; exact fun x => nomatch x
    · obtain ⟨o, u, h1, h2, h3⟩ := r.gt p hp
      exact ⟨o, u, same _ _ h1 (r.gn p hp).1, same _ _ h2 (r.gn p hp).2, h3⟩
    · obtain ⟨o, u, h1, h2, h5⟩ := r.gt p hp
      obtain ⟨h3, h4⟩ := r.gf p hp
      exact ⟨nf _ o h1 (fun xs e => by rw [same _ _ h1 (r.gn p hp).1] at e; exact (h5 xs).1 (Option.some.inj e)) h3, nf _ u h2 (fun xs e => by rw [same _ _ h2 (r.gn p hp).2] at e; exact (h5 xs).2 (Option.some.inj e)) h4⟩
  | some k =>
    obtain ⟨p, q, hp, hq, e1, e2, e3, hD, f1, f2⟩ := g
    have hγ : γ = some p := by
      rcases hc with e | e
      · rw [e] at hp; cases hp
      · rw [← e]; exact hp
    obtain ⟨o, u, h1, h2, _⟩ := r.gt p hγ
    obtain ⟨h3, h4⟩ := r.gf p hγ
    have nq : F' q.1 = none ∧ F' q.2.1 = none := by
      rcases hF with e | e
      · rw [e, e1]
        refine ⟨h3, ?_⟩
        rcases e3 with z | z
        · rw [z]; exact h4
        · exact Same.free r.sub z
      · rw [e]; exact ⟨f1, f2⟩
    have q0 : ∀ a o, H a = some o → ¬ GA GP γ a → ¬ GA GP (some q) a := fun a o' h n z => by
      rcases z with ⟨q', hq', e⟩ | z
      case inr => exact n (.inr z)
      cases hq'
      rcases e with e | e
      · exact n (.inl ⟨p, hγ, .inl (e.trans e1)⟩)
      · rcases e3 with z | z
        · exact n (.inl ⟨p, hγ, .inr (e.trans z)⟩)
        · rw [e, z] at h; cases h
    refine ⟨some q, r.f0.trans s, sub, keep, fn, tr2, len, val, own _ q0, fun i n h => ?_, fun i j n n' a1 a2 => ?_, fun p0 h0 => ?_, fun h0 p' hp' => ?_, r.gt0, fun p' hp' => ?_, fun p' hp' => ?_, tb, tin, fun p' hp' => ?_⟩
    · obtain ⟨rfl, j, hj⟩ := setG_gen h
      obtain ⟨p', b1, b2, b3, b4⟩ := r.gen i j hj
      rw [hγ] at b1
      cases b1
      refine ⟨q, rfl, by rw [e1]; exact b2, hD, ?_⟩
      rw [e2]
      cases q2 : F p.2.2 with
      | none => exact absurd q2 b4
      | some o => rw [s _ _ q2]; exact fun x => nomatch x
    · obtain ⟨_, j1, c1⟩ := setG_gen a1
      obtain ⟨_, j2, c2⟩ := setG_gen a2
      exact r.one i j _ _ c1 c2
    · obtain ⟨p', hp', c1, c2, c3⟩ := r.g0 p0 h0
      rw [hγ] at hp'
      cases hp'
      refine ⟨q, rfl, e1.trans c1, e2.trans c2, ?_⟩
      rcases e3 with z | z
      · rw [z]; exact c3
      · exact .inr (r.new0 z)
    · cases hp'
      obtain ⟨c1, c2⟩ := r.g1 h0 p hγ
      refine ⟨by rw [e1]; exact c1, ?_⟩
      rcases e3 with z | z
      · rw [z]; exact c2
      · exact r.new0 z
    · cases hp'
      exact gt_of hD
    · cases hp'
      exact nq
    · cases hp'
      obtain ⟨z1, z2⟩ := r.gn p hγ
      refine ⟨by rw [e1]; exact z1, fun z => ?_⟩
      rcases e3 with y | y
      · rw [y] at z; exact z2 z
      · obtain ⟨ps, hh⟩ := tabs_there r.tabs z
        rw [hh] at y; cases y
def uCall (n : Nat) (W : WD) (ua : UA) : UE := fun ρ Q => ua ρ fun xs ρ1 => argsK xs ρ1 fun as ρb => as.length = n ∧ oneG as = true ∧ W as fun d m => if flatD d = true then Q (.val d) (setG m ρ1) else Q (.val d) (setG m ρb)
theorem hasG_gen {F H : Hp} {γ : GAt} : ∀ {vs : List V} {as : List SV}, ArgsOk GP K F H γ vs as → hasG as = true → ∃ p, γ = some p
  | [], [], _, h => by cases h
  | v :: vs, .val d :: as, a, h => hasG_gen a.2 h
  | v :: vs, .own d :: as, a, h => a.1.elim
  | v :: vs, .gen n :: as, a, h => let ⟨p, hp, _⟩ := a.1; ⟨p, hp⟩
  | [], _ :: _, a, _ => a.elim
  | _ :: _, [], a, _ => a.elim
theorem noGen_args {F H : Hp} {γ γ' : GAt} : ∀ {vs : List V} {as : List SV}, ArgsOk GP K F H γ vs as → hasG as = false → ArgsOk GP K F H γ' vs as
  | [], [], _, h => trivial
  | v :: vs, .val d :: as, a, h => ⟨a.1, noGen_args a.2 h⟩
  | v :: vs, .own d :: as, a, h => a.1.elim
  | v :: vs, .gen n :: as, a, h => by cases h
  | [], _ :: _, a, _ => a.elim
  | _ :: _, [], a, _ => a.elim
theorem le_call {n : Nat} {W : WD} {E : XK} {t : TA} {u : UA} (ha : LA GP K B t u) : LE GP K B (tCall (spL GP K n W) [] E t) (uCall n W u) := by
  intro H0 F0 γ0 _ γ σ H F ρ R Q r0 u0 h
  refine ha _ _ r0 u0 fun H1 F1 γ1 ρ1 vs xs r1 s1 k1 u1 => ?_
  obtain ⟨F2, ρb, as, r2, s2, a2, ⟨hl, ho, hW⟩, gg⟩ := argsK_ok r1 k1 u1
  show spL GP K n W (vs ++ []) H1 R E
  rw [List.append_nil]
  have fin : ∀ (γc : GAt), (γc = none ∨ γc = γ1) → ∀ v H' F' γ' d m, LamX.Tabs GP.T H' → (∀ a o, H1 a = some o → ¬ GA GP γc a → H' a = some o) → (∀ a o, H1 a = some o → ∃ u, H' a = some u) → Same F2 F' → Same F' H' → (∀ a o, F' a = some o → F2 a = some o ∨ H1 a = none ∨ ∃ xs, o = .tup xs) → Dd K F' v d →
      GenAfter GP H1 H' F' γc γ' m → (if flatD d = true then Q (.val d) (setG m ρ1) else Q (.val d) (setG m ρb)) → R v H' := by
    intro γc hc v H' F' γ' d m tb kp tr s3 sub fnew dd ga q
    by_cases f : flatD d = true
    · rw [if_pos f] at q
      have subF : Same F1 H' := (s2.trans s3).trans sub
      obtain ⟨γ2, r3⟩ := r1.after (F' := F1) hc tb kp tr (Same.refl _) subF (fun a o h => .inl h) ga (.inl rfl)
      exact h _ _ _ _ _ (.val _) r3 s1 (dd.flat f) q
    · rw [if_neg f] at q
      obtain ⟨γ2, r3⟩ := r2.after (F' := F') hc tb kp tr s3 sub fnew ga (.inr rfl)
      exact h _ _ _ _ _ (.val _) r3 (s1.trans (s2.trans s3)) dd q
  by_cases c : hasG as = true
  · obtain ⟨p, hp⟩ := hasG_gen a2 c
    exact ⟨F2, γ1, as, _, r2.sub, a2, by rw [c, hp]; rfl, ho, hl, r2.gf, r2.tabsF, hW, fin γ1 (.inr rfl)⟩
  · have c' : hasG as = false := by simpa using c
    exact ⟨F2, none, as, _, r2.sub, noGen_args a2 c', by rw [c']; rfl, ho, hl, fun p hp => (by cases hp), r2.tabsF, hW, fin none (.inl rfl)⟩
/-! ### statements -/
variable (GP K) in
def LS (B : Hp × Hp × GAt) (t : TS) (u : US) : Prop := ∀ ⦃H0 F0 : Hp⦄ ⦃γ0 : GAt⦄ [FinerC GP K B H0 F0 γ0] ⦃γ : GAt⦄ ⦃σ : L2.St⦄ ⦃H F : Hp⦄ ⦃ρ : Rho⦄ (E : Ends) (Q : UEnds), Rp GP K H0 F0 γ0 γ σ H F ρ → u Q ρ →
  (∀ σ' H' F' γ' ρ', Rp GP K H0 F0 γ0 γ' σ' H' F' ρ' → Q.nx ρ' → E.nx σ' H') → (∀ σ' H' F' γ' ρ', Rp GP K H0 F0 γ0 γ' σ' H' F' ρ' → Q.bk ρ' → E.bk σ' H') → (∀ σ' H' F' γ' ρ', Rp GP K H0 F0 γ0 γ' σ' H' F' ρ' → Q.ct ρ' → E.ct σ' H') →
  (∀ σ' v H' F' γ' ρ' d, Rp GP K H0 F0 γ0 γ' σ' H' F' ρ' → Dd K F' v d → Q.rt d ρ' → E.rt v H') → t E σ H
def uNext : US := fun Q ρ => Q.nx ρ
def uSeq (a b : US) : US := fun Q ρ => a { Q with nx := fun ρ' => b Q ρ' } ρ
def uBreak : US := fun Q ρ => Q.bk ρ
def uCont : US := fun Q ρ => Q.ct ρ
def uDrop (a : UE) : US := fun Q ρ => a ρ fun _ ρ' => Q.nx ρ'
def uRet (a : UE) : US := fun Q ρ => a ρ fun x ρ' => fz x ρ' fun d ρ2 => Q.rt d ρ2
def uRetN : US := fun Q ρ => Q.rt .non ρ
def uIfS (c : UT) (a b : US) : US := fun Q ρ => c ρ fun z ρ' => if z = true then a Q ρ' else b Q ρ'
def uNever : US := fun _ _ => False
theorem ls_next : LS GP K B tNext uNext := fun H0 F0 γ0 _ γ σ H F ρ E Q r u n b c t => n _ _ _ _ _ r u
theorem ls_seq {t t' : TS} {u u' : US} (h : LS GP K B t u) (h' : LS GP K B t' u') : LS GP K B (tSeq t t') (uSeq u u') := fun H0 F0 γ0 _ γ σ H F ρ E Q r z n b c t =>
  h _ _ r z (fun σ' H' F' γ' ρ' r' z' => h' _ _ r' z' n b c t) b c t
theorem ls_break : LS GP K B tBreak uBreak := fun H0 F0 γ0 _ γ σ H F ρ E Q r u n b c t => b _ _ _ _ _ r u
theorem ls_cont : LS GP K B tCont uCont := fun H0 F0 γ0 _ γ σ H F ρ E Q r u n b c t => c _ _ _ _ _ r u
theorem ls_drop {t : TE} {u : UE} (h : LE GP K B t u) : LS GP K B (tDrop t) (uDrop u) := fun H0 F0 γ0 _ γ σ H F ρ E Q r z n b c t => h _ _ r z fun H' F' γ' ρ' v x r' s k q => n _ _ _ _ _ r' q
theorem ls_ret {t : TE} {u : UE} (h : LE GP K B t u) : LS GP K B (tRet t) (uRet u) := fun H0 F0 γ0 _ γ σ H F ρ E Q r z n b c t => h _ _ r z fun H' F' γ' ρ' v x r' s k q => by
  obtain ⟨F2, ρ2, d, r2, s2, d2, q2⟩ := fz_ok r' k q
  exact t _ _ _ _ _ _ _ r2 d2 q2
theorem ls_retN : LS GP K B tRetN uRetN := fun H0 F0 γ0 _ γ σ H F ρ E Q r z n b c t => t _ _ _ _ _ _ _ r Dd.non z
theorem ls_if {c : TT} {t t' : TS} {uc : UT} {u u' : US} (hc : LT GP K B c uc) (h : LS GP K B t u) (h' : LS GP K B t' u') : LS GP K B (tIfS c t t') (uIfS uc u u') := by
  intro H0 F0 γ0 _ γ σ H F ρ E Q r z n b c' t
  refine hc _ _ r z fun H1 F1 γ1 ρ1 k r1 s1 u1 => ?_
  split
  · rename_i c
    rw [if_pos c] at u1
    exact h _ _ r1 u1 n b c' t
  · rename_i c
    rw [if_neg c] at u1
    exact h' _ _ r1 u1 n b c' t
theorem ls_never : LS GP K B tNever uNever := fun H0 F0 γ0 _ γ σ H F ρ E Q r z n b c t => z.elim
/-! ### targets -/
abbrev UG := D → Rho → (Rho → Prop) → Prop
variable (GP K) in
def LG (B : Hp × Hp × GAt) (g : TG) (u : UG) : Prop := ∀ ⦃H0 F0 : Hp⦄ ⦃γ0 : GAt⦄ [FinerC GP K B H0 F0 γ0] ⦃γ : GAt⦄ ⦃σ : L2.St⦄ ⦃H F : Hp⦄ ⦃ρ : Rho⦄ ⦃v : V⦄ ⦃d : D⦄ (R : L2.St → Hp → Prop) (Q : Rho → Prop), Rp GP K H0 F0 γ0 γ σ H F ρ → Dd K F v d → u d ρ Q →
  (∀ σ' H' F' γ' ρ', Rp GP K H0 F0 γ0 γ' σ' H' F' ρ' → Same F F' → Q ρ' → R σ' H') → g v σ H R
abbrev UGs := List D → Rho → (Rho → Prop) → Prop
variable (GP K) in
def LGs (B : Hp × Hp × GAt) (g : TGs) (u : UGs) : Prop := ∀ ⦃H0 F0 : Hp⦄ ⦃γ0 : GAt⦄ [FinerC GP K B H0 F0 γ0] ⦃γ : GAt⦄ ⦃σ : L2.St⦄ ⦃H F : Hp⦄ ⦃ρ : Rho⦄ ⦃vs : List V⦄ ⦃ds : List D⦄ (R : L2.St → Hp → Prop) (Q : Rho → Prop), Rp GP K H0 F0 γ0 γ σ H F ρ → DdL K F vs ds → u ds ρ Q →
  (∀ σ' H' F' γ' ρ', Rp GP K H0 F0 γ0 γ' σ' H' F' ρ' → Same F F' → Q ρ' → R σ' H') → g vs σ H R
def ugName (i : Nat) : UG := fun d ρ Q => Q (ρ.set i (some (.val d)))
theorem lg_name (i : Nat) : LG GP K B (gName i) (ugName i) := fun H0 F0 γ0 _ γ σ H F ρ v d R Q r h u k => k _ _ _ _ _ (r.setVal i h) (Same.refl _) u
def ugNil : UGs := fun ds ρ Q => match ds with
  | [] => Q ρ
  | _ => False
def ugCons (a : UG) (b : UGs) : UGs := fun ds ρ Q => match ds with
  | d :: ds => a d ρ fun ρ' => b ds ρ' Q
  | _ => False
def ugTup (n : Nat) (b : UGs) : UG := fun d ρ Q => match d with
  | .tup ds => ds.length = n ∧ b ds ρ Q
  | _ => False
theorem lgs_nil : LGs GP K B gNil ugNil := fun H0 F0 γ0 _ γ σ H F ρ vs ds R Q r h u k => by
  cases h with
  | nil => exact ⟨rfl, k _ _ _ _ _ r (Same.refl _) u⟩
  | cons _ _ => exact u.elim
theorem lgs_cons {g : TG} {gs : TGs} {u : UG} {us : UGs} (h1 : LG GP K B g u) (h2 : LGs GP K B gs us) : LGs GP K B (gCons g gs) (ugCons u us) := fun H0 F0 γ0 _ γ σ H F ρ vs ds R Q r h z k => by
  cases h with
  | nil => exact z.elim
  | cons a b => exact ⟨_, _, rfl, h1 _ _ r a z fun σ1 H1 F1 γ1 ρ1 r1 s1 z1 => h2 _ _ r1 (b.same s1) z1 fun σ2 H2 F2 γ2 ρ2 r2 s2 z2 => k _ _ _ _ _ r2 (s1.trans s2) z2⟩
theorem lg_tup {n : Nat} {gs : TGs} {us : UGs} (h2 : LGs GP K B gs us) : LG GP K B (gTup K n gs) (ugTup n us) := fun H0 F0 γ0 _ γ σ H F ρ v d R Q r h z k => by
  cases h with
  | tup e g => exact ⟨_, _, rfl, .inl (.inl (r.sub _ _ e)), by rw [g.length]; exact z.1, h2 _ _ r g z.2 k⟩
  | _ => exact z.elim
/-- x = e -/
def uSet (i : Nat) (a : UE) : US := fun Q ρ => a ρ fun x ρ' => match x with
  | .fr d => Q.nx (ρ'.set i (some (.own d)))
  | x => fz x ρ' fun d ρ2 => Q.nx (ρ2.set i (some (.val d)))
theorem ls_set {i : Nat} {t : TE} {u : UE} (h : LE GP K B t u) : LS GP K B (tAsg t (gName i)) (uSet i u) := fun H0 F0 γ0 _ γ σ H F ρ E Q r z n b c t => h _ _ r z fun H' F' γ' ρ' v x r' s k q => by
  have viaFz : ∀ {x : RV}, RVok GP K H0 γ0 γ' σ H' F' ρ' v x → (fz x ρ' fun d ρ2 => Q.nx (ρ2.set i (some (.val d)))) → gName i v σ H' E.nx := fun {x} k q => by
    obtain ⟨F2, ρ2, d, r2, s2, d2, q2⟩ := fz_ok r' k q
    exact n _ _ _ _ _ (r2.setVal i d2) q2
  have own : ∀ {d : D}, RVok GP K H0 γ0 γ' σ H' F' ρ' v (.fr d) → Q.nx (ρ'.set i (some (.own d))) → gName i v σ H' E.nx := fun {d} k q => by
    obtain ⟨a, rfl, o, h1, h2, h3, h4⟩ := k
    exact n _ _ _ _ _ (r'.setOwn i o h1 h2 h3 h4) q
  cases x with
  | val d => exact viaFz k q
  | kon d => exact viaFz k q
  | sl j => exact viaFz k q
  | fr d => exact own k q
/-- a, b = e -/
def uAsg (a : UE) (g : UG) : US := fun Q ρ => a ρ fun x ρ' => fz x ρ' fun d ρ2 => g d ρ2 Q.nx
theorem ls_asg {t : TE} {u : UE} {g : TG} {ug : UG} (h : LE GP K B t u) (hg : LG GP K B g ug) : LS GP K B (tAsg t g) (uAsg u ug) := fun H0 F0 γ0 _ γ σ H F ρ E Q r z n b c t => h _ _ r z fun H' F' γ' ρ' v x r' s k q => by
  obtain ⟨F2, ρ2, d, r2, s2, d2, q2⟩ := fz_ok r' k q
  exact hg _ _ r2 d2 q2 fun σ' H' F' γ' ρ' r s q => n _ _ _ _ _ r q
/-- x += e of ints -/
def uAug (g : Int → Int → Int) (i : Nat) (a : UE) : US := fun Q ρ => match ρ[i]? with
  | some (some (.val (.int k))) => a ρ fun y ρ' => match cn ρ' y with
    | some (.int j) => Q.nx (ρ'.set i (some (.val (.int (g k j)))))
    | _ => False
  | _ => False
theorem ls_aug {g : Int → Int → Int} {i : Nat} {t : TE} {u : UE} (h : LE GP K B t u) : LS GP K B (tAug i t (ipI g)) (uAug g i u) := fun H0 F0 γ0 _ γ σ H F ρ E Q r z n b c t => by
  dsimp only [uAug] at z
  split at z
  · rename_i k e
    obtain ⟨v, h1, h2⟩ := r.val i _ e
    cases h2
    refine ⟨_, h1, h _ _ r z fun H' F' γ' ρ' v x r' s k' q => ?_⟩
    split at q
    · rename_i j e2
      have := (RVok.cnt r' k' e2).int
      subst this
      exact ⟨k, j, rfl, rfl, n _ _ _ _ _ (r'.setVal i (Dd.int _)) q⟩
    · exact q.elim
  · exact z.elim
/-! ### loops -/
def goWhile (c : UT) (tb : US) (Q : UEnds) : Nat → Rho → Prop
  | 0, _ => False
  | m + 1, ρ => c ρ fun z ρ' => if z = true then tb { Q with nx := goWhile c tb Q m, ct := goWhile c tb Q m, bk := Q.nx } ρ' else Q.nx ρ'
def uWhile (c : UT) (tb : US) : US := fun Q ρ => ∃ m, goWhile c tb Q m ρ
theorem ls_while {c : TT} {t : TS} {uc : UT} {u : US} (hc : LT GP K B c uc) (h : LS GP K B t u) : LS GP K B (tWhile c t) (uWhile uc u) := fun H0 F0 γ0 _ γ σ H F ρ E Q r z n b ct t => by
  obtain ⟨m, z⟩ := z
  refine ⟨fun m σ H => ∃ F γ ρ, Rp GP K H0 F0 γ0 γ σ H F ρ ∧ goWhile uc u Q m ρ, ⟨m, F, γ, ρ, r, z⟩, ?_⟩
  rintro m σ1 H1 ⟨F1, γ1, ρ1, r1, z1⟩
  cases m with
  | zero => exact z1.elim
  | succ m =>
    refine hc _ _ r1 z1 fun H2 F2 γ2 ρ2 k r2 s2 q2 => ?_
    split
    · rename_i e
      rw [if_pos e] at q2
      refine ⟨fun σ H => ∃ F γ ρ, Rp GP K H0 F0 γ0 γ σ H F ρ ∧ goWhile uc u Q m ρ, fun σ' H' h => ⟨m, Nat.lt_succ_self _, h⟩, ?_⟩
      exact h _ _ r2 q2 (fun σ' H' F' γ' ρ' r' q' => ⟨F', γ', ρ', r', q'⟩) (fun σ' H' F' γ' ρ' r' q' => n _ _ _ _ _ r' q') (fun σ' H' F' γ' ρ' r' q' => ⟨F', γ', ρ', r', q'⟩) t
    · rename_i e
      rw [if_neg e] at q2
      exact n _ _ _ _ _ r2 q2
end DL
/-! lifted readings 4: for, comprehensions, a def's body -/
namespace DL
open PySem PySem.Spec PyProof.Rows L2 CD
variable {GP : GenP} {K : PySem.W.Frag}
variable {B : Hp × Hp × GAt}
section
variable {H0 F0 H H' F F' : Hp} {γ0 γ : GAt} {σ : L2.St} {ρ : Rho} {v : V} {d : D}
theorem Rp.rebase (r : Rp GP K H0 F0 γ0 γ σ H F ρ) : Rp GP K H0 F γ0 γ σ H F ρ := { r with f0 := Same.refl _, fnew := fun a o h => .inl h }
theorem Rp.unbase {F1 : Hp} (r : Rp GP K H0 F1 γ0 γ σ H F ρ) (s : Same F0 F1) (h : ∀ a o, F1 a = some o → F0 a = some o ∨ H0 a = none ∨ ∃ xs, o = .tup xs) : Rp GP K H0 F0 γ0 γ σ H F ρ :=
  { r with f0 := s.trans r.f0, fnew := fun a o e => (r.fnew a o e).elim (h a o) .inr }
/-- an object of no slot is written -/
theorem Rp.poke {a : Addr} {o : HO} (r : Rp GP K H0 F0 γ0 γ σ H F ρ) (n : F a = none) (h0 : H0 a = none) (hg : ¬ GA GP γ a) (ho : ∀ j, ¬ OwnAt σ ρ a j) (hx : ∀ u, H a = some u → ¬¬ noTE u) : Rp GP K H0 F0 γ0 γ σ (upd H a o) F ρ where
  f0 := r.f0
  sub := fun b u h => by
    have : b ≠ a := fun x => by rw [x, n] at h; cases h
    rw [upd_ne this]; exact r.sub b u h
  keep := fun b u h nb => by
    have : b ≠ a := fun x => by rw [x, h0] at h; cases h
    rw [upd_ne this]; exact r.keep b u h nb
  fnew := r.fnew
  tr := fun b u h => by
    have : b ≠ a := fun x => by rw [x, h0] at h; cases h
    rw [upd_ne this]; exact r.tr b u h
  len := r.len
  val := r.val
  own := fun i d q => by
    obtain ⟨b, h1, h2, h3⟩ := r.own i d q
    have c : b ≠ a := fun x => ho i ⟨⟨d, q⟩, x ▸ h1⟩
    exact ⟨b, h1, h2.move (Same.refl _) (upd_ne c), h3⟩
  gen := fun i m q => by
    obtain ⟨p, h1, h2, h3, h4⟩ := r.gen i m q
    have c1 : p.1 ≠ a := fun x => hg (.inl ⟨p, h1, .inl x.symm⟩)
    have c2 : p.2.1 ≠ a := fun x => hg (.inl ⟨p, h1, .inr x.symm⟩)
    have c3 : p.2.2 ≠ a := fun x => h4 (x ▸ n)
    exact ⟨p, h1, h2, GP.stab h3 (upd_ne c1) (upd_ne c2) (upd_ne c3), h4⟩
  one := r.one
  g0 := r.g0
  g1 := r.g1
  gt0 := r.gt0
  gt := fun p hp => by
    obtain ⟨o', u', h1, h2, h3⟩ := r.gt p hp
    have c1 : p.1 ≠ a := fun x => hg (.inl ⟨p, hp, .inl x.symm⟩)
    have c2 : p.2.1 ≠ a := fun x => hg (.inl ⟨p, hp, .inr x.symm⟩)
    exact ⟨o', u', by rw [upd_ne c1]; exact h1, by rw [upd_ne c2]; exact h2, h3⟩
  gf := r.gf
  tabs := tabs_stay r.tabs fun b u h nb => by
    have : b ≠ a := fun x => hx u (x ▸ h) nb
    rw [upd_ne this]; exact h
  tin := r.tin
  gn := r.gn
/-- slots seen otherwise: those outside vs as they are, those within frozen or none -/
theorem Rp.back {σ2 : L2.St} {ρ2 : Rho} {vs : List Nat} (r : Rp GP K H0 F0 γ0 γ σ2 H F ρ2) (len : σ.length = ρ.length) (hs : ∀ i, i ∉ vs → σ2[i]? = σ[i]?) (hr : ∀ i, i ∉ vs → ρ[i]? = ρ2[i]?)
    (hv : ∀ i, i ∈ vs → ∀ x, ρ[i]? = some (some x) → ∃ d v, x = .val d ∧ σ[i]? = some (some v) ∧ Dd K F v d) : Rp GP K H0 F0 γ0 γ σ H F ρ where
  f0 := r.f0
  sub := r.sub
  keep := r.keep
  fnew := r.fnew
  tr := r.tr
  len := len
  val := fun i d q => by
    by_cases c : i ∈ vs
    · obtain ⟨d', v, e, h1, h2⟩ := hv i c _ q
      cases e
      exact ⟨v, h1, h2⟩
    · rw [hr i c] at q
      rw [← hs i c]
      exact r.val i d q
  own := fun i d q => by
    by_cases c : i ∈ vs
    · obtain ⟨d', v, e, h1, h2⟩ := hv i c _ q
      cases e
    · rw [hr i c] at q
      obtain ⟨a, h1, h2, h3, h4, h5, h6⟩ := r.own i d q
      refine ⟨a, by rw [← hs i c]; exact h1, h2, h3, h4, h5, fun j hj => ?_⟩
      obtain ⟨⟨e, he⟩, hj2⟩ := hj
      by_cases cj : j ∈ vs
      · obtain ⟨d', v, e', _⟩ := hv j cj _ he
        cases e'
      · rw [hr j cj] at he
        rw [← hs j cj] at hj2
        exact h6 j ⟨⟨e, he⟩, hj2⟩
  gen := fun i n q => by
    by_cases c : i ∈ vs
    · obtain ⟨d', v, e, h1, h2⟩ := hv i c _ q
      cases e
    · rw [hr i c] at q
      rw [← hs i c]
      exact r.gen i n q
  one := fun i j n m q1 q2 => by
    by_cases c : i ∈ vs
    · obtain ⟨d', v, e, h1, h2⟩ := hv i c _ q1
      cases e
    · by_cases cj : j ∈ vs
      · obtain ⟨d', v, e, h1, h2⟩ := hv j cj _ q2
        cases e
      · rw [hr i c] at q1
        rw [hr j cj] at q2
        exact r.one i j n m q1 q2
  g0 := r.g0
  g1 := r.g1
  gt0 := r.gt0
  gt := r.gt
  gf := r.gf
  tabs := r.tabs
  tin := r.tin
  gn := r.gn
end
/-! ### what is walked -/
def YD (K : PySem.W.Frag) (F H H' : Hp) (v : V) (d : D) : Prop :=
  (H' = H ∧ Dd K F v d) ∨ ∃ T xs ds, v = .ref T ∧ H T = none ∧ H' = upd H T (.tup xs) ∧ d = .tup ds ∧ DdL K F xs ds
theorem yd_ok {H0 F0 H H' F : Hp} {γ0 γ : GAt} {σ : L2.St} {ρ : Rho} {v : V} {d : D} (r : Rp GP K H0 F0 γ0 γ σ H F ρ) (y : YD K F H H' v d) : ∃ F', Rp GP K H0 F0 γ0 γ σ H' F' ρ ∧ Same F F' ∧ Dd K F' v d := by
  rcases y with ⟨rfl, h⟩ | ⟨T, xs, ds, rfl, n, rfl, rfl, h⟩
  · exact ⟨F, r, Same.refl _, h⟩
  · obtain ⟨F', r', s', d'⟩ := new_tup r n h
    exact ⟨F', r', s', d'⟩
abbrev UI := Rho → (List D → Rho → Prop) → Prop
variable (GP K) in
def LI (B : Hp × Hp × GAt) (t : TI) (u : UI) : Prop := ∀ ⦃H0 F0 : Hp⦄ ⦃γ0 : GAt⦄ [FinerC GP K B H0 F0 γ0] ⦃γ : GAt⦄ ⦃σ : L2.St⦄ ⦃H F : Hp⦄ ⦃ρ : Rho⦄ (R : It → Hp → Prop) (Q : List D → Rho → Prop), Rp GP K H0 F0 γ0 γ σ H F ρ → u ρ Q →
  (∀ H1 F1 γ1 ρ1 J n G Y (items : List D), Rp GP K H0 F0 γ0 γ1 σ H1 F1 ρ1 → Same F F1 → Walk J n G Y → items.length = n → (∀ H'', Same F1 H'' → G H'') →
    (∀ i H v H' F, i < n → Same F1 F → Same F H → Y i H v H' → ∃ d, items[i]? = some d ∧ YD K F H H' v d) → Q items ρ1 → R J H1) → t σ H R
def goFor (g : UG) (b : US) (Q : UEnds) : List D → Rho → Prop
  | [], ρ => Q.nx ρ
  | d :: ds, ρ => g d ρ fun ρ' => b { Q with nx := goFor g b Q ds, ct := goFor g b Q ds, bk := Q.nx } ρ'
def uFor (i : UI) (g : UG) (b : US) : US := fun Q ρ => i ρ fun items ρ' => goFor g b Q items ρ'
theorem ls_for {wi : TI} {g : TG} {tb : TS} {ui : UI} {ug : UG} {ub : US} (hi : LI GP K B wi ui) (hg : LG GP K B g ug) (hb : LS GP K B tb ub) : LS GP K B (tFor wi g tb) (uFor ui ug ub) := fun H0 F0 γ0 _ γ σ H F ρ E Q r z nx bk ct rt => by
  refine hi _ _ r z fun H1 F1 γ1 ρ1 J n G Y items r1 s1 wk hn hG hY q => ?_
  have un : ∀ {γ σ H F ρ}, Rp GP K H0 F1 γ0 γ σ H F ρ → Rp GP K H0 F0 γ0 γ σ H F ρ := fun r => r.unbase r1.f0 r1.fnew
  haveI : FinerC GP K B H0 F1 γ0 := ⟨fun r => FinerC.fin (un r), FinerC.g (GP := GP) (K := K) H0 F0⟩
  refine for_it wk (fun i σ H => ∃ γ F ρ, Rp GP K H0 F1 γ0 γ σ H F ρ ∧ goFor ug ub Q (items.drop i) ρ) ⟨γ1, F1, ρ1, r1.rebase, by rw [List.drop_zero]; exact q⟩ (fun i σ H _ h => ?_) (fun i x σ H H' hi' h y => ?_) (fun σ H h => ?_)
  · obtain ⟨γ, F, ρ, r, _⟩ := h
    exact hG H (r.f0.trans r.sub)
  · obtain ⟨γ, F, ρ, r, q⟩ := h
    obtain ⟨d, hd, yd⟩ := hY i H x H' F hi' r.f0 r.sub y
    obtain ⟨F2, r2, s2, d2⟩ := yd_ok r yd
    have e : items.drop i = d :: items.drop (i + 1) := by
      obtain ⟨h1, h2⟩ := List.getElem?_eq_some_iff.mp hd
      rw [← h2]
      exact List.drop_eq_getElem_cons h1
    rw [e] at q
    refine hg _ _ r2 d2 q fun σ3 H3 F3 γ3 ρ3 r3 s3 q3 => ?_
    exact hb _ _ r3 q3 (fun _ _ _ _ _ r q => ⟨_, _, _, r, q⟩) (fun _ _ _ _ _ r q => nx _ _ _ _ _ (un r) q) (fun _ _ _ _ _ r q => ⟨_, _, _, r, q⟩) (fun _ _ _ _ _ _ _ r d q => rt _ _ _ _ _ _ _ (un r) d q)
  · obtain ⟨γ, F, ρ, r, q⟩ := h
    rw [← hn, List.drop_length] at q
    exact nx _ _ _ _ _ (un r) q
/-! ### comprehensions -/
def wipeR (ρ : Rho) : List Nat → Rho
  | [] => ρ
  | v :: vs => (wipeR ρ vs).set v none
def restR (ρ0 ρ : Rho) : List Nat → Rho
  | [] => ρ
  | v :: vs => (restR ρ0 ρ vs).set v (ρ0[v]?.getD none)
/-- the block's own names hold nothing of ours outside -/
def okW (ρ : Rho) : List Nat → Bool
  | [] => true
  | v :: vs => (match ρ[v]? with
    | some (some (.own _)) => false
    | some (some (.gen _)) => false
    | _ => true) && okW ρ vs
def goLc (g : UG) (t : UT) (e : UE) (vs : List Nat) (k : List D → Rho → Prop) : List D → List D → Rho → Prop
  | [], acc, ρ => k acc ρ
  | d :: ds, acc, ρ => okW ρ vs = true ∧ g d (wipeR ρ vs) fun ρ1 => t ρ1 fun b ρ2 => if b = true then e ρ2 fun x ρ3 => fz x ρ3 fun y ρ4 => acc.length < sizeLine ∧ goLc g t e vs k ds (acc ++ [y]) (restR ρ ρ4 vs)
    else goLc g t e vs k ds acc (restR ρ ρ2 vs)
def uLc (i : UI) (g : UG) (t : UT) (e : UE) (vs : List Nat) : UE := fun ρ Q => i ρ fun items ρ1 => goLc g t e vs (fun acc ρ2 => Q (.fr (.list acc)) ρ2) items [] ρ1
/-- the target stores to these slots alone -/
def Ons (vs : List Nat) (σ σ' : L2.St) : Prop := σ'.length = σ.length ∧ ∀ i, i ∉ vs → σ'[i]? = σ[i]?
def GW (g : TG) (vs : List Nat) : Prop := ∀ v σ H (R S : L2.St → Hp → Prop), (∀ σ' H', R σ' H' → Ons vs σ σ' → S σ' H') → g v σ H R → g v σ H S
def GWs (g : TGs) (vs : List Nat) : Prop := ∀ v σ H (R S : L2.St → Hp → Prop), (∀ σ' H', R σ' H' → Ons vs σ σ' → S σ' H') → g v σ H R → g v σ H S
theorem gw_name {i : Nat} {vs : List Nat} (h : i ∈ vs) : GW (gName i) vs := fun v σ H R S k r => k _ _ r ⟨List.length_set, fun j hj => set_none fun e => hj (by rw [e]; exact h)⟩
theorem gws_nil {vs : List Nat} : GWs gNil vs := fun v σ H R S k ⟨e, r⟩ => ⟨e, k _ _ r ⟨rfl, fun _ _ => rfl⟩⟩
theorem gw_tup {K : PySem.W.Frag} {n : Nat} {g : TGs} {vs : List Nat} (h : GWs g vs) : GW (gTup K n g) vs := fun v σ H R S k ⟨a, xs, e, s, l, r⟩ => ⟨a, xs, e, s, l, h _ _ _ R S k r⟩
theorem gws_cons {g : TG} {gs : TGs} {vs : List Nat} (h : GW g vs) (hs : GWs gs vs) : GWs (gCons g gs) vs := fun v σ H R S k ⟨x, r, e, q⟩ =>
  ⟨x, r, e, h _ _ _ _ _ (fun σ1 H1 q1 p1 => hs _ _ _ R S (fun σ2 H2 q2 p2 => k _ _ q2 ⟨p2.1.trans p1.1, fun i hi => (p2.2 i hi).trans (p1.2 i hi)⟩) q1) q⟩
theorem wipe_get : ∀ (vs : List Nat) (σ : L2.St) (i : Nat), (wipe σ vs)[i]? = if i ∈ vs ∧ i < σ.length then some none else σ[i]? := by
  intro vs
  induction vs with
  | nil => intro σ i; simp [wipe]
  | cons v vs ih =>
    intro σ i
    unfold wipe
    by_cases c : i = v
    · subst c
      by_cases l : i < σ.length
      · rw [List.getElem?_set_self (by rw [wipe_length]; exact l), if_pos ⟨List.mem_cons_self, l⟩]
      · rw [List.getElem?_eq_none (by rw [List.length_set, wipe_length]; omega), if_neg (fun x => l x.2), List.getElem?_eq_none (by omega)]
    · rw [List.getElem?_set_ne (Ne.symm c), ih]
      simp [c]
theorem wipe_eq {σ σ' : L2.St} {vs : List Nat} (h : Ons vs (wipe σ vs) σ') : wipe σ' vs = wipe σ vs := by
  obtain ⟨hl, h⟩ := h
  rw [wipe_length] at hl
  apply List.ext_getElem?
  intro i
  rw [wipe_get, wipe_get, hl]
  by_cases c : i ∈ vs
  · by_cases l : i < σ.length
    · rw [if_pos ⟨c, l⟩, if_pos ⟨c, l⟩]
    · rw [if_neg (fun x => l x.2), if_neg (fun x => l x.2), List.getElem?_eq_none (by omega), List.getElem?_eq_none (by omega)]
  · have z := h i c
    rw [wipe_get, if_neg (fun x => c x.1)] at z
    rw [if_neg (fun x => c x.1), if_neg (fun x => c x.1), z]
theorem wipe_at {σ : L2.St} {i : Nat} : ∀ {vs : List Nat}, i ∉ vs → (wipe σ vs)[i]? = σ[i]?
  | [], _ => rfl
  | v :: vs, h => by
    unfold wipe
    rw [set_none fun e => h (by rw [e]; exact List.mem_cons_self)]
    exact wipe_at fun m => h (List.mem_cons_of_mem _ m)
theorem wipeR_len {ρ : Rho} : ∀ {vs : List Nat}, (wipeR ρ vs).length = ρ.length
  | [] => rfl
  | v :: vs => by unfold wipeR; rw [List.length_set]; exact wipeR_len
theorem wipeR_at {ρ : Rho} {i : Nat} : ∀ {vs : List Nat}, i ∉ vs → (wipeR ρ vs)[i]? = ρ[i]?
  | [], _ => rfl
  | v :: vs, h => by
    unfold wipeR
    rw [set_none fun e => h (by rw [e]; exact List.mem_cons_self)]
    exact wipeR_at fun m => h (List.mem_cons_of_mem _ m)
theorem wipeR_in {ρ : Rho} {i : Nat} {x : SV} : ∀ {vs : List Nat}, i ∈ vs → (wipeR ρ vs)[i]? ≠ some (some x)
  | v :: vs, h => fun e => by
    unfold wipeR at e
    by_cases c : i = v
    · subst c; cases (set_at e).1
    · rw [set_none c] at e
      exact wipeR_in ((List.mem_cons.mp h).resolve_left c) e
theorem restR_len {ρ0 ρ : Rho} : ∀ {vs : List Nat}, (restR ρ0 ρ vs).length = ρ.length
  | [] => rfl
  | v :: vs => by unfold restR; rw [List.length_set]; exact restR_len
theorem restR_at {ρ0 ρ : Rho} {i : Nat} : ∀ {vs : List Nat}, i ∉ vs → (restR ρ0 ρ vs)[i]? = ρ[i]?
  | [], _ => rfl
  | v :: vs, h => by
    unfold restR
    rw [set_none fun e => h (by rw [e]; exact List.mem_cons_self)]
    exact restR_at fun m => h (List.mem_cons_of_mem _ m)
theorem restR_in {ρ0 ρ : Rho} {i : Nat} {x : SV} : ∀ {vs : List Nat}, i ∈ vs → (restR ρ0 ρ vs)[i]? = some (some x) → ρ0[i]? = some (some x)
  | v :: vs, h, e => by
    unfold restR at e
    by_cases c : i = v
    · subst c
      have := (set_at e).1
      cases q : ρ0[i]? with
      | none => rw [q] at this; cases this
      | some y => rw [q] at this; exact congrArg some this
    · rw [set_none c] at e
      exact restR_in ((List.mem_cons.mp h).resolve_left c) e
theorem okW_in {ρ : Rho} {i : Nat} {x : SV} : ∀ {vs : List Nat}, okW ρ vs = true → i ∈ vs → ρ[i]? = some (some x) → ∃ d, x = .val d
  | v :: vs, h, hi, e => by
    unfold okW at h
    rw [Bool.and_eq_true] at h
    by_cases c : i = v
    · subst c
      rw [e] at h
      cases x with
      | val d => exact ⟨d, rfl⟩
      | own d => cases h.1
      | gen n => cases h.1
    · exact okW_in h.2 ((List.mem_cons.mp hi).resolve_left c) e
theorem le_lc {wi : TI} {g : TG} {tt : TT} {te : TE} {vs : List Nat} {ui : UI} {ug : UG} {ut : UT} {ue : UE} (hi : LI GP K B wi ui) (hg : LG GP K B g ug) (hw : GW g vs) (ht : LT GP K B tt ut) (he : LE GP K B te ue) : LE GP K B (tLc wi g tt te vs) (uLc ui ug ut ue vs) := by
  intro H0 F0 γ0 _ γ σ H F ρ R Q r0 u0 h
  refine hi _ _ r0 u0 fun H1 F1 γ1 ρ1 J n G Y items r1 s1 wk hn hG hY q Dd1 nD => ?_
  have h0D : H0 Dd1 = none := r1.new0 nD
  have f1D : F1 Dd1 = none := Same.free r1.sub nD
  have ngD : ¬ GA GP γ0 Dd1 := r1.nga h0D
  obtain ⟨a, ea, o1, o2, o3, o4, o5⟩ := fr_new (o := .lst []) (d := .list []) r1 nD (.lst upd_same .nil)
  cases ea
  have rS := (r1.same (same_upd (o := .lst []) nD)).rebase.hold upd_same o2 o3 o4 o5
  obtain ⟨Pv, hPv⟩ : ∃ Pv : Nat → Hp → Prop, Pv = fun i H => ∃ γ F ρ accv acc, Rp GP K (upd H0 Dd1 (.lst accv)) F1 γ0 γ σ H F ρ ∧ DdL K F accv acc ∧ goLc ug ut ue vs (fun acc ρ2 => Q (.fr (.list acc)) ρ2) (items.drop i) acc ρ := ⟨_, rfl⟩
  refine lc_it wk Pv (by rw [hPv]; exact ⟨γ1, F1, ρ1, [], [], rS, .nil, by rw [List.drop_zero]; exact q⟩) (fun i H _ h => ?_) (fun i x H2 H3 hi' h2 y => ?_) (fun H2 h2 => ?_)
  all_goals (try rw [hPv] at h); (try rw [hPv] at h2)
  · obtain ⟨γ, F, ρ, _, _, r, _⟩ := h
    exact hG H (r.f0.trans r.sub)
  · obtain ⟨γ2, F2, ρ2, accv, acc, r2, da, q2⟩ := h2
    obtain ⟨d, hd, yd⟩ := hY i H2 x H3 F2 hi' r2.f0 r2.sub y
    haveI : FinerC GP K B (upd H0 Dd1 (.lst accv)) F1 γ0 := ⟨fun r => FinerC.fin ((r.letgo h0D f1D ngD (fun _ e => nomatch e)).1.unbase r1.f0 r1.fnew), FinerC.g (GP := GP) (K := K) H0 F0⟩
    have ei : items.drop i = d :: items.drop (i + 1) := by
      obtain ⟨a1, a2⟩ := List.getElem?_eq_some_iff.mp hd
      rw [← a2]
      exact List.drop_eq_getElem_cons a1
    rw [ei] at q2
    obtain ⟨okw, q2⟩ := q2
    obtain ⟨F3, r3, s3, d3⟩ := yd_ok r2 yd
    -- the block's own slots forgotten
    have rw3 : Rp GP K (upd H0 Dd1 (.lst accv)) F1 γ0 γ2 (wipe σ vs) H3 F3 (wipeR ρ2 vs) :=
      r3.back (vs := vs) (by rw [wipe_length, wipeR_len]; exact r3.len) (fun i hi => (wipe_at hi).symm) (fun i hi => wipeR_at hi) (fun i hi x e => absurd e (wipeR_in hi))
    -- behind a turn: the slots as they were
    have ret : ∀ {γ4 σ4 H4 F4 ρ4}, Rp GP K (upd H0 Dd1 (.lst accv)) F1 γ0 γ4 σ4 H4 F4 ρ4 → Same F3 F4 → Ons vs (wipe σ vs) σ4 → Rp GP K (upd H0 Dd1 (.lst accv)) F1 γ0 γ4 σ H4 F4 (restR ρ2 ρ4 vs) := by
      intro γ4 σ4 H4 F4 ρ4 r4 s4 hs
      refine r4.back (vs := vs) ?_ (fun i hi => by rw [hs.2 i hi, wipe_at hi]) (fun i hi => restR_at hi) (fun i hi x e => ?_)
      · rw [restR_len, ← r4.len, hs.1, wipe_length]
      · have e0 := restR_in hi e
        obtain ⟨d', rfl⟩ := okW_in okw hi e0
        obtain ⟨w, w1, w2⟩ := r3.val i d' e0
        exact ⟨d', w, rfl, w1, w2.same s4⟩
    refine hw _ _ _ (fun σ2 H2 => Ons vs (wipe σ vs) σ2 → tt σ2 H2 fun b H3 => if b = true then te σ2 H3 fun y H4 => ∃ acc, H4 Dd1 = some (.lst acc) ∧ acc.length < sizeLine ∧ Pv (i + 1) (upd H4 Dd1 (.lst (acc ++ [y]))) else Pv (i + 1) H3) _ (fun σ4 H4 q4 on4 => ⟨wipe_eq on4, q4 on4⟩) ?_
    refine hg _ _ rw3 d3 q2 fun σ4 H4 F4 γ4 ρ4 r4 s4 q4 on4 => ?_
    refine ht _ _ r4 q4 fun H5 F5 γ5 ρ5 b r5 s5 q5 => ?_
    split
    · rename_i c
      rw [if_pos c] at q5
      refine he _ _ r5 q5 fun H6 F6 γ6 ρ6 y x6 r6 s6 k6 q6 => ?_
      obtain ⟨F7, ρ7, d7, r7, s7, dd7, l7, q7⟩ := fz_ok r6 k6 q6
      have rr := ret r7 (s4.trans (s5.trans (s6.trans s7))) on4
      obtain ⟨rg, e1, e2, e3, e4⟩ := rr.letgo h0D f1D ngD (fun _ e => nomatch e)
      have da7 := da.same (s3.trans (s4.trans (s5.trans (s6.trans s7))))
      refine ⟨accv, e1, by rw [da.length]; exact l7, ?_⟩
      rw [hPv]
      refine ⟨γ6, F7, restR ρ2 ρ7 vs, accv ++ [y], acc ++ [d7], ?_, da7.append (.cons dd7 .nil), q7⟩
      exact (rg.poke (o := .lst (accv ++ [y])) e2 h0D e3 e4 (fun u hu => by rw [e1] at hu; cases hu; exact fun z => z ⟨nofun, nofun⟩)).hold upd_same e2 h0D e3 e4
    · rename_i c
      rw [if_neg c] at q5
      rw [hPv]
      exact ⟨γ5, F5, restR ρ2 ρ5 vs, accv, acc, ret r5 (s4.trans s5) on4, da.same (s3.trans (s4.trans s5)), q5⟩
  · obtain ⟨γ2, F2, ρ2, accv, acc, r2, da, q2⟩ := h2
    rw [← hn, List.drop_length] at q2
    obtain ⟨rg, e1, e2, e3, e4⟩ := r2.letgo h0D f1D ngD (fun _ e => nomatch e)
    exact h _ _ _ _ _ (.fr (.list acc)) (rg.unbase r1.f0 r1.fnew) (s1.trans rg.f0) ⟨Dd1, rfl, .lst e1 da, e2, h0D, e3, e4⟩ q2
/-! ### a def's body -/
def Wof (n : Nat) (u : US) : WD := fun as Q => u { nx := fun ρ => outQ (hasG as) Q .non ρ, rt := fun d ρ => outQ (hasG as) Q d ρ } (start0 n as)
section
variable {P : Program} {w : World} {mg : Str → Option Value} {base : Heap} {x : Str} {st : Stmt} {N ps : List Str} {k : Nat}
theorem out_ok {H H' F F' : Hp} {γ γ' : GAt} {σ' : L2.St} {ρ' : Rho} {as : List SV} {Q : QD} {d : D} {v : V} {R : VK} (hg : hasG as = γ.isSome) (r : Rp GP K H F γ γ' σ' H' F' ρ') (dd : Dd K F' v d) (o : outQ (hasG as) Q d ρ')
    (q : ∀ v H' F' γ' d m, LamX.Tabs GP.T H' → (∀ a o, H a = some o → ¬ GA GP γ a → H' a = some o) → (∀ a o, H a = some o → ∃ u, H' a = some u) → Same F F' → Same F' H' → (∀ a o, F' a = some o → F a = some o ∨ H a = none ∨ ∃ xs, o = .tup xs) → Dd K F' v d →
      GenAfter GP H H' F' γ γ' m → Q d m → R v H') : R v H' := by
  unfold outQ at o
  cases e : γ with
  | none =>
    rw [e] at hg
    rw [hg] at o
    exact q v H' F' γ' d none r.tabs r.keep r.tr r.f0 r.sub r.fnew dd e o
  | some p =>
    rw [e] at hg
    have hg' : hasG as = true := hg
    rw [hg', if_pos rfl] at o
    cases g : gN ρ' with
    | none => rw [g] at o; exact o.elim
    | some m =>
      rw [g] at o
      obtain ⟨i, hi⟩ := gN_at g
      obtain ⟨p', h1, h2, h3, h4⟩ := r.gen i m hi
      obtain ⟨q', g1, g2, g3, g4⟩ := r.g0 p e
      rw [h1] at g1
      cases g1
      obtain ⟨f1, f2⟩ := r.gf p' h1
      exact q v H' F' γ' d (some m) r.tabs r.keep r.tr r.f0 r.sub r.fnew dd ⟨p, p', e, h1, g2, g3, g4, h3, f1, f2⟩ o
theorem _root_.CD.Def.calD (D : Def K mg x st ps) (S : FnScope N ps (defScope st)) (u : US)
    (body : ∀ (f : Addr) (cdv : Value) (A : Around) (outer : List PySem.Env) (s : Shared) (H : Hp) (E : XK), A.guards = some [] → Room k (A.deeper (envOfC x (defScope st) s.heap.objs.size f cdv)) →
      ∃ t, PSs (cxOf CX0 P w K mg base N x (defScope st) f cdv A outer s H E).nox (defBody st) t ∧ ∀ B, LS GP K B t u) : CalG P w K mg base (k + 1) x ps (spL GP K ps.length (Wof N.length u)) := by
  refine D.calG S (fun vs H Q E h => spL_len h) fun f cdv A outer s H vs Q E hgd hr h => ?_
  obtain ⟨t, ht, hl⟩ := body f cdv A outer s H E hgd hr
  refine ⟨t, ht, ?_⟩
  obtain ⟨F, γ, as, Qd, h1, h2, h3, h4, h5, h6, hT, h7, h8⟩ := h
  have hn : vs.length ≤ N.length := by
    have := congrArg List.length S.pre
    rw [List.length_take] at this
    rw [h2.length, h5]
    omega
  have r := start_rp (N := N) h1 h2 h3 h4 h6 hT hn
  haveI : FinerC GP K (H, F, γ) H F γ := ⟨id, rfl⟩
  refine hl (H, F, γ) _ _ r h7 (fun σ' H' F' γ' ρ' r' q' => ?_) (fun _ _ _ _ _ _ q' => q'.elim) (fun _ _ _ _ _ _ q' => q'.elim) (fun σ' v H' F' γ' ρ' d r' dd q' => ?_)
  · exact out_ok h3 r' Dd.non q' fun v H' F' γ' d m a0 a1 a2 a3 a4 a5 a6 a7 a8 => h8 v H' F' _ d m a0 a1 a2 a3 a4 a5 a6 a7 a8
  · exact out_ok h3 r' dd q' fun v H' F' γ' d m a0 a1 a2 a3 a4 a5 a6 a7 a8 => h8 v H' F' _ d m a0 a1 a2 a3 a4 a5 a6 a7 a8
/-- the law's: no draws ahead of it -/
theorem _root_.CD.Def.calDL (D : Def K mg x st ps) (S : FnScope N ps (defScope st)) (u : US)
    (body : ∀ (f : Addr) (cdv : Value) (A : Around) (outer : List PySem.Env) (s : Shared) (H : Hp) (E : XK), A.guards = some [] → Room k (A.deeper (envOfC x (defScope st) s.heap.objs.size f cdv)) →
      ∃ t, PSs (cxOf CX0 P w K mg base N x (defScope st) f cdv A outer s H E).nox (defBody st) t ∧ ∀ B, B.2.2 = none → LS GP K B t u) : CalG P w K mg base (k + 1) x ps (spL GP K ps.length fun as Q => hasG as = false ∧ Wof N.length u as Q) := by
  refine D.calG S (fun vs H Q E h => spL_len h) fun f cdv A outer s H vs Q E hgd hr h => ?_
  obtain ⟨t, ht, hl⟩ := body f cdv A outer s H E hgd hr
  refine ⟨t, ht, ?_⟩
  obtain ⟨F, γ, as, Qd, h1, h2, h3, h4, h5, h6, hT, ⟨h0, h7⟩, h8⟩ := h
  have hn : vs.length ≤ N.length := by
    have := congrArg List.length S.pre
    rw [List.length_take] at this
    rw [h2.length, h5]
    omega
  have r := start_rp (N := N) h1 h2 h3 h4 h6 hT hn
  have g0 : γ = none := by
    rw [h0] at h3
    cases γ with
    | none => rfl
    | some _ => cases h3
  haveI : FinerC GP K (H, F, γ) H F γ := ⟨id, rfl⟩
  refine hl (H, F, γ) g0 _ _ r h7 (fun σ' H' F' γ' ρ' r' q' => ?_) (fun _ _ _ _ _ _ q' => q'.elim) (fun _ _ _ _ _ _ q' => q'.elim) (fun σ' v H' F' γ' ρ' d r' dd q' => ?_)
  · exact out_ok h3 r' Dd.non q' fun v H' F' γ' d m a0 a1 a2 a3 a4 a5 a6 a7 a8 => h8 v H' F' _ d m a0 a1 a2 a3 a4 a5 a6 a7 a8
  · exact out_ok h3 r' dd q' fun v H' F' γ' d m a0 a1 a2 a3 a4 a5 a6 a7 a8 => h8 v H' F' _ d m a0 a1 a2 a3 a4 a5 a6 a7 a8
/-- less asked -/
theorem CalG.impD {n : Nat} {W W' : WD} (C : CalG P w K mg base k x ps (spL GP K n W)) (h : ∀ as Q, W' as Q → W as Q) : CalG P w K mg base k x ps (spL GP K n W') := by
  obtain ⟨f, fd, G, r⟩ := C
  refine ⟨f, fd, ⟨fun vs H Q E q => ?_, fun A outer s H args us vs Q E hg hr e0 hb r q => ?_⟩, r⟩
  · obtain ⟨F, γ, as, Qd, h1, h2, h3, h4, h5, h6, hT, h7, h8⟩ := q
    exact G.len vs H Q E ⟨F, γ, as, Qd, h1, h2, h3, h4, h5, h6, hT, h _ _ h7, h8⟩
  · obtain ⟨F, γ, as, Qd, h1, h2, h3, h4, h5, h6, hT, h7, h8⟩ := q
    exact G.run A outer s H args us vs Q E hg hr e0 hb r ⟨F, γ, as, Qd, h1, h2, h3, h4, h5, h6, hT, h _ _ h7, h8⟩
end
end DL
set_option maxHeartbeats 3200000
/-! own rules 6: set(l), l a list of ints, with its ledger; sorted(set(l)) -/
namespace CD
open PySem PySem.Spec PyProof.Rows L2
def newSet (w : World) : Obj := { cls := .type "set", dict := none, data := .set #[] 0 (.fresh 0 0 (!w.params.followText "set-order")) }
section
variable {P : Program} {w : World} {A : Around} {E : Value → Shared → Prop} {s : Shared}
theorem new_set (a : Value) {Q : Value → Shared → Prop} (h : Q (.ref s.heap.objs.size) { s with heap := s.heap.push (newSet w) }) : codeAny (model P w) A (.call (.builtin "set.__new__") ⟨[.type "set", a], []⟩) (wants Q E) s := code_set_led1 a h
/-- the loop of set(l), over the new iterator -/
theorem fill_set {l : Addr} {its : Array Value} (ns : List Int) {h0 : Heap} {R : Result → Shared → Prop} (hh : A.handled = none) (hl : h0.IsList l its) (hi : IntsAre its.toList ns) (hb : ns.length + 1 < scanBound) (hs : s.heap = ((h0.push (newSet w)).push { cls := .type "list_iterator", data := .fields #[.ref l, .int 0 0] }))
    (h : ∀ s' c, (∀ b o, h0.get? b = some o → s'.heap.get? b = some o) → s'.gens = s.gens → s'.drawn = s.drawn → s'.os = s.os → c ≤ ns.length → SetR w s'.heap h0.objs.size (fun j => decide (j ∈ ns)) c → R (.ok (.ret .none)) s') :
    codeAny (model P w) A (.builtin "set.update.loop" ⟨[.ref h0.objs.size, .ref (h0.push (newSet w)).objs.size], []⟩) R s := by
  rw [show (h0.push (newSet w)).objs.size = h0.objs.size + 1 from Heap.size_push ..]
  have hsz : its.size = ns.length := by
    have q := IntsAre.length hi
    rwa [Array.length_toList] at q
  have z1 : (h0.push (newSet w)).objs.size = h0.objs.size + 1 := Heap.size_push ..
  have hll : l < h0.objs.size := by
    obtain ⟨o, ho, _⟩ := hl
    exact Heap.lt_size ho
  have n1 : l ≠ h0.objs.size + 1 := Nat.ne_of_lt (Nat.lt_succ_of_lt hll)
  have n2 : h0.objs.size ∉ [h0.objs.size + 1, l] := by
    intro m
    rcases List.mem_cons.mp m with e | e
    · exact absurd e (Nat.ne_of_lt (Nat.lt_succ_self _))
    · exact absurd (List.mem_singleton.mp e) (Nat.ne_of_gt hll)
  have g0 : s.heap.get? h0.objs.size = some (newSet w) := by
    rw [hs]
    exact Heap.get?_push_of_some _ (Heap.get?_push_size _ rfl)
  have g1 : s.heap.get? (h0.objs.size + 1) = some { cls := .type "list_iterator", data := .fields #[.ref l, .int 0 0] } := by
    rw [hs, ← z1]
    exact Heap.get?_push_size _ rfl
  have val : ∀ (i : Nat) (v : Value), its[i]? = some v → ∃ k t, ns[i]? = some k ∧ v = .int k t := fun i v hv => by
    have b : i < ns.length := by
      rw [← hsz]
      exact (Array.getElem?_eq_some_iff.mp hv).1
    have q := IntsAre.int_at hi i v (by rw [Array.getElem?_toList]; exact hv)
    obtain ⟨t, e⟩ := q
    rw [List.getD_eq_getElem?_getD, List.getElem?_eq_getElem b] at e
    exact ⟨ns[i], t, List.getElem?_eq_getElem b, e⟩
  have hl2 : s.heap.IsList l its := by
    rw [hs]
    exact (hl.push _).push _
  refine set_update_ints ((Walks.list (by simp [hh]) (h0.objs.size + 1) l n1 its).toS) h0.objs.size n2 ns hsz hb val its.size 0 s (by omega) (Nat.zero_le _) ⟨⟨_, g1, rfl, rfl⟩, hl2⟩ ⟨0, Nat.le_refl 0, setR_new_at g0⟩ fun s' c hm hc hS => ?_
  refine h s' c (fun b o e => ?_) hm.gens hm.drawn hm.os (by omega) hS
  have bl := Heap.lt_size e
  refine hm.heap b o (fun m => ?_) (by rw [hs]; exact Heap.get?_push_of_some _ (Heap.get?_push_of_some _ e))
  rcases List.mem_cons.mp m with x | x
  · exact absurd x (Nat.ne_of_lt bl)
  · rcases List.mem_cons.mp x with y | y
    · exact absurd y (Nat.ne_of_lt (Nat.lt_succ_of_lt bl))
    · cases y
theorem call_set_lst {l : Addr} {its : Array Value} (ns : List Int) {Q : Value → Shared → Prop} (hh : A.handled = none) (hl : s.heap.IsList l its) (hi : IntsAre its.toList ns) (hb : ns.length + 1 < scanBound)
    (h : ∀ (h' : Heap) (tk c : Nat), SetR w h' s.heap.objs.size (fun j => decide (j ∈ ns)) c → c ≤ ns.length → (∀ b o, s.heap.get? b = some o → h'.get? b = some o) → Q (.ref s.heap.objs.size) { s with heap := h', toks := tk }) :
    wpAny (model P w) A (call (.type "set") [.ref l]) Q E s := by
  have f1 := PySem.F.called_set.made
  have f2 := PySem.F.called_set.sub
  obtain ⟨f3, f4, f5⟩ := PySem.F.called_set.mro
  have f6 := PySem.F.called_set.notType
  have f7 := PySem.F.called_set.canCreate
  have f8 := PySem.F.typeCall_set_1 (.ref l)
  refine wpAny_call (codeAny_of_tree ?_)
  show wpAny _ _ (callAny (.type "set") _) _ _ _
  refine wpAny_pure ⟨Code.quiet_builtin _ (by decide +kernel), codeAny_builtin PySem.F.entry_type_call ?_⟩
  rw [Around.under_plain (weight_type_call_type "set" [.ref l] []) rfl]
  repeat any_goals first | assumption | wp_step
  refine codeAny_mono (new_set (.ref l) (E := E) (Q := fun obj t => obj = .ref s.heap.objs.size ∧ t = { s with heap := s.heap.push (newSet w) }) ⟨rfl, rfl⟩) fun r t hr => ?_
  match r, hr with
  | .error _, hr => exact hr
  | .ok .next, hr => exact hr.elim
  | .ok .brk, hr => exact hr.elim
  | .ok .cont, hr => exact hr.elim
  | .ok (.ret obj), hr =>
    obtain ⟨rfl, rfl⟩ := hr
    have gS : (s.heap.push (newSet w)).get? s.heap.objs.size = some (newSet w) := Heap.get?_push_size _ rfl
    have tS : Shared.TypeIs { s with heap := s.heap.push (newSet w) } (.ref s.heap.objs.size) "set" := ⟨_, gS, rfl⟩
    have f9 := PySem.F.called_set.init.lookup
    have f10 := PySem.F.called_set.init.bind (.ref s.heap.objs.size)
    repeat any_goals first | assumption | wp_step
    refine codeAny_mono (codeAny_call_builtin (R := wants (fun u t => u = .none ∧ ∃ h' tk c, t = { s with heap := h', toks := tk } ∧ SetR w h' s.heap.objs.size (fun j => decide (j ∈ ns)) c ∧ c ≤ ns.length ∧ ∀ b o, s.heap.get? b = some o → h'.get? b = some o) E)
      PySem.F.called_set.init.plain PySem.F.entry_set_init (check_set_init_1 tS ?_)) fun r2 t2 hr2 => ?_
    · have g1 := PySem.F.sub_list_set
      have g2 := PySem.F.sub_list_frozenset
      have g3 : (Value.type "list" == Value.type "dict") = false := by decide
      have hl2 : (s.heap.push (newSet w)).IsList l its := hl.push _
      obtain ⟨ob, hob, hcl, en, hda⟩ := id hl2
      obtain ⟨oc, odi, oda, osl⟩ := ob
      dsimp only at hcl hda
      subst hcl hda
      unfold Builtin.«set.__init__» noKeywords Builtin.Frozenset.updateFrom
      generalize hpi : pyIter = pi
      wp_walk
      subst hpi
      refine wpAny_pyIter_list hl2 (wpAny_bind (wpAny_runValue ?_))
      refine fill_set ns (h0 := s.heap) (by simp [hh]) hl hi hb rfl fun t c k e1 e2 e3 hc hS => ?_
      obtain ⟨th, tg, td, tt, tos⟩ := t
      dsimp only at e1 e2 e3 hS k
      subst e1 e2 e3
      show wpAny _ _ _ _ _ _
      refine wpAny_pure ?_
      show wpAny _ _ (ret Value.none) _ _ _
      exact wpAny_pure ⟨rfl, th, tt, c, rfl, hS, hc, k⟩
    · match r2, hr2 with
      | .error _, hr2 => exact hr2
      | .ok .next, hr2 => exact hr2.elim
      | .ok .brk, hr2 => exact hr2.elim
      | .ok .cont, hr2 => exact hr2.elim
      | .ok (.ret u), hr2 =>
        obtain ⟨rfl, h', tk, c, rfl, hS, hc, hk⟩ := hr2
        repeat any_goals first | assumption | wp_step
        exact h _ _ _ hS hc hk
end
section
variable {X : Cx}
/-- set(l), l a list of ints -/
def rSetLs (K : PySem.W.Frag) (w : World) : List V → Hp → VK → Prop := fun vs H Q => ∃ (a : Addr) (ns : List Int), vs = [V.ref a] ∧ SqL K H a (ns.map V.int) ∧ ns.length ≤ 1000 ∧ ∀ p c, H p = none → c ≤ ns.length → Q (.ref p) (upd H p (SetO w p (fun j => decide (j ∈ ns)) c))
theorem cr_setLs (hc : X.calm = true) : CallR X (.type "set") (rSetLs X.K X.w) := by
  intro pins s σ H vs us Q I r h
  obtain ⟨a, ns, rfl, hs, hz, q⟩ := h
  obtain ⟨its, rv, hl, _⟩ := I.list hs
  rw [Vals.ref1 r]
  exact call_set_lst ns (I.ok.hd hc) hl.isList rv.ints (by unfold scanBound; omega) fun h' tk c hS hcl hk => ⟨.ref _, upd H s.heap.objs.size (SetO X.w s.heap.objs.size (fun j => decide (j ∈ ns)) c), I.laid (t' := tk) hk (Nat.le_refl _) (setO_new hS), rfl, q _ c (I.hok.fresh (Nat.le_refl _)) hcl⟩
end
end CD
set_option maxHeartbeats 1000000
/-! own rules 7: enumerate(t), t a tuple -/
namespace CD
open PySem PySem.Spec PyProof.Rows L2
theorem new_enum {v : Value} {o : Obj} {H0 : Heap → Prop} (B : Begins v o H0) :
    Meets (Builtin.«enumerate.__new__» ⟨[.type "enumerate", v], []⟩) (fun _ R s => H0 s.heap ∧ R (.ok (.ret (.ref (s.heap.push o).objs.size)))
      { s with heap := (s.heap.push o).push { cls := .type "enumerate", data := .fields #[.none, .bool false, .ref s.heap.objs.size, rawInt 0, .none, .none] } }) :=
  .of_wp fun prog w A R s hh => by
    obtain ⟨hp, g, d, tk, os⟩ := s
    obtain ⟨h0, hR⟩ := hh
    have sub := sub_enumerate
    have it : ∀ {A' : Around} {E Q : Value → Shared → Prop}, Q (.ref hp.objs.size) ⟨hp.push o, g, d, tk, os⟩ → wpAny (model prog w) A' (pyIter v) Q E ⟨hp, g, d, tk, os⟩ := fun q => B.iter prog w _ _ ⟨hp, g, d, tk, os⟩ _ h0 q
    wp_walk using it
    refine wpAny_stack_any fun below => wpAny_pure ?_
    split
    · rename_i cl _ _ _ _ _
      cases (cl == Value.type "enumerate") <;>
      · wp_walk using it
        exact ⟨_, rfl, hR⟩
    · wp_walk using it
      exact ⟨_, rfl, hR⟩
section
variable {prog : Program} {w : World} {A : Around} {E : Value → Shared → Prop} {s : Shared}
theorem enum_of {v : Value} {o : Obj} {H0 : Heap → Prop} {Q : Value → Shared → Prop} (B : Begins v o H0) (h0 : H0 s.heap)
    (h : ∀ h', IsEnum h' (s.heap.objs.size + 1) s.heap.objs.size 0 .none → h'.get? s.heap.objs.size = some o → (∀ b u, s.heap.get? b = some u → h'.get? b = some u) → Q (.ref (s.heap.objs.size + 1)) { s with heap := h' }) :
    wpAny (model prog w) A (call (.type "enumerate") [v]) Q E s := by
  have sz : (s.heap.push o).objs.size = s.heap.objs.size + 1 := Heap.size_push ..
  refine callType_new F.called_enumerate (by decide) (F.typeCall_enumerate_1 _) (F.newCall_enumerate_1 _) (fun x => F.args_object_init_2 x _) F.entry_enumerate_new (new_enum B) ⟨h0, ?_⟩
  show _ ∧ _
  rw [sz]
  have ie : IsEnum ((s.heap.push o).push { cls := .type "enumerate", data := .fields #[.none, .bool false, .ref s.heap.objs.size, rawInt 0, .none, .none] }) (s.heap.objs.size + 1) s.heap.objs.size 0 .none := by
    have z := Heap.get?_push_size (s.heap.push o) (o := { cls := .type "enumerate", data := .fields #[.none, .bool false, .ref s.heap.objs.size, rawInt 0, .none, .none] }) rfl
    rwa [sz] at z
  exact ⟨⟨_, ie, rfl⟩, h _ ie (Heap.get?_push_of_some _ (Heap.get?_push_size _ B.free)) fun b u x => Heap.get?_push_of_some _ (Heap.get?_push_of_some _ x)⟩
end
def iEnum1 (K : PySem.W.Frag) (ta : TA) : TI := fun σ H R => ta σ H fun vs H1 => ∃ a xs, vs = [.ref a] ∧ SqT K H1 a xs ∧ R (IteT K a 0) H1
theorem pi_enum1 {X : Cx} {e : Expr} {ta : TA} {p pos tpos : Pos} {elts : List Expr} {kk : Nat} (hg : Gl X "enumerate") (hm : X.mg "enumerate" = none) (ha : PA X [e] ta) (hs : starEach [e] X.env = [(false, eval e X.env)] := by rfl) :
    PI X (.Tuple elts kk tpos) (.Call (.Name "enumerate" p) [e] [] pos) (iEnum1 X.K ta) := by
  refine ⟨fun pins s σ H R I h => ?_⟩
  refine Call_ (ld_blt I hg hm boot_enumerate (PyProof.Rows.callWith_type1 (thn (ha.run pos pins s σ H _ I h) fun us s2 ⟨vs, H2, I2, r1, q1⟩ => ?_) hs rfl))
  obtain ⟨a, xs, rfl, hq, q⟩ := q1
  obtain rfl := Vals.ref1 r1
  obtain ⟨its, rv, pt, hz⟩ := I2.tuple hq
  refine enum_of (PySem.begins_tuple a its.toArray) (show s2.heap.IsTuple a its.toArray from pt) fun h' he hit hkeep => wpAny_pyIter_enum he ?_
  have I3 : Inv X pins σ H2 { s2 with heap := h' } := I2.kept (t' := s2.toks) hkeep
  have hit0 : h'.IsTupleIter s2.heap.objs.size a 0 := ⟨_, hit, rfl, rfl⟩
  refine ⟨s2.heap.objs.size + 1, [s2.heap.objs.size + 1, s2.heap.objs.size], _, _, H2, rfl, I3, turn_enumT a (s2.heap.objs.size + 1) s2.heap.objs.size 0, ?_, fun b hb => ?_, q⟩
  · exact ⟨⟨.none, he⟩, hit0, Nat.succ_ne_self _⟩
  · have hle : s2.heap.objs.size ≤ b := by
      rcases (by simpa using hb : b = s2.heap.objs.size + 1 ∨ b = s2.heap.objs.size) with z | z
      · rw [z]; exact Nat.le_succ _
      · rw [z]; exact Nat.le_refl _
    exact I2.fpOk hle (I2.hok.fresh hle)
end CD
set_option maxHeartbeats 400000
/-! lifted readings 5: operators, built-ins, methods -/
namespace DL
open PySem PySem.Spec PyProof.Rows L2 CD
variable {GP : GenP} {K : PySem.W.Frag}
variable {B : Hp × Hp × GAt}
/-! ### == of scalars -/
def scD : D → D → Option Bool
  | .non, .non => some true | .non, .int _ => some false | .int _, .non => some false | .non, .bl _ => some false | .bl _, .non => some false | .non, .str _ => some false | .str _, .non => some false
  | .int i, .int j => some (decide (i = j)) | .bl i, .bl j => some (decide (i = j)) | .str i, .str j => some (decide (i = j))
  | .int _, .str _ => some false | .str _, .int _ => some false | .bl _, .str _ => some false | .str _, .bl _ => some false
  | _, _ => none
def pEq : P2 := fun x y Q => match scD x y with
  | some b => Q (.val (.bl b))
  | none => False
def pNe : P2 := fun x y Q => match scD x y with
  | some b => Q (.val (.bl (!b)))
  | none => False
theorem sc_ok {F H : Hp} {x y : V} {dx dy : D} {b : Bool} (c1 : Cnt K F H x dx) (c2 : Cnt K F H y dy) (e : scD dx dy = some b) : scal x y = true ∧ decide (x = y) = b := by
  cases dx <;> cases dy <;> first
    | (cases e; done)
    | (have e1 := c1.int; have e2 := c2.int; subst e1; subst e2; cases e; exact ⟨rfl, by simp⟩)
    | (have e1 := c1.non; have e2 := c2.non; subst e1; subst e2; cases e; exact ⟨rfl, by simp⟩)
    | (have e1 := c1.bl; have e2 := c2.bl; subst e1; subst e2; cases e; exact ⟨rfl, by simp⟩)
    | (have e1 := c1.str; have e2 := c2.str; subst e1; subst e2; cases e; exact ⟨rfl, by simp⟩)
    | (have e1 := c1.non; have e2 := c2.int; subst e1; subst e2; cases e; exact ⟨rfl, by simp⟩)
    | (have e1 := c1.int; have e2 := c2.non; subst e1; subst e2; cases e; exact ⟨rfl, by simp⟩)
    | (have e1 := c1.non; have e2 := c2.bl; subst e1; subst e2; cases e; exact ⟨rfl, by simp⟩)
    | (have e1 := c1.bl; have e2 := c2.non; subst e1; subst e2; cases e; exact ⟨rfl, by simp⟩)
    | (have e1 := c1.non; have e2 := c2.str; subst e1; subst e2; cases e; exact ⟨rfl, by simp⟩)
    | (have e1 := c1.str; have e2 := c2.non; subst e1; subst e2; cases e; exact ⟨rfl, by simp⟩)
    | (have e1 := c1.int; have e2 := c2.str; subst e1; subst e2; cases e; exact ⟨rfl, by simp⟩)
    | (have e1 := c1.str; have e2 := c2.int; subst e1; subst e2; cases e; exact ⟨rfl, by simp⟩)
    | (have e1 := c1.bl; have e2 := c2.str; subst e1; subst e2; cases e; exact ⟨rfl, by simp⟩)
    | (have e1 := c1.str; have e2 := c2.bl; subst e1; subst e2; cases e; exact ⟨rfl, by simp⟩)
theorem lr_eq : LR K rEq pEq := by
  intro F H x y dx dy R Q s c1 c2 p h
  unfold pEq at p
  cases e : scD dx dy with
  | none => rw [e] at p; exact p.elim
  | some b =>
    rw [e] at p
    obtain ⟨z1, z2⟩ := sc_ok c1 c2 e
    exact ⟨z1, by rw [z2]; exact h _ _ (.val _) (Same.refl _) (Dd.bl b) p⟩
theorem lr_ne : LR K rNe pNe := by
  intro F H x y dx dy R Q s c1 c2 p h
  unfold pNe at p
  cases e : scD dx dy with
  | none => rw [e] at p; exact p.elim
  | some b =>
    rw [e] at p
    obtain ⟨z1, z2⟩ := sc_ok c1 c2 e
    exact ⟨z1, by rw [z2]; exact h _ _ (.val _) (Same.refl _) (Dd.bl _) p⟩
/-- x is None -/
def isNon : D → Bool
  | .non => true
  | _ => false
def pIsN : P2 := fun x y Q => match y with
  | .non => Q (.val (.bl (isNon x)))
  | _ => False
def pNotN : P2 := fun x y Q => match y with
  | .non => Q (.val (.bl (!isNon x)))
  | _ => False
theorem isNon_ok {F H : Hp} {x : V} {dx : D} (c : Cnt K F H x dx) : decide (x = .non) = isNon dx := by
  rcases c with h | ⟨a, rfl, h⟩ | ⟨_, _, _, rfl, rfl, _⟩
  · cases h <;> first | rfl | exact decide_eq_false (fun e => nomatch e)
  · cases h <;> exact decide_eq_false (fun e => nomatch e)
  · exact decide_eq_false (fun e => nomatch e)
theorem lr_isN : LR K (fun x y H Q => y = .non ∧ Q (.bl (decide (x = .non))) H) pIsN := by
  intro F H x y dx dy R Q s c1 c2 p h
  unfold pIsN at p
  split at p
  · exact ⟨c2.non, by rw [isNon_ok c1]; exact h _ _ (.val _) (Same.refl _) (Dd.bl _) p⟩
  · exact p.elim
theorem lr_notN : LR K (fun x y H Q => y = .non ∧ Q (.bl (!decide (x = .non))) H) pNotN := by
  intro F H x y dx dy R Q s c1 c2 p h
  unfold pNotN at p
  split at p
  · exact ⟨c2.non, by rw [isNon_ok c1]; exact h _ _ (.val _) (Same.refl _) (Dd.bl _) p⟩
  · exact p.elim
/-! ### data as data -/
mutual
inductive PyOf : D → PyData → Prop
  | non : PyOf .non .none
  | bl (b : Bool) : PyOf (.bl b) (.bool b)
  | int (i : Int) : PyOf (.int i) (.int i)
  | str (x : Str) : PyOf (.str x) (.str x)
  | list {ds : List D} {ps : List PyData} : PyOfL ds ps → PyOf (.list ds) (.list ps)
  | tup {ds : List D} {ps : List PyData} : PyOfL ds ps → PyOf (.tup ds) (.tuple ps)
inductive PyOfL : List D → List PyData → Prop
  | nil : PyOfL [] []
  | cons {d : D} {ds : List D} {p : PyData} {ps : List PyData} : PyOf d p → PyOfL ds ps → PyOfL (d :: ds) (p :: ps)
end
section
variable {F H : Hp}
mutual
theorem Dd.dp (s : Same F H) : ∀ {d : D} {p : PyData}, PyOf d p → ∀ {v : V}, Dd K F v d → Dp K H v p
  | _, _, .non, _, h => by cases h; exact .non
  | _, _, .bl b, _, h => by cases h; exact .bl b
  | _, _, .int i, _, h => by cases h; exact .int i
  | _, _, .str x, _, h => by cases h; exact .str x
  | _, _, .list q, _, h => by
    cases h with
    | lst h g => exact .lst (.inl (.inl (s _ _ h))) (DdL.dp s q g)
  | _, _, .tup q, _, h => by
    cases h with
    | tup h g => exact .tup (.inl (.inl (s _ _ h))) (DdL.dp s q g)
theorem DdL.dp (s : Same F H) : ∀ {d : List D} {p : List PyData}, PyOfL d p → ∀ {v : List V}, DdL K F v d → DpAll K H v p
  | _, _, .nil, _, h => by cases h; exact .nil
  | _, _, .cons q r, _, h => by
    cases h with
    | cons h g => exact .cons (Dd.dp s q h) (DdL.dp s r g)
end
theorem Cnt.dp {v : V} {d : D} {p : PyData} (s : Same F H) (c : Cnt K F H v d) (q : PyOf d p) : Dp K H v p := by
  rcases c with h | ⟨a, rfl, h⟩ | ⟨a, xs, ds, rfl, rfl, h, g⟩
  · exact Dd.dp s q h
  · cases h with
    | lst h g =>
      cases q with
      | list q => exact .lst (.inl (.inl h)) (DdL.dp s q g)
    | dK _ _ => cases q
    | dT _ _ => cases q
    | set _ _ _ _ => cases q
  · cases q with
    | tup q => exact .tup ((same_none H).tup h) (DdL.dp (same_none H) q g)
end
theorem PyOfL.ints : ∀ ns : List Int, PyOfL (ns.map D.int) (ns.map PyData.int)
  | [] => .nil
  | n :: r => .cons (.int n) (PyOfL.ints r)
def pEqD : P2 := fun x y Q => ∃ p q, PyOf x p ∧ PyOf y q ∧ SeqAt.shaped p = true ∧ SeqAt.shaped q = true ∧ Q (.val (.bl (PyData.eqv p q)))
def pNeD : P2 := fun x y Q => ∃ p q, PyOf x p ∧ PyOf y q ∧ SeqAt.shaped p = true ∧ SeqAt.shaped q = true ∧ Q (.val (.bl (!PyData.eqv p q)))
theorem lr_eqD : LR K (rEqD K) pEqD := by
  intro F H x y dx dy R Q s c1 c2 p h
  obtain ⟨p, q, h1, h2, h3, h4, h5⟩ := p
  exact ⟨p, q, c1.dp s h1, c2.dp s h2, h3, h4, h _ _ (.val _) (Same.refl _) (Dd.bl _) h5⟩
theorem lr_neD : LR K (rNeD K) pNeD := by
  intro F H x y dx dy R Q s c1 c2 p h
  obtain ⟨p, q, h1, h2, h3, h4, h5⟩ := p
  exact ⟨p, q, c1.dp s h1, c2.dp s h2, h3, h4, h _ _ (.val _) (Same.refl _) (Dd.bl _) h5⟩
structure RepOk (d : PyData) : Prop where
  s : d.showable = true
  n : d.hasDict = false
  p : d.depth ≤ 60
  z : d.shown.length ≤ sizeLine
def pRepr : PN := fun ds Q => match ds with
  | [d] => ∃ p, PyOf d p ∧ RepOk p ∧ Q (.val (.str p.shown))
  | _ => False
/-! ### sequences -/
def pIxL : P2 := fun x y Q => match x, y with
  | .list ds, .int i => match atI ds i with
    | some d => Q (.val d)
    | none => False
  | _, _ => False
def pIxT : P2 := fun x y Q => match x, y with
  | .tup ds, .int i => match atI ds i with
    | some d => Q (.val d)
    | none => False
  | _, _ => False
theorem atI_dd {F : Hp} {xs : List V} {ds : List D} {i : Int} {d : D} (g : DdL K F xs ds) (e : atI ds i = some d) : ∃ v, atI xs i = some v ∧ Dd K F v d := by
  unfold atI at e ⊢
  rw [g.length]
  cases q : ixN ds.length i with
  | none => rw [q] at e; cases e
  | some j =>
    rw [q] at e
    exact g.get e
theorem lr_ixL : LR K (rIxL K) pIxL := by
  intro F H x y dx dy R Q s c1 c2 p h
  unfold pIxL at p
  split at p
  · rename_i ds i
    split at p
    · rename_i d e
      obtain ⟨a, xs, rfl, hx, g⟩ := c1.list s
      obtain ⟨v, e1, e2⟩ := atI_dd g e
      exact ⟨a, xs, i, v, rfl, c2.int, .inl (.inl hx), e1, h _ _ (.val _) (Same.refl _) e2 p⟩
    · exact p.elim
  · exact p.elim
theorem lr_ixT : LR K (rIxT K) pIxT := by
  intro F H x y dx dy R Q s c1 c2 p h
  unfold pIxT at p
  split at p
  · rename_i ds i
    split at p
    · rename_i d e
      obtain ⟨a, xs, rfl, hx, g⟩ := c1.tup s
      obtain ⟨v, e1, e2⟩ := atI_dd g e
      exact ⟨a, xs, i, v, rfl, c2.int, hx, e1, h _ _ (.val _) (Same.refl _) e2 p⟩
    · exact p.elim
  · exact p.elim
theorem cutV_dd {F : Hp} {xs : List V} {ds : List D} (l h : Option Int) (g : DdL K F xs ds) : DdL K F (cutV xs l h) ((ds.drop (HT.sIx ds.length 0 l)).take (HT.sIx ds.length ds.length h - HT.sIx ds.length 0 l)) := by
  unfold cutV
  rw [g.length]
  exact (g.drop _).take _
def cutD (ds : List D) (l h : Option Int) : List D := (ds.drop (HT.sIx ds.length 0 l)).take (HT.sIx ds.length ds.length h - HT.sIx ds.length 0 l)
def pSlL : PS3 := fun x l h Q => match x with
  | .list ds => Q (.fr (.list (cutD ds l h)))
  | _ => False
def pSlT : PS3 := fun x l h Q => match x with
  | .tup ds => Q (.fr (.tup (cutD ds l h)))
  | _ => False
theorem lsl_L : LSl K (rSlL K) pSlL := by
  intro F H x dx l hh R Q s k p h
  unfold pSlL at p
  split at p
  · rename_i ds
    obtain ⟨a, xs, rfl, hx, g⟩ := k.list s
    exact ⟨a, xs, rfl, .inl (.inl hx), fun p' np => h _ _ (.fr (.list _)) (same_upd np) ⟨p', rfl, np, .lst upd_same (cutV_dd l hh g)⟩ p⟩
  · exact p.elim
def pCat : P2 := fun x y Q => match x, y with
    | .list a, .list b => a.length + b.length ≤ sizeLine ∧ Q (.fr (.list (a ++ b)))
    | _, _ => False
theorem lr_cat : LR K rCat pCat := by
  intro F H x y dx dy R Q s c1 c2 p h
  unfold pCat at p
  split at p
  · obtain ⟨a, xs, rfl, hx, g⟩ := c1.list s
    obtain ⟨b, ys, rfl, hy, g'⟩ := c2.list s
    exact ⟨a, b, xs, ys, rfl, rfl, hx, hy, by rw [g.length, g'.length]; exact p.1, fun p' np => h _ _ (.fr (.list _)) (same_upd np) ⟨p', rfl, np, .lst upd_same (g.append g')⟩ p.2⟩
  · exact p.elim
theorem rep_dd {F : Hp} {xs : List V} {ds : List D} (g : DdL K F xs ds) : ∀ n : Nat, DdL K F (List.replicate n xs).flatten (List.replicate n ds).flatten
  | 0 => .nil
  | n + 1 => by
    rw [List.replicate_succ, List.replicate_succ, List.flatten_cons, List.flatten_cons]
    exact g.append (rep_dd g n)
def pRep : P2 := fun x y Q => match x, y with
    | .list a, .int k => -(2 ^ 63) ≤ k ∧ k < 2 ^ 63 ∧ a.length * k.toNat ≤ sizeLine ∧ Q (.fr (.list (List.replicate k.toNat a).flatten))
    | _, _ => False
theorem lr_rep : LR K rRep pRep := by
  intro F H x y dx dy R Q s c1 c2 p h
  unfold pRep at p
  split at p
  · obtain ⟨a, xs, rfl, hx, g⟩ := c1.list s
    obtain ⟨p1, p2, p3, p4⟩ := p
    exact ⟨a, _, xs, rfl, c2.int, hx, p1, p2, by rw [g.length]; exact p3, fun p' np => h _ _ (.fr (.list _)) (same_upd np) ⟨p', rfl, np, .lst upd_same (rep_dd g _)⟩ p4⟩
  · exact p.elim
/-- flat data in a list or tuple -/
def eqF : D → D → Option Bool
  | .non, .non => some true
  | .int i, .int j => some (i == j)
  | .str i, .str j => some (i == j)
  | .bl i, .bl j => some (i == j)
  | .non, .int _ => some false
  | .int _, .non => some false
  | .non, .str _ => some false
  | .str _, .non => some false
  | .int _, .str _ => some false
  | .str _, .int _ => some false
  | _, _ => none
/-- x in ys: y's against x -/
def inF (x : D) : List D → Option Bool
  | [] => some false
  | y :: ys => match eqF y x, inF x ys with
    | some a, some b => some (a || b)
    | _, _ => none
theorem eqF_ok {F : Hp} {x y : V} {dx dy : D} {b : Bool} (h1 : Dd K F x dx) (h2 : Dd K F y dy) (e : eqF dx dy = some b) : eqV x y = b ∧ flatV x = true ∧ flatV y = true := by
  cases h1 <;> cases h2 <;> first
    | (cases e; exact ⟨rfl, rfl, rfl⟩)
    | cases e
theorem inF_ok {F : Hp} {x : V} {dx : D} (h1 : Dd K F x dx) (fx : flatV x = true) : ∀ {ys : List V} {ds : List D} {b : Bool}, DdL K F ys ds → inF dx ds = some b → inV x ys = b ∧ ys.all flatV = true
  | _, _, b, .nil, e => by cases e; exact ⟨rfl, rfl⟩
  | _, _, b, .cons (v := v) (vs := vs) (d := d) (ds := ds) h g, e => by
    dsimp only [inF] at e
    cases q1 : eqF d dx with
    | none => rw [q1] at e; cases e
    | some a =>
      cases q2 : inF dx ds with
      | none => rw [q1, q2] at e; cases e
      | some c =>
        rw [q1, q2] at e
        cases e
        obtain ⟨z1, z2, z3⟩ := eqF_ok h h1 q1
        obtain ⟨z4, z5⟩ := inF_ok h1 fx g q2
        unfold inV at z4 ⊢
        rw [List.any_cons, z4, z1, List.all_cons, z2, z5]
        exact ⟨rfl, rfl⟩
def pIn (neg : Bool) : P2 := fun x y Q => flatD x = true ∧ match y with
  | .list ds => match inF x ds with
    | some b => Q (.val (.bl (if neg then !b else b)))
    | none => False
  | .tup ds => match inF x ds with
    | some b => Q (.val (.bl (if neg then !b else b)))
    | none => False
  | _ => False
theorem flat_cnt {F H : Hp} {x : V} {dx : D} (c : Cnt K F H x dx) (f : flatD dx = true) : Dd K F x dx ∧ flatV x = true := by
  cases dx with
  | non => rw [c.non]; exact ⟨.non, rfl⟩
  | bl b => rw [c.bl]; exact ⟨.bl b, rfl⟩
  | int i => rw [c.int]; exact ⟨.int i, rfl⟩
  | str i => rw [c.str]; exact ⟨.str i, rfl⟩
  | _ => cases f
theorem lr_in {neg : Bool} : LR K (rIn K neg) (pIn neg) := by
  intro F H x y dx dy R Q s c1 c2 p h
  obtain ⟨f, p⟩ := p
  obtain ⟨d1, f1⟩ := flat_cnt c1 f
  split at p
  · rename_i ds
    obtain ⟨a, xs, rfl, hx, g⟩ := c2.list s
    split at p
    · rename_i b e
      obtain ⟨z1, z2⟩ := inF_ok d1 f1 g e
      exact ⟨a, xs, rfl, .inl (.inl (.inl hx)), f1, z2, by rw [z1]; exact h _ _ (.val _) (Same.refl _) (Dd.bl _) p⟩
    · exact p.elim
  · rename_i ds
    obtain ⟨a, xs, rfl, hx, g⟩ := c2.tup s
    split at p
    · rename_i b e
      obtain ⟨z1, z2⟩ := inF_ok d1 f1 g e
      exact ⟨a, xs, rfl, .inr hx, f1, z2, by rw [z1]; exact h _ _ (.val _) (Same.refl _) (Dd.bl _) p⟩
    · exact p.elim
  · exact p.elim
/-! ### built-ins -/
theorem cl1 {F H : Hp} {vs : List V} {d : D} (c : CntL K F H vs [d]) : ∃ v, vs = [v] ∧ Cnt K F H v d := by
  cases vs with
  | nil => exact c.elim
  | cons v r =>
    cases r with
    | nil => exact ⟨v, rfl, c.1⟩
    | cons _ _ => exact c.2.elim
theorem cl2 {F H : Hp} {vs : List V} {d e : D} (c : CntL K F H vs [d, e]) : ∃ v w, vs = [v, w] ∧ Cnt K F H v d ∧ Cnt K F H w e := by
  cases vs with
  | nil => exact c.elim
  | cons v r =>
    cases r with
    | nil => exact c.2.elim
    | cons w r =>
      cases r with
      | nil => exact ⟨v, w, rfl, c.1, c.2.1⟩
      | cons _ _ => exact c.2.2.elim
theorem lb_repr : LB K (rRepr K) pRepr := by
  intro F H vs ds R Q s c p h
  unfold pRepr at p
  split at p
  · obtain ⟨v, rfl, k⟩ := cl1 c
    obtain ⟨q, h1, h2, h3⟩ := p
    exact ⟨v, q, rfl, k.dp s h1, h2.s, h2.n, h2.p, h2.z, h _ _ (.val _) (Same.refl _) (Dd.str _) h3⟩
  · exact p.elim
def pLen : PN := fun ds Q => match ds with
  | [.list xs] => Q (.val (.int xs.length))
  | [.tup xs] => Q (.val (.int xs.length))
  | [.scr xs] => Q (.val (.int xs.length))
  | _ => False
theorem lb_len : LB K (fun xs H Q => ∃ p ys, xs = [.ref p] ∧ (SqL K H p ys ∨ SqT K H p ys) ∧ Q (.int ys.length) H) pLen := by
  intro F H vs ds R Q s c p h
  unfold pLen at p
  split at p
  · obtain ⟨v, rfl, k⟩ := cl1 c
    obtain ⟨a, xs, rfl, hx, g⟩ := k.list s
    exact ⟨a, xs, rfl, .inl (.inl (.inl hx)), by rw [g.length]; exact h _ _ (.val _) (Same.refl _) (Dd.int _) p⟩
  · obtain ⟨v, rfl, k⟩ := cl1 c
    obtain ⟨a, xs, rfl, hx, g⟩ := k.tup s
    exact ⟨a, xs, rfl, .inr hx, by rw [g.length]; exact h _ _ (.val _) (Same.refl _) (Dd.int _) p⟩
  · obtain ⟨v, rfl, k⟩ := cl1 c
    obtain ⟨a, rfl, hx⟩ := k.scr s
    exact ⟨a, _, rfl, .inl hx, by rw [List.length_map]; exact h _ _ (.val _) (Same.refl _) (Dd.int _) p⟩
  · exact p.elim
def pTupOf : PN := fun ds Q => match ds with
  | [.list xs] => Q (.fr (.tup xs))
  | _ => False
theorem lb_tupOf : LB K (fun xs H Q => ∃ p ys, xs = [.ref p] ∧ ((SqL K H p ys ∧ ∀ l, H l = none → Q (.ref l) (upd H l (.tup ys))) ∨ (SqT K H p ys ∧ Q (.ref p) H))) pTupOf := by
  intro F H vs ds R Q s c p h
  unfold pTupOf at p
  split at p
  · obtain ⟨v, rfl, k⟩ := cl1 c
    obtain ⟨a, xs, rfl, hx, g⟩ := k.list s
    exact ⟨a, xs, rfl, .inl ⟨.inl (.inl hx), fun l nl => h _ _ (.fr (.tup _)) (same_upd nl) ⟨l, xs, rfl, nl, upd_same, g⟩ p⟩⟩
  · exact p.elim
def pListOf : PN := fun ds Q => match ds with
  | [.list xs] => Q (.fr (.list xs))
  | [.tup xs] => Q (.fr (.list xs))
  | [.scr ns] => Q (.fr (.list (ns.map D.int)))
  | _ => False
theorem lb_listOf : LB K (fun xs H Q => ∃ p ys, xs = [.ref p] ∧ (SqL K H p ys ∨ SqT K H p ys) ∧ ∀ l, H l = none → Q (.ref l) (upd H l (.lst ys))) pListOf := by
  intro F H vs ds R Q s c p h
  unfold pListOf at p
  split at p
  · obtain ⟨v, rfl, k⟩ := cl1 c
    obtain ⟨a, xs, rfl, hx, g⟩ := k.list s
    exact ⟨a, xs, rfl, .inl (.inl (.inl hx)), fun l nl => h _ _ (.fr (.list _)) (same_upd nl) ⟨l, rfl, nl, .lst upd_same g⟩ p⟩
  · obtain ⟨v, rfl, k⟩ := cl1 c
    obtain ⟨a, xs, rfl, hx, g⟩ := k.tup s
    exact ⟨a, xs, rfl, .inr hx, fun l nl => h _ _ (.fr (.list _)) (same_upd nl) ⟨l, rfl, nl, .lst upd_same g⟩ p⟩
  · obtain ⟨v, rfl, k⟩ := cl1 c
    obtain ⟨a, rfl, hx⟩ := k.scr s
    exact ⟨a, _, rfl, .inl hx, fun l nl => h _ _ (.fr (.list _)) (same_upd nl) ⟨l, rfl, nl, .lst upd_same (DdL.of_ints _)⟩ p⟩
  · exact p.elim
def pKeysOf : PN := fun ds Q => match ds with
  | [.dk kvs] => Q (.fr (.list (kvs.map fun kv => match kv.1 with
    | .inl i => D.int i
    | .inr x => D.str x)))
  | _ => False
theorem keys_dd {F : Hp} : ∀ {kvs : List (Key × V)} {ds : List (Key × D)}, DdK K F kvs ds → DdL K F (kvs.map fun kv => kV kv.1) (ds.map fun kv => match kv.1 with
    | .inl i => D.int i
    | .inr x => D.str x)
  | _, _, .nil => .nil
  | _, _, .cons (k := .inl i) _ g => .cons (.int i) (keys_dd g)
  | _, _, .cons (k := .inr x) _ g => .cons (.str x) (keys_dd g)
def pMax2 : PN := fun ds Q => match ds with
  | [.int i, .int j] => Q (.val (.int (if j > i then j else i)))
  | _ => False
def pMin2 : PN := fun ds Q => match ds with
  | [.int i, .int j] => Q (.val (.int (if j < i then j else i)))
  | _ => False
theorem lb_max2 : LB K (fun xs H Q => ∃ i j, xs = [.int i, .int j] ∧ Q (.int (if j > i then j else i)) H) pMax2 := by
  intro F H vs ds R Q s c p h
  unfold pMax2 at p
  split at p
  · obtain ⟨v, w, rfl, c1, c2⟩ := cl2 c
    exact ⟨_, _, by rw [c1.int, c2.int], h _ _ (.val _) (Same.refl _) (Dd.int _) p⟩
  · exact p.elim
theorem lb_min2 : LB K (fun xs H Q => ∃ i j, xs = [.int i, .int j] ∧ Q (.int (if j < i then j else i)) H) pMin2 := by
  intro F H vs ds R Q s c p h
  unfold pMin2 at p
  split at p
  · obtain ⟨v, w, rfl, c1, c2⟩ := cl2 c
    exact ⟨_, _, by rw [c1.int, c2.int], h _ _ (.val _) (Same.refl _) (Dd.int _) p⟩
  · exact p.elim
def pInt1 : PN := fun ds Q => match ds with
  | [.int i] => Q (.val (.int i))
  | [.bl k] => Q (.val (.int (if k then 1 else 0)))
  | _ => False
theorem lb_int1 : LB K (fun xs H Q => (∃ i, xs = [.int i] ∧ Q (.int i) H) ∨ ∃ k, xs = [.bl k] ∧ Q (.int (if k then 1 else 0)) H) pInt1 := by
  intro F H vs ds R Q s c p h
  unfold pInt1 at p
  split at p
  · obtain ⟨v, rfl, c1⟩ := cl1 c
    exact .inl ⟨_, by rw [c1.int], h _ _ (.val _) (Same.refl _) (Dd.int _) p⟩
  · obtain ⟨v, rfl, c1⟩ := cl1 c
    exact .inr ⟨_, by rw [c1.bl], h _ _ (.val _) (Same.refl _) (Dd.int _) p⟩
  · exact p.elim
def pDivmod : PN := fun ds Q => match ds with
  | [.int i, .int j] => CDiv i j ∧ Q (.fr (.tup [.int (i / j), .int (i % j)]))
  | _ => False
theorem lb_divmod : LB K (fun xs H Q => ∃ i j, xs = [.int i, .int j] ∧ CDiv i j ∧ ∀ p, H p = none → Q (.ref p) (upd H p (.tup [.int (i / j), .int (i % j)]))) pDivmod := by
  intro F H vs ds R Q s c p h
  unfold pDivmod at p
  split at p
  · obtain ⟨v, w, rfl, c1, c2⟩ := cl2 c
    exact ⟨_, _, by rw [c1.int, c2.int], p.1, fun l nl => h _ _ (.fr (.tup _)) (same_upd nl) ⟨l, _, rfl, nl, upd_same, .cons (.int _) (.cons (.int _) .nil)⟩ p.2⟩
  · exact p.elim
/-- a list of ints, of bools -/
def pSum : PN := fun ds Q => match ds with
  | [.list xs] => ∃ ns : List Int, xs = ns.map D.int ∧ Q (.val (.int ns.sum))
  | _ => False
theorem lb_sum : LB K (rSum K) pSum := by
  intro F H vs ds R Q s c p h
  unfold pSum at p
  split at p
  · obtain ⟨ns, rfl, p⟩ := p
    obtain ⟨v, rfl, k⟩ := cl1 c
    obtain ⟨a, xs, rfl, hx, g⟩ := k.list s
    rw [g.ints] at hx
    exact ⟨a, ns, rfl, .inl (.inl hx), h _ _ (.val _) (Same.refl _) (Dd.int _) p⟩
  · exact p.elim
def pMax : PN := fun ds Q => match ds with
  | [.list xs] => ∃ ns : List Int, xs = ns.map D.int ∧ 0 < ns.length ∧ ∀ m, m ∈ ns → (∀ y, y ∈ ns → y ≤ m) → Q (.val (.int m))
  | _ => False
def pMin : PN := fun ds Q => match ds with
  | [.list xs] => ∃ ns : List Int, xs = ns.map D.int ∧ 0 < ns.length ∧ ∀ m, m ∈ ns → (∀ y, y ∈ ns → m ≤ y) → Q (.val (.int m))
  | _ => False
theorem lb_max : LB K (rMax K) pMax := by
  intro F H vs ds R Q s c p h
  unfold pMax at p
  split at p
  · obtain ⟨ns, rfl, l, p⟩ := p
    obtain ⟨v, rfl, k⟩ := cl1 c
    obtain ⟨a, xs, rfl, hx, g⟩ := k.list s
    rw [g.ints] at hx
    exact ⟨a, ns, rfl, .inl (.inl hx), l, fun m h1 h2 => h _ _ (.val _) (Same.refl _) (Dd.int _) (p m h1 h2)⟩
  · exact p.elim
theorem lb_min : LB K (rMin K) pMin := by
  intro F H vs ds R Q s c p h
  unfold pMin at p
  split at p
  · obtain ⟨ns, rfl, l, p⟩ := p
    obtain ⟨v, rfl, k⟩ := cl1 c
    obtain ⟨a, xs, rfl, hx, g⟩ := k.list s
    rw [g.ints] at hx
    exact ⟨a, ns, rfl, .inl (.inl hx), l, fun m h1 h2 => h _ _ (.val _) (Same.refl _) (Dd.int _) (p m h1 h2)⟩
  · exact p.elim
theorem DdL.bools {F : Hp} : ∀ {xs : List V} {bs : List Bool}, DdL K F xs (bs.map D.bl) → xs = bs.map V.bl
  | _, [], h => by cases h; rfl
  | _, n :: r, h => by
    cases h with
    | cons h g => cases h; rw [DdL.bools g]; rfl
def pAll : PN := fun ds Q => match ds with
  | [.list xs] => ∃ bs : List Bool, xs = bs.map D.bl ∧ Q (.val (.bl (bs.all id)))
  | _ => False
def pAny : PN := fun ds Q => match ds with
  | [.list xs] => ∃ bs : List Bool, xs = bs.map D.bl ∧ Q (.val (.bl (bs.any id)))
  | _ => False
theorem lb_all : LB K (rAll K) pAll := by
  intro F H vs ds R Q s c p h
  unfold pAll at p
  split at p
  · obtain ⟨ns, rfl, p⟩ := p
    obtain ⟨v, rfl, k⟩ := cl1 c
    obtain ⟨a, xs, rfl, hx, g⟩ := k.list s
    rw [g.bools] at hx
    exact ⟨a, ns, rfl, .inl (.inl hx), h _ _ (.val _) (Same.refl _) (Dd.bl _) p⟩
  · exact p.elim
theorem lb_any : LB K (rAny K) pAny := by
  intro F H vs ds R Q s c p h
  unfold pAny at p
  split at p
  · obtain ⟨ns, rfl, p⟩ := p
    obtain ⟨v, rfl, k⟩ := cl1 c
    obtain ⟨a, xs, rfl, hx, g⟩ := k.list s
    rw [g.bools] at hx
    exact ⟨a, ns, rfl, .inl (.inl hx), h _ _ (.val _) (Same.refl _) (Dd.bl _) p⟩
  · exact p.elim
def pSortI : PN := fun ds Q => match ds with
  | [.list xs] => ∃ ns : List Int, xs = ns.map D.int ∧ ∀ ns' : List Int, ns'.Perm ns → ns'.Pairwise (· ≤ ·) → Q (.fr (.list (ns'.map D.int)))
  | _ => False
theorem lb_sortI : LB K (rSortedI K) pSortI := by
  intro F H vs ds R Q s c p h
  unfold pSortI at p
  split at p
  · obtain ⟨ns, rfl, p⟩ := p
    obtain ⟨v, rfl, k⟩ := cl1 c
    obtain ⟨a, xs, rfl, hx, g⟩ := k.list s
    rw [g.ints] at hx
    exact ⟨a, ns, rfl, .inl (.inl hx), fun ns' l h1 h2 nl => h _ _ (.fr (.list _)) (same_upd nl) ⟨l, rfl, nl, .lst upd_same (DdL.of_ints _)⟩ (p ns' h1 h2)⟩
  · exact p.elim
/-- list(d), keys ints and texts -/
theorem lb_keysOf : LB K rListD pKeysOf := by
  intro F H vs ds R Q s c p h
  unfold pKeysOf at p
  split at p
  · obtain ⟨v, rfl, k⟩ := cl1 c
    obtain ⟨a, kvs, rfl, hx, g⟩ := k.dk s
    exact ⟨a, kvs, rfl, hx, fun l nl => h _ _ (.fr (.list _)) (same_upd nl) ⟨l, rfl, nl, .lst upd_same (keys_dd g)⟩ p⟩
  · exact p.elim
end DL
/-! lifted readings 6: what is walked; stores; dicts; methods -/
namespace DL
open PySem PySem.Spec PyProof.Rows L2 CD
variable {GP : GenP} {K : PySem.W.Frag}
variable {B : Hp × Hp × GAt}
/-! ### walked -/
/-- the data of what is walked, frozen (or written) -/
def fzI (x : RV) (ρ : Rho) (k : D → Rho → Prop) : Prop := match x with
  | .kon d => k d ρ
  | x => fz x ρ k
def uiSeq (u : UE) : UI := fun ρ Q => u ρ fun x ρ1 => fzI x ρ1 fun d ρ2 => match d with
  | .tup ds => Q ds ρ2
  | _ => False
def uiLst (u : UE) : UI := fun ρ Q => u ρ fun x ρ1 => fz x ρ1 fun d ρ2 => match d with
  | .list ds => Q ds ρ2
  | .scr ns => Q (ns.map D.int) ρ2
  | _ => False
theorem yat_ok {F F' H H' : Hp} {xs : List V} {ds : List D} {i : Nat} {v : V} (g : DdL K F xs ds) (s : Same F F') (y : YAt xs i H v H') : ∃ d, ds[i]? = some d ∧ YD K F' H H' v d := by
  obtain ⟨rfl, e⟩ := y
  obtain ⟨d, h1, h2⟩ := g.get' e
  exact ⟨d, h1, .inl ⟨rfl, h2.same s⟩⟩
theorem li_tup {t : TE} {u : UE} (h : LE GP K B t u) : LI GP K B (iTup K t) (uiSeq u) := by
  intro H0 F0 γ0 _ γ σ H F ρ R Q r z k
  refine h _ _ r z fun H1 F1 γ1 ρ1 v x r1 s1 k1 u1 => ?_
  have main : ∀ {F2 : Hp} {ρ2 : Rho} {a : Addr} {xs : List V} {ds : List D}, Rp GP K H0 F0 γ0 γ1 σ H1 F2 ρ2 → Same F1 F2 → v = .ref a → (∀ H, Same F2 H → SqT K H a xs) → DdL K F2 xs ds → Q ds ρ2 → ∃ a, v = .ref a ∧ (∃ xs, SqT K H1 a xs) ∧ R (Itt K a) H1 := by
    intro F2 ρ2 a xs ds r2 s2 ev hS g q
    exact ⟨a, ev, ⟨xs, hS _ r2.sub⟩, k _ _ _ _ _ _ _ _ ds r2 (s1.trans s2) (walk_tup (K := K) (a := a) (xs := xs)) g.length.symm hS (fun i H v H' F _ s _ y => yat_ok g s y) q⟩
  have plain : ∀ {y : RV}, RVok GP K H0 γ0 γ1 σ H1 F1 ρ1 v y → (fz y ρ1 fun d ρ2 => match d with
    | .tup ds => Q ds ρ2
    | _ => False) → ∃ a, v = V.ref a ∧ (∃ xs, SqT K H1 a xs) ∧ R (Itt K a) H1 := by
    intro y k1 u1
    obtain ⟨F2, ρ2, d, r2, s2, d2, q2⟩ := fz_ok r1 k1 u1
    split at q2
    · cases d2 with
      | tup e g => exact main r2 s2 rfl (fun H s => .inl (.inl (s _ _ e))) g q2
    · exact q2.elim
  cases x with
  | kon d =>
    obtain ⟨a, xs, ds, ev, rfl, hS, g⟩ := k1
    exact main (ds := ds) r1 (Same.refl _) ev (fun H _ => (same_none H).tup hS) (g.same (same_none _)) u1
  | val d => exact plain k1 u1
  | fr d => exact plain k1 u1
  | sl i => exact plain k1 u1
theorem li_list {t : TE} {u : UE} (h : LE GP K B t u) : LI GP K B (iList K t) (uiLst u) := by
  intro H0 F0 γ0 _ γ σ H F ρ R Q r z k
  refine h _ _ r z fun H1 F1 γ1 ρ1 v x r1 s1 k1 u1 => ?_
  obtain ⟨F2, ρ2, d, r2, s2, d2, q2⟩ := fz_ok r1 k1 u1
  split at q2
  · cases d2 with
    | lst e g => exact ⟨_, rfl, ⟨_, .inl (.inl (r2.sub _ _ e))⟩, k _ _ _ _ _ _ _ _ _ r2 (s1.trans s2) walk_list g.length.symm (fun H s => .inl (.inl (s _ _ e))) (fun i H v H' F _ s _ y => yat_ok g s y) q2⟩
  · cases d2 with
    | scr e => exact ⟨_, rfl, ⟨_, r2.sub.seq e⟩, k _ _ _ _ _ _ _ _ _ r2 (s1.trans s2) walk_list (by rw [List.length_map, List.length_map]) (fun H s => s.seq e) (fun i H v H' F _ s _ y => yat_ok (DdL.of_ints _) (same_none F) y) q2⟩
  · exact q2.elim
def rgD (lo : Int) (n : Nat) : List D := (List.range n).map fun i => D.int (lo + (i : Nat))
theorem rgD_len (lo : Int) (n : Nat) : (rgD lo n).length = n := by unfold rgD; rw [List.length_map, List.length_range]
theorem rgD_at {lo : Int} {n i : Nat} (h : i < n) : (rgD lo n)[i]? = some (.int (lo + i)) := by
  unfold rgD
  rw [List.getElem?_map, List.getElem?_range h]
  rfl
def uiRng1 (u : UA) : UI := fun ρ Q => u ρ fun xs ρ1 => match cns ρ1 xs with
  | some [.int j] => -(2 ^ 62) ≤ j ∧ j < 2 ^ 62 ∧ Q (rgD 0 j.toNat) ρ1
  | _ => False
def uiRng2 (u : UA) : UI := fun ρ Q => u ρ fun xs ρ1 => match cns ρ1 xs with
  | some [.int i, .int j] => (-(2 ^ 62) ≤ i ∧ i < 2 ^ 62 ∧ -(2 ^ 62) ≤ j ∧ j < 2 ^ 62) ∧ Q (rgD i (j - i).toNat) ρ1
  | _ => False
theorem rg_yd {F H H' : Hp} {lo : Int} {n i : Nat} {v : V} (h : i < n) (y : YFn (fun i => V.int (lo + i)) i H v H') : ∃ d, (rgD lo n)[i]? = some d ∧ YD K F H H' v d := by
  obtain ⟨rfl, rfl⟩ := y
  exact ⟨_, rgD_at h, .inl ⟨rfl, Dd.int _⟩⟩
theorem li_rng1 {t : TA} {u : UA} (h : LA GP K B t u) : LI GP K B (iRng1 t) (uiRng1 u) := by
  intro H0 F0 γ0 _ γ σ H F ρ R Q r z k
  refine h _ _ r z fun H1 F1 γ1 ρ1 vs xs r1 s1 k1 u1 => ?_
  split at u1
  · rename_i j e
    obtain ⟨v, rfl, c⟩ := cl1 (cns_ok r1 k1 e)
    exact ⟨j, by rw [c.int], u1.1, u1.2.1, k _ _ _ _ _ _ _ _ _ r1 s1 (walk_range (lo := 0) (n := j.toNat)) (rgD_len _ _) (fun _ _ => trivial) (fun i H v H' F hi _ _ y => rg_yd hi y) u1.2.2⟩
  · exact u1.elim
theorem li_rng2 {t : TA} {u : UA} (h : LA GP K B t u) : LI GP K B (iRng2 t) (uiRng2 u) := by
  intro H0 F0 γ0 _ γ σ H F ρ R Q r z k
  refine h _ _ r z fun H1 F1 γ1 ρ1 vs xs r1 s1 k1 u1 => ?_
  split at u1
  · rename_i i j e
    obtain ⟨v, w, rfl, c1, c2⟩ := cl2 (cns_ok r1 k1 e)
    exact ⟨i, j, by rw [c1.int, c2.int], u1.1, k _ _ _ _ _ _ _ _ _ r1 s1 (walk_range (lo := i) (n := (j - i).toNat)) (rgD_len _ _) (fun _ _ => trivial) (fun i H v H' F hi _ _ y => rg_yd hi y) u1.2⟩
  · exact u1.elim
/-- one argument, frozen -/
def uA1 (u : UA) (k : D → Rho → Prop) (ρ : Rho) : Prop := u ρ fun xs ρ1 => match xs with
  | [x] => fz x ρ1 k
  | _ => False
theorem a1_ok {t : TA} {u : UA} (h : LA GP K B t u) {H0 F0 H F : Hp} {γ0 γ : GAt} [FinerC GP K B H0 F0 γ0] {σ : L2.St} {ρ : Rho} {kk : D → Rho → Prop} {R : List V → Hp → Prop} (r : Rp GP K H0 F0 γ0 γ σ H F ρ) (z : uA1 u kk ρ)
    (k : ∀ H1 F1 γ1 ρ1 v d, Rp GP K H0 F0 γ0 γ1 σ H1 F1 ρ1 → Same F F1 → Dd K F1 v d → kk d ρ1 → R [v] H1) : t σ H R := by
  refine h _ _ r z fun H1 F1 γ1 ρ1 vs xs r1 s1 k1 u1 => ?_
  split at u1
  · obtain ⟨v, ws, rfl, h1, h2⟩ := k1.cons_of
    obtain rfl := h2.nil_of
    obtain ⟨F2, ρ2, d, r2, s2, d2, q2⟩ := fz_ok r1 h1.one u1
    exact k _ _ _ _ _ _ r2 (s1.trans s2) d2 q2
  · exact u1.elim
def uiRev (u : UA) : UI := fun ρ Q => uA1 u (fun d ρ1 => match d with
  | .list ds => Q ds.reverse ρ1
  | _ => False) ρ
theorem li_rev {t : TA} {u : UA} (h : LA GP K B t u) : LI GP K B (iRev K t) (uiRev u) := by
  intro H0 F0 γ0 _ γ σ H F ρ R Q r z k
  refine a1_ok h r z fun H1 F1 γ1 ρ1 v d r1 s1 d1 q1 => ?_
  split at q1
  · cases d1 with
    | lst e g =>
      refine ⟨_, _, rfl, .inl (.inl (r1.sub _ _ e)), k _ _ _ _ _ _ _ _ _ r1 s1 walk_rev (by rw [List.length_reverse, g.length]) (fun H s => .inl (.inl (s _ _ e))) (fun i H v H' F hi s _ y => ?_) q1⟩
      obtain ⟨rfl, ex⟩ := y
      obtain ⟨d, h1, h2⟩ := g.get' ex
      refine ⟨d, ?_, .inl ⟨rfl, h2.same s⟩⟩
      rw [List.getElem?_reverse (by rw [← g.length]; exact hi), ← g.length]
      exact h1
  · exact q1.elim
def enumD : Int → List D → List D
  | _, [] => []
  | k, d :: ds => .tup [.int k, d] :: enumD (k + 1) ds
theorem enumD_len : ∀ {k : Int} {ds : List D}, (enumD k ds).length = ds.length
  | _, [] => rfl
  | k, d :: ds => by unfold enumD; rw [List.length_cons, List.length_cons, enumD_len]
theorem enumD_at : ∀ {k : Int} {ds : List D} {i : Nat} {d : D}, ds[i]? = some d → (enumD k ds)[i]? = some (.tup [.int (k + i), d])
  | _, [], _, _, h => by simp at h
  | k, d :: ds, 0, e, h => by simp at h; subst h; simp [enumD]
  | k, d :: ds, i + 1, e, h => by
    unfold enumD
    rw [List.getElem?_cons_succ, enumD_at (k := k + 1) (by simpa using h)]
    congr 4
    omega
def uiEnum (u : UA) : UI := fun ρ Q => uA1 u (fun d ρ1 => match d with
  | .list ds => Q (enumD 0 ds) ρ1
  | _ => False) ρ
def uiEnum1 (u : UA) : UI := fun ρ Q => uA1 u (fun d ρ1 => match d with
  | .tup ds => Q (enumD 0 ds) ρ1
  | _ => False) ρ
theorem enum_yd {F F' H H' : Hp} {xs : List V} {ds : List D} {k : Int} {i : Nat} {v : V} (g : DdL K F xs ds) (s : Same F F') (y : YPair (fun i => some (.int (k + (i : Nat)))) (fun i => xs[i]?) i H v H') : ∃ d, (enumD k ds)[i]? = some d ∧ YD K F' H H' v d := by
  obtain ⟨T, x, y, rfl, n, rfl, e1, e2⟩ := y
  cases e1
  obtain ⟨d, h1, h2⟩ := g.get' e2
  exact ⟨_, enumD_at h1, .inr ⟨T, _, _, rfl, n, rfl, rfl, .cons (.int _) (.cons (h2.same s) .nil)⟩⟩
theorem li_enum {t : TA} {u : UA} (h : LA GP K B t u) : LI GP K B (iEnum K t) (uiEnum u) := by
  intro H0 F0 γ0 _ γ σ H F ρ R Q r z k
  refine a1_ok h r z fun H1 F1 γ1 ρ1 v d r1 s1 d1 q1 => ?_
  split at q1
  · cases d1 with
    | lst e g =>
      refine ⟨_, _, rfl, .inl (.inl (r1.sub _ _ e)), k _ _ _ _ _ _ _ _ _ r1 s1 walk_enum (by rw [enumD_len, g.length]) (fun H s => .inl (.inl (s _ _ e))) (fun i H v H' F hi s _ y => enum_yd g s ?_) q1⟩
      obtain ⟨T, x, y', a1, a2, a3, a4, a5⟩ := y
      exact ⟨T, x, y', a1, a2, a3, (show some (V.int (0 + (i : Nat))) = some x by rw [Int.zero_add]; exact a4), a5⟩
  · exact q1.elim
theorem li_enum1 {t : TA} {u : UA} (h : LA GP K B t u) : LI GP K B (iEnum1 K t) (uiEnum1 u) := by
  intro H0 F0 γ0 _ γ σ H F ρ R Q r z k
  refine a1_ok h r z fun H1 F1 γ1 ρ1 v d r1 s1 d1 q1 => ?_
  split at q1
  · cases d1 with
    | tup e g =>
      exact ⟨_, _, rfl, .inl (.inl (r1.sub _ _ e)), k _ _ _ _ _ _ _ _ _ r1 s1 (walk_enumT (k := 0)) (by rw [enumD_len, g.length]) (fun H s => .inl (.inl (s _ _ e))) (fun i H v H' F hi s _ y => enum_yd g s y) q1⟩
  · exact q1.elim
/-- enumerate(t, start=k) -/
def uiEnumT (u w : UA) : UI := fun ρ Q => u ρ fun xs ρ1 => w ρ1 fun ys ρ2 => match xs, cns ρ2 ys with
  | [x], some [.int k] => -(2 ^ 63) ≤ k ∧ k < 2 ^ 63 ∧ fz x ρ2 fun d ρ3 => match d with
    | .tup ds => Q (enumD k ds) ρ3
    | _ => False
  | _, _ => False
theorem li_enumT {t t' : TA} {u w : UA} (h : LA GP K B t u) (h' : LA GP K B t' w) : LI GP K B (iEnumT K t t') (uiEnumT u w) := by
  intro H0 F0 γ0 _ γ σ H F ρ R Q r z k
  refine h _ _ r z fun H1 F1 γ1 ρ1 vs xs r1 s1 k1 u1 => ?_
  refine h' _ _ r1 u1 fun H2 F2 γ2 ρ2 ws ys r2 s2 k2 u2 => ?_
  split at u2
  · rename_i x kk e
    obtain ⟨w', rfl, c⟩ := cl1 (cns_ok r2 k2 e)
    obtain ⟨v, ws, rfl, h1, h2⟩ := k1.cons_of
    obtain rfl := h2.nil_of
    obtain ⟨b1, b2, u3⟩ := u2
    obtain ⟨F3, ρ3, d, r3, s3, d3, q3⟩ := fz_ok r2 (h1.same s2).one u3
    split at q3
    · cases d3 with
      | tup e g => exact ⟨_, _, kk, rfl, by rw [c.int], b1, b2, .inl (.inl (r3.sub _ _ e)), k _ _ _ _ _ _ _ _ _ r3 (s1.trans (s2.trans s3)) (walk_enumT (k := kk)) (by rw [enumD_len, g.length]) (fun H s => .inl (.inl (s _ _ e))) (fun i H v H' F hi s _ y => enum_yd g s y) q3⟩
    · exact q3.elim
  · exact u2.elim
def zipD (a b : List D) : List D := List.zipWith (fun x y => .tup [x, y]) a b
/-- two arguments, frozen -/
def uiZip (u : UA) : UI := fun ρ Q => u ρ fun xs ρ1 => fzs xs ρ1 fun ds ρ2 => match ds with
  | [.list a, .list b] => Q (zipD a b) ρ2
  | [.tup a, .tup b] => Q (zipD a b) ρ2
  | _ => False
theorem zip_yd {F F' H H' : Hp} {xs ys : List V} {a b : List D} {i : Nat} {v : V} (g : DdL K F xs a) (g' : DdL K F ys b) (s : Same F F') (y : YPair (fun i => xs[i]?) (fun i => ys[i]?) i H v H') : ∃ d, (zipD a b)[i]? = some d ∧ YD K F' H H' v d := by
  obtain ⟨T, x, y, rfl, n, rfl, e1, e2⟩ := y
  obtain ⟨d, h1, h2⟩ := g.get' e1
  obtain ⟨d', h3, h4⟩ := g'.get' e2
  refine ⟨.tup [d, d'], ?_, .inr ⟨T, _, _, rfl, n, rfl, rfl, .cons (h2.same s) (.cons (h4.same s) .nil)⟩⟩
  unfold zipD
  rw [List.getElem?_zipWith, h1, h3]
theorem zipD_len {a b : List D} : (zipD a b).length = min a.length b.length := List.length_zipWith
theorem li_zip {t : TA} {u : UA} (h : LA GP K B t u) : LI GP K B (RZ.iZipA K t) (uiZip u) := by
  intro H0 F0 γ0 _ γ σ H F ρ R Q r z k
  refine h _ _ r z fun H1 F1 γ1 ρ1 vs xs r1 s1 k1 u1 => ?_
  obtain ⟨F2, ρ2, ds, r2, s2, d2, q2⟩ := fzs_ok r1 k1 u1
  split at q2
  · cases d2 with
    | cons x1 d2 => cases d2 with
      | cons x2 d2 =>
        cases d2
        cases x1 with
        | lst e1 g1 => cases x2 with
          | lst e2 g2 =>
            exact ⟨_, _, _, _, rfl, .inl ⟨.inl (.inl (r2.sub _ _ e1)), .inl (.inl (r2.sub _ _ e2)), k _ _ _ _ _ _ _ _ _ r2 (s1.trans s2) (walk_zip rfl) (by rw [zipD_len, g1.length, g2.length]) (fun H s => ⟨.inl (.inl (s _ _ e1)), .inl (.inl (s _ _ e2))⟩) (fun i H v H' F hi s _ y => zip_yd g1 g2 s y) q2⟩⟩
  · cases d2 with
    | cons x1 d2 => cases d2 with
      | cons x2 d2 =>
        cases d2
        cases x1 with
        | tup e1 g1 => cases x2 with
          | tup e2 g2 =>
            exact ⟨_, _, _, _, rfl, .inr ⟨.inl (.inl (r2.sub _ _ e1)), .inl (.inl (r2.sub _ _ e2)), k _ _ _ _ _ _ _ _ _ r2 (s1.trans s2) (walk_zipT rfl) (by rw [zipD_len, g1.length, g2.length]) (fun H s => ⟨.inl (.inl (s _ _ e1)), .inl (.inl (s _ _ e2))⟩) (fun i H v H' F hi s _ y => zip_yd g1 g2 s y) q2⟩⟩
  · exact q2.elim
/-! ### lists of our own -/
/-- xs.append(e) -/
def uAppend (i : Nat) (a : UE) : UE := fun ρ Q => match ρ[i]? with
  | some (some (.own (.list _))) => a ρ fun x ρ1 => fz (sf x) ρ1 fun d ρ2 => match ρ2[i]? with
    | some (some (.own (.list ds))) => ds.length < sizeLine ∧ Q (.val .non) (ρ2.set i (some (.own (.list (ds ++ [d])))))
    | _ => False
  | _ => False
theorem le_append {i : Nat} {t : TE} {u : UE} (h : LE GP K B t u) : LE GP K B (tBM K "list" rAppend (tVar i) (tCons t tNil)) (uAppend i u) := by
  intro H0 F0 γ0 _ γ σ H F ρ R Q r z k
  dsimp only [uAppend] at z
  split at z
  · rename_i ds0 e0
    obtain ⟨a, h1, h2, _⟩ := r.own i _ e0
    cases h2 with
    | lst ha _ =>
      refine ⟨_, h1, .inl ⟨rfl, _, .inl (.inl ha)⟩, ?_⟩
      refine h _ _ r z fun H1 F1 γ1 ρ1 v x r1 s1 k1 u1 => ?_
      obtain ⟨F2, r2, s2, k2⟩ := sf_ok r1 k1
      obtain ⟨F3, ρ3, d, r3, s3, d3, q3⟩ := fz_ok r2 k2.one u1
      split at q3
      · rename_i ds e
        obtain ⟨b, b1, b2, b3, _⟩ := r3.own i _ e
        rw [h1] at b1; cases b1
        cases b2 with
        | lst hb g =>
          refine ⟨a, _, _, rfl, rfl, hb, by rw [g.length]; exact q3.1, ?_⟩
          exact k _ _ _ _ _ (.val .non) (r3.write e h1 (.lst upd_same (g.append (.cons d3 .nil)))) (s1.trans (s2.trans s3)) Dd.non q3.2
      · exact q3.elim
  · exact z.elim
/-- xs.pop() -/
def uPop (i : Nat) : UE := fun ρ Q => match ρ[i]? with
  | some (some (.own (.list ds))) => match ds[ds.length - 1]? with
    | some d => Q (.val d) (ρ.set i (some (.own (.list ds.dropLast))))
    | none => False
  | _ => False
theorem DdL.dropLast {F : Hp} : ∀ {xs : List V} {ds : List D}, DdL K F xs ds → DdL K F xs.dropLast ds.dropLast
  | _, _, .nil => .nil
  | _, _, .cons h .nil => .nil
  | _, _, .cons h (.cons h' g) => .cons h (DdL.dropLast (.cons h' g))
theorem le_pop {i : Nat} : LE GP K B (tBM0 K "list" rPop (tVar i)) (uPop i) := by
  intro H0 F0 γ0 _ γ σ H F ρ R Q r z k
  dsimp only [uPop] at z
  split at z
  · rename_i ds e
    obtain ⟨a, h1, h2, _⟩ := r.own i _ e
    cases h2 with
    | lst ha g =>
      split at z
      · rename_i d ed
        obtain ⟨v, e1, e2⟩ := g.get ed
        refine ⟨_, h1, .inl ⟨rfl, _, .inl (.inl ha)⟩, a, _, v, rfl, rfl, ha, by rw [g.length]; exact e1, ?_⟩
        exact k _ _ _ _ _ (.val d) (r.write e h1 (.lst upd_same g.dropLast)) (Same.refl _) e2 z
      · exact z.elim
  · exact z.elim
/-- xs.extend(new list) -/
def uExtend (i : Nat) (a : UE) : UE := fun ρ Q => match ρ[i]? with
  | some (some (.own (.list _))) => a ρ fun x ρ1 => fz (sf x) ρ1 fun d ρ2 => match ρ2[i]?, d with
    | some (some (.own (.list ds))), .list zs => ds.length + zs.length ≤ sizeLine ∧ Q (.val .non) (ρ2.set i (some (.own (.list (ds ++ zs)))))
    | _, _ => False
  | _ => False
theorem le_extend {i : Nat} {t : TE} {u : UE} (h : LE GP K B t u) : LE GP K B (tBM K "list" rExtend (tVar i) (tCons t tNil)) (uExtend i u) := by
  intro H0 F0 γ0 _ γ σ H F ρ R Q r z k
  dsimp only [uExtend] at z
  split at z
  · rename_i ds0 e0
    obtain ⟨a, h1, h2, _⟩ := r.own i _ e0
    cases h2 with
    | lst ha _ =>
      refine ⟨_, h1, .inl ⟨rfl, _, .inl (.inl ha)⟩, ?_⟩
      refine h _ _ r z fun H1 F1 γ1 ρ1 v x r1 s1 k1 u1 => ?_
      obtain ⟨F2, r2, s2, k2⟩ := sf_ok r1 k1
      obtain ⟨F3, ρ3, d, r3, s3, d3, q3⟩ := fz_ok r2 k2.one u1
      split at q3
      · rename_i ds zs e
        obtain ⟨b, b1, b2, b3, _⟩ := r3.own i _ e
        rw [h1] at b1; cases b1
        cases b2 with
        | lst hb g =>
          cases d3 with
          | lst e3 g3 =>
            refine ⟨a, _, _, _, rfl, rfl, hb, r3.sub _ _ e3, by rw [g.length, g3.length]; exact q3.1, ?_⟩
            exact k _ _ _ _ _ (.val .non) (r3.write e h1 (.lst upd_same (g.append g3))) (s1.trans (s2.trans s3)) Dd.non q3.2
      · exact q3.elim
  · exact z.elim
/-- xs[k] = e -/
def uSetL (i : Nat) (uk uv : UE) : US := fun Q ρ => uv ρ fun x ρ1 => match ρ1[i]? with
  | some (some (.own (.list _))) => uk ρ1 fun y ρ2 => fz (sf x) ρ2 fun d ρ3 => match ρ3[i]?, cn ρ3 (sf y) with
    | some (some (.own (.list ds))), some (.int k) => match ixN ds.length k with
      | some j => Q.nx (ρ3.set i (some (.own (.list (ds.set j d)))))
      | none => False
    | _, _ => False
  | _ => False
theorem ls_setL {i : Nat} {tk tv : TE} {uk uv : UE} (hk : LE GP K B tk uk) (hv : LE GP K B tv uv) : LS GP K B (tAsg tv (gSub (tVar i) tk rSetL)) (uSetL i uk uv) := by
  intro H0 F0 γ0 _ γ σ H F ρ E Q r z n b c t
  refine hv _ _ r z fun H1 F1 γ1 ρ1 v x r1 s1 k1 u1 => ?_
  obtain ⟨F2, r2, s2, k2⟩ := sf_ok r1 k1
  split at u1
  · rename_i ds0 e0
    obtain ⟨a, h1, h2, _⟩ := r2.own i _ e0
    refine ⟨_, h1, hk _ _ r2 u1 fun H3 F3 γ3 ρ3 w y r3 s3 k3 u3 => ?_⟩
    obtain ⟨F4, r4, s4, k4⟩ := sf_ok r3 k3
    obtain ⟨F5, ρ5, d, r5, s5, d5, q5⟩ := fz_ok r4 ((k2.same s3).same s4).one u3
    split at q5
    · rename_i ds kk e ek
      split at q5
      · rename_i j ej
        obtain ⟨b', b1, b2, b3, _⟩ := r5.own i _ e
        rw [h1] at b1; cases b1
        have ci := RVok.cnt r5 (k4.same s5).one ek
        cases b2 with
        | lst hb g =>
          refine ⟨a, _, kk, j, rfl, ci.int, hb, by rw [g.length]; exact ej, ?_⟩
          exact n _ _ _ _ _ (r5.write e h1 (.lst upd_same (DdL.set d5 j g))) q5
      · exact q5.elim
    · exact q5.elim
  · exact u1.elim
/-! ### dicts -/
section
variable {κ : Type} [DecidableEq κ]
def lkD (kvs : List (κ × D)) (k : κ) : Option D := (kvs.find? fun kv => decide (kv.1 = k)).map (·.2)
def putD (kvs : List (κ × D)) (k : κ) (v : D) : List (κ × D) :=
  if kvs.any (fun kv => decide (kv.1 = k)) then kvs.map (fun kv => if kv.1 = k then (kv.1, v) else kv) else kvs ++ [(k, v)]
end
def keyD : D → Option Key
  | .int i => some (.inl i)
  | .str s => some (.inr s)
  | _ => none
def keysD : List D → Option (List Key)
  | [] => some []
  | d :: ds => match keyD d, keysD ds with
    | some k, some ks => some (k :: ks)
    | _, _ => none
theorem keyD_ok {F : Hp} {v : V} {d : D} {k : Key} (h : Dd K F v d) (e : keyD d = some k) : v = kV k := by
  cases h with
  | int i => cases e; rfl
  | str i => cases e; rfl
  | _ => cases e
theorem keysD_ok {F : Hp} : ∀ {vs : List V} {ds : List D} {ks : List Key}, DdL K F vs ds → keysD ds = some ks → vs = ks.map kV
  | _, _, _, .nil, e => by cases e; rfl
  | _, _, _, .cons (d := d) (ds := ds) h g, e => by
    dsimp only [keysD] at e
    cases q1 : keyD d with
    | none => rw [q1] at e; cases e
    | some k =>
      cases q2 : keysD ds with
      | none => rw [q1, q2] at e; cases e
      | some ks =>
        rw [q1, q2] at e
        cases e
        rw [keyD_ok h q1, keysD_ok g q2]
        rfl
theorem lkK_ok {F : Hp} (k : Key) : ∀ {kvs : List (Key × V)} {ds : List (Key × D)}, DdK K F kvs ds → (match lkD ds k with
    | some d => ∃ v, valV kvs k = some v ∧ Dd K F v d
    | none => valV kvs k = none)
  | _, _, .nil => rfl
  | _, _, .cons (k := k') (vs := vs) (d := d0) (ds := ds) h g => by
    by_cases c : k' = k
    · subst c
      have e1 : lkD ((k', d0) :: ds) k' = some d0 := by unfold lkD; rw [List.find?_cons_of_pos (by simp)]; rfl
      rw [e1]
      exact ⟨_, valV_pos rfl, h⟩
    · have e1 : ∀ d, lkD ((k', d) :: ds) k = lkD ds k := fun d => by unfold lkD; rw [List.find?_cons_of_neg (by simpa using c)]
      rw [e1]
      have ih := lkK_ok k g
      cases q : lkD ds k with
      | none => rw [q] at ih; rw [valV_neg c]; exact ih
      | some d => rw [q] at ih; obtain ⟨v, h1, h2⟩ := ih; exact ⟨v, by rw [valV_neg c]; exact h1, h2⟩
theorem lkT_ok {F : Hp} (k : List Key) : ∀ {kvs : List (List Key × V)} {ds : List (List Key × D)}, DdT K F kvs ds → (match lkD ds k with
    | some d => ∃ v, valV kvs k = some v ∧ Dd K F v d
    | none => valV kvs k = none)
  | _, _, .nil => rfl
  | _, _, .cons (k := k') (vs := vs) (d := d0) (ds := ds) h g => by
    by_cases c : k' = k
    · subst c
      have e1 : lkD ((k', d0) :: ds) k' = some d0 := by unfold lkD; rw [List.find?_cons_of_pos (by simp)]; rfl
      rw [e1]
      exact ⟨_, valV_pos rfl, h⟩
    · have e1 : ∀ d, lkD ((k', d) :: ds) k = lkD ds k := fun d => by unfold lkD; rw [List.find?_cons_of_neg (by simpa using c)]
      rw [e1]
      have ih := lkT_ok k g
      cases q : lkD ds k with
      | none => rw [q] at ih; rw [valV_neg c]; exact ih
      | some d => rw [q] at ih; obtain ⟨v, h1, h2⟩ := ih; exact ⟨v, by rw [valV_neg c]; exact h1, h2⟩
theorem DdK.length {F : Hp} : ∀ {kvs : List (Key × V)} {ds : List (Key × D)}, DdK K F kvs ds → kvs.length = ds.length
  | _, _, .nil => rfl
  | _, _, .cons _ g => by rw [List.length_cons, List.length_cons, g.length]
theorem DdT.length {F : Hp} : ∀ {kvs : List (List Key × V)} {ds : List (List Key × D)}, DdT K F kvs ds → kvs.length = ds.length
  | _, _, .nil => rfl
  | _, _, .cons _ g => by rw [List.length_cons, List.length_cons, g.length]
theorem putK_dd {F : Hp} {v : V} {d : D} {k : Key} (h : Dd K F v d) {kvs : List (Key × V)} {ds : List (Key × D)} (g : DdK K F kvs ds) : DdK K F (putK kvs k v) (putD ds k d) := by
  have e : kvs.any (fun kv => decide (kv.1 = k)) = ds.any (fun kv => decide (kv.1 = k)) := by
    clear h
    induction kvs generalizing ds with
    | nil => cases g; rfl
    | cons x r ih => cases g with
      | cons a b => rw [List.any_cons, List.any_cons, ih b]
  have em : DdK K F (kvs.map (fun kv => if kv.1 = k then (kv.1, v) else kv)) (ds.map (fun kv => if kv.1 = k then (kv.1, d) else kv)) := by
    clear e
    induction kvs generalizing ds with
    | nil => cases g; exact .nil
    | cons x r ih => cases g with
      | cons a b =>
        rw [List.map_cons, List.map_cons]
        dsimp only
        split
        · exact .cons h (ih b)
        · exact .cons a (ih b)
  have ea : DdK K F (kvs ++ [(k, v)]) (ds ++ [(k, d)]) := by
    clear e em
    induction kvs generalizing ds with
    | nil => cases g; exact .cons h .nil
    | cons x r ih => cases g with
      | cons a b => exact .cons a (ih b)
  unfold putK putD
  rw [e]
  split
  · exact em
  · exact ea
theorem putT_dd {F : Hp} {v : V} {d : D} {k : List Key} (h : Dd K F v d) {kvs : List (List Key × V)} {ds : List (List Key × D)} (g : DdT K F kvs ds) : DdT K F (putK kvs k v) (putD ds k d) := by
  have e : kvs.any (fun kv => decide (kv.1 = k)) = ds.any (fun kv => decide (kv.1 = k)) := by
    clear h
    induction kvs generalizing ds with
    | nil => cases g; rfl
    | cons x r ih => cases g with
      | cons a b => rw [List.any_cons, List.any_cons, ih b]
  have em : DdT K F (kvs.map (fun kv => if kv.1 = k then (kv.1, v) else kv)) (ds.map (fun kv => if kv.1 = k then (kv.1, d) else kv)) := by
    clear e
    induction kvs generalizing ds with
    | nil => cases g; exact .nil
    | cons x r ih => cases g with
      | cons a b =>
        rw [List.map_cons, List.map_cons]
        dsimp only
        split
        · exact .cons h (ih b)
        · exact .cons a (ih b)
  have ea : DdT K F (kvs ++ [(k, v)]) (ds ++ [(k, d)]) := by
    clear e em
    induction kvs generalizing ds with
    | nil => cases g; exact .cons h .nil
    | cons x r ih => cases g with
      | cons a b => exact .cons a (ih b)
  unfold putK putD
  rw [e]
  split
  · exact em
  · exact ea
/-- what a dict holds at a key -/
inductive LkA
  | some (d : D) | none | bad
def lkA (dx dy : D) : LkA := match dx with
  | .dk kvs => match keyD dy with
    | some k => match lkD kvs k with
      | some d => .some d
      | none => .none
    | none => .bad
  | .dt kvs => match dy with
    | .tup ks => match keysD ks with
      | some k => match lkD kvs k with
        | some d => .some d
        | none => .none
      | none => .bad
    | _ => .bad
  | _ => .bad
theorem Cnt.key {F H : Hp} {v : V} {d : D} {k : Key} (c : Cnt K F H v d) (e : keyD d = some k) : v = kV k := by
  cases d with
  | int i => cases e; exact c.int
  | str i => cases e; exact c.str
  | _ => cases e
/-- the key's content, not one that is written in the text -/
def ck (ρ : Rho) : RV → Option D
  | .kon _ => none
  | x => cn ρ x
theorem ck_ok {H0 F0 H F : Hp} {γ0 γ : GAt} {σ : L2.St} {ρ : Rho} {v : V} {x : RV} {d : D} (r : Rp GP K H0 F0 γ0 γ σ H F ρ) (h : RVok GP K H0 γ0 γ σ H F ρ v x) (e : ck ρ x = some d) : Dd K F v d ∨ ∃ a, v = .ref a ∧ Own K F H a d := by
  cases x with
  | kon d' => cases e
  | val d' => cases e; exact .inl h
  | fr d' => cases e; obtain ⟨a, h1, h2, _⟩ := h; exact .inr ⟨a, h1, h2⟩
  | sl i =>
    have h : σ[i]? = some (some v) := h
    dsimp only [ck, cn] at e
    cases q : ρ[i]? with
    | none => rw [q] at e; cases e
    | some s =>
      rw [q] at e
      cases s with
      | none => cases e
      | some s =>
        cases s with
        | val d' =>
          cases e
          obtain ⟨u, e1, e2⟩ := r.val i d q
          rw [h] at e1; cases e1
          exact .inl e2
        | own d' =>
          cases e
          obtain ⟨a, e1, e2, _⟩ := r.own i d q
          rw [h] at e1; cases e1
          exact .inr ⟨a, rfl, e2⟩
        | gen n => cases e
theorem dget_ok {F H : Hp} {x y : V} {dx dy : D} (s : Same F H) (c1 : Cnt K F H x dx) (c2 : Dd K F y dy ∨ ∃ a, y = .ref a ∧ Own K F H a dy) (hb : lkA dx dy ≠ .bad) : ∃ a o, x = .ref a ∧ DGet H a y o ∧ (match lkA dx dy with
    | .some d => ∃ v, o = some v ∧ Dd K F v d
    | .none => o = none
    | .bad => False) := by
  have ky : ∀ {k}, keyD dy = some k → y = kV k := fun {k} e => by
    rcases c2 with h | ⟨a, _, h⟩
    · exact keyD_ok h e
    · cases h <;> cases e
  unfold lkA at hb ⊢
  cases dx with
  | dk kvs =>
    obtain ⟨a, kv, rfl, ha, g⟩ := c1.dk s
    cases q : keyD dy with
    | none => rw [q] at hb; exact absurd rfl hb
    | some k =>
      have e := ky q
      have z := lkK_ok k g
      refine ⟨a, valV kv k, rfl, .inl ⟨kv, k, .inl ha, e, rfl⟩, ?_⟩
      simp only [q]
      cases q2 : lkD kvs k with
      | none => rw [q2] at z; exact z
      | some d => rw [q2] at z; exact z
  | dt kvs =>
    obtain ⟨a, kv, rfl, ha, g⟩ := c1.dt s
    cases dy with
    | tup ks =>
      dsimp only at hb ⊢
      cases q : keysD ks with
      | none => rw [q] at hb; exact absurd rfl hb
      | some k =>
        have z := lkT_ok k g
        rcases c2 with h | ⟨b, _, h⟩
        · cases h with
          | tup e1 e2 =>
            rw [keysD_ok e2 q] at e1
            refine ⟨a, valV kv k, rfl, .inr ⟨kv, k, _, .inl ha, rfl, s _ _ e1, rfl⟩, ?_⟩
            simp only [q]
            cases q2 : lkD kvs k with
            | none => rw [q2] at z; exact z
            | some d => rw [q2] at z; exact z
        · cases h
    | _ => exact absurd rfl hb
  | _ => exact absurd rfl hb
def uDGet (ud uy : UE) : UE := fun ρ Q => ud ρ fun x ρ1 => uy ρ1 fun y ρ2 => match cn ρ2 (sf x), ck ρ2 y with
  | some dx, some dy => match lkA dx dy with
    | .some d => Q (.val d) ρ2
    | _ => False
  | _, _ => False
theorem le_dget {td ty : TE} {ud uy : UE} (hd : LE GP K B td ud) (hy : LE GP K B ty uy) : LE GP K B (tDGet td ty) (uDGet ud uy) := by
  intro H0 F0 γ0 _ γ σ H F ρ R Q r z k
  refine hd _ _ r z fun H1 F1 γ1 ρ1 v x r1 s1 k1 u1 => ?_
  obtain ⟨F2, r2, s2, k2⟩ := sf_ok r1 k1
  refine hy _ _ r2 u1 fun H3 F3 γ3 ρ3 w y r3 s3 k3 u3 => ?_
  split at u3
  · rename_i dx dy e1 e2
    split at u3
    · rename_i d ed
      obtain ⟨a, o, rfl, g, m⟩ := dget_ok r3.sub (RVok.cnt r3 (k2.same s3).one e1) (ck_ok r3 k3 e2) (by rw [ed]; exact fun x => nomatch x)
      rw [ed] at m
      obtain ⟨v', rfl, dd⟩ := m
      exact ⟨a, v', rfl, g, k _ _ _ _ _ (.val d) r3 (s1.trans (s2.trans s3)) dd u3⟩
    · exact u3.elim
  · exact u3.elim
def uDIn (neg : Bool) (uy ud : UE) : UE := fun ρ Q => uy ρ fun y ρ1 => ud ρ1 fun x ρ2 => match cn ρ2 x, ck ρ2 (sf y) with
  | some dx, some dy => match lkA dx dy with
    | .some _ => Q (.val (.bl (!neg))) ρ2
    | .none => Q (.val (.bl neg)) ρ2
    | .bad => False
  | _, _ => False
theorem din_any {neg : Bool} {td ty : TE} {ud uy : UE} {tt : TE} (htt : ∀ σ H R, ty σ H (fun y H1 => td σ H1 fun x H2 => ∃ a o, x = .ref a ∧ DGet H2 a y o ∧ R (.bl (if neg then !o.isSome else o.isSome)) H2) → tt σ H R) (hd : LE GP K B td ud) (hy : LE GP K B ty uy) : LE GP K B tt (uDIn neg uy ud) := by
  intro H0 F0 γ0 _ γ σ H F ρ R Q r z k
  refine htt _ _ _ (hy _ _ r z fun H1 F1 γ1 ρ1 w y r1 s1 k1 u1 => ?_)
  obtain ⟨F2, r2, s2, k2⟩ := sf_ok r1 k1
  refine hd _ _ r2 u1 fun H3 F3 γ3 ρ3 v x r3 s3 k3 u3 => ?_
  split at u3
  · rename_i dx dy e1 e2
    have fin : ∀ b, (∀ (hb : lkA dx dy ≠ .bad), True) → Q (.val (.bl b)) ρ3 → R (.bl b) H3 := fun b _ q => k _ _ _ _ _ (.val _) r3 (s1.trans (s2.trans s3)) (Dd.bl b) q
    have go : lkA dx dy ≠ .bad → _ := fun hb => dget_ok r3.sub (RVok.cnt r3 k3 e1) (ck_ok r3 ((k2.same s3).one) e2) hb
    split at u3
    · rename_i d ed
      obtain ⟨a, o, rfl, g, m⟩ := go (by rw [ed]; exact fun x => nomatch x)
      rw [ed] at m
      obtain ⟨v', rfl, dd⟩ := m
      refine ⟨a, _, rfl, g, ?_⟩
      have e : (if neg = true then !(Option.isSome (some v')) else Option.isSome (some v')) = !neg := by cases neg <;> rfl
      rw [e]
      exact fin _ (fun _ => trivial) u3
    · rename_i ed
      obtain ⟨a, o, rfl, g, m⟩ := go (by rw [ed]; exact fun x => nomatch x)
      rw [ed] at m
      cases m
      refine ⟨a, _, rfl, g, ?_⟩
      have e : (if neg = true then !(Option.isSome (none : Option V)) else Option.isSome (none : Option V)) = neg := by cases neg <;> rfl
      rw [e]
      exact fin _ (fun _ => trivial) u3
    · exact u3.elim
  · exact u3.elim
theorem le_din {td ty : TE} {ud uy : UE} (hd : LE GP K B td ud) (hy : LE GP K B ty uy) : LE GP K B (tDIn ty td) (uDIn false uy ud) := din_any (neg := false) (fun σ H R h => h) hd hy
theorem le_dnin {td ty : TE} {ud uy : UE} (hd : LE GP K B td ud) (hy : LE GP K B ty uy) : LE GP K B (tDNotIn ty td) (uDIn true uy ud) := din_any (neg := true) (fun σ H R h => h) hd hy
/-- d[k] = e -/
def putA (dx dy d : D) : Option D := match dx with
  | .dk kvs => match keyD dy with
    | some k => some (.dk (putD kvs k d))
    | none => none
  | .dt kvs => match dy with
    | .tup ks => match keysD ks with
      | some k => some (.dt (putD kvs k d))
      | none => none
    | _ => none
  | _ => none
def dlen : D → Nat
  | .dk kvs => kvs.length
  | .dt kvs => kvs.length
  | _ => 0
theorem dput_ok {F H : Hp} {a : Addr} {y v : V} {dx dy d d' : D} (s : Same F H) (c1 : Own K F H a dx) (c2 : Dd K F y dy ∨ ∃ a, y = .ref a ∧ Own K F H a dy) (h : Dd K F v d) (hl : dlen dx < sizeLine) (e : putA dx dy d = some d') :
    ∃ o, DPut H a y v (upd H a o) ∧ Own K F (upd H a o) a d' := by
  unfold putA at e
  cases c1 with
  | dK ha g =>
    dsimp only at e
    cases q : keyD dy with
    | none => rw [q] at e; cases e
    | some k =>
      rw [q] at e
      cases e
      have ey : y = kV k := by
        rcases c2 with h | ⟨a, _, h⟩
        · exact keyD_ok h q
        · cases h <;> cases q
      exact ⟨_, .inl ⟨_, k, ha, ey, by rw [g.length]; exact hl, rfl⟩, .dK upd_same (putK_dd h g)⟩
  | dT ha g =>
    cases dy with
    | tup ks =>
      dsimp only at e
      cases q : keysD ks with
      | none => rw [q] at e; cases e
      | some k =>
        rw [q] at e
        cases e
        rcases c2 with h2 | ⟨b, _, h2⟩
        · cases h2 with
          | tup e1 e2 =>
            rw [keysD_ok e2 q] at e1
            exact ⟨_, .inr ⟨_, k, _, ha, rfl, s _ _ e1, by rw [g.length]; exact hl, rfl⟩, .dT upd_same (putT_dd h g)⟩
        · cases h2
    | _ => cases e
  | _ => cases e
def uDPut (i : Nat) (uk uv : UE) : US := fun Q ρ => uv ρ fun x ρ1 => match ρ1[i]? with
  | some (some (.own _)) => uk ρ1 fun y ρ2 => fz (sf x) ρ2 fun d ρ3 => match ρ3[i]?, ck ρ3 (sf y) with
    | some (some (.own dx)), some dy => match putA dx dy d with
      | some d' => dlen dx < sizeLine ∧ Q.nx (ρ3.set i (some (.own d')))
      | none => False
    | _, _ => False
  | _ => False
theorem ls_dput {i : Nat} {tk tv : TE} {uk uv : UE} (hk : LE GP K B tk uk) (hv : LE GP K B tv uv) : LS GP K B (sDPut (tVar i) tk tv) (uDPut i uk uv) := by
  intro H0 F0 γ0 _ γ σ H F ρ E Q r z n b c t
  refine hv _ _ r z fun H1 F1 γ1 ρ1 v x r1 s1 k1 u1 => ?_
  obtain ⟨F2, r2, s2, k2⟩ := sf_ok r1 k1
  split at u1
  · rename_i ds0 e0
    obtain ⟨a, h1, h2, _⟩ := r2.own i _ e0
    refine ⟨_, h1, hk _ _ r2 u1 fun H3 F3 γ3 ρ3 w y r3 s3 k3 u3 => ?_⟩
    obtain ⟨F4, r4, s4, k4⟩ := sf_ok r3 k3
    obtain ⟨F5, ρ5, d, r5, s5, d5, q5⟩ := fz_ok r4 ((k2.same s3).same s4).one u3
    split at q5
    · rename_i dx dy e ek
      split at q5
      · rename_i d' ed
        obtain ⟨b', b1, b2, b3, _⟩ := r5.own i _ e
        rw [h1] at b1; cases b1
        obtain ⟨o, p1, p2⟩ := dput_ok r5.sub b2 (ck_ok r5 (k4.same s5).one ek) d5 q5.1 ed
        exact ⟨a, _, rfl, p1, n _ _ _ _ _ (r5.write e h1 p2) q5.2⟩
      · exact q5.elim
    · exact q5.elim
  · exact u1.elim
def uDNewK : UE := fun ρ Q => Q (.fr (.dk [])) ρ
def uDNewT : UE := fun ρ Q => Q (.fr (.dt [])) ρ
theorem le_dnewK : LE GP K B tDNewK uDNewK := fun H0 F0 γ0 _ γ σ H F ρ R Q r z k p np => k _ _ _ _ _ (.fr _) (r.same (same_upd np)) (Same.refl _) (fr_new r np (.dK upd_same .nil)) z
theorem le_dnewT : LE GP K B tDNewT uDNewT := fun H0 F0 γ0 _ γ σ H F ρ R Q r z k p np => k _ _ _ _ _ (.fr _) (r.same (same_upd np)) (Same.refl _) (fr_new r np (.dT upd_same .nil)) z
end DL
/-! the mathematics of scaled rules: who calls whom, when each one is told, how few these hang on -/
namespace CD
theorem nodup_lenT {α : Type} [DecidableEq α] : ∀ (l D : List α), l.Nodup → (∀ x ∈ l, x ∈ D) → l.length ≤ D.length
  | [], _, _, _ => Nat.zero_le _
  | x :: r, D, hn, h => by
    have hx := h x List.mem_cons_self
    have ih := nodup_lenT r (D.erase x) (List.nodup_cons.mp hn).2 fun y hy => (List.mem_erase_of_ne (fun e => (List.nodup_cons.mp hn).1 (by rw [← e]; exact hy))).mpr (h y (List.mem_cons_of_mem _ hy))
    rw [List.length_erase_of_mem hx] at ih
    have : 0 < D.length := List.length_pos_of_mem hx
    rw [List.length_cons]
    omega
theorem fm_congr {α β : Type} {f g : α → Option β} : ∀ {l : List α}, (∀ x ∈ l, f x = g x) → l.filterMap f = l.filterMap g
  | [], _ => rfl
  | x :: r, h => by rw [List.filterMap_cons, List.filterMap_cons, h x List.mem_cons_self, fm_congr fun y hy => h y (List.mem_cons_of_mem _ hy)]
theorem len_flat {α β : Type} (f : α → List β) (k : Nat) (h : ∀ x, (f x).length = k) : ∀ l : List α, (l.flatMap f).length = l.length * k
  | [] => by simp
  | x :: r => by
    rw [List.flatMap_cons, List.length_append, h, len_flat f k h r, List.length_cons, Nat.succ_mul]
    omega
structure IsSc (D : Int) (ads : List Int) : Prop where
  d2 : 2 ≤ D
  d5 : D ≤ 5
  one : 1 ≤ ads.length
  most : ads.length ≤ 5
  rng : ∀ a ∈ ads, 0 ≤ a ∧ a ≤ 20
  nd : ads.Nodup
/-- all who may call n, and the place of that call; those but n itself -/
def callsI (D : Int) (ads : List Int) (n : Int) : List (Int × Int) :=
  ads.zipIdx.filterMap fun e => if e.1 ≤ n ∧ (n - e.1) % D = 0 then some ((n - e.1) / D, 1 + (e.2 : Int)) else none
def callsO (D : Int) (ads : List Int) (n : Int) : List (Int × Int) := (callsI D ads n).filter fun p => decide (p.1 ≠ n)
section
variable {D : Int} {ads : List Int} (S : IsSc D ads)
include S
theorem callsI_mem {n : Int} {p : Int × Int} (h : p ∈ callsI D ads n) : ∃ a ∈ ads, a ≤ n ∧ (n - a) % D = 0 ∧ p.1 = (n - a) / D ∧ 1 ≤ p.2 ∧ p.2 ≤ 5 := by
  obtain ⟨e, he, hp⟩ := List.mem_filterMap.mp h
  have z := List.mem_zipIdx he
  have hm := S.most
  have ha : e.1 ∈ ads := by rw [z.2.2]; exact List.getElem_mem _
  by_cases c : e.1 ≤ n ∧ (n - e.1) % D = 0
  · rw [if_pos c] at hp
    cases hp
    exact ⟨e.1, ha, c.1, c.2, rfl, by show (1 : Int) ≤ 1 + (e.2 : Int); omega, by show 1 + (e.2 : Int) ≤ 5; have := z.2.1; omega⟩
  · rw [if_neg c] at hp; cases hp
theorem callsO_mem {n : Int} (h0 : 0 ≤ n) {p : Int × Int} (h : p ∈ callsO D ads n) : 0 ≤ p.1 ∧ p.1 < n ∧ 1 ≤ p.2 ∧ p.2 ≤ 5 ∧ ∃ a ∈ ads, a ≤ n ∧ p.1 = (n - a) / D := by
  obtain ⟨h1, h2⟩ := List.mem_filter.mp h
  obtain ⟨a, ha, an, md, e, q1, q5⟩ := callsI_mem S h1
  have ne : p.1 ≠ n := of_decide_eq_true h2
  have r := S.rng a ha
  have d2 := S.d2
  have p0 : 0 ≤ p.1 := by rw [e]; exact Int.ediv_nonneg (by omega) (by omega)
  have pl : p.1 ≤ n := by
    rw [e]
    have z := Int.ediv_le_self D (show 0 ≤ n - a by omega)
    omega
  exact ⟨p0, by omega, q1, q5, a, ha, an, e⟩
omit S in
theorem callsI_len (n : Int) : (callsI D ads n).length ≤ ads.length := by
  have := List.length_filterMap_le (fun e : Int × Nat => if e.1 ≤ n ∧ (n - e.1) % D = 0 then some ((n - e.1) / D, 1 + (e.2 : Int)) else none) ads.zipIdx
  rw [List.length_zipIdx] at this
  exact this
theorem callsI_len5 (n : Int) : (callsI D ads n).length ≤ 5 := Nat.le_trans (callsI_len n) S.most
theorem callsO_len5 (n : Int) : (callsO D ads n).length ≤ 5 := Nat.le_trans (List.length_filter_le _ _) (callsI_len5 S n)
end
/-- when n is told, or none -/
def tkF (D : Int) (ads : List Int) : Nat → Int → Option Int
  | 0, _ => some 0
  | f + 1, n => if n = 0 then some 0 else leastO ((callsO D ads n).filterMap fun p => (tkF D ads f p.1).map (· + p.2))
def tk (D : Int) (ads : List Int) (n : Int) : Option Int := tkF D ads n.toNat n
theorem tkF_same {D : Int} {ads : List Int} (S : IsSc D ads) : ∀ (f g : Nat) (n : Int), 0 ≤ n → n ≤ f → n ≤ g → tkF D ads f n = tkF D ads g n
  | 0, 0, _, _, _, _ => rfl
  | 0, g + 1, n, h0, hf, _ => by
    have : n = 0 := by omega
    subst this
    rw [tkF, tkF, if_pos rfl]
  | f + 1, 0, n, h0, _, hg => by
    have : n = 0 := by omega
    subst this
    rw [tkF, tkF, if_pos rfl]
  | f + 1, g + 1, n, h0, hf, hg => by
    rw [tkF, tkF]
    by_cases c : n = 0
    · rw [if_pos c, if_pos c]
    · rw [if_neg c, if_neg c]
      congr 1
      refine fm_congr fun p hp => ?_
      have z := callsO_mem S h0 hp
      rw [tkF_same S f g p.1 z.1 (by omega) (by omega)]
theorem tk_zero (D : Int) (ads : List Int) : tk D ads 0 = some 0 := rfl
theorem tk_eq {D : Int} {ads : List Int} (S : IsSc D ads) {n : Int} (h : 0 < n) : tk D ads n = leastO ((callsO D ads n).filterMap fun p => (tk D ads p.1).map (· + p.2)) := by
  obtain ⟨m, rfl⟩ : ∃ m : Nat, n = ((m + 1 : Nat) : Int) := ⟨(n - 1).toNat, by omega⟩
  unfold tk
  rw [Int.toNat_natCast, tkF, if_neg (by omega)]
  congr 1
  refine fm_congr fun p hp => ?_
  have z := callsO_mem S (by omega) hp
  rw [tkF_same S m p.1.toNat p.1 z.1 (by omega) (by omega)]
/-! ### how few people one hangs on -/
def Near (D n c : Int) : Prop := 0 ≤ c ∧ ∃ d : Nat, c ≤ n / D ^ d ∧ n / D ^ d ≤ c + 20
theorem Near.self {D n : Int} (h : 0 ≤ n) : Near D n n := ⟨h, 0, by rw [Int.pow_zero, Int.ediv_one]; exact Int.le_refl _, by rw [Int.pow_zero, Int.ediv_one]; omega⟩
theorem Near.step {D n c a : Int} (h : Near D n c) (hD : 2 ≤ D) (h0 : 0 ≤ a) (h20 : a ≤ 20) (hc : a ≤ c) : Near D n ((c - a) / D) := by
  obtain ⟨c0, d, h1, h2⟩ := h
  refine ⟨Int.ediv_nonneg (by omega) (by omega), d + 1, ?_⟩
  have e : n / D ^ (d + 1) = n / D ^ d / D := by
    rw [Int.pow_succ, Int.ediv_ediv_of_nonneg (Int.le_of_lt (Int.pow_pos (by omega)))]
  rw [e]
  constructor
  · exact Int.ediv_le_ediv (by omega) (by omega)
  · have z : n / D ^ d ≤ (c - a) + 20 * D := by omega
    have z2 := Int.ediv_le_ediv (c := D) (by omega) z
    rw [Int.add_mul_ediv_right _ _ (by omega)] at z2
    exact z2
def nearL (D n : Int) : List Int := (List.range 101).flatMap fun d => (List.range 21).map fun j : Nat => n / D ^ d - (j : Int)
theorem pow_ge {D : Int} (hD : 2 ≤ D) : ∀ d : Nat, (2 : Int) ^ d ≤ D ^ d
  | 0 => by simp
  | d + 1 => by
    rw [Int.pow_succ, Int.pow_succ]
    exact Int.mul_le_mul (pow_ge hD d) hD (by decide) (Int.le_of_lt (Int.pow_pos (by omega)))
theorem near_mem {D n c : Int} (hD : 2 ≤ D) (h0 : 0 ≤ n) (h30 : n ≤ 10 ^ 30) (h : Near D n c) : c ∈ nearL D n := by
  obtain ⟨c0, d, h1, h2⟩ := h
  refine List.mem_flatMap.mpr ?_
  by_cases hd : d ≤ 100
  · exact ⟨d, List.mem_range.mpr (by omega), List.mem_map.mpr ⟨(n / D ^ d - c).toNat, List.mem_range.mpr (by omega), by omega⟩⟩
  · have big : ∀ e : Nat, 100 ≤ e → n / D ^ e = 0 := fun e he => by
      have z1 := pow_ge hD e
      have z2 : (2 : Int) ^ 100 ≤ 2 ^ e := by
        obtain ⟨k, rfl⟩ : ∃ k, e = 100 + k := ⟨e - 100, by omega⟩
        rw [Int.pow_add]
        have : (1 : Int) ≤ 2 ^ k := Int.pow_pos (by decide)
        have z3 := Int.mul_le_mul_of_nonneg_left this (show (0 : Int) ≤ 2 ^ 100 by decide)
        rw [Int.mul_one] at z3
        exact z3
      have z3 : (10 : Int) ^ 30 < 2 ^ 100 := by decide
      exact Int.ediv_eq_zero_of_lt h0 (by omega)
    rw [big d (by omega)] at h1 h2
    exact ⟨100, List.mem_range.mpr (by decide), List.mem_map.mpr ⟨0, List.mem_range.mpr (by decide), by rw [big 100 (by decide)]; show (0 : Int) - ((0 : Nat) : Int) = c; omega⟩⟩
theorem nearL_len (D n : Int) : (nearL D n).length = 2121 := by
  unfold nearL
  rw [len_flat _ 21 (fun d => by rw [List.length_map, List.length_range]), List.length_range]
theorem few_near {D : Int} (hD : 2 ≤ D) {ns ks : List Int} (hn : ∀ n ∈ ns, 0 ≤ n ∧ n ≤ 10 ^ 30) (nd : ks.Nodup) (h : ∀ k ∈ ks, ∃ n ∈ ns, Near D n k) : ks.length ≤ ns.length * 2121 := by
  have z := nodup_lenT ks (ns.flatMap fun n => nearL D n) nd fun k hk => by
    obtain ⟨n, hm, hN⟩ := h k hk
    exact List.mem_flatMap.mpr ⟨n, hm, near_mem hD (hn n hm).1 (hn n hm).2 hN⟩
  rw [len_flat _ 2121 (fun n => nearL_len D n)] at z
  exact z
end CD
/-! own words: dicts with ints as keys; lists of tuples -/
namespace CD
open PySem PySem.Spec PyProof.Rows L2
def dkV (es : List (Int × V)) : List (Key × V) := es.map fun e => (Sum.inl e.1, e.2)
theorem dkV_len (es : List (Int × V)) : (dkV es).length = es.length := List.length_map _
theorem dkV_keys (es : List (Int × V)) : (dkV es).map (fun kv => kV kv.1) = (es.map (·.1)).map V.int := by
  unfold dkV
  rw [List.map_map, List.map_map]
  rfl
theorem dv_get : ∀ {es : List (Int × V)} {k : Int} {v : V}, (es.map (·.1)).Nodup → (k, v) ∈ es → valV (dkV es) (.inl k) = some v
  | [], _, _, _, h => by cases h
  | (k1, v1) :: r, k, v, nd, h => by
    obtain ⟨n1, n2⟩ := List.nodup_cons.mp nd
    unfold dkV valV
    rw [List.map_cons, List.find?_cons]
    rcases List.mem_cons.mp h with e | m
    · cases e
      rw [show decide ((Sum.inl k1 : Key) = Sum.inl k1) = true from decide_eq_true rfl]
      rfl
    · have ne : k1 ≠ k := fun e => n1 (by rw [e]; exact List.mem_map.mpr ⟨(k, v), m, rfl⟩)
      rw [show decide ((Sum.inl k1 : Key) = Sum.inl k) = false from decide_eq_false fun e => ne (Sum.inl.inj e)]
      exact dv_get n2 m
theorem dv_none : ∀ {es : List (Int × V)} {k : Int}, k ∉ es.map (·.1) → valV (dkV es) (.inl k) = none
  | [], _, _ => rfl
  | (k1, v1) :: r, k, h => by
    have ne : k1 ≠ k := fun e => h (by rw [List.map_cons, e]; exact List.mem_cons_self)
    unfold dkV valV
    rw [List.map_cons, List.find?_cons, show decide ((Sum.inl k1 : Key) = Sum.inl k) = false from decide_eq_false fun e => ne (Sum.inl.inj e)]
    exact dv_none fun m => h (by rw [List.map_cons]; exact List.mem_cons_of_mem _ m)
theorem dv_put {es : List (Int × V)} {k : Int} {v : V} (h : k ∉ es.map (·.1)) : putK (dkV es) (.inl k) v = dkV (es ++ [(k, v)]) := by
  unfold putK
  have e : (dkV es).any (fun kv => decide (kv.1 = (Sum.inl k : Key))) = false := by
    rw [List.any_eq_false]
    intro x hx
    obtain ⟨y, hy, rfl⟩ := List.mem_map.mp hx
    exact fun z => h (List.mem_map.mpr ⟨y, hy, Sum.inl.inj (of_decide_eq_true z)⟩)
  rw [e, if_neg Bool.false_ne_true]
  unfold dkV
  rw [List.map_append]
  rfl
theorem at_key {es : List (Int × V)} {k : Int} (h : k ∈ es.map (·.1)) : ∃ v, (k, v) ∈ es := by
  obtain ⟨⟨k', v⟩, m, e⟩ := List.mem_map.mp h
  exact ⟨v, by cases e; exact m⟩
/-- all that was tracked stays, but two objects -/
def Keep2 (H H' : Hp) (c f : Addr) : Prop := ∀ b o, H b = some o → b ≠ c → b ≠ f → H' b = some o
theorem _root_.L2.Same.keep2 {H H' : Hp} {c f : Addr} (s : Same H H') : Keep2 H H' c f := fun b o e _ _ => s b o e
theorem Keep2.trans {H H' H2 : Hp} {c f : Addr} (s : Keep2 H H' c f) (t : Keep2 H' H2 c f) : Keep2 H H2 c f := fun b o e n1 n2 => t b o (s b o e n1 n2) n1 n2
theorem keep2_c {H : Hp} {c f : Addr} {o : HO} : Keep2 H (upd H c o) c f := fun b x e n1 _ => by rw [upd_ne n1]; exact e
theorem keep2_f {H : Hp} {c f : Addr} {o : HO} : Keep2 H (upd H f o) c f := fun b x e _ n2 => by rw [upd_ne n2]; exact e
/-- a list of tuples -/
abbrev EntT := List V × Addr
def RowsAt (H : Hp) (l : Addr) (rows : List (List V)) : Prop := ∃ es : List EntT, H l = some (.lst (es.map fun e => V.ref e.2)) ∧ es.map (·.1) = rows ∧ ∀ e ∈ es, H e.2 = some (.tup e.1)
theorem RowsAt.same {H H' : Hp} {l : Addr} {rows : List (List V)} (h : RowsAt H l rows) (s : Same H H') : RowsAt H' l rows := let ⟨es, h1, h2, h3⟩ := h; ⟨es, s _ _ h1, h2, fun e he => s _ _ (h3 e he)⟩
theorem RowsAt.keep {H H' : Hp} {l c f : Addr} {rows : List (List V)} (h : RowsAt H l rows) (s : Keep2 H H' c f) (nc : l ≠ c) (nf : l ≠ f) (tc : ∀ t, H c ≠ some (.tup t)) (tf : ∀ t, H f ≠ some (.tup t)) : RowsAt H' l rows :=
  let ⟨es, h1, h2, h3⟩ := h
  ⟨es, s _ _ h1 nc nf, h2, fun e he => s _ _ (h3 e he) (fun x => tc e.1 (by rw [← x]; exact h3 e he)) (fun x => tf e.1 (by rw [← x]; exact h3 e he))⟩
theorem RowsAt.refs {H : Hp} {l : Addr} {rows : List (List V)} (h : RowsAt H l rows) : ∃ rs : List Addr, H l = some (.lst (rs.map V.ref)) ∧ rs.length = rows.length ∧ ∀ (i : Nat) (r : Addr) (row : List V), rs[i]? = some r → rows[i]? = some row → H r = some (.tup row) := by
  obtain ⟨es, h1, h2, h3⟩ := h
  refine ⟨es.map (·.2), by rw [h1, List.map_map]; rfl, by rw [List.length_map, ← h2, List.length_map], fun i r row hr hw => ?_⟩
  rw [← h2, List.getElem?_map] at hw
  rw [List.getElem?_map] at hr
  cases e : es[i]? with
  | none => rw [e] at hr; cases hr
  | some y =>
    rw [e] at hr hw
    cases hr
    cases hw
    exact h3 y (List.mem_of_getElem? e)
theorem dget_of {H : Hp} {c : Addr} {es : List (Int × V)} {k : Int} {v : V} (h : H c = some (.dK (dkV es))) (nd : (es.map (·.1)).Nodup) (m : (k, v) ∈ es) : DGet H c (.int k) (some v) := by
  have z := DGet.k (k := .inl k) h
  rw [dv_get nd m] at z
  exact z
theorem dput_of {H : Hp} {c : Addr} {es : List (Int × V)} {k : Int} {v : V} (h : H c = some (.dK (dkV es))) (n : k ∉ es.map (·.1)) (hl : es.length < sizeLine) : DPut H c (.int k) v (upd H c (.dK (dkV (es ++ [(k, v)])))) := by
  have z := DPut.k (k := .inl k) (v := v) h (by rw [dkV_len]; exact hl)
  rw [dv_put n] at z
  exact z
/-- k in d -/
theorem din_of {H : Hp} {c : Addr} {es : List (Int × V)} (k : Int) (h : H c = some (.dK (dkV es))) : ∃ o : Option V, DGet H c (.int k) o ∧ (o.isSome = true ↔ k ∈ es.map (·.1)) := by
  refine ⟨_, DGet.k (k := .inl k) h, ?_⟩
  constructor
  · intro e
    refine Decidable.by_contra fun n => ?_
    rw [dv_none n] at e
    cases e
  · intro m
    obtain ⟨v, hv⟩ := at_key m
    have e : (dkV es).find? (fun kv => decide (kv.1 = (Sum.inl k : Key))) ≠ none := fun z => by
      have z2 := List.find?_eq_none.mp z (Sum.inl k, v) (List.mem_map.mpr ⟨(k, v), hv, rfl⟩)
      exact z2 (decide_eq_true rfl)
    unfold valV
    cases c : (dkV es).find? (fun kv => decide (kv.1 = (Sum.inl k : Key))) with
    | none => exact absurd c e
    | some y => rfl
theorem orD_non (o : Option Int) : orD .non o = oV o := by cases o <;> rfl
theorem srt_take {ns : List Int} {i : Nat} {k c : Int} (hs : ns.Pairwise (· ≤ ·)) (hi : ns[i]? = some k) (hc : c ∈ ns) (hl : c < k) : c ∈ ns.take i := by
  obtain ⟨j, hj, rfl⟩ := List.mem_iff_getElem.mp hc
  have hi' := (List.getElem?_eq_some_iff.mp hi)
  obtain ⟨li, ei⟩ := hi'
  by_cases c2 : j < i
  · exact List.mem_take_iff_getElem.mpr ⟨j, by omega, rfl⟩
  · exfalso
    rcases Nat.lt_or_eq_of_le (Nat.le_of_not_lt c2) with l | e
    · have z := (List.pairwise_iff_getElem.mp hs) i j li hj l
      omega
    · subst e
      omega
/-! ### len(set(l)), l a list of ints -/
def tLenSetGL (K : PySem.W.Frag) (ta : TE) : TE := fun σ H Q => ta σ H fun x H1 => ∃ (l : Addr) (ns : List Int), x = .ref l ∧ SqL K H1 l (ns.map V.int) ∧ ns.length ≤ 1000 ∧
  ∀ ks : List Int, ks.Nodup → (∀ x, x ∈ ks ↔ x ∈ ns) → Q (.int (ks.length : Nat)) H1
theorem pe_lenSetGL {X : Cx} {a : Expr} {ta : TE} {p p2 q pos : Pos} (hg : Gl X "len") (hm : X.mg "len" = none) (hg2 : Gl X "set") (hm2 : X.mg "set" = none) (ha : PE X a ta) (hc : X.calm = true := by rfl)
    (na : starEach [a] X.env = (false, eval a X.env) :: starEach [] X.env := by rfl) : PE X (.Call (.Name "len" p) [.Call (.Name "set" p2) [a] [] q] [] pos) (tLenSetGL X.K ta) := by
  refine ⟨fun pins s σ H Q I h => ?_⟩
  refine Call_ (ld_blt I hg hm boot_len (PyProof.Rows.callWith_builtin1 (PyProof.Rows.args_cons ?_ rfl) rfl rfl))
  refine Call_ (ld_blt I hg2 hm2 boot_set (PyProof.Rows.callWith_type1 (PyProof.Rows.args_cons (thn (ha.run pins s σ H _ I h) fun v s1 ⟨x, H1, I1, r1, l, ns, ex, hq, hl, q1⟩ => PyProof.Rows.args_nil ?_) na) na rfl))
  subst ex
  cases r1
  obtain ⟨its, r, pl, hz⟩ := I1.list hq
  refine call_set_lst ns (I1.ok.hd hc) pl.isList r.ints (by unfold scanBound; omega) fun h' tk c hS hcl hk => PyProof.Rows.args_nil ?_
  obtain ⟨o, es, ep, t, ho, hex, hdt, g, nd, hm3, hb, hf, hn, _, _⟩ := hS
  have hmem : ∀ x, x ∈ es.toList.map keyOf ↔ x ∈ ns := fun j => by
    have z : decide (j ∈ ns) = true ↔ j ∈ es.toList.map keyOf := hm3 j
    rw [decide_eq_true_eq] at z
    exact z.symm
  have hlen : (es.toList.map keyOf).length = es.size := by simp
  have hle := nodup_lenT _ ns nd fun x hx => (hmem x).mp hx
  have I2 : Inv X pins σ H1 { s1 with heap := h', toks := tk } := I1.kept hk
  exact call_len_set ho hex hdt hf (by omega) ⟨.int (es.toList.map keyOf).length, H1, I2.tok _, ⟨_, by rw [hlen]⟩, q1 _ nd hmem⟩
/-! ### max(xs, default=d) -/
def maxO : List Int → Option Int
  | [] => none
  | n :: ns => some (ns.foldl max n)
def rMaxDf (K : PySem.W.Frag) : List V → List V → Hp → VK → Prop := fun vs zs H Q => ∃ (a : Addr) (ns : List Int) (d : V), vs = [V.ref a] ∧ zs = [d] ∧ SqL K H a (ns.map V.int) ∧ Q (orD d (maxO ns)) H
theorem cr_maxDef {X : Cx} (hc : X.calm = true) (hu : X.A.units + 1 < cLine) : CallRK X (.builtin "max") [Str.ofString "default"] (rMaxDf X.K) := by
  intro pins s σ H vs zs us ws Q I r rz h
  obtain ⟨a, ns, d, rfl, rfl, hs, q⟩ := h
  obtain rfl := Vals.ref1 r
  obtain ⟨w1, rfl, e1⟩ := vals1 rz
  obtain ⟨its, rv, hl, _⟩ := I.list hs
  have hi := rv.ints
  refine PySem.W.max_list_default (I.ok.hd hc) hl.isList (xs := ns.map PyData.int) (as := []) (by simpa using reads_ints hi) (alike_ints ns) (by rw [depth_ints]; exact hu) (fun e h' tk hk => ?_) fun y ys i v h' tk bs e hv hr hk => ?_
  · have e2 : ns = [] := List.map_eq_nil_iff.mp e
    subst e2
    exact ⟨d, H, I.kept hk, e1, q⟩
  · cases ns with
    | nil => cases e
    | cons n ns =>
      rw [List.map_cons] at e
      injection e with e2 e3
      subst e2 e3
      rw [PySem.W.maxD_ints] at hr
      cases hr with
      | int i t => exact ⟨.int _, H, I.kept hk, ⟨t, rfl⟩, q⟩
end CD
/-! lifted readings 7: more of them -/
namespace DL
open PySem PySem.Spec PyProof.Rows L2 CD
variable {GP : GenP} {K : PySem.W.Frag}
variable {B : Hp × Hp × GAt}
/-! ### tuples -/
def pCatT : P2 := fun x y Q => match x, y with
  | .tup a, .tup b => a.length + b.length ≤ sizeLine ∧ Q (.val (.tup (a ++ b)))
  | _, _ => False
def pRepT : P2 := fun x y Q => match x, y with
  | .tup a, .int k => a ≠ [] ∧ 0 ≤ k ∧ k ≤ 1000 ∧ a.length ≤ 1000 ∧ Q (.val (.tup (List.replicate k.toNat a).flatten))
  | _, _ => False
/-- an operation that gives a tuple, new or one that was there: told by what is tracked -/
def OpT (K : PySem.W.Frag) (F H H' : Hp) (v : V) (ds : List D) : Prop := ∃ a xs, v = .ref a ∧ SqT K H' a xs ∧ DdL K F xs ds
/-- operands that are tracked tuples: none of them written in the text -/
def uOpT (p : D → D → (D → Prop) → Prop) (ua ub : UE) : UE := fun ρ Q => ua ρ fun x ρ1 => ub ρ1 fun y ρ2 => match ck ρ2 (sf x), ck ρ2 (sf y) with
  | some dx, some dy => p dx dy fun z => Q (.val z) ρ2
  | _, _ => False
theorem ck_tup {H0 F0 H F : Hp} {γ0 γ : GAt} {σ : L2.St} {ρ : Rho} {v : V} {x : RV} {ds : List D} (r : Rp GP K H0 F0 γ0 γ σ H F ρ) (h : RVok GP K H0 γ0 γ σ H F ρ v x) (e : ck ρ x = some (.tup ds)) : ∃ a xs, v = .ref a ∧ F a = some (.tup xs) ∧ DdL K F xs ds := by
  rcases ck_ok r h e with h9 | ⟨a, _, h9⟩
  · cases h9 with
    | tup e9 g => exact ⟨_, _, rfl, e9, g⟩
  · cases h9
theorem ck_dd {H0 F0 H F : Hp} {γ0 γ : GAt} {σ : L2.St} {ρ : Rho} {v : V} {x : RV} {d : D} (r : Rp GP K H0 F0 γ0 γ σ H F ρ) (h : RVok GP K H0 γ0 γ σ H F ρ v x) (e : ck ρ x = some d) (f : flatD d = true) : Dd K F v d := by
  rcases ck_ok r h e with h | ⟨a, _, h⟩
  · exact h
  · cases h <;> cases f
theorem le_catT {ta tb : TE} {ua ub : UE} (ha : LE GP K B ta ua) (hb : LE GP K B tb ub) : LE GP K B (tOp (rCatA K) ta tb) (uOpT (fun x y Q => match x, y with
    | .tup a, .tup b => a.length + b.length ≤ sizeLine ∧ Q (.tup (a ++ b))
    | _, _ => False) ua ub) := by
  intro H0 F0 γ0 _ γ σ H F ρ R Q r z k
  refine ha _ _ r z fun H1 F1 γ1 ρ1 v x r1 s1 k1 u1 => ?_
  obtain ⟨F2, r2, s2, k2⟩ := sf_ok r1 k1
  refine hb _ _ r2 u1 fun H3 F3 γ3 ρ3 w y r3 s3 k3 u3 => ?_
  obtain ⟨F4, r4, s4, k4⟩ := sf_ok r3 k3
  dsimp only at u3
  split at u3
  · rename_i dx dy e1 e2
    split at u3
    · rename_i a b
      obtain ⟨p, xs, rfl, hp, gp⟩ := ck_tup r4 (((k2.same s3).same s4).one) e1
      obtain ⟨q, ys, rfl, hq, gq⟩ := ck_tup r4 k4.one e2
      have S := s1.trans (s2.trans (s3.trans s4))
      have hp' := r4.sub _ _ hp
      have hq' := r4.sub _ _ hq
      refine ⟨p, q, xs, ys, rfl, rfl, .inl (.inl hp'), .inl (.inl hq'), by rw [gp.length, gq.length]; exact u3.1, fun e => ?_, fun _ e => ?_, fun _ _ l nl => ?_⟩
      · subst e
        have ea : a = [] := by cases gp; rfl
        subst ea
        exact k _ _ _ _ _ (.val _) r4 S (.tup hq gq) u3.2
      · subst e
        have eb : b = [] := by cases gq; rfl
        subst eb
        have := u3.2
        rw [List.append_nil] at this
        exact k _ _ _ _ _ (.val _) r4 S (.tup hp gp) this
      · obtain ⟨F5, r5, s5, d5⟩ := new_tup r4 nl (gp.append gq)
        exact k _ _ _ _ _ (.val _) r5 (S.trans s5) d5 u3.2
    · exact u3.elim
  · exact u3.elim
theorem le_repT {ta tb : TE} {ua ub : UE} (ha : LE GP K B ta ua) (hb : LE GP K B tb ub) : LE GP K B (tOp (rRepA K) ta tb) (uOpT (fun x y Q => match x, y with
    | .tup a, .int k => a ≠ [] ∧ 0 ≤ k ∧ k ≤ 1000 ∧ a.length ≤ 1000 ∧ Q (.tup (List.replicate k.toNat a).flatten)
    | _, _ => False) ua ub) := by
  intro H0 F0 γ0 _ γ σ H F ρ R Q r z k
  refine ha _ _ r z fun H1 F1 γ1 ρ1 v x r1 s1 k1 u1 => ?_
  obtain ⟨F2, r2, s2, k2⟩ := sf_ok r1 k1
  refine hb _ _ r2 u1 fun H3 F3 γ3 ρ3 w y r3 s3 k3 u3 => ?_
  obtain ⟨F4, r4, s4, k4⟩ := sf_ok r3 k3
  dsimp only at u3
  split at u3
  · rename_i dx dy e1 e2
    split at u3
    · rename_i a n
      obtain ⟨p, xs, rfl, hp, gp⟩ := ck_tup r4 (((k2.same s3).same s4).one) e1
      have hw := ck_dd r4 k4.one e2 rfl
      cases hw
      obtain ⟨n1, n2, n3, n4, q⟩ := u3
      have S := s1.trans (s2.trans (s3.trans s4))
      have hp' := r4.sub _ _ hp
      obtain ⟨m, rfl⟩ : ∃ m : Nat, n = m := ⟨_, (Int.toNat_of_nonneg n2).symm⟩
      rw [Int.toNat_natCast] at q
      refine ⟨p, xs, m, rfl, rfl, .inl (.inl hp'), ?_, by omega, by rw [gp.length]; omega, fun e => ?_, fun _ l nl => ?_⟩
      · intro e
        subst e
        cases gp
        exact n1 rfl
      · subst e
        have := q
        rw [show (List.replicate 1 a).flatten = a by simp] at this
        exact k _ _ _ _ _ (.val _) r4 S (.tup hp gp) this
      · obtain ⟨F5, r5, s5, d5⟩ := new_tup r4 nl (rep_dd gp m)
        exact k _ _ _ _ _ (.val _) r5 (S.trans s5) d5 q
    · exact u3.elim
  · exact u3.elim
/-- t[i:j] -/
def uSlT (a : UE) (l h : UO) : UE := fun ρ Q => a ρ fun x ρ1 => l ρ1 fun i ρ2 => h ρ2 fun j ρ3 => match ck ρ3 (sf x) with
  | some (.tup ds) => Q (.val (.tup (cutD ds i j))) ρ3
  | _ => False
theorem cutD_all {ds : List D} {i j : Option Int} (h : HT.sIx ds.length 0 i = 0 ∧ HT.sIx ds.length ds.length j = ds.length) : cutD ds i j = ds := by
  unfold cutD
  rw [h.1, h.2, List.drop_zero, Nat.sub_zero, List.take_length]
theorem le_slT {te : TE} {tl th : TO} {ue : UE} {ul uh : UO} (he : LE GP K B te ue) (hl : LO GP K B tl ul) (hh : LO GP K B th uh) : LE GP K B (tSl (rSlA K) te tl th) (uSlT ue ul uh) := by
  intro H0 F0 γ0 _ γ σ H F ρ R Q r z k
  refine he _ _ r z fun H1 F1 γ1 ρ1 v x r1 s1 k1 u1 => ?_
  obtain ⟨F2, r2, s2, k2⟩ := sf_ok r1 k1
  refine hl _ _ r2 u1 fun H3 F3 γ3 ρ3 i r3 s3 u3 => ?_
  refine hh _ _ r3 u3 fun H4 F4 γ4 ρ4 j r4 s4 u4 => ?_
  split at u4
  · rename_i ds e
    obtain ⟨p, xs, rfl, hp, gp⟩ := ck_tup r4 (((k2.same s3).same s4).one) e
    have S := s1.trans (s2.trans (s3.trans s4))
    refine ⟨p, xs, rfl, .inl (.inl (r4.sub _ _ hp)), fun e => ?_, fun _ l nl => ?_⟩
    · rw [gp.length] at e
      rw [cutD_all e] at u4
      exact k _ _ _ _ _ (.val _) r4 S (.tup hp gp) u4
    · obtain ⟨F5, r5, s5, d5⟩ := new_tup r4 nl (cutV_dd i j gp)
      exact k _ _ _ _ _ (.val _) r5 (S.trans s5) d5 u4
  · exact u4.elim
/-! ### lists -/
def uRevL (a : UE) : UE := fun ρ Q => a ρ fun x ρ1 => match cn ρ1 x with
  | some (.list ds) => Q (.fr (.list ds.reverse)) ρ1
  | _ => False
theorem le_revL {te : TE} {ue : UE} (he : LE GP K B te ue) : LE GP K B (tRevL K te) (uRevL ue) := by
  intro H0 F0 γ0 _ γ σ H F ρ R Q r z k
  refine he _ _ r z fun H1 F1 γ1 ρ1 v x r1 s1 k1 u1 => ?_
  split at u1
  · rename_i ds e
    obtain ⟨a, xs, rfl, hx, g⟩ := (RVok.cnt r1 k1 e).list r1.sub
    exact ⟨a, xs, rfl, .inl (.inl hx), fun p np => k _ _ _ _ _ (.fr _) (r1.same (same_upd np)) s1 (fr_new r1 np (.lst upd_same g.reverse)) u1⟩
  · exact u1.elim
/-- list(range(..)) -/
def uLstRg1 (a : UE) : UE := fun ρ Q => a ρ fun x ρ1 => match cn ρ1 x with
  | some (.int n) => RgOk 0 n ∧ Q (.fr (.list (rgD 0 n.toNat))) ρ1
  | _ => False
def uLstRg2 (a b : UE) : UE := fun ρ Q => a ρ fun x ρ1 => b ρ1 fun y ρ2 => match cn ρ2 (sf x), cn ρ2 y with
  | some (.int i), some (.int j) => RgOk i j ∧ Q (.fr (.list (rgD i (j - i).toNat))) ρ2
  | _, _ => False
theorem rg_dd {F : Hp} (a b : Int) : DdL K F (rgV a b) (rgD a (b - a).toNat) := by
  unfold rgV rgD
  generalize List.range (b - a).toNat = l
  induction l with
  | nil => exact .nil
  | cons i r ih => exact .cons (.int _) ih
theorem le_lstRg1 {ta : TE} {ua : UE} (ha : LE GP K B ta ua) : LE GP K B (tLstRg (tRg1 ta)) (uLstRg1 ua) := by
  intro H0 F0 γ0 _ γ σ H F ρ R Q r z k
  refine ha _ _ r z fun H1 F1 γ1 ρ1 v x r1 s1 k1 u1 => ?_
  split at u1
  · rename_i n e
    refine ⟨n, (RVok.cnt r1 k1 e).int, u1.1, fun p np => ?_⟩
    have g := rg_dd (K := K) (F := F1) 0 n
    rw [Int.sub_zero] at g
    exact k _ _ _ _ _ (.fr _) (r1.same (same_upd np)) s1 (fr_new r1 np (.lst upd_same g)) u1.2
  · exact u1.elim
theorem le_lstRg2 {ta tb : TE} {ua ub : UE} (ha : LE GP K B ta ua) (hb : LE GP K B tb ub) : LE GP K B (tLstRg (tRg2 ta tb)) (uLstRg2 ua ub) := by
  intro H0 F0 γ0 _ γ σ H F ρ R Q r z k
  refine ha _ _ r z fun H1 F1 γ1 ρ1 v x r1 s1 k1 u1 => ?_
  obtain ⟨F2, r2, s2, k2⟩ := sf_ok r1 k1
  refine hb _ _ r2 u1 fun H3 F3 γ3 ρ3 w y r3 s3 k3 u3 => ?_
  split at u3
  · rename_i i j e1 e2
    exact ⟨i, j, (RVok.cnt r3 (k2.same s3).one e1).int, (RVok.cnt r3 k3 e2).int, u3.1, fun p np => k _ _ _ _ _ (.fr _) (r3.same (same_upd np)) (s1.trans (s2.trans s3)) (fr_new r3 np (.lst upd_same (rg_dd i j))) u3.2⟩
  · exact u3.elim
/-! ### more built-ins -/
def pLenD : PN := fun ds Q => match ds with
  | [.dk kvs] => Q (.val (.int kvs.length))
  | _ => False
theorem lb_lenD : LB K (fun xs H Q => ∃ a kvs, xs = [V.ref a] ∧ H a = some (.dK kvs) ∧ Q (.int kvs.length) H) pLenD := by
  intro F H vs ds R Q s c p h
  unfold pLenD at p
  split at p
  · obtain ⟨v, rfl, k⟩ := cl1 c
    obtain ⟨a, kvs, rfl, hx, g⟩ := k.dk s
    exact ⟨a, kvs, rfl, hx, by rw [g.length]; exact h _ _ (.val _) (Same.refl _) (Dd.int _) p⟩
  · exact p.elim
def pMaxT : PN := fun ds Q => match ds with
  | [.tup xs] => ∃ (n : Int) (ns : List Int), xs = (n :: ns).map D.int ∧ Q (.val (.int (ns.foldl max n)))
  | _ => False
theorem lb_maxT : LB K (rMaxT K) pMaxT := by
  intro F H vs ds R Q s c p h
  unfold pMaxT at p
  split at p
  · obtain ⟨n, ns, rfl, p⟩ := p
    obtain ⟨v, rfl, k⟩ := cl1 c
    obtain ⟨a, xs, rfl, hx, g⟩ := k.tup s
    rw [g.ints] at hx
    exact ⟨a, n, ns, rfl, hx, h _ _ (.val _) (Same.refl _) (Dd.int _) p⟩
  · exact p.elim
/-- max(xs, default=d), min(..) -/
def uMaxD (a d : UA) : UE := fun ρ Q => a ρ fun xs ρ1 => d ρ1 fun ys ρ2 => match cns ρ2 xs, cns ρ2 ys with
  | some [.list ds], some [.int e] => ∃ ns : List Int, ds = ns.map D.int ∧ Q (.val (.int ((maxO ns).getD e))) ρ2
  | _, _ => False
/-- min(xs, default=None) -/
def oD2 : Option Int → D
  | none => .non
  | some i => .int i
def uMinD (a d : UA) : UE := fun ρ Q => a ρ fun xs ρ1 => d ρ1 fun ys ρ2 => match cns ρ2 xs, cns ρ2 ys with
  | some [.list ds], some [.non] => ∃ ns : List Int, ds = ns.map D.int ∧ Q (.val (oD2 (leastO ns))) ρ2
  | _, _ => False
def tBK (r : List V → List V → Hp → VK → Prop) (t tk : TA) : TE := fun σ H Q => t σ H fun vs H1 => tk σ H1 fun zs H2 => r vs zs H2 Q
/-- x, y = e1, e2 -/
def uPar (i j : Nat) (a b : UE) : US := fun Q ρ => a ρ fun x ρ1 => match x with
  | .fr d => b ρ1 fun y ρ2 => (match y with
    | .fr e => Q.nx ((ρ2.set i (some (.own d))).set j (some (.own e)))
    | y => fz y ρ2 fun dy ρ3 => Q.nx ((ρ3.set i (some (.own d))).set j (some (.val dy))))
  | x => fz x ρ1 fun d ρ1' => b ρ1' fun y ρ2 => (match y with
    | .fr e => Q.nx ((ρ2.set i (some (.val d))).set j (some (.own e)))
    | y => fz y ρ2 fun dy ρ3 => Q.nx ((ρ3.set i (some (.val d))).set j (some (.val dy))))
theorem ownAt_set {σ : L2.St} {ρ : Rho} {i j : Nat} {w : V} {s : SV} {b : Addr} (h : OwnAt (σ.set i (some w)) (ρ.set i (some s)) b j) (hl : σ.length = ρ.length) : (j = i ∧ w = .ref b ∧ ∃ e, s = .own e) ∨ OwnAt σ ρ b j := by
  obtain ⟨⟨e, he⟩, h2⟩ := h
  by_cases c : j = i
  · subst c
    obtain ⟨h3, h4⟩ := set_at he
    refine .inl ⟨rfl, ?_, e, by injection h3⟩
    rw [List.getElem?_set_self (by rw [hl]; exact h4)] at h2
    injection h2 with h2
    injection h2
  · rw [set_none c] at he h2
    exact .inr ⟨⟨e, he⟩, h2⟩
theorem ls_par {i j : Nat} {ta tb : TE} {ua ub : UE} (ha : LE GP K B ta ua) (hb : LE GP K B tb ub) : LS GP K B (tPar i j (tCons ta (tCons tb tNil))) (uPar i j ua ub) := by
  intro H0 F0 γ0 _ γ σ H F ρ E Q r z n bk ct rt
  refine ha _ _ r z fun H1 F1 γ1 ρ1 v x r1 s1 k1 u1 => ?_
  have other : ∀ {x : RV}, RVok GP K H0 γ0 γ1 σ H1 F1 ρ1 v x → (fz x ρ1 fun d ρ1' => ub ρ1' fun y ρ2 => (match y with
    | .fr e => Q.nx ((ρ2.set i (some (.val d))).set j (some (.own e)))
    | y => fz y ρ2 fun dy ρ3 => Q.nx ((ρ3.set i (some (.val d))).set j (some (.val dy))))) → tCons tb tNil σ H1 fun xs H2 => ∃ v' w, v :: xs = [v', w] ∧ E.nx ((σ.set i (some v')).set j (some w)) H2 := by
    intro x k1 u1
    obtain ⟨F2, ρ2, d, r2, s2, d2, q2⟩ := fz_ok r1 k1 u1
    refine hb _ _ r2 q2 fun H3 F3 γ3 ρ3 w y r3 s3 k3 u3 => ?_
    refine ⟨v, w, rfl, ?_⟩
    have via : ∀ {y : RV}, RVok GP K H0 γ0 γ3 σ H3 F3 ρ3 w y → (fz y ρ3 fun dy ρ3 => Q.nx ((ρ3.set i (some (.val d))).set j (some (.val dy)))) → E.nx ((σ.set i (some v)).set j (some w)) H3 := by
      intro y k3 u3
      obtain ⟨F4, ρ4, dy, r4, s4, d4, q4⟩ := fz_ok r3 k3 u3
      exact n _ _ _ _ _ ((r4.setVal i (d2.same (s3.trans s4))).setVal j d4) q4
    cases y with
    | val d' => exact via k3 u3
    | kon d' => exact via k3 u3
    | sl l => exact via k3 u3
    | fr e =>
      obtain ⟨b, rfl, o, h1, h2, h3, h4⟩ := k3
      exact n _ _ _ _ _ ((r3.setVal i (d2.same s3)).setOwn j o h1 h2 h3 (fun l hl => by
        rcases ownAt_set hl r3.len with ⟨_, _, e, he⟩ | hl
        · cases he
        · exact h4 l hl)) u3
  cases x with
  | val d' => exact other k1 u1
  | kon d' => exact other k1 u1
  | sl l => exact other k1 u1
  | fr d =>
    obtain ⟨a, rfl, o, h1, h2, h3, h4⟩ := k1
    obtain ⟨ob, hob⟩ := o.there
    have nt : ∀ xs, ob ≠ .tup xs := fun xs e => o.nt (by rw [hob, e])
    have nga := r1.nga h2
    have f0a : F0 a = none := Same.free r1.f0 h1
    haveI : FinerC GP K B (upd H0 a ob) F0 γ0 := ⟨fun r => FinerC.fin (r.letgo h2 f0a nga nt).1, FinerC.g (GP := GP) (K := K) H0 F0⟩
    refine hb _ _ (r1.hold hob h1 h2 h3 h4) u1 fun H3 F3 γ3 ρ3 w y r3 s3 k3 u3 => ?_
    refine ⟨_, w, rfl, ?_⟩
    have own2 : ∀ {F4 H4}, Same F1 F4 → H4 a = some ob → Own K F4 H4 a d := fun s e => o.move s (e.trans hob.symm)
    have via : ∀ {y : RV}, RVok GP K (upd H0 a ob) γ0 γ3 σ H3 F3 ρ3 w y → (fz y ρ3 fun dy ρ3 => Q.nx ((ρ3.set i (some (.own d))).set j (some (.val dy)))) → E.nx ((σ.set i (some (.ref a))).set j (some w)) H3 := by
      intro y k3 u3
      obtain ⟨F4, ρ4, dy, r4, s4, d4, q4⟩ := fz_ok r3 k3 u3
      obtain ⟨rg, e1, e2, e3, e4⟩ := r4.letgo h2 f0a nga nt
      exact n _ _ _ _ _ ((rg.setOwn i (own2 (s3.trans s4) e1) e2 h2 e3 e4).setVal j d4) q4
    cases y with
    | val d' => exact via k3 u3
    | kon d' => exact via k3 u3
    | sl l => exact via k3 u3
    | fr e =>
      obtain ⟨b, rfl, o', b1, b2, b3, b4⟩ := k3
      obtain ⟨rg, e1, e2, e3, e4⟩ := r3.letgo h2 f0a nga nt
      have nab : b ≠ a := fun x => by rw [x, upd_same] at b2; cases b2
      rw [upd_ne nab] at b2
      exact n _ _ _ _ _ ((rg.setOwn i (own2 s3 e1) e2 h2 e3 e4).setOwn j o' b1 b2 b3 (fun l hl => by
        rcases ownAt_set hl rg.len with ⟨_, e, _⟩ | hl
        · injection e with e
          exact nab e.symm
        · exact b4 l hl)) u3
/-! ### truth of a value -/
def trD : D → Option Bool
  | .non => some false
  | .bl b => some b
  | .int i => some (i != 0)
  | .list ds => some (!ds.isEmpty)
  | .tup ds => some (!ds.isEmpty)
  | _ => none
def uTruth (u : UE) : UT := fun ρ Q => u ρ fun x ρ1 => match cn ρ1 x with
  | some d => match trD d with
    | some b => Q b ρ1
    | none => False
  | none => False
theorem empty_dd {F : Hp} {xs : List V} {ds : List D} (g : DdL K F xs ds) : xs.isEmpty = ds.isEmpty := by cases g <;> rfl
theorem lt_truth {t : TE} {u : UE} (h : LE GP K B t u) : LT GP K B (fun σ H Q => t σ H fun x H' => ∃ k, TruV K x H' k ∧ Q k H') (uTruth u) := by
  intro H0 F0 γ0 _ γ σ H F ρ R Q r z k
  refine h _ _ r z fun H1 F1 γ1 ρ1 v x r1 s1 k1 u1 => ?_
  split at u1
  · rename_i d e
    have c := RVok.cnt r1 k1 e
    split at u1
    · rename_i b eb
      refine ⟨b, ?_, k _ _ _ _ _ r1 s1 u1⟩
      cases d with
      | non => rw [c.non]; cases eb; rfl
      | bl b' => rw [c.bl]; cases eb; rfl
      | int i => rw [c.int]; cases eb; rfl
      | list ds =>
        obtain ⟨a, xs, rfl, hx, g⟩ := c.list r1.sub
        cases eb
        exact .inl ⟨xs, .inl (.inl hx), by rw [empty_dd g]⟩
      | tup ds =>
        obtain ⟨a, xs, rfl, hx, g⟩ := c.tup r1.sub
        cases eb
        exact .inr (.inl ⟨xs, hx, by rw [empty_dd g]⟩)
      | _ => cases eb
    · exact u1.elim
  · exact u1.elim
/-! ### isinstance of ints, bools, tuples, texts -/
def tyD : D → String
  | .non => "NoneType"
  | .bl _ => "bool"
  | .int _ => "int"
  | .str _ => "str"
  | .list _ => "list"
  | .tup _ => "tuple"
  | .dk _ => "dict"
  | .dt _ => "dict"
  | .set _ => "set"
  | .scr _ => "list"
  | .fn _ => "function"
/-- a built-in class -/
def uTyK (n : String) (k : Option Bool → Option Bool) : UE := fun _ _ => False
/-! ### a def without arguments -/
section
variable {X : Cx} {k : Nat} {sp : Sp} {x : Str} {p pos : Pos}
theorem pe_calG0 (C : CalG X.prog X.w X.K X.mg X.base k x [] sp) (hgd : X.A.guards = some []) (hr : Room k X.A) (hg : Gl X x) (hdb : (x == ("__debug__" : Str)) = false := by decide) : PE X (.Call (.Name x p) [] [] pos) (tCall sp [] E0 tNil) := by
  obtain ⟨f, fd, G, m, kp, b⟩ := C
  refine ⟨fun pins s σ H Q I h => wpAny_Call_Name_kw (ld_glob I hg m ?_ hdb)⟩
  have h' : sp [] H Q E0 := h
  have hbb := b s [] I.kIn rfl
  refine PySem.W.callWith_K0 I.kIn kp (wpAny_call (codeAny_mono (G.run X.A X.stack s H ⟨[], []⟩ [] [] Q E0 hgd hr I.env0 (by simpa using hbb) .nil h') fun r s' hq => ?_))
  match r, hq with
  | .error _, hq => exact False.elim hq
  | .ok (.ret u), hq => exact I.after hq
  | .ok .next, hq => exact False.elim hq
  | .ok .brk, hq => exact False.elim hq
  | .ok .cont, hq => exact False.elim hq
end
/-- an old promise as one of the new kind -/
theorem toG {P : Program} {w : World} {mg : Str → Option Value} {base : Heap} {k : Nat} {x : Str} {ps : List Str} {sp sp' : Sp} (C : Cal P w K mg base k x ps sp) (h : ∀ vs H Q E, sp' vs H Q E → sp vs H Q E) : CalG P w K mg base k x ps sp' := by
  obtain ⟨f, fd, F, r⟩ := C
  exact ⟨f, fd, ⟨fun vs H Q E q => F.len vs H Q E (h _ _ _ _ q), fun A outer s H args us vs Q E _ hr e0 hb hv q => F.run A outer s H args us vs Q E hr e0 hb hv (h _ _ _ _ q)⟩, r⟩
end DL
/-! lifted readings 8: defs that raise; what may come out of a call; raise -/
namespace DL
open PySem PySem.Spec PyProof.Rows L2 CD
/-! ### a def that may raise, asked where nothing is under repr -/
structure GX (P : Program) (w : World) (K : PySem.W.Frag) (mg : Str → Option Value) (base : Heap) (k : Nat) (f : Addr) (fd : FuncData) (ps : List Str) (sp : Sp) : Prop where
  len : ∀ vs H Q E, sp vs H Q E → vs.length = ps.length
  run : ∀ (A : Around) (outer : List PySem.Env) (s : Shared) (H : Hp) (args : Args) (us : List Value) (vs : List V) (Q : VK) (E : XK), A.guards = some [] → Room k A → Env0 P w K mg base A outer s H → BindsTo s fd args (ps.zip us) → Vals vs us → sp vs H Q E →
    codeAny (model P w) A (.call (.ref f) args) (CR (L2.CX P w) outer P w H s Q E) s
def CalX (P : Program) (w : World) (K : PySem.W.Frag) (mg : Str → Option Value) (base : Heap) (k : Nat) (x : Str) (ps : List Str) (sp : Sp) : Prop :=
  ∃ f fd, GX P w K mg base k f fd ps sp ∧ mg x = some (.ref f) ∧ PySem.W.keepIn K (.ref f) = true ∧ Binds K fd ps []
section
variable {P : Program} {w : World} {K : PySem.W.Frag} {mg : Str → Option Value} {base : Heap}
theorem gx_ok {x qual : Str} {st : Stmt} {f : Addr} {fd : FuncData} {N ps : List Str} {k : Nat} {sp : Sp} (F : Fun K x qual st f fd) (S : FnScope N ps (defScope st)) (len : ∀ vs H Q E, sp vs H Q E → vs.length = ps.length)
    (body : ∀ (cdv : Value) (A : Around) (outer : List PySem.Env) (s : Shared) (H : Hp) (vs : List V) (Q : VK) (E : XK), A.guards = some [] → Room k (A.deeper (envOfC qual (defScope st) s.heap.objs.size f cdv)) → sp vs H Q E →
      ∃ t, PSs (cxOf (L2.CX P w) P w K mg base N qual (defScope st) f cdv A outer s H E) (defBody st) t ∧ t { nx := fun _ H' => Q .non H', rt := Q } (start N vs) H) : GX P w K mg base (k + 1) f fd ps sp := by
  obtain ⟨oc, od, kV, doc, pm, an, cdv, ct, osl, rfl, lk, hcd⟩ := F.ex
  refine ⟨len, fun A outer s H args us vs Q E hg hr e0 hb r hsp => ?_⟩
  have keepB : ∀ b o, base.get? b = some o → s.heap.get? b = some o := fun b o e => (e0.bs b o e).1
  refine codeAny_call_function hr.depth ((e0.mod.kin.keeps keepB) _ _ lk) rfl S.co S.gen rfl (PySem.W.codeRec_of (e0.mod.kin.keeps keepB) hcd) (hb _ _ _ _ ?_)
  refine wpAny_newFunctionEnv_cells S.kind (fun y hy => ?_) fun env he s1 x1 => ?_
  · rcases S.par y.1 (List.of_mem_zip hy).1 with q | q
    · exact .inl q
    · exact .inr ⟨q, PySem.W.cellsFrom_some _ _ _ (.inl q)⟩
  subst he
  refine ⟨(e0.mod.nolimit.keeps keepB).keeps x1.toInCall.keep, codeAny_func ?_⟩
  obtain ⟨t, ht, hq⟩ := body cdv A outer s H vs Q E hg (hr.deeper _) hsp
  refine wpAny_mono (ht.run [] s1 (start N vs) H _ (inv_start S hr.hd e0 (len _ _ _ _ hsp) r x1) hq) (fun fl s' hs => ?_) fun e s' hs => hs
  match fl, hs with
  | .ret u, ⟨v, σ', H', J, rv, q⟩ => exact ⟨v, H', J.os, J.bare, J.base, J.hok, rv, q⟩
  | .next, ⟨σ', H', J, q⟩ => exact ⟨V.non, H', J.os, J.bare, J.base, J.hok, rfl, q⟩
  | .brk, ⟨_, _, _, q⟩ => exact False.elim q
  | .cont, ⟨_, _, _, q⟩ => exact False.elim q
variable {x : Str} {st : Stmt} {N ps : List Str} {k : Nat} {sp : Sp}
theorem _root_.CD.Def.calX (D : Def K mg x st ps) (S : FnScope N ps (defScope st)) (len : ∀ vs H Q E, sp vs H Q E → vs.length = ps.length)
    (body : ∀ (f : Addr) (cdv : Value) (A : Around) (outer : List PySem.Env) (s : Shared) (H : Hp) (vs : List V) (Q : VK) (E : XK), A.guards = some [] → Room k (A.deeper (envOfC x (defScope st) s.heap.objs.size f cdv)) → sp vs H Q E →
      ∃ t, PSs (cxOf (L2.CX P w) P w K mg base N x (defScope st) f cdv A outer s H E) (defBody st) t ∧ t { nx := fun _ H' => Q .non H', rt := Q } (start N vs) H) : CalX P w K mg base (k + 1) x ps sp := by
  obtain ⟨f, fd, F, m, b⟩ := D
  exact ⟨f, fd, gx_ok F S len fun cdv A outer s H vs Q E => body f cdv A outer s H vs Q E, m, F.kp, b⟩
end
section
variable {X : Cx} {k : Nat} {ps : List Str} {sp : Sp} {x : Str} {p pos : Pos} {e : Expr} {es : List Expr} {t : TA} {E : L2.St → XK}
theorem pe_calX (C : CalX X.prog X.w X.K X.mg X.base k x ps sp) (hgd : X.A.guards = some []) (hr : Room k X.A) (hx : ∀ σ, PassesAt (L2.CX X.prog X.w) X σ (E σ)) (hg : Gl X x) (ha : PA X (e :: es) t) (hdb : (x == ("__debug__" : Str)) = false := by decide)
    (he : starEach (e :: es) X.env = (false, eval e X.env) :: starEach es X.env := by rfl) (hpl : (backTo pos (starEach es X.env)).any (·.1) = false := by rfl) : PE X (.Call (.Name x p) (e :: es) [] pos) (tCallS sp E t) := by
  obtain ⟨f, fd, G, hm, hk, hb⟩ := C
  refine ⟨fun pins s σ H Q I h => wpAny_Call_Name_kw (ld_glob I hg hm ?_ hdb)⟩
  refine PySem.W.callWith_K (h₀ := X.base) I.ok.mod.kin hk (thn (ha.run pos pins s σ H _ I h) fun us s1 ⟨vs, H1, I1, r, q⟩ => ⟨I1.kIn, ?_⟩) he hpl
  have hl : us.length = ps.length := by rw [← r.length]; exact G.len _ _ _ _ q
  have b := hb s1 us I1.kIn (by rw [List.append_nil]; exact hl)
  rw [List.append_nil] at b
  refine wpAny_call (codeAny_mono (G.run X.A X.stack s1 H1 ⟨us, []⟩ us vs Q (E σ) hgd hr I1.env0 b r q) fun r s' hq => ?_)
  match r, hq with
  | .error e, hq => exact hx σ pins H1 s1 e s' I1 hq
  | .ok (.ret u), hq => exact I1.after hq
  | .ok .next, hq => exact False.elim hq
  | .ok .brk, hq => exact False.elim hq
  | .ok .cont, hq => exact False.elim hq
end
/-! ### errors as data -/
/-- an error: its class's name, and its one field if it has one -/
abbrev EX := Str × Option (Str × D)
abbrev QX := EX → Option Nat → Prop
def ExD (K : PySem.W.Frag) (F : Hp) : Option Addr → Option (Str × D) → Prop
  | none, none => True
  | some a, some (f, x) => ∃ v, F a = some (.xd [(f, v)]) ∧ Dd K F v x
  | _, _ => False
def flatX : Option (Str × D) → Bool
  | none => true
  | some (_, x) => flatD x
section
variable {GP : GenP} {K : PySem.W.Frag} {mg : Str → Option Value} {B : Hp × Hp × GAt}
/-- no error is let out -/
def noX : EX → Rho → Prop := fun _ _ => False
theorem ExD.same {F F' : Hp} {d : Option Addr} {x : Option (Str × D)} (s : Same F F') (h : ExD K F d x) : ExD K F' d x := by
  cases d with
  | none => cases x with
    | none => trivial
    | some y => exact h
  | some a => cases x with
    | none => exact h
    | some y => obtain ⟨v, h1, h2⟩ := h; exact ⟨v, s _ _ h1, h2.same s⟩
/-- what is wished of an error, told over data -/
def WOk (GP : GenP) (K : PySem.W.Frag) (mg : Str → Option Value) (B : Hp × Hp × GAt) (W : WX) (QE : EX → Rho → Prop) : Prop :=
  ∀ (γ : GAt) (σ : L2.St) (H F : Hp) (ρ : Rho) (nm : Str) (C : Addr) (d : Option Addr) (x : Option (Str × D)), Rp GP K B.1 B.2.1 B.2.2 γ σ H F ρ → ExD K F d x → mg nm = some (.ref C) → QE (nm, x) ρ → W (.ref C) d σ H
theorem wok_no {W : WX} : WOk GP K mg B W noX := fun _ _ _ _ _ _ _ _ _ _ _ _ h => h.elim
abbrev WDX := List SV → QD → QX → Prop
def spX (GP : GenP) (K : PySem.W.Frag) (mg : Str → Option Value) (n : Nat) (W : WDX) : Sp := fun vs H R E => ∃ (F : Hp) (γ : GAt) (as : List SV) (Q : QD) (QE : QX), Same F H ∧ ArgsOk GP K F H γ vs as ∧ (hasG as = γ.isSome) ∧ oneG as = true ∧ as.length = n ∧
  (∀ p, γ = some p → F p.1 = none ∧ F p.2.1 = none) ∧ TabsF GP H F ∧ W as Q QE ∧
  (∀ v H' F' γ' d m, LamX.Tabs GP.T H' → (∀ a o, H a = some o → ¬ GA GP γ a → H' a = some o) → (∀ a o, H a = some o → ∃ u, H' a = some u) → Same F F' → Same F' H' → (∀ a o, F' a = some o → F a = some o ∨ H a = none ∨ ∃ xs, o = .tup xs) → Dd K F' v d →
    GenAfter GP H H' F' γ γ' m → Q d m → R v H') ∧
  (∀ nm C e x H' F' γ' m, LamX.Tabs GP.T H' → (∀ a o, H a = some o → ¬ GA GP γ a → H' a = some o) → (∀ a o, H a = some o → ∃ u, H' a = some u) → Same F F' → Same F' H' → (∀ a o, F' a = some o → F a = some o ∨ H a = none ∨ ∃ xs, o = .tup xs) → ExD K F' e x → mg nm = some (.ref C) →
    GenAfter GP H H' F' γ γ' m → QE (nm, x) m → E (.ref C) e H')
theorem spX_len {n : Nat} {W : WDX} {vs : List V} {H : Hp} {Q : VK} {E : XK} (h : spX GP K mg n W vs H Q E) : vs.length = n := by
  obtain ⟨F, γ, as, Q, QE, _, h2, _, _, h5, _⟩ := h
  rw [h2.length, h5]
def uCallX (n : Nat) (W : WDX) (QE : EX → Rho → Prop) (ua : UA) : UE := fun ρ Q => ua ρ fun xs ρ1 => argsK xs ρ1 fun as ρb => as.length = n ∧ oneG as = true ∧
  W as (fun d m => if flatD d = true then Q (.val d) (setG m ρ1) else Q (.val d) (setG m ρb)) (fun x m => QE x (setG m ρb))
theorem le_callX {n : Nat} {Wd : WDX} {W : WX} {QE : EX → Rho → Prop} {t : TA} {u : UA} (hW : WOk GP K mg B W QE) (ha : LA GP K B t u) : LE GP K B (tCallS (spX GP K mg n Wd) (WE W) t) (uCallX n Wd QE u) := by
  intro H0 F0 γ0 _ γ σ H F ρ R Q r0 u0 h
  refine ha _ _ r0 u0 fun H1 F1 γ1 ρ1 vs xs r1 s1 k1 u1 => ?_
  obtain ⟨F2, ρb, as, r2, s2, a2, ⟨hl, ho, hWd⟩, gg⟩ := argsK_ok r1 k1 u1
  show spX GP K mg n Wd vs H1 R (WE W σ)
  have fin : ∀ (γc : GAt), (γc = none ∨ γc = γ1) → ∀ v H' F' γ' d m, LamX.Tabs GP.T H' → (∀ a o, H1 a = some o → ¬ GA GP γc a → H' a = some o) → (∀ a o, H1 a = some o → ∃ u, H' a = some u) → Same F2 F' → Same F' H' → (∀ a o, F' a = some o → F2 a = some o ∨ H1 a = none ∨ ∃ xs, o = .tup xs) → Dd K F' v d →
      GenAfter GP H1 H' F' γc γ' m → (if flatD d = true then Q (.val d) (setG m ρ1) else Q (.val d) (setG m ρb)) → R v H' := by
    intro γc hc v H' F' γ' d m tb kp tr s3 sub fnew dd ga q
    by_cases f : flatD d = true
    · rw [if_pos f] at q
      have subF : Same F1 H' := (s2.trans s3).trans sub
      obtain ⟨γ2, r3⟩ := r1.after (F' := F1) hc tb kp tr (Same.refl _) subF (fun a o h => .inl h) ga (.inl rfl)
      exact h _ _ _ _ _ (.val _) r3 s1 (dd.flat f) q
    · rw [if_neg f] at q
      obtain ⟨γ2, r3⟩ := r2.after (F' := F') hc tb kp tr s3 sub fnew ga (.inr rfl)
      exact h _ _ _ _ _ (.val _) r3 (s1.trans (s2.trans s3)) dd q
  have finX : ∀ (γc : GAt), (γc = none ∨ γc = γ1) → ∀ nm C e x H' F' γ' m, LamX.Tabs GP.T H' → (∀ a o, H1 a = some o → ¬ GA GP γc a → H' a = some o) → (∀ a o, H1 a = some o → ∃ u, H' a = some u) → Same F2 F' → Same F' H' → (∀ a o, F' a = some o → F2 a = some o ∨ H1 a = none ∨ ∃ xs, o = .tup xs) → ExD K F' e x → mg nm = some (.ref C) →
      GenAfter GP H1 H' F' γc γ' m → QE (nm, x) (setG m ρb) → W (.ref C) e σ H' := by
    intro γc hc nm C e x H' F' γ' m tb kp tr s3 sub fnew dd hm ga q
    obtain ⟨γ2, r3⟩ := r2.after (F' := F') hc tb kp tr s3 sub fnew ga (.inr rfl)
    exact hW _ _ _ _ _ _ _ _ _ (FinerC.fin r3) dd hm q
  by_cases c : hasG as = true
  · obtain ⟨p, hp⟩ := hasG_gen a2 c
    exact ⟨F2, γ1, as, _, _, r2.sub, a2, by rw [c, hp]; rfl, ho, hl, r2.gf, r2.tabsF, hWd, fin γ1 (.inr rfl), finX γ1 (.inr rfl)⟩
  · have c' : hasG as = false := by simpa using c
    exact ⟨F2, none, as, _, _, r2.sub, noGen_args a2 c', by rw [c']; rfl, ho, hl, fun p hp => (by cases hp), r2.tabsF, hWd, fin none (.inl rfl), finX none (.inl rfl)⟩
/-! ### a def's body -/
def outX (b : Bool) (Q : QX) (x : EX) (ρ : Rho) : Prop := if b = true then (match gN ρ with
  | some k => Q x (some k)
  | none => False) else Q x none
def WofX (n : Nat) (u : (EX → Rho → Prop) → US) : WDX := fun as Q QE => u (outX (hasG as) QE) { nx := fun ρ => outQ (hasG as) Q .non ρ, rt := fun d ρ => outQ (hasG as) Q d ρ } (start0 n as)
section
variable {P : Program} {w : World} {base : Heap} {x : Str} {st : Stmt} {N ps : List Str} {k : Nat}
theorem outX_ok {H H' F F' : Hp} {γ γ' : GAt} {σ' : L2.St} {ρ' : Rho} {as : List SV} {QE : QX} {e : Option Addr} {nm : Str} {C : Addr} {xx : Option (Str × D)} {E : XK} (hg : hasG as = γ.isSome) (r : Rp GP K H F γ γ' σ' H' F' ρ') (dd : ExD K F' e xx) (o : outX (hasG as) QE (nm, xx) ρ') (hm : mg nm = some (.ref C))
    (q : ∀ nm C e x H' F' γ' m, LamX.Tabs GP.T H' → (∀ a o, H a = some o → ¬ GA GP γ a → H' a = some o) → (∀ a o, H a = some o → ∃ u, H' a = some u) → Same F F' → Same F' H' → (∀ a o, F' a = some o → F a = some o ∨ H a = none ∨ ∃ xs, o = .tup xs) → ExD K F' e x → mg nm = some (.ref C) →
      GenAfter GP H H' F' γ γ' m → QE (nm, x) m → E (.ref C) e H') : E (.ref C) e H' := by
  unfold outX at o
  cases e1 : γ with
  | none =>
    rw [e1] at hg
    rw [hg] at o
    exact q nm C e xx H' F' γ' none r.tabs r.keep r.tr r.f0 r.sub r.fnew dd hm e1 o
  | some p =>
    rw [e1] at hg
    have hg' : hasG as = true := hg
    rw [hg', if_pos rfl] at o
    cases g : gN ρ' with
    | none => rw [g] at o; exact o.elim
    | some m =>
      rw [g] at o
      obtain ⟨i, hi⟩ := gN_at g
      obtain ⟨p', h1, h2, h3, h4⟩ := r.gen i m hi
      obtain ⟨q', g1, g2, g3, g4⟩ := r.g0 p e1
      rw [h1] at g1
      cases g1
      obtain ⟨f1, f2⟩ := r.gf p' h1
      exact q nm C e xx H' F' γ' (some m) r.tabs r.keep r.tr r.f0 r.sub r.fnew dd hm ⟨p, p', e1, h1, g2, g3, g4, h3, f1, f2⟩ o
theorem _root_.CD.Def.calDX (D : Def K mg x st ps) (S : FnScope N ps (defScope st)) (u : (EX → Rho → Prop) → US)
    (body : ∀ (f : Addr) (cdv : Value) (A : Around) (outer : List PySem.Env) (s : Shared) (H : Hp) (E : XK), A.guards = some [] → Room k (A.deeper (envOfC x (defScope st) s.heap.objs.size f cdv)) →
      ∃ t, PSs (cxOf (L2.CX P w) P w K mg base N x (defScope st) f cdv A outer s H E) (defBody st) t ∧ ∀ B QE, WOk GP K mg B (fun cls d _ H => E cls d H) QE → LS GP K B t (u QE)) : CalX P w K mg base (k + 1) x ps (spX GP K mg ps.length (WofX N.length u)) := by
  refine D.calX S (fun vs H Q E h => spX_len h) fun f cdv A outer s H vs Q E hgd hr h => ?_
  obtain ⟨t, ht, hl⟩ := body f cdv A outer s H E hgd hr
  refine ⟨t, ht, ?_⟩
  obtain ⟨F, γ, as, Qd, QE, h1, h2, h3, h4, h5, h6, hT, h7, h8, h9⟩ := h
  have hn : vs.length ≤ N.length := by
    have := congrArg List.length S.pre
    rw [List.length_take] at this
    rw [h2.length, h5]
    omega
  have r := start_rp (N := N) h1 h2 h3 h4 h6 hT hn
  haveI : FinerC GP K (H, F, γ) H F γ := ⟨id, rfl⟩
  refine hl (H, F, γ) (outX (hasG as) QE) (fun γ' σ' H' F' ρ' nm C d xx r' dd hm q' => ?_) _ _ r h7 (fun σ' H' F' γ' ρ' r' q' => ?_) (fun _ _ _ _ _ _ q' => q'.elim) (fun _ _ _ _ _ _ q' => q'.elim) (fun σ' v H' F' γ' ρ' d r' dd q' => ?_)
  · exact outX_ok h3 r' dd q' hm fun nm C e x H' F' γ' m a0 a1 a2 a3 a4 a5 a6 a7 a8 a9 => h9 nm C e x H' F' _ m a0 a1 a2 a3 a4 a5 a6 a7 a8 a9
  · exact out_ok h3 r' Dd.non q' fun v H' F' γ' d m a0 a1 a2 a3 a4 a5 a6 a7 a8 => h8 v H' F' _ d m a0 a1 a2 a3 a4 a5 a6 a7 a8
  · exact out_ok h3 r' dd q' fun v H' F' γ' d m a0 a1 a2 a3 a4 a5 a6 a7 a8 => h8 v H' F' _ d m a0 a1 a2 a3 a4 a5 a6 a7 a8
/-- less asked -/
theorem CalX.impD {n : Nat} {W W' : WDX} (C : CalX P w K mg base k x ps (spX GP K mg n W)) (h : ∀ as Q QE, W' as Q QE → W as Q QE) : CalX P w K mg base k x ps (spX GP K mg n W') := by
  obtain ⟨f, fd, G, r⟩ := C
  refine ⟨f, fd, ⟨fun vs H Q E q => ?_, fun A outer s H args us vs Q E hg hr e0 hb r q => ?_⟩, r⟩
  · obtain ⟨F, γ, as, Qd, QE, h1, h2, h3, h4, h5, h6, hT, h7, h8⟩ := q
    exact G.len vs H Q E ⟨F, γ, as, Qd, QE, h1, h2, h3, h4, h5, h6, hT, h _ _ _ h7, h8⟩
  · obtain ⟨F, γ, as, Qd, QE, h1, h2, h3, h4, h5, h6, hT, h7, h8⟩ := q
    exact G.run A outer s H args us vs Q E hg hr e0 hb r ⟨F, γ, as, Qd, QE, h1, h2, h3, h4, h5, h6, hT, h _ _ _ h7, h8⟩
end
end
end DL
/-! lifted readings 9: errors made and raised -/
namespace DL
open PySem PySem.Spec PyProof.Rows L2 CD
/-! ### an own error without a field of its own: its __init__ tells its base alone -/
section
variable {X : Cx}
/-- one new object less on both sides -/
theorem un_less {fs : List Addr} {H1 H2 : Hp} {h h1 h2 G : Heap} {a : Addr} {o : HO} (n : H1 a = none) (off : ∀ b ob, h.get? b = some ob → b ≠ a) (more : ∀ b ob, h.get? b = some ob → h1.get? b = some ob) (u : Un fs [] (upd H1 a o) H2 h1 h2)
    (g : ∀ b, b ≠ a → G.get? b = h2.get? b) : Un fs [] H1 (del H2 a) h G := by
  have z1 : ∀ b ob, h.get? b = some ob → H1 b = none → upd H1 a o b = none := fun b ob e z => (upd_ne (off b ob e)).trans z
  have z2 : ∀ b t, H1 b = some t → upd H1 a o b = some t ∧ del H2 a b = H2 b := fun b t e => ⟨(upd_ne (ne_of_none e n)).trans e, del_ne (ne_of_none e n)⟩
  constructor
  · exact fun b ob e z f x => (g b (off b ob e)).trans (u.keep b ob (more b ob e) (z1 b ob e z) f x)
  · intro b ob e z f x
    obtain ⟨sl, q⟩ := u.slot b ob (more b ob e) (z1 b ob e z) f x
    exact ⟨sl, (g b (off b ob e)).trans q⟩
  · exact fun b ob e z x => (del_ne (off b ob e)).trans (u.free b ob (more b ob e) (z1 b ob e z) x)
  · intro b ob e x
    obtain ⟨o', q⟩ := u.there b ob (more b ob e) x
    exact ⟨o', (g b (off b ob e)).trans q⟩
  · exact fun b xs e => (z2 b _ e).2.trans (u.tups b xs (z2 b _ e).1)
  · exact fun b ob v e => (z2 b _ e).2.trans (u.frzs b ob v (z2 b _ e).1)
  · intro b ps e
    obtain ⟨m, q⟩ := u.tbls b ps (z2 b _ e).1
    exact ⟨m, (z2 b _ e).2.trans q⟩
/-- an error's object is taken out of what is tracked -/
theorem hok_less {P : Program} {w : World} {H : Hp} {h G : Heap} {a C : Addr} {d : Option Addr} (ok : HOk P w H h) (e : H a = some (exo a C d)) (g : ∀ b, b ≠ a → G.get? b = h.get? b) : HOk P w (del H a) G := by
  intro b o z
  have nb : b ≠ a := by
    rintro rfl
    rw [del_same] at z
    cases z
  have own : ∀ c, H c = some (.own b) → c ≠ a := fun c hc => at_ne e hc exo_own
  refine (ok b o ((del_ne nb).symm.trans z)).stay (fun c v hc y => (g c ?_).trans y) (fun c hc => (del_ne (own c hc)).trans hc) (fun c xs hc => (del_ne (at_ne e hc exo_tup)).trans hc)
  rcases hc with rfl | hc
  · exact nb
  · exact own c hc
def tMkO0 (C : Addr) (sp : Sp) (ta : TA) : L2.St → Hp → XK → Prop := fun σ H Q => ta σ H fun vs H1 => vs.length ≤ 1000 ∧ ∀ a, H1 a = none → sp (.ref a :: vs) (upd H1 a (exo a C none))
  (fun v H2 => v = .non ∧ H2 a = some (exo a C none) ∧ Q (.ref C) none (del H2 a)) (fun _ _ _ => False)
theorem pmk_oex0 {CX : CXT} {x : Str} {C fI : Addr} {k : Nat} {fd : FuncData} {ps : List Str} {sp : Sp} {e : Expr} {es : List Expr} {ta : TA} {p pos : Pos} (T : OexC X.K C) (iC : PySem.W.findIn X.K (.ref C) "__init__" = some (some (.ref fI))) (tI : PySem.W.typeIn X.K (.ref fI) = some (.type "function"))
    (F1 : FnOk X.prog X.w X.K X.mg X.base CX k fI fd ps sp) (hr : Room (k + 1) X.A) (hb : Binds X.K fd ps []) (hx : Passes CX X (fun _ _ _ => False)) (hg : Gl X x) (hm : X.mg x = some (.ref C)) (ha : PA X (e :: es) ta)
    (hdb : (x == ("__debug__" : Str)) = false := by decide) (he : starEach (e :: es) X.env = (false, eval e X.env) :: starEach es X.env := by rfl) (hpl : (backTo pos (starEach es X.env)).any (·.1) = false := by rfl) :
    PMk X (.Call (.Name x p) (e :: es) [] pos) (tMkO0 C sp ta) := by
  intro pins s σ H Q I h
  refine wpAny_Call_Name_kw (ld_glob I hg hm ?_ hdb)
  refine PySem.W.callWith_K (h₀ := X.base) I.ok.mod.kin T.kC (thn (ha.run pos pins s σ H _ I h) fun us s1 ⟨vs, H1, I1, rel, hz, asked⟩ => ⟨I1.kIn, ?_⟩) he hpl
  obtain ⟨nm, q, N, bs, bm, sn, sub, ab, col, dd, k0, k1, k2, k3, k5, hC, hbm⟩ := T.cls
  obtain ⟨h1, g1, d1, t1, o1⟩ := s1
  have le : h1.objs.size ≤ h1.objs.size + 1 := Nat.le_succ _
  have new := I1.hok.fresh le
  have asked := asked _ new
  have more : ∀ b o, h1.get? b = some o → ((h1.push (PySem.W.kdv_tup us)).push (PySem.HandSPX.excO C h1.objs.size)).get? b = some o := fun b o e => Heap.get?_push_of_some _ (Heap.get?_push_of_some _ e)
  have made := I1.laid (t' := t1) (a := h1.objs.size + 1) (o := exo (h1.objs.size + 1) C none) more le (exo_ok (by heap_get))
  have len : (Value.ref (h1.objs.size + 1) :: us).length = ps.length := by rw [List.length_cons, ← Paired.length rel, ← F1.len _ _ _ _ asked, List.length_cons]
  have few : us.length ≤ sizeLine := by rw [← Paired.length rel, sizeLine_eq]; omega
  have bound := hb _ (Value.ref (h1.objs.size + 1) :: us) made.kIn (by rw [List.append_nil]; exact len)
  rw [List.append_nil] at bound
  have rel2 : Vals (V.ref (h1.objs.size + 1) :: vs) (Value.ref (h1.objs.size + 1) :: us) := .cons rfl rel
  have ran := F1.run _ X.stack _ _ ⟨Value.ref (h1.objs.size + 1) :: us, []⟩ _ _ _ (fun _ _ _ => False) (hr.make C us []) (made.env0.make C us []) bound rel2 asked
  refine wpAny_call (PySem.HandSPX.call_own F.excBase_ValueError (fun _ => PySem.HandSPX.refsVE_contains _ bm hbm) (I1.kIn _ _ hC) (PySem.W.looks_findIn I1.kIn iC) (fun self => PySem.W.bind_fn I1.kIn self tI) few (codeAny_mono ran fun r s' z => ?_))
  match r, z with
  | .error er, z => exact hx pins σ _ _ er s' made z
  | .ok .next, z => exact z.elim
  | .ok .brk, z => exact z.elim
  | .ok .cont, z => exact z.elim
  | .ok (.ret u), ⟨v, H2, os, bare, un, ok, rv, ev, ea, last⟩ =>
    subst ev
    obtain ⟨t0, obj⟩ := exo_at ok ea
    obtain ⟨G, there, gone⟩ := restrict s'.heap fun b => decide (b ≠ h1.objs.size + 1)
    have as : ∀ b, b ≠ h1.objs.size + 1 → G.get? b = s'.heap.get? b := fun b z => there b (by simpa using z)
    have J : Inv X pins σ (del H2 (h1.objs.size + 1)) ⟨G, s'.gens, s'.drawn, s'.toks, s'.os⟩ := I1.call' (ch := []) os (un_less new (fun b ob e => Nat.ne_of_lt (Nat.lt_succ_of_lt (Heap.lt_size e))) more un as) (hok_less ok ea as) bare (fun b z => by cases z)
    have off := gone (h1.objs.size + 1) (by simp)
    refine ⟨rv, h1.objs.size + 1, _, _, ⟨G, s'.gens, s'.drawn, s'.toks, s'.os⟩, _, .ref C, none, rfl, J, fun b o z => ?_, off, obj, ⟨rfl, rfl⟩, rfl, rfl, del_same, rfl, bare, raises_own T.exC T.tyC, last⟩
    by_cases c : b = h1.objs.size + 1
    · subst c
      have z' : G.get? (h1.objs.size + 1) = some o := z
      rw [off] at z'
      cases z'
    · exact (as b c).symm.trans z
end
end DL
/-! lifted readings 10: try whose clauses may bear names or not -/
namespace DL
open PySem PySem.Spec PyProof.Rows L2 CD
/-- a clause: what it names, its own name's slot if it has one, its suite -/
structure ClM where
  c : Value
  slot : Option Nat
  ts : Addr → Value → Option Addr → TS
/-- behind a suite its name holds nothing -/
def ends0 (i : Nat) (D : Ends) : Ends := { nx := fun τ J => D.nx (τ.set i none) J, rt := D.rt, bk := fun τ J => D.bk (τ.set i none) J, ct := fun τ J => D.ct (τ.set i none) J }
def wSuite (i : Option Nat) (ts : Addr → Value → Option Addr → TS) (D : Ends) (a : Addr) (cls : Value) (d : Option Addr) (σ : L2.St) (H : Hp) : Prop := match i with
  | none => ts a cls d D σ H
  | some i => ts a cls d (ends0 i D) (σ.set i (some (.ref a))) H
def wM (K : PySem.W.Frag) (Wout : WX) (D : Ends) : List ClM → WX
  | [] => Wout
  | c :: r => fun cls d σ H => ∃ b, PySem.W.exmOne K cls c.c = some b ∧ (b = true → ∀ a, H a = none → wSuite c.slot c.ts D a cls d σ H) ∧ (b = false → wM K Wout D r cls d σ H)
/-- a suite's reading, whatever error it is given -/
def SuiteOk (X : Cx) (b₀ : Stmt) (suite : List Stmt) (ts : Addr → Value → Option Addr → TS) : Prop :=
  ∀ (a : Addr) (oe : Obj) (cls : Value) (d : Option Addr) (pn : List (Addr × Obj)), Zc cls d oe → (∃ vs, oe.data = .fields vs) → PSs (X.suite a ((a, oe) :: pn)) (b₀ :: suite) (ts a cls d)
def NameOk (X : Cx) (i : Nat) (n : Str) : Prop := X.N.Nodup ∧ X.N[i]? = some n ∧ X.env.kindOf n = some .local
inductive HdsM (X : Cx) : List ExceptHandler → List ClM → Prop
  | nil : HdsM X [] []
  | cons {x : Str} {c : Value} {ts : Addr → Value → Option Addr → TS} {b₀ : Stmt} {suite : List Stmt} {p q : Pos} {hds : List ExceptHandler} {l : List ClM} : Names X x c → SuiteOk X b₀ suite ts → HdsM X hds l →
      HdsM X (.ExceptHandler (some (.Name x p)) none (b₀ :: suite) q :: hds) (⟨c, none, ts⟩ :: l)
  | consAs {x n : Str} {c : Value} {i : Nat} {ts : Addr → Value → Option Addr → TS} {b₀ : Stmt} {suite : List Stmt} {p q : Pos} {hds : List ExceptHandler} {l : List ClM} : NameOk X i n → Names X x c → SuiteOk X b₀ suite ts → HdsM X hds l →
      HdsM X (.ExceptHandler (some (.Name x p)) (some n) (b₀ :: suite) q :: hds) (⟨c, some i, ts⟩ :: l)
section
variable {X : Cx} {pins : List (Addr × Obj)} {σ : L2.St} {H : Hp} {a : Addr} {B : Heap} {cls : Value} {d : Option Addr} {s : Shared}
/-- an error that this frame has in its hand; whatever happens to the traces, the rest stands -/
structure Hand (X : Cx) (pins : List (Addr × Obj)) (σ : L2.St) (H : Hp) (a : Addr) (B : Heap) (cls : Value) (d : Option Addr) (s : Shared) : Prop where
  ok : X.Ok
  fly : HandSPX.FlyingZ B (X.env :: X.outer) a (Zc cls d) s.heap
  inv : ∀ h, HandSPX.FlyingZ B (X.env :: X.outer) a (Zc cls d) h → s.heap.UpToSlots h → Inv X pins σ H { s with heap := h }
  gone : H a = none
  fr : X.env.frame = some X.env.locals
  /-- it goes on from here -/
  out : ∀ h, HandSPX.HeldZ B (X.env :: X.outer) a (Zc cls d) X.env.locals h → s.heap.UpToSlots h → ∀ W : WX, Takes X W → W cls d σ H → X.xe (.ref a) { s with heap := h }
theorem Hand.self (h : Hand X pins σ H a B cls d s) : Inv X pins σ H s := h.inv s.heap h.fly (Heap.UpToSlots.refl _)
theorem Hand.notFrame (h : Hand X pins σ H a B cls d s) {g : Heap} {o : Obj} {vs : Array Value} (fl : HandSPX.FlyingZ B (X.env :: X.outer) a (Zc cls d) g) (e : g.get? a = some o) (hd : o.data = .fields vs) : a ≠ X.env.locals ∧ a ∉ X.fs := by
  have no : a ∉ frs (X.env :: X.outer) := fun hm => by
    obtain ⟨_, o2, e2, nf⟩ := fl.2.2.1.mem hm
    exact nf vs (by rw [← Option.some.inj (e.symm.trans e2)]; exact hd)
  constructor
  · rintro rfl
    exact no (List.mem_filterMap.mpr ⟨_, List.mem_cons_self, h.fr⟩)
  · intro hm
    obtain ⟨e1, h1, h2⟩ := List.mem_filterMap.mp hm
    exact no (List.mem_filterMap.mpr ⟨e1, List.mem_cons_of_mem _ h1, h2⟩)
/-- the suite's frame of mind -/
theorem Hand.suite (h : Hand X pins σ H a B cls d s) {g : Heap} (fl : HandSPX.FlyingZ B (X.env :: X.outer) a (Zc cls d) g) (up : s.heap.UpToSlots g) :
    ∃ oe, g.get? a = some oe ∧ Zc cls d oe ∧ (∃ vs, oe.data = .fields vs) ∧ Inv (X.suite a ((a, oe) :: (X.pn ++ pins))) [] σ H { s with heap := g } := by
  obtain ⟨oe, vs, h1, h2, h3⟩ := fl.there
  obtain ⟨n1, n2⟩ := h.notFrame fl h1 h3
  exact ⟨oe, h1, h2, ⟨vs, h3⟩, (h.inv g fl up).suite h1 h3 h.gone n1 n2⟩
/-- what a clause names is looked at -/
theorem Hand.asks {x : Str} {p q : Pos} {c : Value} {b : Bool} {R : Result → Shared → Prop} (h : Hand X pins σ H a B cls d s) (hc : Names X x c) (e : PySem.W.exmOne X.K cls c = some b) (k : R (.ok (if b then .brk else .next)) s) :
    codeAny (model X.prog X.w) (X.A.mark (some (.ref a))) (.handlers (.ref a) [.ExceptHandler (some (.Name x p)) none [] q] X.env) R s := by
  obtain ⟨oe, h1, h2, _, S⟩ := h.suite h.fly (Heap.UpToSlots.refl _)
  have ty : PySem.W.Looks (model X.prog X.w) s.heap (typeOf (.ref a)) cls := fun _ _ _ _ st z => wpAny_typeOf_ref (st _ _ h1) (h2.1 ▸ z)
  have asks := PySem.W.exm_one (M := model X.prog X.w) h.self.kIn ty e
  refine codeAny_handlers_test ?_
  obtain ⟨c1, c2, c3⟩ := hc
  rcases c3 with c3 | ⟨c3, c4, c5⟩
  · exact ld_glob S c1 c3 (asks.here k) c2
  · exact ld_blt S c1 c3 c4 (asks.here k) c5 c2
/-- a clause without a name -/
theorem Hand.runs {b₀ : Stmt} {suite : List Stmt} {ts : Addr → Value → Option Addr → TS} {q : Pos} {D : Ends} (h : Hand X pins σ H a B cls d s) (hs : SuiteOk X b₀ suite ts) (w : ts a cls d D σ H) :
    codeAny (model X.prog X.w) (X.A.mark (some (.ref a))) (.handlers (.ref a) [.ExceptHandler none none (b₀ :: suite) q] X.env) (fun r s' => match r with
      | .ok f => SP X pins D f s'
      | .error _ => False) s := by
  refine codeAny_handlers_suite (HandSPX.lands_againZ h.fly fun g fl up => ?_)
  obtain ⟨oe, _, h2, h3, S⟩ := h.suite fl up
  refine wpAny_mono ((hs a oe cls d _ h2 h3).run [] _ σ H D S w) (fun f s6 z => ?_) (fun _ _ z => z.elim)
  cases f with
  | next => exact let ⟨_, _, z1, z2⟩ := z; ⟨_, _, z1.unsuite h.ok, z2⟩
  | brk => exact let ⟨_, _, z1, z2⟩ := z; ⟨_, _, z1.unsuite h.ok, z2⟩
  | cont => exact let ⟨_, _, z1, z2⟩ := z; ⟨_, _, z1.unsuite h.ok, z2⟩
  | ret u => exact let ⟨_, _, _, z1, z2, z3⟩ := z; ⟨_, _, _, z1.unsuite h.ok, z2, z3⟩
/-- a clause with a name -/
theorem Hand.runsAs {b₀ : Stmt} {suite : List Stmt} {ts : Addr → Value → Option Addr → TS} {q : Pos} {D : Ends} {i : Nat} {n : Str} {R : Result → Shared → Prop} (h : Hand X pins σ H a B cls d s) (hn : NameOk X i n) (hs : SuiteOk X b₀ suite ts) (w : ts a cls d (ends0 i D) (σ.set i (some (.ref a))) H)
    (k : ∀ f s6, (∀ Q : Shared → Prop, (∀ s7, SP X pins D f s7 → Q s7) → wpAny (model X.prog X.w) X.A (do bindName X.env n .none; unbindBehindTheSuite X.env n q) (fun _ s7 => Q s7) X.xe s6) → R (.ok f) s6) :
    codeAny (model X.prog X.w) (X.A.mark (some (.ref a))) (.handlers (.ref a) [.ExceptHandler none (some n) (b₀ :: suite) q] X.env) R s := by
  obtain ⟨n1, n2, n3⟩ := hn
  refine codeAny_handlers_suite_as (HandSPX.lands_againZ h.fly fun g fl up => ?_)
  obtain ⟨oe, _, h2, h3, S⟩ := h.suite fl up
  refine store_ok (X := X.suite a ((a, oe) :: (X.pn ++ pins))) (v := .ref a) S n1 n2 (.inl n3) rfl (fun s5 S5 => ?_) (.inr n3)
  refine wpAny_mono ((hs a oe cls d _ h2 h3).run [] s5 _ H _ S5 w) (fun f s6 z => k f s6 fun Q hQ => ?_) (fun _ _ z => z.elim)
  have unbound : ∀ {τ : L2.St} {J : Hp}, Inv (X.suite a ((a, oe) :: (X.pn ++ pins))) [] τ J s6 → (∀ s7, Inv X pins (τ.set i none) J s7 → Q s7) → wpAny (model X.prog X.w) X.A (do bindName X.env n .none; unbindBehindTheSuite X.env n q) (fun _ s7 => Q s7) X.xe s6 :=
    fun z q => gone_ok (z.unsuite h.ok) n1 n2 n3 q
  cases f with
  | next => exact let ⟨_, _, z1, z2⟩ := z; unbound z1 fun s7 y => hQ s7 ⟨_, _, y, z2⟩
  | brk => exact let ⟨_, _, z1, z2⟩ := z; unbound z1 fun s7 y => hQ s7 ⟨_, _, y, z2⟩
  | cont => exact let ⟨_, _, z1, z2⟩ := z; unbound z1 fun s7 y => hQ s7 ⟨_, _, y, z2⟩
  | ret u => exact let ⟨_, _, _, z1, z2, z3⟩ := z; unbound z1 fun s7 y => hQ s7 ⟨_, _, _, y, z2, z3⟩
/-- no clause is left -/
theorem Hand.leaves {Wout : WX} {P : Flow → Shared → Prop} (h : Hand X pins σ H a B cls d s) (tk : Takes X Wout) (w : Wout cls d σ H) : wpAny (model X.prog X.w) X.A (handleBy (.ref a) X.env []) P X.xe s := by
  obtain ⟨oe, vs, T, oT, ts, e1, e2, e3, e4, e5⟩ := h.fly.2.2.2
  have up : wpAny (model X.prog X.w) X.A (setFlight (.ref a) X.env.frame) (fun _ s4 => wpAny (model X.prog X.w) X.A (throw (.ref a) : Sem Flow) P X.xe s4) X.xe s := by
    rw [h.fr]
    exact HandSPX.setFlight_upZ h.fly fun g hg ug => wpAny_throw (h.out g hg ug Wout tk w)
  refine wpAny_handleBy_nil ?_
  unfold PySem.passOn
  refine wpAny_bind (wpAny_field e1 e3 e4 ?_)
  rw [if_neg (by simp)]
  first
    | exact wpAny_bind (wpAny_pure (wpAny_bind up))
    | exact wpAny_bind up
/-- the clauses, one after the other -/
theorem Hand.all {Wout : WX} {D : Ends} (h : Hand X pins σ H a B cls d s) (tk : Takes X Wout) : ∀ {hds : List ExceptHandler} {l : List ClM}, HdsM X hds l → wM X.K Wout D l cls d σ H → wpAny (model X.prog X.w) X.A (handleBy (.ref a) X.env hds) (SP X pins D) X.xe s := by
  intro hds l hk
  induction hk with
  | nil => exact fun w => h.leaves tk w
  | cons hc hs _ ih =>
    rintro ⟨b, e, y, n⟩
    refine wpAny_handleBy_cons (h.asks hc e ?_) (fun q => nomatch q)
    cases b with
    | true =>
      refine codeAny_mono (h.runs hs (y rfl a h.gone)) fun r s' z => ?_
      cases r with
      | ok f => exact z
      | error _ => exact z.elim
    | false => exact ih (n rfl)
  | consAs hn hc hs _ ih =>
    rintro ⟨b, e, y, n⟩
    refine wpAny_handleBy_cons (h.asks hc e ?_) (fun q => nomatch q)
    cases b with
    | true => exact h.runsAs hn hs (y rfl a h.gone) fun f s6 z => z _ fun _ y => y
    | false => exact ih (n rfl)
/-- an error out of the body comes into this frame's hand -/
theorem hand_of {l : List ClM} {Wout : WX} {D : Ends} {h₀ : ExceptHandler} {hds : List ExceptHandler} {xe : Value → Shared → Prop} {u : Value} (ok : X.Ok) (hs : X.stack = X.env :: X.outer) (hf : X.env.frame = some X.env.locals) (tk : Takes X Wout) (hh : HdsM X (h₀ :: hds) l)
    (x : XE (X.tr (X.pn ++ pins) xe) (wM X.K Wout D l) u s) :
    wpAny (model X.prog X.w) X.A (noteFrame u X.env) (fun _ s₂ => wpAny (model X.prog X.w) X.A (setFlight u none) (fun _ s₃ => wpAny (model X.prog X.w) X.A (handleBy u X.env (h₀ :: hds)) (SP X pins D) X.xe s₃) X.xe s₂) X.xe s := by
  obtain ⟨a, B, sI, pins2, σ, H, cls, d, rfl, J, nb, up, sky, na, os, ag, w⟩ := x
  have I : Inv X pins σ H sI := J.ofTry ok
  have fr : X.A.frames = some (X.env :: X.outer) := ok.frames.trans (congrArg some hs)
  refine Sky.land Zc.steady fr hf (hs ▸ sky) fun g fl up2 => ?_
  have lands : ∀ h, HandSPX.FlyingZ B (X.env :: X.outer) a (Zc cls d) h → g.UpToSlots h → Inv X pins σ H { s with heap := h } := fun h f u => I.landed nb f.1 ((up.trans up2).trans u) os ag
  have hand : Hand X pins σ H a B cls d { s with heap := g } := ⟨ok, fl, lands, na, hf, fun h hh u W t w => t _ _ ⟨a, B, sI, pins, σ, H, cls, d, rfl, I, nb, (up.trans up2).trans u, .inr (.inr (hs ▸ hh)), na, os, ag, w⟩⟩
  exact hand.all tk hh w
theorem ps_tryM {body : List Stmt} {h₀ : ExceptHandler} {hds : List ExceptHandler} {l : List ClM} {pos : Pos} {tb : WX → TS} {Wout : WX} (hs : X.stack = X.env :: X.outer) (hf : X.env.frame = some X.env.locals) (tk : Takes X Wout)
    (hb : ∀ (W : WX) (pn : List (Addr × Obj)) (xe : Value → Shared → Prop), Takes (X.tr pn xe) W → PassesOwn (model X.prog X.w) X.A X.env xe → PSs (X.tr pn xe) body (tb W)) (hh : HdsM X (h₀ :: hds) l) :
    PS X (.Try body (h₀ :: hds) [] [] pos) (fun D σ H => tb (wM X.K Wout D l) D σ H) := by
  refine ⟨fun pins s σ H D I w => wpAny_Try_except ?_⟩
  have run := (hb (wM X.K Wout D l) (X.pn ++ pins) _ (fun u s' x => hand_of I.ok hs hf tk hh x) PassesOwn.looking).run [] s σ H D (I.toTry _) w
  refine wpAny_mono run (fun f s1 z => ?_) fun _ _ z => z
  cases f with
  | next => exact let ⟨_, _, z1, z2⟩ := z; wpAny_execs_nil ⟨_, _, z1.ofTry I.ok, z2⟩
  | brk => exact let ⟨_, _, z1, z2⟩ := z; ⟨_, _, z1.ofTry I.ok, z2⟩
  | cont => exact let ⟨_, _, z1, z2⟩ := z; ⟨_, _, z1.ofTry I.ok, z2⟩
  | ret u => exact let ⟨_, _, _, z1, z2, z3⟩ := z; ⟨_, _, _, z1.ofTry I.ok, z2, z3⟩
end
end DL
/-! lifted readings 11: raise and try over data -/
namespace DL
open PySem PySem.Spec PyProof.Rows L2 CD
/-! ### __init__ of an own error -/
def spIn1 (K : PySem.W.Frag) (f : Str) : Sp := fun vs H R _ => ∃ (a C : Addr) (v : V), vs = [.ref a, v] ∧ OexC K C ∧ PySem.W.findIn K (.ref C) f = some none ∧ H a = some (exo a C none) ∧
  ∀ d, H d = none → d ≠ a → R .non (upd (upd H d (exd d [(f, v)])) a (exo a C (some d)))
def spIn0 (K : PySem.W.Frag) : Sp := fun vs H R _ => ∃ (a C : Addr) (v : V), vs = [.ref a, v] ∧ OexC K C ∧ H a = some (exo a C none) ∧ R .non H
def tIn0 (K : PySem.W.Frag) : TS := tSeq (tDrop (tVeI K (tCons (tVar 0) (tCons (tVar 1) tNil)))) tNext
def tIn1 (K : PySem.W.Frag) (f : Str) : TS := tSeq (tDrop (tVeI K (tCons (tVar 0) (tCons (tVar 1) tNil)))) (tSeq (tOst K f (tVar 0) (tVar 1)) tNext)
theorem in1_pure {K : PySem.W.Frag} {f : Str} {N : List Str} {vs : List V} {H : Hp} {Q : VK} {E : XK} (hN : N.length = 2) (h : spIn1 K f vs H Q E) : tIn1 K f { nx := fun _ H' => Q .non H', rt := Q } (L2.start N vs) H := by
  obtain ⟨a, C, v, rfl, h1, h2, h3, h4⟩ := h
  have e : L2.start N [V.ref a, v] = [some (.ref a), some v] := by
    unfold L2.start
    rw [hN]
    rfl
  rw [e]
  refine ⟨_, rfl, _, rfl, a, C, [v], rfl, by simp, h1, h3, ?_⟩
  exact ⟨_, rfl, _, rfl, a, C, rfl, h1, h2, .inl ⟨h3, fun d n ne => h4 d n ne⟩⟩
theorem in0_pure {K : PySem.W.Frag} {N : List Str} {vs : List V} {H : Hp} {Q : VK} {E : XK} (hN : N.length = 2) (h : spIn0 K vs H Q E) : tIn0 K { nx := fun _ H' => Q .non H', rt := Q } (L2.start N vs) H := by
  obtain ⟨a, C, v, rfl, h1, h3, h4⟩ := h
  have e : L2.start N [V.ref a, v] = [some (.ref a), some v] := by
    unfold L2.start
    rw [hN]
    rfl
  rw [e]
  exact ⟨_, rfl, _, rfl, a, C, [v], rfl, by simp, h1, h3, h4⟩
/-- what is known of an own error's class -/
structure ErrC (P : Program) (w : World) (K : PySem.W.Frag) (mg : Str → Option Value) (base : Heap) (x : Str) (C : Addr) (f : Option Str) : Prop where
  m : mg x = some (.ref C)
  oex : OexC K C
  xf : XfC K C
  no : ∀ g, f = some g → PySem.W.findIn K (.ref C) g = some none
  init : ∃ (fI : Addr) (fd : FuncData) (ps : List Str), PySem.W.findIn K (.ref C) "__init__" = some (some (.ref fI)) ∧ PySem.W.typeIn K (.ref fI) = some (.type "function") ∧
    FnOk P w K mg base (L2.CX P w) 1 fI fd ps (match f with | some f => spIn1 K f | none => spIn0 K) ∧ Binds K fd ps []
/-- raise C(e) -/
def tRz (K : PySem.W.Frag) (W : WX) (C : Addr) : Option Str → TA → TS
  | some f, ta => fun _ σ H => tMkO C (spIn1 K f) [] ta σ H fun cls d H' => W cls d σ H'
  | none, ta => fun _ σ H => tMkO0 C (spIn0 K) ta σ H fun cls d H' => W cls d σ H'
section
variable {X : Cx} {x : Str} {C : Addr} {f : Option Str} {W : WX} {e : Expr} {ta : TA} {p pos pos2 : Pos}
theorem ps_raiseE (T : ErrC X.prog X.w X.K X.mg X.base x C f) (hc : X.calm = true) (tk : Takes X W) (hr : Room 2 X.A) (hg : Gl X x) (ha : PA X [e] ta) (hdb : (x == ("__debug__" : Str)) = false := by decide)
    (he : starEach (e :: []) X.env = (false, eval e X.env) :: starEach [] X.env := by rfl) (hpl : (backTo pos (starEach [] X.env)).any (·.1) = false := by rfl) : PS X (.Raise (some (.Call (.Name x p) [e] [] pos)) none pos2) (tRz X.K W C f ta) := by
  obtain ⟨fI, fd, ps, h1, h2, h3, h4⟩ := T.init
  cases f with
  | some f => exact ps_raise hc tk (pmk_oex T.oex h1 h2 h3 hr h4 .nil passL hg T.m ha hdb he hpl)
  | none => exact ps_raise hc tk (pmk_oex0 T.oex h1 h2 h3 hr h4 passL hg T.m ha hdb he hpl)
end
section
variable {GP : GenP} {K : PySem.W.Frag} {mg : Str → Option Value} {B : Hp × Hp × GAt}
theorem Rp.newAt {H0 F0 H F : Hp} {γ0 γ : GAt} {σ : L2.St} {ρ : Rho} {a : Addr} (r : Rp GP K H0 F0 γ0 γ σ H F ρ) (n : H a = none) : F a = none ∧ H0 a = none ∧ (¬ GA GP γ a) ∧ ∀ j, ¬ OwnAt σ ρ a j := by
  refine ⟨Same.free r.sub n, r.new0 n, fun z => ?_, fun j ⟨⟨d, h1⟩, h2⟩ => ?_⟩
  · rcases z with ⟨p, hp, e⟩ | z
    · obtain ⟨o, u, h1, h2, _⟩ := r.gt p hp
      rcases e with rfl | rfl
      · rw [h1] at n; cases n
      · rw [h2] at n; cases n
    · obtain ⟨ps, h1⟩ := tabs_there r.tabs z
      rw [h1] at n; cases n
  · obtain ⟨b, e1, e2, _⟩ := r.own j d h1
    rw [h2] at e1
    cases e1
    obtain ⟨o, ho⟩ := e2.there
    rw [ho] at n
    cases n
def uRaise (QE : EX → Rho → Prop) (x : Str) (f : Option Str) (ua : UA) : US := fun _ ρ => uA1 ua (fun d ρ1 => QE (x, f.map fun g => (g, d)) ρ1) ρ
theorem ls_raise {P : Program} {w : World} {base : Heap} {x : Str} {C : Addr} {f : Option Str} {W : WX} {QE : EX → Rho → Prop} {ta : TA} {ua : UA} (T : ErrC P w K mg base x C f) (hW : WOk GP K mg B W QE) (ha : LA GP K B ta ua) : LS GP K B (tRz K W C f ta) (uRaise QE x f ua) := by
  intro H0 F0 γ0 _ γ σ H F ρ E Q r z _ _ _ _
  cases f with
  | none =>
    refine a1_ok ha r z fun H1 F1 γ1 ρ1 v dd r1 s1 d1 q => ⟨by simp, fun a na => ⟨a, C, v, rfl, T.oex, upd_same, rfl, upd_same, ?_⟩⟩
    have e : del (upd H1 a (exo a C none)) a = H1 := by
      funext b
      by_cases c : b = a
      · subst c; rw [del_same, na]
      · rw [del_ne c, upd_ne c]
    rw [e]
    exact hW _ _ _ _ _ _ _ none none (FinerC.fin r1) trivial T.m q
  | some f =>
    refine a1_ok ha r z fun H1 F1 γ1 ρ1 v dd r1 s1 d1 q => ⟨by simp, fun a na => ⟨a, C, v, rfl, T.oex, T.no f rfl, upd_same, fun d nd ne => ?_⟩⟩
    have nd1 : H1 d = none := (upd_ne ne).symm.trans nd
    refine ⟨rfl, d, [(f, v)], upd_same, by rw [upd_ne ne, upd_same], nd1, ?_⟩
    have e : upd (del (upd (upd (upd H1 a (exo a C none)) d (exd d [(f, v)])) a (exo a C (some d))) a) d (.xd [(f, v)]) = upd H1 d (.xd [(f, v)]) := by
      funext b
      by_cases c : b = d
      · subst c; rw [upd_same, upd_same]
      · rw [upd_ne c, upd_ne c]
        by_cases c2 : b = a
        · subst c2; rw [del_same, na]
        · rw [del_ne c2, upd_ne c2, upd_ne c, upd_ne c2]
    rw [e]
    obtain ⟨n1, n2, n3, n4⟩ := r1.newAt nd1
    exact hW _ _ _ _ _ _ _ (some d) (some (f, dd)) (FinerC.fin ((r1.same (same_upd nd1)).freeze upd_same n1 n2 n3 n4)) ⟨v, upd_same, d1.same (same_upd n1)⟩ T.m q
/-! ### try -/
/-- a suite over data -/
def LSU (GP : GenP) (K : PySem.W.Frag) (mg : Str → Option Value) (B : Hp × Hp × GAt) (i : Option Nat) (ts : Addr → Value → Option Addr → TS) (u : EX → US) : Prop :=
  ∀ ⦃H0 F0 : Hp⦄ ⦃γ0 : GAt⦄ [FinerC GP K B H0 F0 γ0] ⦃γ : GAt⦄ ⦃σ : L2.St⦄ ⦃H F : Hp⦄ ⦃ρ : Rho⦄ ⦃a : Addr⦄ ⦃nm : Str⦄ ⦃C : Addr⦄ ⦃d : Option Addr⦄ ⦃x : Option (Str × D)⦄ (E : Ends) (Q : UEnds), Rp GP K H0 F0 γ0 γ σ H F ρ → ExD K F d x → mg nm = some (.ref C) → u (nm, x) Q ρ →
  (∀ σ' H' F' γ' ρ', Rp GP K H0 F0 γ0 γ' σ' H' F' ρ' → Q.nx ρ' → E.nx σ' H') → (∀ σ' H' F' γ' ρ', Rp GP K H0 F0 γ0 γ' σ' H' F' ρ' → Q.bk ρ' → E.bk σ' H') → (∀ σ' H' F' γ' ρ', Rp GP K H0 F0 γ0 γ' σ' H' F' ρ' → Q.ct ρ' → E.ct σ' H') →
  (∀ σ' v H' F' γ' ρ' d, Rp GP K H0 F0 γ0 γ' σ' H' F' ρ' → Dd K F' v d → Q.rt d ρ' → E.rt v H') → wSuite i ts E a (.ref C) d σ H
theorem lsu_plain {t : TS} {u : US} (h : LS GP K B t u) : LSU GP K mg B none (fun _ _ _ => t) (fun _ => u) := fun H0 F0 γ0 _ γ σ H F ρ a nm C d x E Q r _ _ z n b c t => h E Q r z n b c t
/-- a slot is told anew, of what is not ours -/
theorem Rp.blind {H0 F0 H F : Hp} {γ0 γ : GAt} {σ : L2.St} {ρ : Rho} (r : Rp GP K H0 F0 γ0 γ σ H F ρ) (i : Nat) (w : Option V) : Rp GP K H0 F0 γ0 γ (σ.set i w) H F (ρ.set i none) := by
  have q := r.disown i
  have off : ∀ {j : Nat} {y : SV}, (ρ.set i none)[j]? = some (some y) → j ≠ i := fun {j y} h e => by subst e; cases (set_at h).1
  refine ⟨q.f0, q.sub, q.keep, q.fnew, q.tr, by rw [List.length_set]; exact q.len, fun j d h => ?_, fun j d h => ?_, fun j n h => ?_, q.one, q.g0, q.g1, q.gt0, q.gt, q.gf, q.tabs, q.tin, q.gn⟩
  · obtain ⟨v, e1, e2⟩ := q.val j d h
    exact ⟨v, by rw [set_none (off h)]; exact e1, e2⟩
  · obtain ⟨b, e1, e2, e3, e4, e5, e6⟩ := q.own j d h
    refine ⟨b, by rw [set_none (off h)]; exact e1, e2, e3, e4, e5, fun l ⟨⟨e, hl⟩, h2⟩ => e6 l ⟨⟨e, hl⟩, ?_⟩⟩
    rw [set_none (off hl)] at h2
    exact h2
  · obtain ⟨p, e1, e2, e3, e4⟩ := q.gen j n h
    exact ⟨p, e1, by rw [set_none (off h)]; exact e2, e3, e4⟩
def uEnds0 (i : Nat) (Q : UEnds) : UEnds := { nx := fun ρ => Q.nx (ρ.set i none), rt := Q.rt, bk := fun ρ => Q.bk (ρ.set i none), ct := fun ρ => Q.ct (ρ.set i none) }
def uBlind (i : Nat) (u : US) : EX → US := fun _ Q ρ => u (uEnds0 i Q) (ρ.set i none)
/-- a named clause whose name is not read -/
theorem lsu_blind {i : Nat} {t : TS} {u : US} (h : LS GP K B t u) : LSU GP K mg B (some i) (fun _ _ _ => t) (uBlind i u) := fun H0 F0 γ0 _ γ σ H F ρ a nm C d x E Q r _ _ z n b c t =>
  h _ _ (r.blind i _) z (fun _ _ _ _ _ r' q' => n _ _ _ _ _ (r'.blind i none) q') (fun _ _ _ _ _ r' q' => b _ _ _ _ _ (r'.blind i none) q') (fun _ _ _ _ _ r' q' => c _ _ _ _ _ (r'.blind i none) q') t
def uFieldS (en f : Str) (i j : Nat) : EX → US := fun x Q ρ => i < ρ.length ∧ x.1 = en ∧ ∃ y, x.2 = some (f, y) ∧ Q.nx (((ρ.set i none).set j (some (.val y))).set i none)
def uFieldR (en f : Str) (i : Nat) : EX → US := fun x Q ρ => i < ρ.length ∧ x.1 = en ∧ ∃ y, x.2 = some (f, y) ∧ Q.rt y (ρ.set i none)
/-- x = e.f -/
theorem lsu_field {C : Addr} {en : Str} (hC : mg en = some (.ref C)) {f : Str} {i j : Nat} : LSU GP K mg B (some i) (fun a cls d => tAsg (tXf a cls d C f (tVar i)) (gName j)) (uFieldS en f i j) := by
  intro H0 F0 γ0 _ γ σ H F ρ a nm C2 d x E Q r ex hm ⟨hi, h1, y, h2, z⟩ n _ _ _
  cases d with
  | none => dsimp only at h2; subst h2; exact ex.elim
  | some d =>
    dsimp only at h1 h2
    subst h1 h2
    rw [hC] at hm
    cases hm
    obtain ⟨v, e1, e2⟩ := ex
    have r2 := ((r.blind i (some (.ref a))).setVal j e2).blind i none
    exact ⟨_, List.getElem?_set_self (by rw [r.len]; exact hi), rfl, rfl, d, _, v, rfl, r.sub _ _ e1, by simp [List.lookup], n _ _ _ _ _ r2 z⟩
/-- return e.f -/
theorem lsu_ret {C : Addr} {en : Str} (hC : mg en = some (.ref C)) {f : Str} {i : Nat} : LSU GP K mg B (some i) (fun a cls d => tRet (tXf a cls d C f (tVar i))) (uFieldR en f i) := by
  intro H0 F0 γ0 _ γ σ H F ρ a nm C2 d x E Q r ex hm ⟨hi, h1, y, h2, z⟩ _ _ _ t
  cases d with
  | none => dsimp only at h2; subst h2; exact ex.elim
  | some d =>
    dsimp only at h1 h2
    subst h1 h2
    rw [hC] at hm
    cases hm
    obtain ⟨v, e1, e2⟩ := ex
    exact ⟨_, List.getElem?_set_self (by rw [r.len]; exact hi), rfl, rfl, d, _, v, rfl, r.sub _ _ e1, by simp [List.lookup], t _ _ _ _ _ _ _ (r.blind i (some (.ref a))) e2 z⟩
/-- the clauses: what they name, their suites; all of the names are siblings -/
abbrev UCl := Str × (EX → US)
def uCls (names : List Str) (QE : EX → Rho → Prop) (Q : UEnds) : List UCl → EX → Rho → Prop
  | [] => QE
  | c :: r => fun x ρ => x.1 ∈ names ∧ if x.1 = c.1 then c.2 x Q ρ else uCls names QE Q r x ρ
/-- errors of the text: none is above another -/
def ErrT (K : PySem.W.Frag) (mg : Str → Option Value) (names : List Str) : Prop := ∀ n1 ∈ names, ∀ n2 ∈ names, ∀ C1 C2, mg n1 = some (.ref C1) → mg n2 = some (.ref C2) → PySem.W.exmOne K (.ref C1) (.ref C2) = some (decide (n1 = n2))
inductive LCls (GP : GenP) (K : PySem.W.Frag) (mg : Str → Option Value) (B : Hp × Hp × GAt) (names : List Str) : List ClM → List UCl → Prop
  | nil : LCls GP K mg B names [] []
  | cons {n : Str} {C : Addr} {s : Option Nat} {ts : Addr → Value → Option Addr → TS} {u : EX → US} {l : List ClM} {ul : List UCl} : mg n = some (.ref C) → n ∈ names → LSU GP K mg B s ts u → LCls GP K mg B names l ul → LCls GP K mg B names (⟨.ref C, s, ts⟩ :: l) ((n, u) :: ul)
def uTry (names : List Str) (QE : EX → Rho → Prop) (ub : (EX → Rho → Prop) → US) (ul : List UCl) : US := fun Q ρ => ub (uCls names QE Q ul) Q ρ
theorem wM_ok {names : List Str} (eT : ErrT K mg names) {Wout : WX} {QE : EX → Rho → Prop} {H0 F0 : Hp} {γ0 : GAt} [FinerC GP K B H0 F0 γ0] (hW : WOk GP K mg B Wout QE) {E : Ends} {Q : UEnds} (n : ∀ σ' H' F' γ' ρ', Rp GP K H0 F0 γ0 γ' σ' H' F' ρ' → Q.nx ρ' → E.nx σ' H') (b : ∀ σ' H' F' γ' ρ', Rp GP K H0 F0 γ0 γ' σ' H' F' ρ' → Q.bk ρ' → E.bk σ' H')
    (c : ∀ σ' H' F' γ' ρ', Rp GP K H0 F0 γ0 γ' σ' H' F' ρ' → Q.ct ρ' → E.ct σ' H') (t : ∀ σ' v H' F' γ' ρ' d, Rp GP K H0 F0 γ0 γ' σ' H' F' ρ' → Dd K F' v d → Q.rt d ρ' → E.rt v H') {l : List ClM} {ul : List UCl} (h : LCls GP K mg B names l ul) :
    ∀ {γ : GAt} {σ : L2.St} {H F : Hp} {ρ : Rho} {nm : Str} {C : Addr} {d : Option Addr} {x : Option (Str × D)}, Rp GP K H0 F0 γ0 γ σ H F ρ → ExD K F d x → mg nm = some (.ref C) → uCls names QE Q ul (nm, x) ρ → wM K Wout E l (.ref C) d σ H := by
  induction h with
  | nil => exact fun r ex hm z => hW _ _ _ _ _ _ _ _ _ (FinerC.fin r) ex hm z
  | cons hc hn hs _ ih =>
    intro γ σ H F ρ nm C d x r ex hm ⟨k, z⟩
    refine ⟨_, eT _ k _ hn _ _ hm hc, fun y a _ => ?_, fun y => ?_⟩
    · rw [if_pos (of_decide_eq_true y)] at z
      exact hs E Q r ex hm z n b c t
    · rw [if_neg (of_decide_eq_false y)] at z
      exact ih r ex hm z
/-- the body is read at the base of here: what its errors leave is told from here on -/
theorem ls_try {names : List Str} (eT : ErrT K mg names) {Wout : WX} {QE : EX → Rho → Prop} {tb : WX → TS} {ub : (EX → Rho → Prop) → US} {l : List ClM} {ul : List UCl} (hW : WOk GP K mg B Wout QE) (hb : ∀ B W QE, WOk GP K mg B W QE → LS GP K B (tb W) (ub QE)) (hl : LCls GP K mg B names l ul) : LS GP K B (fun E σ H => tb (wM K Wout E l) E σ H) (uTry names QE ub ul) := by
  intro H0 F0 γ0 _ γ σ H F ρ E Q r z n b c t
  haveI : FinerC GP K (H0, F0, γ0) H0 F0 γ0 := ⟨id, rfl⟩
  exact hb (H0, F0, γ0) _ _ (fun γ' σ' H' F' ρ' nm C d x r' ex hm q' => wM_ok eT hW n b c t hl r' ex hm q') E Q r z n b c t
end
end DL
/-! lifted readings 12: isinstance -/
namespace DL
open PySem PySem.Spec PyProof.Rows L2 CD
def isB (t n : String) : Bool := decide (t = n) || (decide (t = "bool") && decide (n = "int"))
theorem kitB_ok : ∀ t ∈ ["NoneType", "bool", "int", "str", "list", "tuple", "dict", "set"], ∀ n ∈ ["int", "bool", "str", "tuple", "list", "dict"], kitB t n = some (isB t n) := by decide +kernel
def uIsi (n : String) (u : UE) : UE := fun ρ Q => u ρ fun x ρ1 => match cn ρ1 x with
  | some (.scr _) => False
  | some (.fn _) => False
  | some d => n ∈ ["int", "bool", "str", "tuple", "list", "dict"] ∧ Q (.val (.bl (isB (tyD d) n))) ρ1
  | none => False
section
variable {GP : GenP} {K : PySem.W.Frag} {B : Hp × Hp × GAt}
theorem tyx_of {F H : Hp} {v : V} {d : D} (s : Same F H) (c : Cnt K F H v d) (n : ∀ ns, d ≠ .scr ns) (n2 : ∀ a, d ≠ .fn a) : TyX K H v (.type (tyD d)) := by
  cases d with
  | non => rw [c.non]; exact .base .non
  | bl b => rw [c.bl]; exact .base (.bl b)
  | int i => rw [c.int]; exact .base (.int i)
  | str x => rw [c.str]; exact .base (.str x)
  | list ds => obtain ⟨a, xs, rfl, h, _⟩ := c.list s; exact .base (.lst h)
  | tup ds => obtain ⟨a, xs, rfl, h, _⟩ := c.tup s; exact tyx_tup h
  | dk ds => obtain ⟨a, xs, rfl, h, _⟩ := c.dk s; exact .base (.dK h)
  | dt ds => obtain ⟨a, xs, rfl, h, _⟩ := c.dt s; exact .base (.dT h)
  | set xs =>
    rcases c with c | ⟨a, rfl, c⟩ | ⟨_, _, _, _, e, _⟩
    · cases c with
      | set h _ _ _ => exact .set (s _ _ h)
    · cases c with
      | set h _ _ _ => exact .set h
    · cases e
  | scr ns => exact absurd rfl (n ns)
  | fn a => exact absurd rfl (n2 a)
theorem le_isi {n : String} {t : TE} {u : UE} (h : LE GP K B t u) : LE GP K B (tCB (rIsi K) (tCons t (tCons (tC (.ty n)) tNil))) (uIsi n u) := by
  intro H0 F0 γ0 _ γ σ H F ρ R Q r z k
  refine h _ _ r z fun H1 F1 γ1 ρ1 v x r1 s1 k1 u1 => ?_
  have fin : ∀ d, cn ρ1 x = some d → (∀ ns, d ≠ .scr ns) → (∀ a, d ≠ .fn a) → n ∈ ["int", "bool", "str", "tuple", "list", "dict"] → Q (.val (.bl (isB (tyD d) n))) ρ1 → tCons (tC (.ty n)) tNil σ H1 fun xs H2 => rIsi K (v :: xs) H2 R := by
    intro d e ns nf hn q
    refine ⟨v, .ty n, .type (tyD d), .type n, isB (tyD d) n, rfl, .ty _, tyx_of r1.sub (RVok.cnt r1 k1 e) ns nf, kit_ty (kitB_ok _ ?_ _ hn), k _ _ _ _ _ (.val _) r1 s1 (.bl _) q⟩
    cases d with
    | fn a => exact absurd rfl (nf a)
    | _ => simp [tyD]
  split at u1
  · exact u1.elim
  · exact u1.elim
  · rename_i d ns nf e
    exact fin d e (fun z hz => by subst hz; exact ns z rfl) (fun z hz => by subst hz; exact nf z rfl) u1.1 u1.2
  · exact u1.elim
def pNeg : P1 := fun x Q => match x with
  | .int i => Q (.val (.int (-i)))
  | _ => False
theorem lu_neg : LU K (rU fun i => .int (-i)) pNeg := by
  intro F H x dx R Q s c z k
  cases dx with
  | int i => rw [c.int]; exact ⟨i, rfl, k _ _ (.val _) (Same.refl _) (.int _) z⟩
  | _ => exact z.elim
end
end DL
set_option maxHeartbeats 1000000
/-! lifted readings 13: evaluation of what was read -/
namespace DL
open PySem PySem.Spec PyProof.Rows L2 CD
theorem at0 {x : D} {r : List D} : atI (x :: r) 0 = some x := atI_nat (j := 0) rfl
theorem at1 {x y : D} {r : List D} : atI (x :: y :: r) 1 = some y := atI_nat (j := 1) rfl
theorem at2 {x y z : D} {r : List D} : atI (x :: y :: z :: r) 2 = some z := atI_nat (j := 2) rfl
theorem at3 {x y z a : D} {r : List D} : atI (x :: y :: z :: a :: r) 3 = some a := atI_nat (j := 3) rfl
theorem isn_non : DL.isNon .non = true := rfl
theorem isn_int {i : Int} : DL.isNon (.int i) = false := rfl
theorem isn_bl {i : Bool} : DL.isNon (.bl i) = false := rfl
theorem isn_str {i : Str} : DL.isNon (.str i) = false := rfl
theorem isn_tup {i : List D} : DL.isNon (.tup i) = false := rfl
theorem isn_list {i : List D} : DL.isNon (.list i) = false := rfl
theorem start_cons {n : Nat} {a : SV} {as : List SV} : start0 (n + 1) (a :: as) = some a :: start0 n as := by
  simp [start0]
theorem start_nil {n : Nat} : start0 n [] = List.replicate n none := by simp [start0]
theorem cut_tl (ds : List D) : cutD ds (some 1) none = ds.tail := by
  unfold cutD
  rw [show HT.sIx ds.length 0 (some 1) = min 1 ds.length from HT.sIx_nat ds.length 0 1, HT.sIx_none]
  cases ds with
  | nil => rfl
  | cons d r =>
    have e : min 1 (d :: r).length = 1 := by rw [List.length_cons]; omega
    rw [e]
    show List.take ((d :: r).length - 1) r = r
    rw [List.length_cons, Nat.add_sub_cancel, List.take_length]
theorem itD {c : Prop} [Decidable c] {A B : Prop} (h1 : c → A) (h2 : ¬ c → B) : if c then A else B := by
  split
  · exact h1 ‹_›
  · exact h2 ‹_›
def scrD : D → Bool
  | .scr _ => true
  | .fn _ => true
  | _ => false

end DL
/-! lifted readings 14: the end of a law; what the top has written, own errors with it -/
namespace DL
open PySem PySem.Spec PyProof.Rows L2 CD
/-- the law's end over a def that is told of by its name -/
theorem law_c {P : Program} {w : World} {K : PySem.W.Frag} {mg mb : Str → Option Value} {k : Nat} {fa a : Addr} {x y : Str} {sp : Sp} {s₁ : Shared} {vs : List Value} {ns : List Int}
    (KX : K.In s₁.heap) (hns : s₁.heap.Ns mainGlobals mg) (hb : s₁.heap.Ns builtinsNs mb) (hbb : ∀ x : Str, x ≠ "__name__" → mb x = bootBuiltins x) (hlim : s₁.heap.NoLimit) (hg : s₁.gens = #[])
    (ha : s₁.heap.get? a = some { cls := .type "list", data := .seq vs.toArray }) (hi : IntsAre vs ns) (hl : ns.length ≤ sizeLine) (hr : Room k callerA) (hy : mg y = some (.ref fa))
    (F : ∀ base : Heap, K.In base → base.Ns mainGlobals mg → CalG P w K mg base k y [x] sp)
    (hsp : ∀ H : Hp, SqL K H a (ns.map V.int) → sp [.ref a] H (fun v _ => v = .bl true) fun _ _ _ => False) :
    codeAny (model P w) callerA (.call (.ref fa) ⟨[.ref a], []⟩) (fun r s' => r = .ok (.ret (.bool true)) ∧ OldK s₁.heap s'.heap ∧ s'.os = s₁.os ∧ AllBare s'.gens) s₁ := by
  have rv := vals_ints hi
  generalize hO : ({ cls := .type "list", data := .seq vs.toArray } : Obj) = o at ha
  generalize hH : H00 K a o ns = H
  have tr : ∀ b u, H b = some u → b = a ∧ K.lookup a = none ∧ u = .frz o (.lst (ns.map V.int)) := fun b u e => by
    rw [← hH] at e
    unfold H00 at e
    by_cases c : b = a ∧ K.lookup a = none
    · rw [if_pos c] at e; exact ⟨c.1, c.2, (Option.some.inj e).symm⟩
    · rw [if_neg c] at e; cases e
  have own : s₁.heap.get? a = some { cls := .type "list", data := .seq vs.toArray } := by rw [hO]; exact ha
  have okF : HOk P w H s₁.heap := fun b u e => by
    obtain ⟨rfl, _, rfl⟩ := tr b u e
    exact ⟨ha, by rw [List.length_map]; exact hl, vs, _, rv, own⟩
  have free : ∀ {b : Addr} {u : Obj}, s₁.heap.get? b = some u → (∀ es ep, o.data = .dict es ep → False) → (b = a → False) → H b = none := fun {b u} _ _ n => by
    cases q : H b with
    | none => rfl
    | some z => exact absurd (tr b z q).1 n
  have ndata : ∀ es ep, o.data = Data.dict es ep → False := fun es ep e => by rw [← hO] at e; cases e
  have hidn : ∀ {b : Addr} {m : Str → Option Value}, s₁.heap.Ns b m → (hidT s₁.heap H).Ns b m := fun {b m} ⟨u, es, ep, e, d, r⟩ => ⟨u, es, ep, hidT_get e (free e ndata fun z => by
    subst z
    rw [ha] at e
    cases e
    exact ndata _ _ d), d, r⟩
  have kin : K.In (hidT s₁.heap H) := fun b u e => hidT_get (KX b u e) (by
    cases q : H b with
    | none => rfl
    | some z =>
      obtain ⟨rfl, n, _⟩ := tr b z q
      rw [n] at e; cases e)
  have sq : SqL K H a (ns.map V.int) := by
    cases hk : K.lookup a with
    | none => exact .inl (.inr ⟨o, by rw [← hH]; unfold H00; rw [if_pos ⟨rfl, hk⟩]⟩)
    | some u =>
      have e := KX a u hk
      rw [own] at e
      cases e
      exact .inr ⟨_, vs.toArray, _, hk, rfl, rfl, rfl, by rw [List.size_toArray, hi.length]; exact hl, by simpa using rv⟩
  have hM : Mod K mg (hidT s₁.heap H) := ⟨kin, hidn hns, ⟨mb, hidn hb, hbb⟩, let ⟨mc, h1, h2⟩ := hlim; ⟨mc, hidn h1, h2⟩⟩
  have e0 : Env0 P w K mg (hidT s₁.heap H) callerA [] s₁ H := ⟨rfl, hM, fun b u e => of_hidT e, Nat.le_of_eq (hidT_size _ _), trivial, fun b hm => (by cases hm), okF, .of_eq hg⟩
  obtain ⟨f', fd, G, hf, _, hbd⟩ := F _ kin (hidn hns)
  rw [hy] at hf
  cases hf
  have hb1 := hbd s₁ [.ref a] KX rfl
  rw [List.append_nil] at hb1
  refine codeAny_mono (G.run callerA [] s₁ H ⟨[.ref a], []⟩ [.ref a] [.ref a] _ _ rfl hr e0 hb1 (.cons rfl .nil) (hsp H sq)) fun r s' h => ?_
  match r, h with
  | .error _, h => exact False.elim h
  | .ok .next, h => exact False.elim h
  | .ok .brk, h => exact False.elim h
  | .ok .cont, h => exact False.elim h
  | .ok (.ret u), ⟨v, H', os, bare, un, ok', r', q⟩ =>
    obtain rfl : v = .bl true := q
    obtain rfl : u = Value.bool true := r'
    refine ⟨rfl, OldK.of_keep fun b u e => ?_, os, bare⟩
    cases q : H b with
    | none => exact un.keep b u e q (fun z => by cases z) (fun z => by cases z)
    | some z =>
      obtain ⟨rfl, _, rfl⟩ := tr b z q
      obtain ⟨e1, _⟩ := okF b _ q
      obtain ⟨e2, _⟩ := ok' b _ (un.frzs b o _ q)
      rw [e] at e1; cases e1
      exact e2
theorem walk_c {l : PySem.W.OpenLaw} {n k : Nat} {q : Program} {loose : List Str} {XP : (Str → Option Value) → Heap → Prop} {YP : World → Heap → Prop} {d : DefRec} {K : Params → PySem.W.Frag} {sp : World → Sp} {x : Str}
    (hn : l.most = some n) (hn2 : n ≤ sizeLine) (hdf : d.params.defaults = []) (hr : Room k callerA)
    (hY : ∀ (w : World) (h : Heap), YP w h → (K w.params).In h)
    (F : ∀ (w : World) (mg : Str → Option Value) (fa : Addr) (h : Heap), (K w.params).In h → h.Ns mainGlobals mg → mg d.name = some (.ref fa) →
        ∀ base : Heap, (K w.params).In base → base.Ns mainGlobals mg → CalG l.prog w (K w.params) mg base k d.name [x] (sp w))
    (hsp : ∀ (w : World) (H : Hp) (a : Addr) (ns : List Int), ns.length ≤ n → SqL (K w.params) H a (ns.map V.int) → sp w [.ref a] H (fun v _ => v = .bl true) fun _ _ _ => False) :
    PySem.W.WalkO q loose XP YP l.row.toRowW d [] (fun f vs => PySem.call f vs) := by
  refine Att.attach_call hn hdf fun w s₀ s₁ mg mb fa o pm cd doc a vs ns G Y ho hd hcd hmg hobj hints hlen hg => ?_
  exact law_c (hY w _ Y) G.T.g G.T.b G.T.builtins G.T.nolimit hg hobj hints (Nat.le_trans hlen hn2) hr hmg (F w mg fa _ (hY w _ Y) G.T.g hmg) fun H hS => hsp w H a ns hlen hS
theorem tabs_nil {GP : GenP} (e : GP.T = []) (H F : Hp) : TabsF GP H F := ⟨fun p hp => (by rw [e] at hp; cases hp), fun a ⟨q, hq⟩ => (by rw [e] at hq; cases hq)⟩
theorem spL_law {GP : GenP} (eT : GP.T = []) {K : PySem.W.Frag} {W : WD} {n : Nat} (h : ∀ ns : List Int, ns.length ≤ n → W [.val (.scr ns)] fun d _ => d = .bl true) (H : Hp) (a : Addr) (ns : List Int) (l : ns.length ≤ n) (s : SqL K H a (ns.map V.int)) : spL GP K 1 (fun as Q => hasG as = false ∧ W as Q) [.ref a] H (fun v _ => v = .bl true) fun _ _ _ => False := by
  refine ⟨H, none, [.val (.scr ns)], fun d _ => d = .bl true, Same.refl _, ⟨.scr s, trivial⟩, rfl, rfl, rfl, fun p hp => (by cases hp), tabs_nil eT H H, ⟨rfl, h ns l⟩, fun v H' F' γ' d m _ _ _ _ _ _ e _ q => ?_⟩
  subst q
  cases e
  rfl
/-! ### what the top has written -/
section
variable {P : Program} {w : World} {K : PySem.W.Frag} {h : Heap} {mg : Str → Option Value} {base : Heap}
theorem mg_int (X : K.In h) (G : h.Ns mainGlobals mg) {x : Str} {i j : Int} {t : Tok} (a : PySem.W.nsIn K mainGlobals x = some (some (.int i t))) (e : i = j) : ∃ t, mg x = some (.int j t) := ⟨t, e ▸ PySem.W.mg_of X G a⟩
def TupIs (o : Obj) (xs : List V) : Prop := o.cls = .type "tuple" ∧ ∃ its n, o.data = .seq its n ∧ its.size ≤ sizeLine ∧ Vals xs its.toList
theorem mg_tup (X : K.In h) (G : h.Ns mainGlobals mg) {x : Str} {a : Addr} {o : Obj} {xs : List V} (m : PySem.W.nsIn K mainGlobals x = some (some (.ref a))) (l : K.lookup a = some o) (t : TupIs o xs) : ∃ a, mg x = some (.ref a) ∧ SqT K (fun _ => none) a xs :=
  ⟨a, PySem.W.mg_of X G m, .inr (let ⟨h1, its, n, h2, h3, h4⟩ := t; ⟨o, its, n, l, h1, h2, h3, h4⟩)⟩
theorem def_mk (X : K.In h) (G : h.Ns mainGlobals mg) {x : Str} {st : Stmt} {ps : List Str} {f : Addr} {od an : Option Addr} {sl : Array (Option Value)} {oc kV dc pm cd ct : Value}
    (a : PySem.W.nsIn K mainGlobals x = some (some (.ref f))) (l : K.lookup f = some ⟨oc, od, .func (PySem.W.fnOf x x (defArgs st) (defBody st) (defScope st) .none kV dc pm an cd ct), sl⟩) (c : PySem.W.codeIn K cd x = true) (k : PySem.W.keepIn K (.ref f) = true)
    (hb : ∀ (kV doc pm : Value) (an : Option Addr) (cdv ct : Value) (us : List Value), us.length = ps.length → bindArgs (PySem.W.fnOf x x (defArgs st) (defBody st) (defScope st) .none kV doc pm an cdv ct) ⟨us, []⟩ = pure (ps.zip us)) : Def K mg x st ps :=
  ⟨f, _, fun_mk (st := st) l c k, PySem.W.mg_of X G a, (fun_mk (st := st) l c k).binds (ps := ps) hb⟩
/-- what stands written of an own error's class -/
structure ErrW (K : PySem.W.Frag) (x : Str) (C fI : Addr) : Prop where
  a : PySem.W.nsIn K mainGlobals x = some (some (.ref C))
  cls : ∃ nm q N bs bm sn sub ab col dd k0 k1 k2 k3 k5, K.lookup C = some (excClassObj nm q C N bs bm true sn sub ab col dd k0 k1 k2 k3 k5 "ValueError.__new__") ∧ PySem.HandSPX.refsVE bm = true
  sa : PySem.W.findIn K (.ref C) "__setattr__" = some (some (.builtin "object.__setattr__"))
  ga : PySem.W.findIn K (.ref C) "__getattribute__" = some (some (.builtin "BaseException.__getattribute__"))
  gg : PySem.W.findIn K (.ref C) "__getattr__" = some none
  ex : PySem.W.subIn K (.ref C) (.type "BaseException") = some true
  ty : PySem.W.typeIn K (.ref C) = some (.type "type")
  hd : PySem.W.hasDictIn K C = true
  kp : PySem.W.keepIn K (.ref C) = true
  i : PySem.W.findIn K (.ref C) "__init__" = some (some (.ref fI))
  ti : PySem.W.typeIn K (.ref fI) = some (.type "function")
theorem ErrW.oex {x : Str} {C fI : Addr} (E : ErrW K x C fI) : OexC K C := ⟨E.cls, E.sa, E.ex, E.ty, E.kp⟩
theorem ErrW.xf {x : Str} {C fI : Addr} (E : ErrW K x C fI) : XfC K C := ⟨E.ga, E.gg, E.ex, E.hd⟩
theorem ErrW.errC (X : K.In h) (G : h.Ns mainGlobals mg) {x : Str} {C fI : Addr} {f : Option Str} {fd : FuncData} {ps : List Str} (E : ErrW K x C fI) (no : ∀ g, f = some g → PySem.W.findIn K (.ref C) g = some none)
    (fo : FnOk P w K mg base (L2.CX P w) 1 fI fd ps (match f with | some f => spIn1 K f | none => spIn0 K)) (b : Binds K fd ps []) : ∃ C, ErrC P w K mg base x C f :=
  ⟨C, PySem.W.mg_of X G E.a, E.oex, E.xf, no, fI, fd, ps, E.i, E.ti, fo, b⟩
/-- one error's name against another's -/
theorem ErrW.exm {x : Str} {C fI : Addr} (E : ErrW K x C fI) {cls : Value} {b : Bool} (s : PySem.W.subIn K cls (.ref C) = some b) : PySem.W.exmOne K cls (.ref C) = some b := PySem.W.exm_ref E.ex E.hd E.ty s
end
end DL
set_option maxHeartbeats 400000
/-! lifted readings 15: texts; a def held in a slot; xs.pop(i) -/
namespace DL
open PySem PySem.Spec PyProof.Rows L2 CD
section
variable {GP : GenP} {K : PySem.W.Frag} {B : Hp × Hp × GAt}
/-! ### methods of texts -/
variable (K) in
def LM (r : V → List V → Hp → VK → Prop) (p : Str → PN) : Prop := ∀ ⦃F H : Hp⦄ ⦃s : Str⦄ ⦃vs : List V⦄ ⦃ds : List D⦄ (R : VK) (Q : RV → Prop), Same F H → CntL K F H vs ds → p s ds Q →
  (∀ v H' rv, Same H H' → Opk K F H H' v rv → Q rv → R v H') → r (.str s) vs H R
def uM0 (p : Str → PN) (u : UE) : UE := fun ρ Q => u ρ fun x ρ1 => match cn ρ1 (sf x) with
  | some (.str s) => p s [] fun z => Q (nrm z) ρ1
  | _ => False
def uM1 (p : Str → PN) (u ua : UE) : UE := fun ρ Q => u ρ fun x ρ1 => match cn ρ1 (sf x) with
  | some (.str s) => ua ρ1 fun y ρ2 => match cn ρ2 y with
    | some d => p s [d] fun z => Q (nrm z) ρ2
    | none => False
  | _ => False
theorem le_m0 {r : V → List V → Hp → VK → Prop} {p : Str → PN} {t : TE} {u : UE} (hr : LM K r p) (ha : LE GP K B t u) : LE GP K B (tM0 r t) (uM0 p u) := by
  intro H0 F0 γ0 _ γ σ H F ρ R Q r0 u0 h
  refine ha _ _ r0 u0 fun H1 F1 γ1 ρ1 v x r1 s1 k1 u1 => ?_
  obtain ⟨F2, r2, s2, k2⟩ := sf_ok r1 k1
  split at u1
  · rename_i s e
    obtain rfl := (RVok.cnt r2 k2.one e).str
    exact ⟨⟨_, rfl⟩, hr _ _ r2.sub (ds := []) trivial u1 fun v' H' rv sH ok q => let ⟨_, r9, s9, k9⟩ := opk_ok r2 sH ok; h _ _ _ _ _ (nrm rv) r9 (s1.trans (s2.trans s9)) k9 q⟩
  · exact u1.elim
theorem le_m1 {r : V → List V → Hp → VK → Prop} {p : Str → PN} {t t2 : TE} {u u2 : UE} (hr : LM K r p) (ha : LE GP K B t u) (hb : LE GP K B t2 u2) : LE GP K B (tM1 r t t2) (uM1 p u u2) := by
  intro H0 F0 γ0 _ γ σ H F ρ R Q r0 u0 h
  refine ha _ _ r0 u0 fun H1 F1 γ1 ρ1 v x r1 s1 k1 u1 => ?_
  obtain ⟨F2, r2, s2, k2⟩ := sf_ok r1 k1
  split at u1
  · rename_i s e
    obtain rfl := (RVok.cnt r2 k2.one e).str
    refine ⟨⟨_, rfl⟩, hb _ _ r2 u1 fun H3 F3 γ3 ρ3 w y r3 s3 k3 u3 => ?_⟩
    split at u3
    · rename_i d e3
      exact hr _ _ r3.sub (ds := [d]) ⟨RVok.cnt r3 k3 e3, trivial⟩ u3 fun v' H' rv sH ok q => let ⟨_, r9, s9, k9⟩ := opk_ok r3 sH ok; h _ _ _ _ _ (nrm rv) r9 (s1.trans (s2.trans (s3.trans s9))) k9 q
    · exact u3.elim
  · exact u1.elim
theorem DdL.of_strs {F : Hp} : ∀ ns : List Str, DdL K F (ns.map V.str) (ns.map D.str)
  | [] => .nil
  | n :: r => .cons (.str n) (DdL.of_strs r)
theorem DdL.strs {F : Hp} : ∀ {xs : List V} {ns : List Str}, DdL K F xs (ns.map D.str) → xs = ns.map V.str
  | _, [], h => by cases h; rfl
  | _, n :: r, h => by
    cases h with
    | cons h g => cases h; rw [DdL.strs g]; rfl
def pSplit : Str → PN := fun s ds Q => match ds with
  | [.str b] => (b.length == 0) = false ∧ s.length + 2 ≤ sizeLine ∧ Q (.fr (.list ((Txt.split s b).map D.str)))
  | _ => False
theorem lm_split : LM K (fun x xs H Q => ∃ a b, x = .str a ∧ xs = [.str b] ∧ (b.length == 0) = false ∧ a.length + 2 ≤ sizeLine ∧ rNewStrs (Txt.split a b) H Q) pSplit := by
  intro F H x vs ds R Q s c p h
  unfold pSplit at p
  split at p
  · obtain ⟨v, rfl, k⟩ := cl1 c
    exact ⟨_, _, rfl, by rw [k.str], p.1, p.2.1, fun l nl => h _ _ (.fr (.list _)) (same_upd nl) ⟨l, rfl, nl, .lst upd_same (DdL.of_strs _)⟩ p.2.2⟩
  · exact p.elim
def pPartition : Str → PN := fun s ds Q => match ds with
  | [.str b] => (b.length == 0) = false ∧ s.length ≤ sizeLine ∧ Q (.fr (.tup [.str (Txt.partition s b).1, .str (Txt.partition s b).2.1, .str (Txt.partition s b).2.2]))
  | _ => False
theorem lm_partition : LM K (fun x xs H Q => ∃ a b, x = .str a ∧ xs = [.str b] ∧ (b.length == 0) = false ∧ a.length ≤ sizeLine ∧ ∀ p, H p = none → Q (.ref p) (upd H p (.tup [.str (Txt.partition a b).1, .str (Txt.partition a b).2.1, .str (Txt.partition a b).2.2]))) pPartition := by
  intro F H x vs ds R Q s c p h
  unfold pPartition at p
  split at p
  · obtain ⟨v, rfl, k⟩ := cl1 c
    exact ⟨_, _, rfl, by rw [k.str], p.1, p.2.1, fun l nl => h _ _ (.fr (.tup _)) (same_upd nl) ⟨l, _, rfl, nl, upd_same, .cons (.str _) (.cons (.str _) (.cons (.str _) .nil))⟩ p.2.2⟩
  · exact p.elim
def pJoin : Str → PN := fun s ds Q => match ds with
  | [.list xs] => ∃ ys : List Str, xs = ys.map D.str ∧ (ys.map (·.length)).sum + ys.length * s.length ≤ 16777216 ∧ Q (.val (.str (Txt.join s ys)))
  | _ => False
theorem lm_join : LM K (fun x xs H Q => ∃ a p, ∃ ys : List Str, x = .str a ∧ xs = [.ref p] ∧ (SqL K H p (ys.map V.str) ∨ SqT K H p (ys.map V.str)) ∧ (ys.map (·.length)).sum + ys.length * a.length ≤ 16777216 ∧ Q (.str (Txt.join a ys)) H) pJoin := by
  intro F H x vs ds R Q s c p h
  unfold pJoin at p
  split at p
  · obtain ⟨ys, rfl, p1, p2⟩ := p
    obtain ⟨v, rfl, k⟩ := cl1 c
    obtain ⟨a, xs, rfl, hx, g⟩ := k.list s
    rw [g.strs] at hx
    exact ⟨_, a, ys, rfl, rfl, .inl (.inl (.inl hx)), p1, h _ _ (.val _) (Same.refl _) (Dd.str _) p2⟩
  · exact p.elim
def pNo (f : Str → Bool) : Str → PN := fun s ds Q => match ds with
  | [] => Q (.val (.bl (f s)))
  | _ => False
theorem lm_no {f : Str → Bool} : LM K (fun x xs H Q => ∃ a, x = .str a ∧ xs = [] ∧ True ∧ Q (.bl (f a)) H) (pNo f) := by
  intro F H x vs ds R Q s c p h
  unfold pNo at p
  split at p
  · cases vs with
    | nil => exact ⟨_, rfl, rfl, trivial, h _ _ (.val _) (Same.refl _) (Dd.bl _) p⟩
    | cons _ _ => exact c.elim
  · exact p.elim
/-! ### operators, built-ins -/
def pAddS : P2 := fun x y Q => match x, y with
  | .str a, .str b => a.length + b.length ≤ sizeLine ∧ Q (.val (.str (a ++ b)))
  | _, _ => False
theorem lr_addS : LR K (fun x y H Q => ∃ i j, x = .str i ∧ y = .str j ∧ i.length + j.length ≤ sizeLine ∧ Q (.str (i ++ j)) H) pAddS := by
  intro F H x y dx dy R Q s c1 c2 p h
  unfold pAddS at p
  split at p
  · exact ⟨_, _, c1.str, c2.str, p.1, h _ _ (.val _) (Same.refl _) (Dd.str _) p.2⟩
  · exact p.elim
def pIxS : P2 := fun x y Q => match x, y with
  | .str z, .int i => z.length ≤ sizeLine ∧ ∃ c, atI z.cps.toList i = some c ∧ Q (.val (.str ⟨#[c]⟩))
  | _, _ => False
theorem lr_ixS : LR K rIxS pIxS := by
  intro F H x y dx dy R Q s c1 c2 p h
  unfold pIxS at p
  split at p
  · obtain ⟨p1, c, p2, p3⟩ := p
    exact ⟨_, _, c, c1.str, c2.int, p1, p2, h _ _ (.val _) (Same.refl _) (Dd.str _) p3⟩
  · exact p.elim
def pLenS : PN := fun ds Q => match ds with
  | [.str z] => z.length ≤ sizeLine ∧ Q (.val (.int z.length))
  | _ => False
theorem lb_lenS : LB K (fun xs H Q => ∃ z, xs = [.str z] ∧ z.length ≤ sizeLine ∧ Q (.int z.length) H) pLenS := by
  intro F H vs ds R Q s c p h
  unfold pLenS at p
  split at p
  · obtain ⟨v, rfl, k⟩ := cl1 c
    exact ⟨_, by rw [k.str], p.1, h _ _ (.val _) (Same.refl _) (Dd.int _) p.2⟩
  · exact p.elim
def rStrU : List V → Hp → VK → Prop := fun xs H Q => (∃ i, xs = [.int i] ∧ i.natAbs.log2 < 1920 ∧ Q (.str (toString i)) H) ∨ ∃ a, xs = [.str a] ∧ Q (.str a) H
theorem call_strU {X : Cx} : CallR X (.type "str") rStrU := by
  intro pins s σ H xs us Q I r h
  rcases h with ⟨i, e, l, q⟩ | ⟨a, e, q⟩
  · exact call_str_int pins s σ H xs us Q I r ⟨i, e, l, q⟩
  · exact SkE.call_str_str pins s σ H xs us Q I r ⟨a, e, q⟩
def pStr : PN := fun ds Q => match ds with
  | [.int i] => i.natAbs.log2 < 1920 ∧ Q (.val (.str (toString i)))
  | [.str a] => Q (.val (.str a))
  | _ => False
theorem lb_str : LB K rStrU pStr := by
  intro F H vs ds R Q s c p h
  unfold pStr at p
  split at p
  · obtain ⟨v, rfl, k⟩ := cl1 c
    exact .inl ⟨_, by rw [k.int], p.1, h _ _ (.val _) (Same.refl _) (Dd.str _) p.2⟩
  · obtain ⟨v, rfl, k⟩ := cl1 c
    exact .inr ⟨_, by rw [k.str], h _ _ (.val _) (Same.refl _) (Dd.str _) p⟩
  · exact p.elim
def pIntS : PN := fun ds Q => match ds with
  | [.str a] => a.length ≤ 640 ∧ ∃ n, PySem.intText? a = some n ∧ Q (.val (.int n))
  | _ => False
theorem lb_intS : LB K (fun xs H Q => ∃ a n, xs = [.str a] ∧ PySem.intText? a = some n ∧ a.length ≤ 640 ∧ Q (.int n) H) pIntS := by
  intro F H vs ds R Q s c p h
  unfold pIntS at p
  split at p
  · obtain ⟨p1, n, p2, p3⟩ := p
    obtain ⟨v, rfl, k⟩ := cl1 c
    exact ⟨_, n, by rw [k.str], p2, p1, h _ _ (.val _) (Same.refl _) (Dd.int _) p3⟩
  · exact p.elim
/-! ### xs.pop(i) -/
def uPopAt (i : Nat) (a : UE) : UE := fun ρ Q => match ρ[i]? with
  | some (some (.own (.list _))) => a ρ fun x ρ1 => match ρ1[i]?, cn ρ1 x with
    | some (some (.own (.list ds))), some (.int j) => 0 ≤ j ∧ j < 2 ^ 63 ∧ (match ds[j.toNat]? with
      | some d => Q (.val d) (ρ1.set i (some (.own (.list (ds.eraseIdx j.toNat)))))
      | none => False)
    | _, _ => False
  | _ => False
theorem DdL.erase {F : Hp} : ∀ {xs : List V} {ds : List D} (n : Nat), DdL K F xs ds → DdL K F (xs.eraseIdx n) (ds.eraseIdx n)
  | _, _, _, .nil => .nil
  | _, _, 0, .cons _ t => t
  | _, _, n + 1, .cons h t => .cons h (DdL.erase n t)
theorem le_popAt {i : Nat} {t : TE} {u : UE} (h : LE GP K B t u) : LE GP K B (tBM K "list" rPopAt (tVar i) (tCons t tNil)) (uPopAt i u) := by
  intro H0 F0 γ0 _ γ σ H F ρ R Q r z k
  dsimp only [uPopAt] at z
  split at z
  · rename_i ds0 e0
    obtain ⟨a, h1, h2, _⟩ := r.own i _ e0
    cases h2 with
    | lst ha _ =>
      refine ⟨_, h1, .inl ⟨rfl, _, .inl (.inl ha)⟩, ?_⟩
      refine h _ _ r z fun H1 F1 γ1 ρ1 v x r1 s1 k1 u1 => ?_
      split at u1
      · rename_i ds j e ej
        obtain ⟨j0, j1, u1⟩ := u1
        split at u1
        · rename_i d ed
          obtain rfl := (RVok.cnt r1 k1 ej).int
          obtain ⟨b, b1, b2, b3, _⟩ := r1.own i _ e
          rw [h1] at b1; cases b1
          cases b2 with
          | lst hb g =>
            obtain ⟨y, y1, y2⟩ := g.get ed
            have hl := (List.getElem?_eq_some_iff.mp y1).1
            refine ⟨a, _, j, j.toNat, y, rfl, rfl, hb, by omega, j1, ?_, y1, ?_⟩
            · unfold seqIndex?
              rw [if_neg (by omega : ¬ j < 0)]
              rw [if_pos (by rw [Bool.and_eq_true]; exact ⟨decide_eq_true j0, decide_eq_true (by omega)⟩)]
            · exact k _ _ _ _ _ (.val d) (r1.write e h1 (.lst upd_same (g.erase _))) s1 y2 u1
        · exact u1.elim
      · exact u1.elim
  · exact z.elim
/-! ### len(set(t)) of a tuple without likes -/
def uLenSet (u : UE) : UE := fun ρ Q => u ρ fun x ρ1 => match cn ρ1 x with
  | some (.tup ds) => ∃ ns : List Int, ds = ns.map D.int ∧ ns.Nodup ∧ ns.length ≤ 1000 ∧ Q (.val (.int (ns.length : Nat))) ρ1
  | _ => False
theorem le_lenSetT {t : TE} {u : UE} (h : LE GP K B t u) : LE GP K B (tLenSetT K t) (uLenSet u) := by
  intro H0 F0 γ0 _ γ σ H F ρ R Q r z k
  refine h _ _ r z fun H1 F1 γ1 ρ1 v x r1 s1 k1 u1 => ?_
  split at u1
  · rename_i ds e
    obtain ⟨ns, rfl, h1, h2, q⟩ := u1
    obtain ⟨a, xs, rfl, hx, g⟩ := (RVok.cnt r1 k1 e).tup r1.sub
    rw [g.ints] at hx
    exact ⟨a, ns, rfl, hx, h1, h2, k _ _ _ _ _ (.val _) r1 s1 (Dd.int _) q⟩
  · exact u1.elim
theorem op_catAK {X : Cx} {K : PySem.W.Frag} (h : X.K = K) : OpR X (binaryOp .Add) (rCatA K) := h ▸ op_catA
/-! ### a def held in a slot -/
theorem le_fn {a : Addr} : LE GP K B (tC (.ref a)) (uC (.fn a)) := fun H0 F0 γ0 _ γ σ H F ρ R Q r z k => k _ _ _ _ _ (.val _) r (Same.refl _) (Dd.fn a) z
def uCallV (i : Nat) (f : Addr) (n : Nat) (W : WD) (ua : UA) : UE := fun ρ Q => ρ[i]? = some (some (.val (.fn f))) ∧ uCall n W ua ρ Q
theorem le_callV {i n : Nat} {f : Addr} {W : WD} {E : XK} {t : TA} {u : UA} (ha : LA GP K B t u) : LE GP K B (tCallL i f (spL GP K n W) [] E t) (uCallV i f n W u) := by
  intro H0 F0 γ0 _ γ σ H F ρ R Q r ⟨e, z⟩ k
  obtain ⟨v, e1, e2⟩ := r.val i _ e
  cases e2
  exact ⟨e1, le_call (E := E) ha _ _ r z k⟩
end
section
variable {X : Cx} {k i : Nat} {f : Addr} {fd : FuncData} {ps : List Str} {sp : Sp} {x : Str} {p pos : Pos} {e : Expr} {es : List Expr} {t : TA}
theorem pe_callLG (G : GOk X.prog X.w X.K X.mg X.base k f fd ps sp) (hk : PySem.W.keepIn X.K (.ref f) = true) (hb : Binds X.K fd ps []) (hgd : X.A.guards = some []) (hr : Room k X.A) (hN : X.N[i]? = some x) (hv : Vis X.env.scope x)
    (ha : PA X (e :: es) t) (hdb : (x == ("__debug__" : Str)) = false := by decide) (hcd : (x == ("__classdict__" : Str)) = false := by decide) (he : starEach (e :: es) X.env = (false, eval e X.env) :: starEach es X.env := by rfl) (hpl : (backTo pos (starEach es X.env)).any (·.1) = false := by rfl) :
    PE X (.Call (.Name x p) (e :: es) [] pos) (tCallL i f sp [] E0 t) := by
  refine ⟨fun pins s σ H Q I h => ?_⟩
  obtain ⟨hs, ht⟩ := h
  have nm := (pe_var (X := X) (pos := p) (i := i) hN hv hdb hcd).run pins s σ H (fun v H1 => v = .ref f ∧ H1 = H) I ⟨.ref f, hs, rfl, rfl⟩
  refine wpAny_Call_Name_kw (thn nm fun u s1 ⟨v, H1, I1, r1, q1⟩ => ?_)
  obtain ⟨rfl, rfl⟩ := q1
  cases r1
  refine PySem.W.callWith_K (h₀ := X.base) I.ok.mod.kin hk (thn (ha.run pos pins s1 σ _ _ I1 ht) fun us s2 ⟨vs, H2, I2, r, q⟩ => ⟨I2.kIn, ?_⟩) he hpl
  have q : sp vs H2 Q E0 := by
    have z : sp (vs ++ []) H2 Q E0 := q
    rwa [List.append_nil] at z
  have hl : (us ++ []).length = ps.length := by rw [List.append_nil, ← r.length]; exact G.len _ _ _ _ q
  have hbb := hb s2 us I2.kIn hl
  rw [List.append_nil] at hbb
  refine wpAny_call (codeAny_mono (G.run X.A X.stack s2 H2 ⟨us, []⟩ us vs Q E0 hgd hr I2.env0 hbb r q) fun r s' hq => ?_)
  match r, hq with
  | .error _, hq => exact False.elim hq
  | .ok (.ret u), hq => exact I2.after hq
  | .ok .next, hq => exact False.elim hq
  | .ok .brk, hq => exact False.elim hq
  | .ok .cont, hq => exact False.elim hq
end
end DL
set_option maxHeartbeats 1000000
/-! lifted readings 16: loops and blocks over symbolic data -/
namespace DL
open PySem PySem.Spec PyProof.Rows L2 CD
theorem set_back {ρ : Rho} {i : Nat} {x : Option SV} : (ρ.set i x).set i (ρ[i]?.getD none) = ρ := by
  rw [List.set_set]
  by_cases h : i < ρ.length
  · rw [List.getElem?_eq_getElem h]
    exact List.set_getElem_self h
  · exact List.set_eq_of_length_le (by omega)
/-- [e for x in ds], e of x alone -/
theorem goLc_map {i : Nat} {e : UE} {k : List D → Rho → Prop} {f : D → D} {ρ : Rho} (p : D → Prop) (hi : okW ρ [i] = true) (he : ∀ d K, p d → K (.val (f d)) (ρ.set i (some (.val d))) → e (ρ.set i (some (.val d))) K) : ∀ (ds acc : List D), (∀ d ∈ ds, p d) → acc.length + ds.length ≤ sizeLine → k (acc ++ ds.map f) ρ → goLc (ugName i) uYes e [i] k ds acc ρ
  | [], acc, _, _, q => by
    rw [List.map_nil, List.append_nil] at q
    exact q
  | d :: r, acc, hp, hl, q => by
    refine ⟨hi, ?_⟩
    dsimp only [ugName, uYes, wipeR]
    rw [List.set_set, if_pos rfl]
    refine he d _ (hp d List.mem_cons_self) ?_
    rw [List.length_cons] at hl
    refine ⟨by omega, ?_⟩
    have er : restR ρ (ρ.set i (some (.val d))) [i] = ρ := set_back
    rw [er]
    refine goLc_map p hi he r _ (fun x hx => hp x (List.mem_cons_of_mem _ hx)) (by rw [List.length_append, List.length_singleton]; omega) ?_
    rw [List.append_assoc]
    exact q
theorem drec {c : Prop} {inst : Decidable c} {A B : Prop} (h1 : c → A) (h2 : ¬ c → B) : @Decidable.rec c (fun _ => Prop) (fun _ => B) (fun _ => A) inst := by
  cases inst with
  | isTrue h => exact h1 h
  | isFalse h => exact h2 h
theorem sz {ds : List D} (h : Nat.ble ds.length 100 = true) : ds.length ≤ sizeLine := by
  have := Nat.le_of_ble_eq_true h
  rw [sizeLine_eq]
  omega
theorem sl {ds : List D} (h : Nat.ble ds.length 100 = true) : ds.length < sizeLine := by
  have := Nat.le_of_ble_eq_true h
  rw [sizeLine_eq]
  omega
theorem seq_of {a b : US} {Q : UEnds} {ρ : Rho} (h : a { Q with nx := fun ρ' => b Q ρ' } ρ) : uSeq a b Q ρ := h
theorem goFor_inv {i : Nat} {b : US} {Q : UEnds} {I : Nat → Rho → Prop} (p : D → Prop) (N : Nat) (hb : ∀ n d ρ (Q' : UEnds), n < N → p d → I n ρ → (∀ ρ', I (n + 1) ρ' → Q'.nx ρ') → b Q' (ρ.set i (some (.val d)))) : ∀ (items : List D) (n : Nat) (ρ : Rho), n + items.length ≤ N → (∀ d ∈ items, p d) → I n ρ → (∀ ρ', I (n + items.length) ρ' → Q.nx ρ') → goFor (ugName i) b Q items ρ
  | [], n, ρ, _, _, h, q => q ρ h
  | d :: r, n, ρ, hN, hp, h, q => by
    rw [List.length_cons] at hN
    show b { Q with nx := goFor (ugName i) b Q r, ct := goFor (ugName i) b Q r, bk := Q.nx } (ρ.set i (some (.val d)))
    refine hb n d ρ _ (by omega) (hp d List.mem_cons_self) h fun ρ' h' => ?_
    exact goFor_inv p N hb r (n + 1) ρ' (by omega) (fun x hx => hp x (List.mem_cons_of_mem _ hx)) h' fun ρ'' h'' => q ρ'' (by rw [List.length_cons, Nat.add_comm r.length 1, ← Nat.add_assoc]; exact h'')
theorem rg_len (lo : Int) (n : Nat) : (rgD lo n).length = n := by
  unfold rgD
  rw [List.length_map, List.length_range]
end DL
set_option maxHeartbeats 400000
/-! lifted readings: list.insert, list.index -/
namespace DL
open PySem PySem.Spec PyProof.Rows L2 CD
/-! ### xs.insert(i, y), i from 0 to len(xs) -/
section
variable {X : Cx}
def rInsert : V → List V → Hp → VK → Prop := fun x vs H Q => ∃ l xs i y, x = .ref l ∧ vs = [.int i, y] ∧ H l = some (.lst xs) ∧ 0 ≤ i ∧ i ≤ xs.length ∧ xs.length < sizeLine ∧ Q .non (upd H l (.lst (xs.take i.toNat ++ y :: xs.drop i.toNat)))
theorem mt_insert : MtM X "list.insert" rInsert := by
  intro pins s σ H x vs v us Q I rx rv h
  obtain ⟨l, xs, i, y, rfl, rfl, hH, h0, h1, hz, q⟩ := h
  cases rx
  cases rv with
  | cons ri rt => cases rt with
    | cons ry rt =>
      rename_i uy _
      cases rt
      obtain ⟨t, rfl⟩ := ri
      obtain ⟨z, its, n, r, hl, e⟩ := I.lstM hH
      have hs := sizeLine_eq
      refine call_meets F.slot_list_insert ⟨_, e, rfl⟩ F.entry_list_insert (F.args_list_insert_3 _ _ _)
        (PySem.AutoSeq1.list_insert_list_int_val_1 l its.toArray n i t uy (by simp [fitsIndex_of h0 (by omega)]) (by rw [List.size_toArray]; omega)) ⟨e, ?_⟩
      refine ⟨.non, _, I.lset (its' := its.take i.toNat ++ uy :: its.drop i.toNat) hH e ?_ ((r.take _).append (.cons ry (r.drop _))) ?_, rfl, q⟩
      · have e1 : min i.toNat its.length = i.toNat := by omega
        have e2 : (if i < 0 then (i + (its.toArray.size : Int)).toNat else min i.toNat its.toArray.size) = i.toNat := by
          rw [if_neg (by omega), List.size_toArray]; exact e1
        show (its.toArray.extract 0 (if i < 0 then (i + (its.toArray.size : Int)).toNat else min i.toNat its.toArray.size)).push uy ++ its.toArray.extract (if i < 0 then (i + (its.toArray.size : Int)).toNat else min i.toNat its.toArray.size) = _
        rw [e2]
        apply Array.toList_inj.mp
        simp [List.take_of_length_le]
      · rw [List.length_append, List.length_cons, List.length_take, List.length_drop]
        omega
end
section
variable {GP : GenP} {K : PySem.W.Frag} {B : Hp × Hp × GAt}
def uInsert (i : Nat) (a : UA) : UE := fun ρ Q => match ρ[i]? with
  | some (some (.own (.list _))) => a ρ fun xs ρ1 => fzs xs ρ1 fun ds ρ2 => match ρ2[i]?, ds with
    | some (some (.own (.list es))), [.int k, d] => 0 ≤ k ∧ k ≤ es.length ∧ es.length < sizeLine ∧ Q (.val .non) (ρ2.set i (some (.own (.list (es.take k.toNat ++ d :: es.drop k.toNat)))))
    | _, _ => False
  | _ => False
theorem DdL.takeN {F : Hp} : ∀ {xs : List V} {ds : List D} (n : Nat), DdL K F xs ds → DdL K F (xs.take n) (ds.take n)
  | _, _, 0, _ => .nil
  | _, _, n + 1, .nil => .nil
  | _, _, n + 1, .cons h t => .cons h (DdL.takeN n t)
theorem DdL.dropN {F : Hp} : ∀ {xs : List V} {ds : List D} (n : Nat), DdL K F xs ds → DdL K F (xs.drop n) (ds.drop n)
  | _, _, 0, h => h
  | _, _, n + 1, .nil => .nil
  | _, _, n + 1, .cons h t => DdL.dropN n t
theorem le_insert {i : Nat} {t : TA} {u : UA} (h : LA GP K B t u) : LE GP K B (tBM K "list" rInsert (tVar i) t) (uInsert i u) := by
  intro H0 F0 γ0 _ γ σ H F ρ R Q r z k
  dsimp only [uInsert] at z
  split at z
  · rename_i ds0 e0
    obtain ⟨a, h1, h2, _⟩ := r.own i _ e0
    cases h2 with
    | lst ha _ =>
      refine ⟨_, h1, .inl ⟨rfl, _, .inl (.inl ha)⟩, ?_⟩
      refine h _ _ r z fun H1 F1 γ1 ρ1 vs xs r1 s1 k1 u1 => ?_
      obtain ⟨F3, ρ3, ds, r3, s3, d3, q3⟩ := fzs_ok r1 k1 u1
      split at q3
      · rename_i es kk d e
        obtain ⟨q0, q1, q2, q3⟩ := q3
        obtain ⟨b, b1, b2, b3, _⟩ := r3.own i _ e
        rw [h1] at b1; cases b1
        cases b2 with
        | lst hb g =>
          cases d3 with
          | cons g1 d3 => cases d3 with
            | cons g2 d3 =>
              cases d3
              cases g1
              refine ⟨a, _, _, _, rfl, rfl, hb, q0, by rw [g.length]; exact q1, by rw [g.length]; exact q2, ?_⟩
              exact k _ _ _ _ _ (.val .non) (r3.write e h1 (.lst upd_same ((g.takeN _).append (.cons g2 (g.dropN _))))) (s1.trans s3) Dd.non q3
      · exact q3.elim
  · exact z.elim
/-! ### xs.index(n), whole numbers, n there -/
def firstAt (n : Int) : List Int → Option Nat
  | [] => none
  | x :: r => if x = n then some 0 else (firstAt n r).map (· + 1)
theorem firstAt_ok {n : Int} : ∀ {l : List Int} {j : Nat}, firstAt n l = some j → l[j]? = some n ∧ ∀ m z, m < j → l[m]? = some z → z ≠ n
  | x :: r, j, h => by
    unfold firstAt at h
    split at h
    · rename_i e
      cases h
      exact ⟨by rw [e]; rfl, fun m z hm => absurd hm (Nat.not_lt_zero _)⟩
    · rename_i e
      obtain ⟨j', h1, rfl⟩ := Option.map_eq_some_iff.mp h
      obtain ⟨a, b⟩ := firstAt_ok h1
      refine ⟨a, fun m z hm hz => ?_⟩
      cases m with
      | zero => cases hz; exact e
      | succ m => exact b m z (by omega) hz
def uIndex (u v : UE) : UE := fun ρ Q => u ρ fun x ρ1 => ∃ ns : List Int, cn ρ1 (sf x) = some (.list (ns.map D.int)) ∧ v ρ1 fun y ρ2 => cn ρ2 (sf x) = some (.list (ns.map D.int)) ∧ ∃ n j, cn ρ2 y = some (.int n) ∧ firstAt n ns = some j ∧ Q (.val (.int (j : Nat))) ρ2
theorem le_index {to t : TE} {u v : UE} (ho : LE GP K B to u) (ht : LE GP K B t v) : LE GP K B (tBM K "list" (rIndex K) to (tCons t tNil)) (uIndex u v) := by
  intro H0 F0 γ0 _ γ σ H F ρ R Q r z k
  refine ho _ _ r z fun H1 F1 γ1 ρ1 w x r1 s1 k1 u1 => ?_
  obtain ⟨F2, r2, s2, k2⟩ := sf_ok r1 k1
  obtain ⟨ns, e1, u1⟩ := u1
  obtain ⟨a, xs, rfl, hx, g⟩ := (RVok.cnt r2 k2.one e1).list r2.sub
  refine ⟨.inl ⟨rfl, _, .inl (.inl hx)⟩, ?_⟩
  refine ht _ _ r2 u1 fun H3 F3 γ3 ρ3 w y r3 s3 k3 u3 => ?_
  obtain ⟨e2, n, j, e3, fj, q⟩ := u3
  obtain ⟨b, ys, hb, hy, g2⟩ := (RVok.cnt r3 (k2.same s3).one e2).list r3.sub
  cases hb
  obtain rfl := (RVok.cnt r3 k3 e3).int
  rw [g2.ints] at hy
  obtain ⟨f1, f2⟩ := firstAt_ok fj
  refine ⟨a, _, _, j, .int n, rfl, rfl, .inl (.inl hy), rfl, ?_, by rw [List.getElem?_map, f1]; rfl, ?_, fun m z' hm hz => ?_, ?_⟩
  · simp [flatV]
  · simp [eqV]
  · rw [List.getElem?_map] at hz
    obtain ⟨i, hi, rfl⟩ := Option.map_eq_some_iff.mp hz
    simpa [eqV] using f2 m i hm hi
  · exact k _ _ _ _ _ (.val _) r3 (s1.trans (s2.trans s3)) (Dd.int _) q
end
end DL
/-! lifted readings: comprehensions with two for -/
namespace DL
open PySem PySem.Spec PyProof.Rows L2 CD
/-- a walk, whatever its turns do -/
theorem it_gen {J : It} {n : Nat} {G : Hp → Prop} {Y : Nat → Hp → V → Hp → Prop} (w : Walk J n G Y) {body : V → Hp → (Hp → Prop) → Prop} {Qd : Hp → Prop} {Hs : Hp} (Pv : Nat → Hp → Prop) (h0 : Pv 0 Hs) (hG : ∀ i H, i ≤ n → Pv i H → G H)
    (hs : ∀ i x H H', i < n → Pv i H → Y i H x H' → body x H' (Pv (i + 1))) (hd : ∀ H, Pv n H → Qd H) :
    ∃ W : Nat → Nat → Hp → Prop, (∃ m, W 0 m Hs) ∧ ∀ i m H, W i m H →
      (J.stop i H ∧ Qd H) ∨ (J.go i H ∧ ∃ Nx : Hp → Prop, (∀ H', Nx H' → ∃ m', m' < m ∧ W (i + 1) m' H') ∧ ∀ x H', J.yld i H x H' → body x H' Nx) := by
  refine ⟨fun i m H => m + i = n ∧ Pv i H, ⟨n, rfl, h0⟩, ?_⟩
  rintro i m H ⟨hm, p⟩
  have q := hG i H (by omega) p
  by_cases hlt : i < n
  · exact .inr ⟨w.goes i H hlt q, Pv (i + 1), fun H' p' => ⟨n - (i + 1), by omega, by omega, p'⟩, fun x H' y => hs i x H H' hlt p (w.yields i H x H' hlt q y)⟩
  · obtain rfl : i = n := by omega
    exact .inl ⟨w.stops H q, hd H p⟩
variable {GP : GenP} {K : PySem.W.Frag} {B : Hp × Hp × GAt}
def goLc2 (g : UG) (t : UT) (i1 : UI) (g1 : UG) (t1 : UT) (e : UE) (vs vs1 : List Nat) (k : List D → Rho → Prop) : List D → List D → Rho → Prop
  | [], acc, ρ => k acc ρ
  | d :: ds, acc, ρ => okW ρ vs = true ∧ g d (wipeR ρ vs) fun ρ1 => t ρ1 fun b ρ2 => if b = true then i1 ρ2 fun items ρ3 => goLc g1 t1 e vs1 (fun acc' ρ4 => goLc2 g t i1 g1 t1 e vs vs1 k ds acc' (restR ρ ρ4 vs)) items acc ρ3
    else goLc2 g t i1 g1 t1 e vs vs1 k ds acc (restR ρ ρ2 vs)
def uLc2 (i : UI) (g : UG) (t : UT) (i1 : UI) (g1 : UG) (t1 : UT) (e : UE) (vs vs1 : List Nat) : UE := fun ρ Q => i ρ fun items ρ1 => goLc2 g t i1 g1 t1 e vs vs1 (fun acc ρ2 => Q (.fr (.list acc)) ρ2) items [] ρ1
theorem le_lc2 {wi wi1 : TI} {g g1 : TG} {tt tt1 : TT} {te : TE} {vs vs1 : List Nat} {ui ui1 : UI} {ug ug1 : UG} {ut ut1 : UT} {ue : UE} (hi : LI GP K B wi ui) (hg : LG GP K B g ug) (hw : GW g vs) (ht : LT GP K B tt ut)
    (hi1 : LI GP K B wi1 ui1) (hg1 : LG GP K B g1 ug1) (hw1 : GW g1 vs1) (ht1 : LT GP K B tt1 ut1) (he : LE GP K B te ue) : LE GP K B (tLc2 wi g tt wi1 g1 tt1 te vs vs1) (uLc2 ui ug ut ui1 ug1 ut1 ue vs vs1) := by
  intro H0 F0 γ0 _ γ σ H F ρ R Q r0 u0 h
  refine hi _ _ r0 u0 fun H1 F1 γ1 ρ1 J n G Y items r1 s1 wk hn hG hY q Dd1 nD => ?_
  have h0D : H0 Dd1 = none := r1.new0 nD
  have f1D : F1 Dd1 = none := Same.free r1.sub nD
  have ngD : ¬ GA GP γ0 Dd1 := r1.nga h0D
  obtain ⟨a, ea, o1, o2, o3, o4, o5⟩ := fr_new (o := .lst []) (d := .list []) r1 nD (.lst upd_same .nil)
  cases ea
  have rS := (r1.same (same_upd (o := .lst []) nD)).rebase.hold upd_same o2 o3 o4 o5
  -- the slots as they were behind a turn
  have ret : ∀ {ωs : List Nat} {σ0 : L2.St} {ρ0 : Rho} {accv0 accv : List V} {γ3 γ4 : GAt} {σ4 : L2.St} {H3 H4 F3 F4 : Hp} {ρ4 : Rho}, okW ρ0 ωs = true → Rp GP K (upd H0 Dd1 (.lst accv0)) F1 γ0 γ3 σ0 H3 F3 ρ0 →
      Rp GP K (upd H0 Dd1 (.lst accv)) F1 γ0 γ4 σ4 H4 F4 ρ4 → Same F3 F4 → Ons ωs (wipe σ0 ωs) σ4 → Rp GP K (upd H0 Dd1 (.lst accv)) F1 γ0 γ4 σ0 H4 F4 (restR ρ0 ρ4 ωs) := by
    intro ωs σ0 ρ0 accv0 accv γ3 γ4 σ4 H3 H4 F3 F4 ρ4 okw r3 r4 s4 hs
    refine r4.back (vs := ωs) ?_ (fun i hi => by rw [hs.2 i hi, wipe_at hi]) (fun i hi => restR_at hi) (fun i hi x e => ?_)
    · rw [restR_len, ← r4.len, hs.1, wipe_length]
    · have e0 := restR_in hi e
      obtain ⟨d', rfl⟩ := okW_in okw hi e0
      obtain ⟨w, w1, w2⟩ := r3.val i d' e0
      exact ⟨d', w, rfl, w1, w2.same s4⟩
  have wp : ∀ {ωs : List Nat} {σ0 : L2.St} {ρ0 : Rho} {accv : List V} {γ3 : GAt} {H3 F3 : Hp}, Rp GP K (upd H0 Dd1 (.lst accv)) F1 γ0 γ3 σ0 H3 F3 ρ0 → Rp GP K (upd H0 Dd1 (.lst accv)) F1 γ0 γ3 (wipe σ0 ωs) H3 F3 (wipeR ρ0 ωs) := by
    intro ωs σ0 ρ0 accv γ3 H3 F3 r3
    exact r3.back (vs := ωs) (by rw [wipe_length, wipeR_len]; exact r3.len) (fun i hi => (wipe_at hi).symm) (fun i hi => wipeR_at hi) (fun i hi x e => absurd e (wipeR_in hi))
  have fin : ∀ accv : List V, FinerC GP K B (upd H0 Dd1 (.lst accv)) F1 γ0 := fun accv => ⟨fun r => FinerC.fin ((r.letgo h0D f1D ngD (fun _ e => nomatch e)).1.unbase r1.f0 r1.fnew), FinerC.g (GP := GP) (K := K) H0 F0⟩
  obtain ⟨Pv, hPv⟩ : ∃ Pv : Nat → Hp → Prop, Pv = fun i H => ∃ γ F ρ accv acc, Rp GP K (upd H0 Dd1 (.lst accv)) F1 γ0 γ σ H F ρ ∧ DdL K F accv acc ∧ goLc2 ug ut ui1 ug1 ut1 ue vs vs1 (fun acc ρ2 => Q (.fr (.list acc)) ρ2) (items.drop i) acc ρ := ⟨_, rfl⟩
  refine it_gen wk Pv (by rw [hPv]; exact ⟨γ1, F1, ρ1, [], [], rS, .nil, by rw [List.drop_zero]; exact q⟩) (fun i H _ h => ?_) (fun i x H2 H3 hi' h2 y => ?_) (fun H2 h2 => ?_)
  all_goals (try rw [hPv] at h); (try rw [hPv] at h2)
  · obtain ⟨γ, F, ρ, _, _, r, _⟩ := h
    exact hG H (r.f0.trans r.sub)
  · obtain ⟨γ2, F2, ρ2, accv, acc, r2, da, q2⟩ := h2
    obtain ⟨d, hd, yd⟩ := hY i H2 x H3 F2 hi' r2.f0 r2.sub y
    haveI := fin accv
    have ei : items.drop i = d :: items.drop (i + 1) := by
      obtain ⟨a1, a2⟩ := List.getElem?_eq_some_iff.mp hd
      rw [← a2]
      exact List.drop_eq_getElem_cons a1
    rw [ei] at q2
    obtain ⟨okw, q2⟩ := q2
    obtain ⟨F3, r3, s3, d3⟩ := yd_ok r2 yd
    refine hw _ _ _ (fun σ2 H2 => Ons vs (wipe σ vs) σ2 → _) _ (fun σ4 H4 q4 on4 => ⟨wipe_eq on4, q4 on4⟩) ?_
    refine hg _ _ (wp r3) d3 q2 fun σ4 H4 F4 γ4 ρ4 r4 s4 q4 on4 => ?_
    refine ht _ _ r4 q4 fun H5 F5 γ5 ρ5 b r5 s5 q5 => ?_
    split
    · rename_i c
      rw [if_pos c] at q5
      refine hi1 _ _ r5 q5 fun H6 F6 γ6 ρ6 J1 n1 G1 Y1 items1 r6 s6 wk1 hn1 hG1 hY1 q6 => ?_
      obtain ⟨Pw, hPw⟩ : ∃ Pw : Nat → Hp → Prop, Pw = fun j H => ∃ γ F ρ accv acc, Rp GP K (upd H0 Dd1 (.lst accv)) F1 γ0 γ σ4 H F ρ ∧ Same F6 F ∧ DdL K F accv acc ∧
        goLc ug1 ut1 ue vs1 (fun acc' ρ' => goLc2 ug ut ui1 ug1 ut1 ue vs vs1 (fun acc ρ2 => Q (.fr (.list acc)) ρ2) (items.drop (i + 1)) acc' (restR ρ2 ρ' vs)) (items1.drop j) acc ρ := ⟨_, rfl⟩
      have S6 := s3.trans (s4.trans (s5.trans s6))
      refine it_gen wk1 Pw (by rw [hPw]; exact ⟨γ6, F6, ρ6, accv, acc, r6, Same.refl _, da.same S6, by rw [List.drop_zero]; exact q6⟩) (fun j H _ h => ?_) (fun j x1 H7 H8 hj h7 y1 => ?_) (fun H7 h7 => ?_)
      all_goals (try rw [hPw] at h); (try rw [hPw] at h7)
      · obtain ⟨γ, F, ρ, _, _, r, sF, _⟩ := h
        exact hG1 H (sF.trans r.sub)
      · obtain ⟨γ7, F7, ρ7, accw, acc7, r7, sF, dw, q7⟩ := h7
        obtain ⟨d1, hd1, yd1⟩ := hY1 j H7 x1 H8 F7 hj sF r7.sub y1
        haveI := fin accw
        have ej : items1.drop j = d1 :: items1.drop (j + 1) := by
          obtain ⟨a1, a2⟩ := List.getElem?_eq_some_iff.mp hd1
          rw [← a2]
          exact List.drop_eq_getElem_cons a1
        rw [ej] at q7
        obtain ⟨okw1, q7⟩ := q7
        obtain ⟨F8, r8, s8, d8⟩ := yd_ok r7 yd1
        refine hw1 _ _ _ (fun σ2 H2 => Ons vs1 (wipe σ4 vs1) σ2 → _) _ (fun σ9 H9 q9 on9 => ⟨wipe_eq on9, q9 on9⟩) ?_
        refine hg1 _ _ (wp r8) d8 q7 fun σ9 H9 F9 γ9 ρ9 r9 s9 q9 on9 => ?_
        refine ht1 _ _ r9 q9 fun HA FA γA ρA b1 rA sA qA => ?_
        split
        · rename_i c1
          rw [if_pos c1] at qA
          refine he _ _ rA qA fun HB FB γB ρB yv xB rB sB kB qB => ?_
          obtain ⟨FC, ρC, dC, rC, sC, ddC, lC, qC⟩ := fz_ok rB kB qB
          have S := s8.trans (s9.trans (sA.trans (sB.trans sC)))
          have rr := ret okw1 r8 rC (s9.trans (sA.trans (sB.trans sC))) on9
          obtain ⟨rg, e1, e2, e3, e4⟩ := rr.letgo h0D f1D ngD (fun _ e => nomatch e)
          refine ⟨accw, e1, by rw [dw.length]; exact lC, ?_⟩
          rw [hPw]
          refine ⟨γB, FC, restR ρ7 ρC vs1, accw ++ [yv], acc7 ++ [dC], ?_, sF.trans S, (dw.same S).append (.cons ddC .nil), qC⟩
          exact (rg.poke (o := .lst (accw ++ [yv])) e2 h0D e3 e4 (fun u hu => by rw [e1] at hu; cases hu; exact fun z => z ⟨nofun, nofun⟩)).hold upd_same e2 h0D e3 e4
        · rename_i c1
          rw [if_neg c1] at qA
          rw [hPw]
          have S := s8.trans (s9.trans sA)
          exact ⟨γA, FA, restR ρ7 ρA vs1, accw, acc7, ret okw1 r8 rA (s9.trans sA) on9, sF.trans S, dw.same S, qA⟩
      · obtain ⟨γ7, F7, ρ7, accw, acc7, r7, sF, dw, q7⟩ := h7
        rw [← hn1, List.drop_length] at q7
        rw [hPv]
        exact ⟨γ7, F7, restR ρ2 ρ7 vs, accw, acc7, ret okw r3 r7 (s4.trans (s5.trans (s6.trans sF))) on4, dw, q7⟩
    · rename_i c
      rw [if_neg c] at q5
      rw [hPv]
      exact ⟨γ5, F5, restR ρ2 ρ5 vs, accv, acc, ret okw r3 r5 (s4.trans s5) on4, da.same (s3.trans (s4.trans s5)), q5⟩
  · obtain ⟨γ2, F2, ρ2, accv, acc, r2, da, q2⟩ := h2
    rw [← hn, List.drop_length] at q2
    obtain ⟨rg, e1, e2, e3, e4⟩ := r2.letgo h0D f1D ngD (fun _ e => nomatch e)
    exact h _ _ _ _ _ (.fr (.list acc)) (rg.unbase r1.f0 r1.fnew) (s1.trans rg.f0) ⟨Dd1, rfl, .lst e1 da, e2, h0D, e3, e4⟩ q2
end DL
/-! dict comprehensions whose keys may be tuples: the store is DPut. The steps of pe_dcP follow the library's pe_dc (HandS.DictComp), whose statement has keys that are ints or texts only -/
namespace DL
open PySem PySem.Spec PyProof.Rows L2 CD
theorem d_dictSetP {X : Cx} {pins : List (Addr × Obj)} {σ : L2.St} {H H' : Hp} {s : Shared} {E : Value → Shared → Prop} {a : Addr} {y v : V} {u r : Value} {Q : Unit → Shared → Prop} (hu : X.A.units + 1 < cLine) (I : Inv X pins σ H s) (g : DPut H a y v H')
    (ry : RelV y u) (rv : RelV v r) (h : ∀ s', Inv X pins σ H' s' → Q () s') : wpAny (model X.prog X.w) X.A (dictSet a u r) Q E s := by
  rcases g with ⟨kvs, k, e, ey, l, eH⟩ | ⟨kvs, k, b, e, ey, eb, l, eH⟩
  · subst ey eH
    exact d_dictSet I e l ry rv h
  · subst ey eH
    cases (show u = Value.ref b from ry)
    obtain ⟨z, hd, xs, rel, dd⟩ := dt_of I.hok e
    have hz : xs.length ≤ sizeLine := by rw [← Paired.length rel]; exact z
    have hl : (putK kvs k v).length ≤ sizeLine := by have := length_putK kvs k v; omega
    refine wpAny_dictSet_heap (hsz := hz) (show (tupleKind (mixKind X.prog X.w)).room X.A from Nat.lt_of_succ_lt hu) (key_of I.hok eb) dd (fun h' dd' hs => h _ ?_)
    obtain ⟨q, es, ep, hq, h2, h3, h4, _, h5⟩ := dd'
    refine d_write I (by rw [e]; exact True.intro) hs ⟨q, hq⟩ ⟨hl, hd, _, (rel.put k eb rv).keeps fun c ys ec => ?_, q, es, ep, hq, h2, h3, h4, h5⟩
    rw [upd_ne (ne_of ec e (fun z => nomatch z))]
    exact ec
/-- {k: v for target in iter if ..} from the empty dict o -/
def tDcP (o : HO) (wi : TI) (g : TG) (tt : TT) (tk tv : TE) (vs : List Nat) : TE := fun σ H Q => wi σ H fun J H1 => ∀ D, H1 D = none → ∃ W : Nat → Nat → Hp → Prop, (∃ m, W 0 m (upd H1 D o)) ∧ ∀ i m H, W i m H →
  (J.stop i H ∧ Q (.ref D) H) ∨ (J.go i H ∧ ∃ Nx : Hp → Prop, (∀ H', Nx H' → ∃ m', m' < m ∧ W (i + 1) m' H') ∧ ∀ x H', J.yld i H x H' → g x (wipe σ vs) H' fun σ2 H2 => wipe σ2 vs = wipe σ vs ∧ tt σ2 H2 fun b H3 =>
    if b = true then tk σ2 H3 fun y H4 => tv σ2 H4 fun z H5 => ∃ H6, DPut H5 D y z H6 ∧ Nx H6 else Nx H3)
section
variable {X : Cx} {wi : TI} {g : TG} {tt : TT} {tk tv : TE} {kx vx tg iter : Expr} {ifs : List Expr} {scope : Scope} {own : List (Str × Nat)} {pos : Pos} {o : HO}
theorem pe_dcP (hu : X.A.units + 1 < cLine) (ho : o = .dK [] ∨ o = .dT []) (hc : X.calm = true) (hN : X.N.Nodup) (hi : PI X tg iter wi) (ok : BlkOk X.N X.env.scope scope own)
    (hg : ∀ (s : Shared) (H : Hp) (C : Addr) (cl : List (Str × Addr)) (fp : List Addr), PG (X.blk s H scope (compEnvC scope cl C X.env) fp) tg g) (ht : ∀ (s : Shared) (H : Hp) (C : Addr) (cl : List (Str × Addr)) (fp : List Addr), PTs (X.blk s H scope (compEnvC scope cl C X.env) fp) ifs tt)
    (hk : ∀ (s : Shared) (H : Hp) (C : Addr) (cl : List (Str × Addr)) (fp : List Addr), PE (X.blk s H scope (compEnvC scope cl C X.env) fp) kx tk)
    (he : ∀ (s : Shared) (H : Hp) (C : Addr) (cl : List (Str × Addr)) (fp : List Addr), PE (X.blk s H scope (compEnvC scope cl C X.env) fp) vx tv) (hs : ∀ x, foldedSetIterable iter X.env x = pure x := by intro _; rfl) :
    PE X (.DictComp kx vx [⟨tg, iter, ifs, 0⟩] scope pos) (tDcP o wi g tt tk tv (own.map (·.2))) := by
  refine ⟨fun pins s σ H Q I h => ?_⟩
  rw [arm_eval_DictComp]
  have free : ∀ y ∈ scope.names, y.2 = .free → ∃ c, X.env.cells.lookup y.1 = some c := fun y hy e => (ok.free y hy e).elim (fun k => I.ok.has _ (.inl k)) (fun k => I.ok.has _ (.inr k))
  refine wpAny_comprehension_free (use := none) rfl hs (closure_ok free) ok.kind (fun y hy e => by rw [ok.uniq y hy, e])
    (thn (hi.run pins s σ H _ I h) fun xv s1 hx => thn hx fun itv s2 h2 => ?_)
  obtain ⟨it, fp, tn, J, Ha, e, Ia, T, sta, fa, q⟩ := h2
  subst e
  refine wpAny_newObj_type (newEnv_comp ?_)
  generalize hD : s2.heap.objs.size = D
  obtain ⟨W, ⟨m0, w0⟩, turn⟩ := q D (Ia.hok.fresh (Nat.le_of_eq hD))
  generalize hs3 : ({ s2 with heap := s2.heap.push { cls := .type "dict", data := .dict #[] } } : Shared) = s3
  have h3 : s3.heap = s2.heap.push { cls := .type "dict", data := .dict #[] } := by rw [← hs3]
  have I3 : Inv X pins σ (upd Ha D o) s3 := by
    rw [← hs3]
    refine Ia.laid (t' := s2.toks) (fun b o e => Heap.get?_push_of_some _ e) (Nat.le_of_eq hD) ?_
    rw [← hD]
    rcases ho with rfl | rfl
    · exact dk_empty s2.heap Ia.big
    · exact dt_empty s2.heap Ia.big
  have f3 : ∀ b ∈ fp, FpOk X pins (upd Ha D o) b ∧ b < s3.heap.objs.size := fun b hb => by
    obtain ⟨ob, e, _⟩ := T.obj _ _ sta b hb
    have hlt := Heap.lt_size e
    refine ⟨⟨?_, (fa b hb).2⟩, by rw [h3, Heap.size_push]; exact Nat.lt_succ_of_lt hlt⟩
    rw [upd_ne (by rw [← hD]; exact Nat.ne_of_lt hlt)]
    exact (fa b hb).1
  have st3 : tn 0 s3.heap := T.keep _ _ _ sta fun b _ o e => by rw [h3]; exact Heap.get?_push_of_some _ e
  have I4 := block_start I3 ok hN f3
  have pg := hg s3 (upd Ha D o) s3.heap.objs.size (cellsFrom (s3.heap.objs.size + 1) scope.names (cloFrom X.env.cells scope.names [])) fp
  have pt := ht s3 (upd Ha D o) s3.heap.objs.size (cellsFrom (s3.heap.objs.size + 1) scope.names (cloFrom X.env.cells scope.names [])) fp
  have pk := hk s3 (upd Ha D o) s3.heap.objs.size (cellsFrom (s3.heap.objs.size + 1) scope.names (cloFrom X.env.cells scope.names [])) fp
  have pe := he s3 (upd Ha D o) s3.heap.objs.size (cellsFrom (s3.heap.objs.size + 1) scope.names (cloFrom X.env.cells scope.names [])) fp
  show codeAny _ _ (.compStart (.DictComp kx vx [⟨tg, iter, ifs, 0⟩] scope pos) 0 (.ref it) (.ref D) (compEnvC scope (cellsFrom (s3.heap.objs.size + 1) scope.names (cloFrom X.env.cells scope.names [])) s3.heap.objs.size X.env)) (compPost (model X.prog X.w) X.A X.xe none _ (.ref D) s3.heap.objs.size) { s3 with heap := pushCells (s3.heap.push { cls := .type "dict", data := .dict #[] }) scope.names }
  have nfp : ∀ b ∈ fp, (upd Ha D o) b = none := fun b hb => (f3 b hb).1.1
  generalize hce : compEnvC scope (cellsFrom (s3.heap.objs.size + 1) scope.names (cloFrom X.env.cells scope.names [])) s3.heap.objs.size X.env = ce at I4 pg pt pk pe ⊢
  have cL : ce.locals = s3.heap.objs.size := by subst hce; rfl
  generalize hH3 : upd Ha D o = H3 at I3 I4 pg pt pk pe w0 nfp f3
  generalize hs4 : ({ s3 with heap := pushCells (s3.heap.push { cls := .type "dict", data := .dict #[] }) scope.names } : Shared) = s4 at I4 ⊢
  have st4 : tn 0 s4.heap := T.keep _ _ _ st3 fun b _ o e => by rw [← hs4]; exact pushCells_keeps _ _ _ _ (Heap.get?_push_of_some _ e)
  have stat : ∀ {σ' : L2.St} {H' : Hp} {s' : Shared}, Inv (X.blk s3 H3 scope ce fp) [] σ' H' s' → (∀ b ∈ fp, H' b = none) → ∀ b ∈ fp, FpOk (X.blk s3 H3 scope ce fp) [] H' b := fun {σ' H' s'} I' hn b hb =>
    ⟨hn b hb, (I'.ok.exf b hb).1, I'.ok.exfs b hb, .inl hb, fun x c e => (I'.ok.exf b hb).2 x c e, fun p hp => absurd (show p ∈ ([] : List (Addr × Obj)) ++ [] from hp) (by simp)⟩
  refine codeAny_compStart_dict ?_ (T.self X.A 0 _ _ _ st4 ?_) <;>
  · refine compLoop_anyD (fun n s' => ∃ i H', Inv (X.blk s3 H3 scope ce fp) [] (wipe σ (own.map (·.2))) H' s' ∧ tn i s'.heap ∧ (∀ b ∈ fp, H' b = none) ∧ W i n H') ?_ m0 ⟨0, H3, I4, st4, nfp, w0⟩
    rintro n s5 ⟨i, H5, I5, st5, n5, w5⟩
    rcases turn i n H5 w5 with ⟨stop, qq⟩ | ⟨go, Nx, hNx, step⟩
    · refine thnF (T.done (X.blk s3 H3 scope ce fp) rfl rfl rfl hc i [] s5 _ H5 (fun _ _ => False) I5 (stat I5 n5) st5 stop) fun r s6 ⟨hr, I6⟩ => ?_
      subst hr
      have I7 : Inv X pins σ H5 s6 := I3.call' (ch := fp) I6.os I6.base I6.hok I6.bare fun b hb => ⟨(f3 b hb).1.2.2.2.1, (f3 b hb).1.2.1, (f3 b hb).1.2.2.2.2.1, (f3 b hb).1.2.2.2.2.2⟩
      have nC : H5 s3.heap.objs.size = none := by
        have z : H5 ce.locals = none := I6.free
        rwa [cL] at z
      obtain ⟨m, hn, _⟩ := I6.loc
      have hn : s6.heap.Ns ce.locals m := hn
      rw [cL] at hn
      obtain ⟨f0, f1, f2, f3, f4, f5⟩ := I3.fpOk (Nat.le_refl _) nC
      exact ⟨m, hn, fun h'' sb => ⟨.ref D, H5, I7.turned (t' := s6.toks) (fun b o hb e => (sb.2 b hb).trans e) f0 f1 f3 f4 f5, rfl, qq⟩⟩
    · refine thnF (T.item (X.blk s3 H3 scope ce fp) rfl rfl rfl hc i [] s5 _ H5 (fun _ _ => False) I5 (stat I5 n5) st5 go) fun r s6 ⟨u, hr, h6⟩ => ?_
      subst hr
      refine thnF h6 fun _ s7 ⟨x, H7, I7, r7, y7, st7, n7⟩ => ?_
      refine thnF (pg.run _ s7 _ H7 x u _ (I7.pinned (stat I7 n7) (T.obj _ _ st7)) r7 (step x H7 y7)) fun _ s8 ⟨σ8, H8, I8, hw8, q8⟩ => ?_
      refine thnF (pt.run _ s8 σ8 H8 _ I8 q8) fun b s9 ⟨H9, I9, q9⟩ => ?_
      have fin : ∀ {s' : Shared} {H' : Hp}, Inv (X.blk s3 H3 scope ce fp) ([] ++ pinsAt fp s7.heap) σ8 H' s' → Nx H' → ∃ m, m < n ∧ ∃ i H', Inv (X.blk s3 H3 scope ce fp) [] (wipe σ (own.map (·.2))) H' s' ∧ tn i s'.heap ∧ (∀ b ∈ fp, H' b = none) ∧ W i m H' := fun {s' H'} I' nx => by
        obtain ⟨m', hm, w'⟩ := hNx H' nx
        have pin' : ∀ b ∈ fp, ∀ o, s7.heap.get? b = some o → s'.heap.get? b = some o ∧ H' b = none := fun b hb o e =>
          let z := I'.pin (b, o) (List.mem_append_right _ (List.mem_append_right _ (mem_pinsAt hb e)))
          ⟨z.1, z.2.1⟩
        refine ⟨m', hm, i + 1, H', (I'.unpinned (pins := [])).weak (by rw [← hw8, wipe_length]) (fun j v e => by rw [← hw8] at e; exact (wipe_some e).1), T.keep _ _ _ st7 fun b hb o e => (pin' b hb o e).1, fun b hb => ?_, w'⟩
        obtain ⟨o, e, _⟩ := T.obj _ _ st7 b hb
        exact (pin' b hb o e).2
      cases b with
      | false =>
        simp only [Bool.false_eq_true, if_false] at q9 ⊢
        exact fin I9 q9
      | true =>
        simp only [if_true] at q9 ⊢
        refine thnF (pk.run _ s9 σ8 H9 _ I9 q9) fun z s10 ⟨yk, HA, IA, rA, qA⟩ => ?_
        refine thnF (pe.run _ s10 σ8 HA _ IA qA) fun z2 s11 ⟨yv, HB, IB, rB, HC, dp, nx⟩ => ?_
        exact d_dictSetP (X := X.blk s3 H3 scope ce fp) hu IB dp rA rB fun s12 IC => fin IC nx
end
end DL
/-! lifted readings: dict comprehensions with tuples as keys -/
namespace DL
open PySem PySem.Spec PyProof.Rows L2 CD
theorem call_tuple_ofK {X : Cx} {K : PySem.W.Frag} (h : X.K = K) : CallR X (.type "tuple") (fun xs H Q => ∃ p ys, xs = [V.ref p] ∧ ((SqL K H p ys ∧ ∀ l : Addr, H l = none → Q (V.ref l) (upd H l (.tup ys))) ∨ SqT K H p ys ∧ Q (V.ref p) H)) := h ▸ call_tuple_of
variable {GP : GenP} {K : PySem.W.Frag} {B : Hp × Hp × GAt}
def goDc (g : UG) (t : UT) (ek ev : UE) (vs : List Nat) (k : List (List Key × D) → Rho → Prop) : List D → List (List Key × D) → Rho → Prop
  | [], acc, ρ => k acc ρ
  | d :: ds, acc, ρ => okW ρ vs = true ∧ g d (wipeR ρ vs) fun ρ1 => t ρ1 fun b ρ2 => if b = true then ek ρ2 fun x ρ3 => fz x ρ3 fun y ρ4 => ev ρ4 fun z ρ5 => fz z ρ5 fun dz ρ6 =>
      ∃ ks ky, y = .tup ks ∧ keysD ks = some ky ∧ acc.length < sizeLine ∧ goDc g t ek ev vs k ds (putD acc ky dz) (restR ρ ρ6 vs)
    else goDc g t ek ev vs k ds acc (restR ρ ρ2 vs)
def uDcT (i : UI) (g : UG) (t : UT) (ek ev : UE) (vs : List Nat) : UE := fun ρ Q => i ρ fun items ρ1 => goDc g t ek ev vs (fun acc ρ2 => Q (.fr (.dt acc)) ρ2) items [] ρ1
theorem le_dcT {wi : TI} {g : TG} {tt : TT} {tk tv : TE} {vs : List Nat} {ui : UI} {ug : UG} {ut : UT} {uk uv : UE} (hi : LI GP K B wi ui) (hg : LG GP K B g ug) (hw : GW g vs) (ht : LT GP K B tt ut)
    (hk : LE GP K B tk uk) (hv : LE GP K B tv uv) : LE GP K B (tDcP (.dT []) wi g tt tk tv vs) (uDcT ui ug ut uk uv vs) := by
  intro H0 F0 γ0 _ γ σ H F ρ R Q r0 u0 h
  refine hi _ _ r0 u0 fun H1 F1 γ1 ρ1 J n G Y items r1 s1 wk hn hG hY q Dd1 nD => ?_
  have h0D : H0 Dd1 = none := r1.new0 nD
  have f1D : F1 Dd1 = none := Same.free r1.sub nD
  have ngD : ¬ GA GP γ0 Dd1 := r1.nga h0D
  obtain ⟨a, ea, o1, o2, o3, o4, o5⟩ := fr_new (o := .dT []) (d := .dt []) r1 nD (.dT upd_same .nil)
  cases ea
  have rS := (r1.same (same_upd (o := .dT []) nD)).rebase.hold upd_same o2 o3 o4 o5
  have ret : ∀ {ωs : List Nat} {σ0 : L2.St} {ρ0 : Rho} {accv0 accv : List (List Key × V)} {γ3 γ4 : GAt} {σ4 : L2.St} {H3 H4 F3 F4 : Hp} {ρ4 : Rho}, okW ρ0 ωs = true → Rp GP K (upd H0 Dd1 (.dT accv0)) F1 γ0 γ3 σ0 H3 F3 ρ0 →
      Rp GP K (upd H0 Dd1 (.dT accv)) F1 γ0 γ4 σ4 H4 F4 ρ4 → Same F3 F4 → Ons ωs (wipe σ0 ωs) σ4 → Rp GP K (upd H0 Dd1 (.dT accv)) F1 γ0 γ4 σ0 H4 F4 (restR ρ0 ρ4 ωs) := by
    intro ωs σ0 ρ0 accv0 accv γ3 γ4 σ4 H3 H4 F3 F4 ρ4 okw r3 r4 s4 hs
    refine r4.back (vs := ωs) ?_ (fun i hi => by rw [hs.2 i hi, wipe_at hi]) (fun i hi => restR_at hi) (fun i hi x e => ?_)
    · rw [restR_len, ← r4.len, hs.1, wipe_length]
    · have e0 := restR_in hi e
      obtain ⟨d', rfl⟩ := okW_in okw hi e0
      obtain ⟨w, w1, w2⟩ := r3.val i d' e0
      exact ⟨d', w, rfl, w1, w2.same s4⟩
  have wp : ∀ {ωs : List Nat} {σ0 : L2.St} {ρ0 : Rho} {accv : List (List Key × V)} {γ3 : GAt} {H3 F3 : Hp}, Rp GP K (upd H0 Dd1 (.dT accv)) F1 γ0 γ3 σ0 H3 F3 ρ0 → Rp GP K (upd H0 Dd1 (.dT accv)) F1 γ0 γ3 (wipe σ0 ωs) H3 F3 (wipeR ρ0 ωs) := by
    intro ωs σ0 ρ0 accv γ3 H3 F3 r3
    exact r3.back (vs := ωs) (by rw [wipe_length, wipeR_len]; exact r3.len) (fun i hi => (wipe_at hi).symm) (fun i hi => wipeR_at hi) (fun i hi x e => absurd e (wipeR_in hi))
  have fin : ∀ accv : List (List Key × V), FinerC GP K B (upd H0 Dd1 (.dT accv)) F1 γ0 := fun accv => ⟨fun r => FinerC.fin ((r.letgo h0D f1D ngD (fun _ e => nomatch e)).1.unbase r1.f0 r1.fnew), FinerC.g (GP := GP) (K := K) H0 F0⟩
  obtain ⟨Pv, hPv⟩ : ∃ Pv : Nat → Hp → Prop, Pv = fun i H => ∃ γ F ρ accv acc, Rp GP K (upd H0 Dd1 (.dT accv)) F1 γ0 γ σ H F ρ ∧ DdT K F accv acc ∧ goDc ug ut uk uv vs (fun acc ρ2 => Q (.fr (.dt acc)) ρ2) (items.drop i) acc ρ := ⟨_, rfl⟩
  refine it_gen wk Pv (by rw [hPv]; exact ⟨γ1, F1, ρ1, [], [], rS, .nil, by rw [List.drop_zero]; exact q⟩) (fun i H _ h => ?_) (fun i x H2 H3 hi' h2 y => ?_) (fun H2 h2 => ?_)
  all_goals (try rw [hPv] at h); (try rw [hPv] at h2)
  · obtain ⟨γ, F, ρ, _, _, r, _⟩ := h
    exact hG H (r.f0.trans r.sub)
  · obtain ⟨γ2, F2, ρ2, accv, acc, r2, da, q2⟩ := h2
    obtain ⟨d, hd, yd⟩ := hY i H2 x H3 F2 hi' r2.f0 r2.sub y
    haveI := fin accv
    have ei : items.drop i = d :: items.drop (i + 1) := by
      obtain ⟨a1, a2⟩ := List.getElem?_eq_some_iff.mp hd
      rw [← a2]
      exact List.drop_eq_getElem_cons a1
    rw [ei] at q2
    obtain ⟨okw, q2⟩ := q2
    obtain ⟨F3, r3, s3, d3⟩ := yd_ok r2 yd
    refine hw _ _ _ (fun σ2 H2 => Ons vs (wipe σ vs) σ2 → _) _ (fun σ4 H4 q4 on4 => ⟨wipe_eq on4, q4 on4⟩) ?_
    refine hg _ _ (wp r3) d3 q2 fun σ4 H4 F4 γ4 ρ4 r4 s4 q4 on4 => ?_
    refine ht _ _ r4 q4 fun H5 F5 γ5 ρ5 b r5 s5 q5 => ?_
    split
    · rename_i c
      rw [if_pos c] at q5
      refine hk _ _ r5 q5 fun H6 F6 γ6 ρ6 yk x6 r6 s6 k6 q6 => ?_
      obtain ⟨F7, ρ7, dk, r7, s7, dd7, q7⟩ := fz_ok r6 k6 q6
      refine hv _ _ r7 q7 fun H8 F8 γ8 ρ8 yv x8 r8 s8 k8 q8 => ?_
      obtain ⟨F9, ρ9, dv, r9, s9, dd9, ks, ky, rfl, ek, hl, q9⟩ := fz_ok r8 k8 q8
      have S := s3.trans (s4.trans (s5.trans (s6.trans (s7.trans (s8.trans s9)))))
      have rr := ret okw r3 r9 (s4.trans (s5.trans (s6.trans (s7.trans (s8.trans s9))))) on4
      obtain ⟨rg, e1, e2, e3, e4⟩ := rr.letgo h0D f1D ngD (fun _ e => nomatch e)
      cases dd7 with
      | tup t1 t2 =>
        rename_i tb txs
        rw [keysD_ok t2 ek] at t1
        refine ⟨_, .inr ⟨accv, ky, _, e1, rfl, r9.sub _ _ ((s8.trans s9) _ _ t1), ?_, rfl⟩, ?_⟩
        · rw [da.length]; exact hl
        · rw [hPv]
          refine ⟨γ8, F9, restR ρ2 ρ9 vs, putK accv ky yv, putD acc ky dv, ?_, putT_dd dd9 (da.same S), q9⟩
          exact (rg.poke (o := .dT (putK accv ky yv)) e2 h0D e3 e4 (fun u hu => by rw [e1] at hu; cases hu; exact fun z => z ⟨nofun, nofun⟩)).hold upd_same e2 h0D e3 e4
    · rename_i c
      rw [if_neg c] at q5
      rw [hPv]
      exact ⟨γ5, F5, restR ρ2 ρ5 vs, accv, acc, ret okw r3 r5 (s4.trans s5) on4, da.same (s3.trans (s4.trans s5)), q5⟩
  · obtain ⟨γ2, F2, ρ2, accv, acc, r2, da, q2⟩ := h2
    rw [← hn, List.drop_length] at q2
    obtain ⟨rg, e1, e2, e3, e4⟩ := r2.letgo h0D f1D ngD (fun _ e => nomatch e)
    exact h _ _ _ _ _ (.fr (.dt acc)) (rg.unbase r1.f0 r1.fnew) (s1.trans rg.f0) ⟨Dd1, rfl, .dT e1 da, e2, h0D, e3, e4⟩ q2
end DL
set_option maxHeartbeats 1000000
/-! lifted readings 17: a lambda, its one parameter (if it has one) with a default, handed to a def -/
namespace DL
open PySem PySem.Spec PyProof.Rows L2 CD LamX
/-- all but the tables stay -/
def ExtT (T : List (Addr × Str)) (H H' : Hp) : Prop := ∀ b o, H b = some o → ¬ TbA T b → H' b = some o
theorem ExtT.refl {T : List (Addr × Str)} (H : Hp) : ExtT T H H := fun _ _ h _ => h
def tLamT (T : List (Addr × Str)) (TT : (XK → Hp → VK → Prop) → Hp → VK → Prop) (t : XK → TE) : TE := fun σ H Q => Tabs T H ∧ ∀ G, ExtT T H G → Tabs T G → TT (fun E G' R => t E σ G' R) G Q
abbrev lamQ (X : Cx) : Str := X.env.qual ++ "<lambda>"
/-- the function made of it, its defaults at d -/
abbrev lamF (q : Str) (ps : Arguments) (e : Expr) (sc : Scope) (cl : List (Str × Addr)) (d doc m : Value) (co : Addr) (ct : Value) : Obj := PySem.W.kdv_obj "<lambda>" q ps (.expr e) sc cl d doc m co ct
section
variable {X : Cx} {pins : List (Addr × Obj)} {σ : L2.St} {H HZ : Hp} {s s1 : Shared}
/-- the new function's address is no frame -/
theorem off_frames {b : Addr} (I : Inv X pins σ H s) (hb : s.heap.objs.size ≤ b) : b ∉ frs X.stack := fun z => by
  cases List.mem_cons.mp (I.stkSub _ z) with
  | inl e => exact absurd (e ▸ I.lt) (Nat.not_lt.mpr hb)
  | inr e => exact I.nofs hb e
theorem lam_tail {T : List (Addr × Str)} {c P : Addr} {ps : Arguments} {e : Expr} {sc : Scope} {pos : Pos} {E Q : Value → Shared → Prop} {dV : Value} (I : Inv X pins σ H s) (TB : TabB X.base X.mg c P) (hco : X.env.code = .ref c)
    (mem : (P, lamQ X) ∈ T) (only : ∀ y ∈ T, y.1 = P → y.2 = lamQ X) (tb : Tabs T H) (has : ∀ y ∈ sc.names, y.2 = .free → ∃ a, X.env.cells.lookup y.1 = some a)
    (k : ∀ (f co : Addr) (doc m ct : Value) (H1 : Hp) (s2 : Shared), Inv X pins σ H1 s2 → ExtT T H H1 → Tabs T H1 → s2.heap.get? f = some (lamF (lamQ X) ps e sc (cloFrom X.env.cells sc.names []) dV doc m co ct) → H1 f = none → f ∉ frs X.stack →
      H1 co = some (CodeO co (lamQ X)) → (∀ b o, s.heap.get? b = some o → H b = none → s2.heap.get? b = some o ∧ H1 b = none) → Q (.ref f) s2) :
    wpAny (model X.prog X.w) X.A (makeTail "<lambda>" (lamQ X) ps (.expr e) sc X.env dV .none none pos pos.line) Q E s := by
  obtain ⟨vs, hP, tri, among⟩ := tb _ mem
  have bP := TB.bm.keeps I.bk
  have oP : s.heap.get? P = some { cls := .none, data := .fields vs } := I.hok P _ hP
  cases hc : codeAmong pos vs.toList with
  | none =>
    refine PySem.W.kdv_makeTail (mg := X.mg) (ps := vs) (closure_ok has) I.ok.glob (I.mod.glob.keeps I.bk) hco (TB.code.keeps I.bk) oP tri hc TB.gP bP ?_
    intro co ct doc hC tk2 ext ge lt rec atP
    obtain ⟨_, oc, ws, t2, e2, goc, dc, vc⟩ := rec
    cases e2
    have nC : H co = none := I.hok.fresh ge
    have big : s.heap.objs.size ≤ hC.objs.size := Nat.le_trans ge (Nat.le_of_lt lt)
    have I1 := inv_table (t' := tk2) (more := #[rawInt pos.line, rawInt pos.col, .ref co]) (h' := hC.push (lamF (lamQ X) ps e sc (cloFrom X.env.cells sc.names []) dV doc ((X.mg "__name__").getD .none) co ct)) I hP
      (fun b o nb z => Heap.get?_push_of_some _ (ext b o nb z)) (Heap.get?_push_of_some _ atP) ge ⟨oc, ws, t2, Heap.get?_push_of_some _ goc, dc, vc⟩
    have ex : ExtN H (upd (upd H P (.tbl (vs ++ #[rawInt pos.line, rawInt pos.col, .ref co]))) co (CodeO co (lamQ X))) := fun b o z n => by
      have b1 : b ≠ co := ne_of_none z nC
      have b2 : b ≠ P := fun y => n vs (by rw [y, hP] at z; exact (Option.some.inj z).symm)
      rw [upd_ne b1, upd_ne b2, z]
    have nPc : P ≠ co := ne_of_none hP nC
    have exT : ExtT T H (upd (upd H P (.tbl (vs ++ #[rawInt pos.line, rawInt pos.col, .ref co]))) co (CodeO co (lamQ X))) := fun b o z n => by
      have b2 : b ≠ P := fun y => n ⟨lamQ X, by rw [y]; exact mem⟩
      rw [upd_ne (ne_of_none z nC), upd_ne b2, z]
    refine k hC.objs.size co doc _ ct _ _ I1 exT (fun y hy => ?_) (Heap.get?_push_size _ rfl) ?_ (off_frames I big) upd_same (fun b o e n => ⟨Heap.get?_push_of_some _ (ext b o (fun y => by rw [y, hP] at n; cases n) e), ?_⟩)
    · by_cases yP : y.1 = P
      · rw [only y hy yP, yP]
        refine ⟨vs ++ #[rawInt pos.line, rawInt pos.col, .ref co], by rw [upd_ne nPc, upd_same], ?_, fun p' cv hcv => ?_⟩
        · rw [Array.toList_append]; exact PySem.TriplesOk_snoc _ _ _ _ tri
        · rw [Array.toList_append] at hcv
          cases among_app _ tri hcv with
          | inl z => obtain ⟨c0, z1, z2⟩ := among p' cv z; exact ⟨c0, z1, ex _ _ z2 codeO_ne⟩
          | inr z => exact ⟨co, z, upd_same⟩
      · obtain ⟨us, a1, a2, a3⟩ := tb y hy
        refine ⟨us, by rw [upd_ne (ne_of_none a1 nC), upd_ne yP]; exact a1, a2, fun p' cv hcv => ?_⟩
        obtain ⟨c0, z1, z2⟩ := a3 p' cv hcv
        exact ⟨c0, z1, ex _ _ z2 codeO_ne⟩
    · rw [upd_ne (Nat.ne_of_gt lt), upd_ne (Nat.ne_of_gt (Nat.lt_of_lt_of_le (Heap.lt_size oP) big))]
      exact I.hok.fresh big
    · rw [upd_ne (fun y => by rw [y] at e; exact absurd (Heap.lt_size e) (Nat.not_lt.mpr ge)), upd_ne (fun y => by rw [y, hP] at n; cases n)]
      exact n
  | some cv =>
    obtain ⟨co, rfl, hco2⟩ := among pos cv hc
    refine PySem.W.kdv_makeTailHit (mg := X.mg) (ps := vs) (closure_ok has) I.ok.glob (I.mod.glob.keeps I.bk) hco (TB.code.keeps I.bk) oP tri hc bP ?_
    intro ct doc hC tk2 ext big
    have I1 : Inv X pins σ H { s with heap := hC.push (lamF (lamQ X) ps e sc (cloFrom X.env.cells sc.names []) dV doc ((X.mg "__name__").getD .none) co ct), toks := tk2 } := I.kept fun b o z => Heap.get?_push_of_some _ (ext b o z)
    exact k hC.objs.size co doc _ ct H _ I1 (ExtT.refl H) tb (Heap.get?_push_size _ rfl) (I.hok.fresh big) (off_frames I big) hco2 (fun b o e n => ⟨Heap.get?_push_of_some _ (ext b o e), n⟩)
/-- lambda x=i: e -/
theorem lam_madeD {T : List (Addr × Str)} {c P : Addr} {ps : Arguments} {e : Expr} {sc : Scope} {pos : Pos} {E Q : Value → Shared → Prop} {i : Int} {j : Nat} {p : Pos} (I : Inv X pins σ H s) (TB : TabB X.base X.mg c P) (hco : X.env.code = .ref c)
    (mem : (P, lamQ X) ∈ T) (only : ∀ y ∈ T, y.1 = P → y.2 = lamQ X) (tb : Tabs T H) (hd : ps.defaults = [.Constant (.int i) j p]) (hk : ps.kw_defaults = []) (has : ∀ y ∈ sc.names, y.2 = .free → ∃ a, X.env.cells.lookup y.1 = some a)
    (k : ∀ (f co t : Addr) (doc m ct : Value) (tk : Tok) (H1 : Hp) (s2 : Shared), Inv X pins σ H1 s2 → ExtT T H H1 → Tabs T H1 → s2.heap.get? f = some (lamF (lamQ X) ps e sc (cloFrom X.env.cells sc.names []) (.ref t) doc m co ct) → H1 f = none → f ∉ frs X.stack →
      s2.heap.get? t = some (PySem.W.kdv_tup [.int i tk]) → H1 t = none → t ∉ frs X.stack → H1 co = some (CodeO co (lamQ X)) → Q (.ref f) s2) :
    wpAny (model X.prog X.w) X.A (eval (.Lambda ps e sc pos) X.env) Q E s := by
  refine PySem.W.kdv_lam (by rw [hd]; rfl) hk ?_
  rw [hd]
  refine PySem.W.kdv_all1 (thn ((pe_int (X := X) (i := i) (j := j) (pos := p)).run pins s σ H (fun v G => v = .int i ∧ G = H) I ⟨rfl, rfl⟩) fun u sA ⟨v, G, IA, rv, eq⟩ => PySem.W.kdv_all0 ?_)
  obtain ⟨e1, e2⟩ := eq
  subst e1
  rw [e2] at IA
  obtain ⟨tk, rfl⟩ : ∃ tk, u = Value.int i tk := rv
  rw [makeFunction_eq]
  simp only [List.zip_nil_right, List.filterMap_nil, List.isEmpty_nil, List.isEmpty_cons, if_true, pure_bind, Bool.false_eq_true, if_false]
  refine wpAny_bind (wpAny_newTextTuple ?_)
  have nT := IA.hok.fresh (Nat.le_refl sA.heap.objs.size)
  have fT := off_frames IA (Nat.le_refl _)
  have IB : Inv X pins σ H { sA with heap := sA.heap.push (PySem.W.kdv_tup [.int i tk]) } := IA.kept fun b o z => Heap.get?_push_of_some _ z
  have gT : (sA.heap.push (PySem.W.kdv_tup [.int i tk])).get? sA.heap.objs.size = some (PySem.W.kdv_tup [.int i tk]) := Heap.get?_push_size _ rfl
  exact lam_tail IB TB hco mem only tb has fun f co doc m ct H1 s2 I1 ex T1 gf nf ff oco keeps => k f co _ doc m ct tk H1 s2 I1 ex T1 gf nf ff (keeps _ _ gT nT).1 (keeps _ _ gT nT).2 fT oco
/-- lambda: e -/
theorem lam_made0 {T : List (Addr × Str)} {c P : Addr} {ps : Arguments} {e : Expr} {sc : Scope} {pos : Pos} {E Q : Value → Shared → Prop} (I : Inv X pins σ H s) (TB : TabB X.base X.mg c P) (hco : X.env.code = .ref c)
    (mem : (P, lamQ X) ∈ T) (only : ∀ y ∈ T, y.1 = P → y.2 = lamQ X) (tb : Tabs T H) (hd : defaultsOf ps X.env = ([], [])) (has : ∀ y ∈ sc.names, y.2 = .free → ∃ a, X.env.cells.lookup y.1 = some a)
    (k : ∀ (f co : Addr) (doc m ct : Value) (H1 : Hp) (s2 : Shared), Inv X pins σ H1 s2 → ExtT T H H1 → Tabs T H1 → s2.heap.get? f = some (lamF (lamQ X) ps e sc (cloFrom X.env.cells sc.names []) .none doc m co ct) → H1 f = none → f ∉ frs X.stack → H1 co = some (CodeO co (lamQ X)) → Q (.ref f) s2) :
    wpAny (model X.prog X.w) X.A (eval (.Lambda ps e sc pos) X.env) Q E s := by
  refine PySem.W.kla_eval hd ?_
  rw [makeFunction_eq]
  simp only [List.zip_nil_right, List.filterMap_nil, List.isEmpty_nil, if_true, pure_bind]
  exact lam_tail I TB hco mem only tb has fun f co doc m ct H1 s2 I1 ex T1 gf nf ff oco _ => k f co doc m ct H1 s2 I1 ex T1 gf nf ff oco
end
/-- the names of a lambda: its own parameters, captured ones, globals -/
structure LamD (xs : List Str) (out sc : Scope) : Prop where
  kind : sc.kind = .function
  calm : sc.isCoroutine = false ∧ sc.isGenerator = false
  own : ∀ y ∈ sc.names, y.2 ≠ .cell ∧ (y.2 = .local → y.1 ∈ xs)
  par : ∀ x ∈ xs, sc.names.lookup x = some .local
  free : ∀ y ∈ sc.names, y.2 = .free → out.names.lookup y.1 = some .cell ∨ out.names.lookup y.1 = some .free
def lamDB (xs : List Str) (out sc : Scope) : Bool :=
  decide (sc.kind = .function) && (!sc.isCoroutine && !sc.isGenerator) && xs.all (fun x => decide (sc.names.lookup x = some .local)) && sc.names.all fun y => !decide (y.2 = .cell) && (!decide (y.2 = .local) || decide (y.1 ∈ xs)) && (!decide (y.2 = .free) || (decide (out.names.lookup y.1 = some .cell) || decide (out.names.lookup y.1 = some .free)))
theorem lamD_by {xs : List Str} {out sc : Scope} (h : lamDB xs out sc = true) : LamD xs out sc := by
  unfold lamDB at h
  simp only [Bool.and_eq_true, List.all_eq_true, decide_eq_true_eq, Bool.not_eq_true', Bool.or_eq_true, decide_eq_false_iff_not] at h
  obtain ⟨⟨⟨a, b⟩, c⟩, d⟩ := h
  refine ⟨a, b, fun y hy => ⟨(d y hy).1.1, fun e => ?_⟩, c, fun y hy e => ?_⟩
  · rcases (d y hy).1.2 with z | z
    · exact absurd e z
    · exact z
  · rcases (d y hy).2 with z | z
    · exact absurd e z
    · exact z
theorem LamD.has {X : Cx} {xs : List Str} {sc : Scope} (L : LamD xs X.env.scope sc) (ok : X.Ok) : ∀ y ∈ sc.names, y.2 = .free → ∃ a, X.env.cells.lookup y.1 = some a :=
  fun y hy e => (L.free y hy e).elim (fun z => ok.has _ (.inl z)) (fun z => ok.has _ (.inr z))
section
variable {X : Cx} {pins : List (Addr × Obj)} {σ : L2.St} {H HZ : Hp} {s s1 : Shared}
theorem lam_startD {A : Around} {outer : List Env} {E : XK} {xs : List Str} {bs : List (Str × Value)} {sc : Scope} {f co : Addr} {g1 : Heap} {tk : Nat} (I : Inv X pins σ H s) (L : LamD xs X.env.scope sc) (nx : ∀ x ∈ xs, x ∉ X.N) (e0 : Env0 X.prog X.w X.K X.mg X.base A outer s1 HZ) (hd : A.handled = none)
    (un : Un (frs X.stack) [] H HZ s.heap s1.heap) (ns : g1.Ns s1.heap.objs.size fun y => bs.reverse.lookup y) (kp : ∀ b o, s1.heap.get? b = some o → g1.get? b = some o) :
    Inv (lamCx X A outer s1 HZ E sc f co) [] σ HZ { s1 with heap := g1, toks := tk } := by
  have has := L.has I.ok
  have back : ∀ {y a}, (cloFrom X.env.cells sc.names []).lookup y = some a → X.env.cells.lookup y = some a := fun {y a} z => by
    rcases cloFrom_mem (PySem.mem_of_lookup z) with q | ⟨q1, q2⟩
    · cases q
    · obtain ⟨b, hb⟩ := has _ q1 rfl
      have hb : X.env.cells.lookup y = some b := hb
      have q2 : a = (X.env.cells.lookup y).getD 0 := by rw [q2] <;> rfl
      rw [hb] at q2
      exact q2 ▸ hb
  have find : ∀ {y}, sc.names.lookup y = some .free → ∃ a, (cloFrom X.env.cells sc.names []).lookup y = some a := fun {y} z =>
    mem_lookup (cloFrom_has (cells := X.env.cells) (acc := []) (show (y, NameKind.free) ∈ sc.names from PySem.mem_of_lookup z))
  have cellAt : ∀ {a : Addr} {v : Option Value}, H a = none → s.heap.IsCell a v → g1.IsCell a v := fun {a v} n ⟨o, go, d⟩ => by
    obtain ⟨sl, q⟩ := un.any go n (by simp)
    exact ⟨_, kp _ _ q, d⟩
  have noCell : ∀ y, sc.names.lookup y ≠ some .cell := fun y z => (L.own _ (PySem.mem_of_lookup z)).1 rfl
  have ok : (lamCx X A outer s1 HZ E sc f co).Ok :=
    { mod := e0.mod, kind := L.kind, glob := rfl, blt := rfl, above := Nat.le_refl _
      inj := fun y z a z1 z2 => I.ok.inj y z a (back z1) (back z2)
      has := fun y hy => hy.elim (fun z => absurd z (noCell y)) find
      cab := fun y a z _ => by
        have z : false = true := z
        cases z
      hd := fun _ => hd
      frames := Around.frames_deeper e0.frames
      stk := .inr ⟨rfl, rfl⟩
      exf := fun b z => nomatch (show b ∈ ([] : List Addr) from z)
      bs := e0.bs
      bsz := e0.bsz
      noex := fun b _ _ z => nomatch (show b ∈ ([] : List Addr) from z)
      exfs := fun b z => nomatch (show b ∈ ([] : List Addr) from z)
      funs := e0.funs
      frf := e0.frf }
  exact
    { ok := ok, os := rfl, bare := e0.bare, base := Un.kept kp
      loc := by
        refine ⟨_, ns, fun i y v z1 z2 z3 => ?_⟩
        have z1 : X.N[i]? = some y := z1
        have ny : y ∉ xs := fun e => nx _ e (List.mem_of_getElem? z1)
        have z3 : Vis sc y := z3
        have k : sc.names.lookup y = some .free := by
          rcases z3 with k | k | k
          · exact absurd ((L.own _ (PySem.mem_of_lookup k)).2 rfl) ny
          · exact absurd k (noCell y)
          · exact k
        have fr := L.free _ (PySem.mem_of_lookup k) rfl
        obtain ⟨m, _, hl⟩ := I.loc
        obtain ⟨u, r, q⟩ := hl i y v z1 z2 (fr.elim (fun k => .inr (.inl k)) fun k => .inr (.inr k))
        obtain ⟨a, ha⟩ := find k
        refine ⟨u, r, .inr ⟨.inr k, a, ha, ?_⟩⟩
        have hb := back ha
        rcases q with ⟨k', _⟩ | ⟨_, b, hb', z⟩
        · exact absurd (show X.env.scope.names.lookup y = some .local from k') (fun k' => by
            rcases fr with k2 | k2
            · rw [show X.env.scope.names.lookup y = some .cell from k2] at k'; cases k'
            · rw [show X.env.scope.names.lookup y = some .free from k2] at k'; cases k')
        · rw [hb] at hb'
          cases hb'
          exact cellAt (I.freeC y _ hb) z
      cell := fun y a z => by
        obtain ⟨u, q⟩ := I.cell y a (back z)
        exact ⟨u, cellAt (I.freeC y a (back z)) q⟩
      free := e0.hok.fresh (Nat.le_refl _)
      freeC := fun y a z => by
        obtain ⟨u, o, go, d⟩ := I.cell y a (back z)
        exact un.free a o go (I.freeC y a (back z)) (by simp)
      pin := fun q hq => nomatch (show q ∈ ([] : List (Addr × Obj)) ++ [] from hq)
      hok := e0.hok.kept kp
      len := I.len }
/-- a(): in the def that got the lambda -/
theorem pe_actD {CXg : CXT} {Eg : XK} {Ng : List Str} {qg : Str} {sg : Scope} {g f co : Addr} {cdg doc m ct : Value} {ps : Arguments} {e : Expr} {sc : Scope} {k i : Nat} {a : Str} {xs : List Str} {bs : List (Str × Value)} {dV : Value} {pn : List (Addr × Obj)} {xe : Value → Shared → Prop} {W : WX} {E : XK} {tb : TE} {p1 p2 : Pos}
    (I : Inv X pins σ H s) (L : LamD xs X.env.scope sc) (nx : ∀ x ∈ xs, x ∉ X.N) (hbs : bs.map (·.1) = xs) (gf : s.heap.get? f = some (lamF (lamQ X) ps e sc (cloFrom X.env.cells sc.names []) dV doc m co ct)) (nf : H f = none) (ff : f ∉ frs X.stack)
    (hb : ∀ s1 : Shared, (∀ b o, s.heap.get? b = some o → H b = none → b ∉ frs X.stack → s1.heap.get? b = some o) → BindsTo s1 (PySem.W.kdv_fn "<lambda>" (lamQ X) ps (.expr e) sc (cloFrom X.env.cells sc.names []) dV doc m (.ref co) ct) ⟨[], []⟩ bs)
    (tk : Takes ((cxOf CXg X.prog X.w X.K X.mg X.base Ng qg sg g cdg X.A X.stack s H Eg).tr pn xe) W) (hW : ∀ cls d σ' H', E cls d H' → W cls d σ' H') (hr : Room (k + 1) (X.A.deeper (envOfC qg sg s.heap.objs.size g cdg)))
    (hgd : X.A.guards = some []) (body : ∀ (A : Around) (outer : List Env) (s : Shared) (H : Hp), A.guards = some [] → Room k (A.deeper (lamEnv X sc s.heap.objs.size f co)) → PE (lamCx X A outer s H E sc f co) e tb)
    (hN : Ng[i]? = some a) (hv : Vis sg a) (hd : (a == ("__debug__" : Str)) = false := by decide) (hcd : (a == ("__classdict__" : Str)) = false := by decide) :
    PE ((cxOf CXg X.prog X.w X.K X.mg X.base Ng qg sg g cdg X.A X.stack s H Eg).tr pn xe) (.Call (.Name a p1) [] [] p2)
      (fun σZ HZ Q => σZ[i]? = some (some (.ref f)) ∧ HZ co = some (CodeO co (lamQ X)) ∧ tb σ HZ Q) := by
  refine ⟨fun pinsZ sZ σZ HZ Q IZ h => ?_⟩
  obtain ⟨h1, h2, h3⟩ := h
  refine wpAny_Call_Name_kw (thn ((pe_var (pos := p1) (i := i) hN hv hd hcd).run pinsZ sZ σZ HZ (fun v G => v = .ref f ∧ G = HZ) IZ ⟨_, h1, rfl, rfl⟩) fun u s1 ⟨v, G, I1, r1, q1⟩ => ?_)
  obtain ⟨ev, eG⟩ := q1
  subst ev
  rw [eG] at I1
  obtain rfl : u = Value.ref f := r1
  have noEx : ∀ b : Addr, b ∈ ([] : List Addr) → False := fun b z => nomatch z
  have gf1 := I1.base.keep f _ gf nf ff (noEx f)
  refine PySem.W.callWith_F0 ⟨_, _, _, _, gf1⟩ (wpAny_call ?_)
  have un : Un (frs X.stack) [] H HZ s.heap s1.heap := I1.base
  obtain ⟨⟨oc, ws, t2, goc, dc, vc⟩, _, _⟩ := I1.hok co _ h2
  have runs : codeAny (model X.prog X.w) (X.A.deeper (envOfC qg sg s.heap.objs.size g cdg)) (.call (.ref f) ⟨[], []⟩) (CR (L2.CX X.prog X.w) (envOfC qg sg s.heap.objs.size g cdg :: X.stack) X.prog X.w HZ s1 Q E) s1 := by
    refine PySem.W.kla_callFunE hr.depth gf1 rfl L.calm.1 L.calm.2 rfl ⟨co, oc, ws, t2, rfl, goc, dc, vc⟩ ?_
    refine hb s1 (fun b o z n nb => I1.base.keep b o z n nb (noEx b)) _ _ _ _ ?_
    refine wpAny_newFunctionEnv (fun y hy => (L.own y hy).1) (fun y hy => ?_) (fun g1 ns sb => ⟨I1.nolimit.fresh _ sb, ?_⟩) L.kind
    · exact L.par _ (hbs ▸ List.mem_map_of_mem hy)
    show codeAny _ _ (.expr e (lamEnv X sc s1.heap.objs.size f co)) _ _
    have kp : ∀ b o, s1.heap.get? b = some o → g1.get? b = some o := fun b o z => sb.extBut b o (Nat.ne_of_lt (Heap.lt_size z)) (Heap.get?_push_of_some _ z)
    have J := lam_startD (E := E) (f := f) (co := co) (tk := s1.toks + bs.length) I L nx I1.env0 hr.hd un ns kp
    refine PySem.W.kla_codeExpr (wpAny_mono ((body _ _ s1 HZ (show (X.A.deeper (envOfC qg sg s.heap.objs.size g cdg)).guards = some [] from hgd) (hr.deeper _)).run [] _ σ HZ Q J h3) (fun v s' q => ?_) fun e' s' q => q)
    obtain ⟨w', H', J', rv, q⟩ := q
    exact ⟨w', H', J'.os, J'.bare, J'.base, J'.hok, rv, q⟩
  have px := passes_call (X := (cxOf CXg X.prog X.w X.K X.mg X.base Ng qg sg g cdg X.A X.stack s H Eg).tr pn xe) (E := E) tk hW
  refine codeAny_mono runs fun r s' q => ?_
  match r, q with
  | .error e', q => exact px pinsZ σZ HZ s1 e' s' I1 q
  | .ok (.ret u), q => exact I1.after q
  | .ok .next, q => exact q.elim
  | .ok .brk, q => exact q.elim
  | .ok .cont, q => exact q.elim
/-- x(lambda y=i: e) -/
theorem pe_lamcallD {T : List (Addr × Str)} {TT : (XK → Hp → VK → Prop) → Hp → VK → Prop} {x a y : Str} {g c P : Addr} {k : Nat} {pg : Arguments} {bg : List Stmt} {sg : Scope} {dV kV doc pm cdv ct oc : Value} {an od : Option Addr} {osl : Array (Option Value)} {Ng : List Str}
    {ps : Arguments} {e : Expr} {sc : Scope} {t : XK → TE} {i0 : Int} {j0 : Nat} {p0 p lpos pos : Pos} (hg : Gl X x) (hm : X.mg x = some (.ref g)) (hk : PySem.W.keepIn X.K (.ref g) = true)
    (lk : X.K.lookup g = some ⟨oc, od, .func (PySem.W.fnOf x x pg bg sg dV kV doc pm an cdv ct), osl⟩) (hcg : PySem.W.codeIn X.K cdv x = true) (hb : L2.Binds X.K (PySem.W.fnOf x x pg bg sg dV kV doc pm an cdv ct) [a] []) (Sg : FnScope Ng [a] sg) (hN : Ng[0]? = some a) (hv : Vis sg a)
    (hG : GivesTo X Ng x sg g cdv bg a (lamQ X) TT) (TB : TabB X.base X.mg c P) (hco : X.env.code = .ref c) (mem : (P, lamQ X) ∈ T) (only : ∀ z ∈ T, z.1 = P → z.2 = lamQ X) (hr : Room (k + 2) X.A) (L : LamD [y] X.env.scope sc) (ny : y ∉ X.N)
    (hd : ps.defaults = [.Constant (.int i0) j0 p0]) (hkd : ps.kw_defaults = [])
    (bind : ∀ (q : Str) (cl : List (Str × Addr)) (t : Addr) (doc m co ct : Value) (tk : Tok), ∃ kk, bindArgs (PySem.W.kdv_fn "<lambda>" q ps (.expr e) sc cl (.ref t) doc m co ct) ⟨[], []⟩ = seqItems? (.ref t) >>= kk ∧ kk (some #[.int i0 tk]) = pure [(y, .int i0 tk)])
    (hgd : X.A.guards = some []) (body : ∀ (A : Around) (outer : List Env) (s : Shared) (H : Hp) (E : XK) (f co : Addr), A.guards = some [] → Room k (A.deeper (lamEnv X sc s.heap.objs.size f co)) → PE (lamCx X A outer s H E sc f co) e (t E))
    (hdb : (x == ("__debug__" : Str)) = false := by decide) (hda : (a == ("__debug__" : Str)) = false := by decide) (hca : (a == ("__classdict__" : Str)) = false := by decide) :
    PE X (.Call (.Name x p) [.Lambda ps e sc lpos] [] pos) (tLamT T TT t) := by
  refine ⟨fun pins s σ H Q I h => ?_⟩
  obtain ⟨tabs, h⟩ := h
  refine wpAny_Call_Name_kw (ld_glob I hg hm (PySem.W.callWith_K (h₀ := X.base) I.ok.mod.kin hk ?_ (by rfl) (by rfl)) hdb)
  show wpAny _ _ (spliced ((false, eval (.Lambda ps e sc lpos) X.env) :: backTo pos (starEach [] X.env))) _ _ s
  refine Calls.spliced_cons (lam_madeD I TB hco mem only tabs hd hkd (L.has I.ok) fun f co t' doc' m' ct' tk H1 s1 I1 ex T1 gf nf ff gt nt ft oco => Calls.spliced_nil ⟨I1.kIn, ?_⟩)
  have ran : codeAny (model X.prog X.w) X.A (.call (.ref g) ⟨[.ref f], []⟩) (CR C8.CX0 X.stack X.prog X.w H1 s1 Q C8.E0) s1 :=
    run_ofS (N := Ng) (ps := [a]) (us := [.ref f]) (vs := [.ref f]) lk hcg Sg hr I1.env0 (hb s1 [.ref f] I1.kIn rfl) (.cons rfl .nil) rfl fun hr' => by
      obtain ⟨u, hu, hq⟩ := hG f co s1 H1 Q (fun E G R => t E σ G R)
        (fun W pn xe E p1 p2 tk' hW => pe_actD (i := 0) (bs := [(y, .int i0 tk)]) I1 L (fun x hx => by rw [List.mem_singleton.mp hx]; exact ny) rfl gf nf ff (fun s3 kp => let ⟨kk, z1, z2⟩ := bind _ _ _ _ _ _ _ _; BindsTo.of_defaults rfl (kp _ _ gt nt ft) rfl z1 z2) tk' hW hr' hgd (fun A outer s H hg2 hr2 => body A outer s H E f co hg2 hr2) hN hv hda hca) oco (h H1 ex T1)
      exact ⟨u, hu.nox, hq⟩
  refine wpAny_call (codeAny_mono ran fun r s2 q => ?_)
  match r, q with
  | .error _, q => exact (show False from q).elim
  | .ok (.ret u), q => exact I1.after q
  | .ok .next, q => exact q.elim
  | .ok .brk, q => exact q.elim
  | .ok .cont, q => exact q.elim
/-- x(lambda: e) -/
theorem pe_lamcall0 {T : List (Addr × Str)} {TT : (XK → Hp → VK → Prop) → Hp → VK → Prop} {x a : Str} {g c P : Addr} {k : Nat} {pg : Arguments} {bg : List Stmt} {sg : Scope} {dV kV doc pm cdv ct oc : Value} {an od : Option Addr} {osl : Array (Option Value)} {Ng : List Str}
    {ps : Arguments} {e : Expr} {sc : Scope} {t : XK → TE} {p lpos pos : Pos} (hg : Gl X x) (hm : X.mg x = some (.ref g)) (hk : PySem.W.keepIn X.K (.ref g) = true)
    (lk : X.K.lookup g = some ⟨oc, od, .func (PySem.W.fnOf x x pg bg sg dV kV doc pm an cdv ct), osl⟩) (hcg : PySem.W.codeIn X.K cdv x = true) (hb : L2.Binds X.K (PySem.W.fnOf x x pg bg sg dV kV doc pm an cdv ct) [a] []) (Sg : FnScope Ng [a] sg) (hN : Ng[0]? = some a) (hv : Vis sg a)
    (hG : GivesTo X Ng x sg g cdv bg a (lamQ X) TT) (TB : TabB X.base X.mg c P) (hco : X.env.code = .ref c) (mem : (P, lamQ X) ∈ T) (only : ∀ z ∈ T, z.1 = P → z.2 = lamQ X) (hr : Room (k + 2) X.A) (L : LamD [] X.env.scope sc)
    (hd : defaultsOf ps X.env = ([], [])) (bind : ∀ (q : Str) (cl : List (Str × Addr)) (doc m co ct : Value), bindArgs (PySem.W.kdv_fn "<lambda>" q ps (.expr e) sc cl .none doc m co ct) ⟨[], []⟩ = pure [])
    (hgd : X.A.guards = some []) (body : ∀ (A : Around) (outer : List Env) (s : Shared) (H : Hp) (E : XK) (f co : Addr), A.guards = some [] → Room k (A.deeper (lamEnv X sc s.heap.objs.size f co)) → PE (lamCx X A outer s H E sc f co) e (t E))
    (hdb : (x == ("__debug__" : Str)) = false := by decide) (hda : (a == ("__debug__" : Str)) = false := by decide) (hca : (a == ("__classdict__" : Str)) = false := by decide) :
    PE X (.Call (.Name x p) [.Lambda ps e sc lpos] [] pos) (tLamT T TT t) := by
  refine ⟨fun pins s σ H Q I h => ?_⟩
  obtain ⟨tabs, h⟩ := h
  refine wpAny_Call_Name_kw (ld_glob I hg hm (PySem.W.callWith_K (h₀ := X.base) I.ok.mod.kin hk ?_ (by rfl) (by rfl)) hdb)
  show wpAny _ _ (spliced ((false, eval (.Lambda ps e sc lpos) X.env) :: backTo pos (starEach [] X.env))) _ _ s
  refine Calls.spliced_cons (lam_made0 I TB hco mem only tabs hd (L.has I.ok) fun f co doc' m' ct' H1 s1 I1 ex T1 gf nf ff oco => Calls.spliced_nil ⟨I1.kIn, ?_⟩)
  have ran : codeAny (model X.prog X.w) X.A (.call (.ref g) ⟨[.ref f], []⟩) (CR C8.CX0 X.stack X.prog X.w H1 s1 Q C8.E0) s1 :=
    run_ofS (N := Ng) (ps := [a]) (us := [.ref f]) (vs := [.ref f]) lk hcg Sg hr I1.env0 (hb s1 [.ref f] I1.kIn rfl) (.cons rfl .nil) rfl fun hr' => by
      obtain ⟨u, hu, hq⟩ := hG f co s1 H1 Q (fun E G R => t E σ G R)
        (fun W pn xe E p1 p2 tk' hW => pe_actD (i := 0) (bs := []) I1 L (fun x hx => nomatch hx) rfl gf nf ff (fun s3 _ => BindsTo.of_eq (bind _ _ _ _ _ _)) tk' hW hr' hgd (fun A outer s H hg2 hr2 => body A outer s H E f co hg2 hr2) hN hv hda hca) oco (h H1 ex T1)
      exact ⟨u, hu.nox, hq⟩
  refine wpAny_call (codeAny_mono ran fun r s2 q => ?_)
  match r, q with
  | .error _, q => exact (show False from q).elim
  | .ok (.ret u), q => exact I1.after q
  | .ok .next, q => exact q.elim
  | .ok .brk, q => exact q.elim
  | .ok .cont, q => exact q.elim
end
end DL
set_option maxHeartbeats 400000
/-! lifted readings 18: try .. except T as e, the error kept behind its suite; T a name, or four names -/
namespace DL
open PySem PySem.Spec PyProof.Rows L2 CD
/-- an error that was caught, kept: at a, of the class cls, its dict at d -/
def ExK (a : Addr) (cls : Value) (d : Option Addr) : HO := .ext fun h => ∃ (oe : Obj) (vs : Array Value), h.get? a = some oe ∧ Zc cls d oe ∧ oe.data = .fields vs
theorem exK_ok {P : Program} {w : World} {H : Hp} {h : Heap} {a : Addr} {cls : Value} {d : Option Addr} {oe : Obj} {vs : Array Value} (e : h.get? a = some oe) (z : Zc cls d oe) (dd : oe.data = .fields vs) : ObjOk P w H h a (ExK a cls d) :=
  ⟨⟨oe, vs, e, z, dd⟩, ⟨oe, e⟩, fun _ _ ⟨o, v, q, r⟩ k => ⟨o, v, k o q, r⟩⟩
theorem exK_at {P : Program} {w : World} {H : Hp} {h : Heap} {a : Addr} {cls : Value} {d : Option Addr} (hok : HOk P w H h) (e : H a = some (ExK a cls d)) : ∃ (oe : Obj) (vs : Array Value), h.get? a = some oe ∧ Zc cls d oe ∧ oe.data = .fields vs := by
  have x : ObjOk P w H h a (.ext fun h => ∃ (oe : Obj) (vs : Array Value), h.get? a = some oe ∧ Zc cls d oe ∧ oe.data = .fields vs) := hok a _ e
  exact x.1
section
variable {X : Cx} {pins : List (Addr × Obj)} {σ : L2.St} {H : Hp} {a : Addr} {B : Heap} {cls : Value} {d : Option Addr} {s : Shared}
/-- the error is none of what was there -/
structure NewE (X : Cx) (pins : List (Addr × Obj)) (a : Addr) : Prop where
  ent : X.s_0.heap.get? a = none
  pin : ∀ p ∈ X.pn ++ pins, p.1 ≠ a
/-- the suite's frame of mind, the error tracked -/
theorem Hand.suiteK (h : Hand X pins σ H a B cls d s) (nw : NewE X pins a) {g : Heap} (fl : HandSPX.FlyingZ B (X.env :: X.outer) a (Zc cls d) g) (up : s.heap.UpToSlots g) :
    Inv (X.suite a (X.pn ++ pins)) [] σ (upd H a (ExK a cls d)) { s with heap := g } := by
  obtain ⟨oe, vs, h1, h2, h3⟩ := fl.there
  obtain ⟨n1, n2⟩ := h.notFrame fl h1 h3
  have I := h.inv g fl up
  have ne : ∀ b o, H b = some o → b ≠ a := fun b o e z => by rw [z, h.gone] at e; cases e
  exact
    { ok := I.ok.suite _ _, os := I.os, bare := I.bare
      base :=
        { keep := I.base.keep, slot := I.base.slot, there := I.base.there
          free := fun b o e n x => by
            have nb : b ≠ a := fun z => by rw [z, nw.ent] at e; cases e
            rw [upd_ne nb]; exact I.base.free b o e n x
          tups := fun b xs e => by have q := I.base.tups b xs e; rw [upd_ne (ne _ _ q)]; exact q
          frzs := fun b o u e => by have q := I.base.frzs b o u e; rw [upd_ne (ne _ _ q)]; exact q
          tbls := fun b ps e => by obtain ⟨m, q⟩ := I.base.tbls b ps e; exact ⟨m, by rw [upd_ne (ne _ _ q)]; exact q⟩ }
      loc := I.loc, cell := I.cell
      free := by rw [upd_ne (fun z => n1 z.symm)]; exact I.free
      freeC := fun x c e => by
        have nc : c ≠ a := fun z => by
          obtain ⟨v, o, ho, hd⟩ := I.cell x c e
          have h1' : g.get? c = some oe := by rw [z]; exact h1
          rw [show g.get? c = some o from ho] at h1'
          cases h1'
          rw [h3] at hd
          cases hd
        rw [upd_ne nc]; exact I.freeC x c e
      pin := fun p hp => by
        have hp : p ∈ X.pn ++ pins := by rw [List.append_nil] at hp; exact hp
        obtain ⟨q1, q2, q3⟩ := I.pin p hp
        exact ⟨q1, by rw [upd_ne (nw.pin p hp)]; exact q2, q3⟩
      hok := fun b u e => by
        by_cases hb : b = a
        · subst hb
          rw [upd_same] at e
          cases e
          exact exK_ok h1 h2 h3
        · rw [upd_ne hb] at e
          exact (I.hok b u e).stay (fun c v _ q => q) (fun c q => by rw [upd_ne (ne _ _ q)]; exact q) fun c xs q => by rw [upd_ne (ne _ _ q)]; exact q
      len := I.len }
theorem unsuiteK {pn' : List (Addr × Obj)} (I : Inv (X.suite a (X.pn ++ pins)) pn' σ H s) (ok : X.Ok) : Inv X pins σ H s :=
  ⟨ok, I.os, I.bare, I.base, I.loc, I.cell, I.free, I.freeC, fun p hp => I.pin p (List.mem_append_left _ hp), I.hok, I.len⟩
/-- what a clause names is asked -/
def Asks (X : Cx) (t : Expr) (cls : Value) (b : Bool) : Prop := ∀ (a : Addr) (pn : List (Addr × Obj)) (σ : L2.St) (H : Hp) (s : Shared) (Q : Bool → Shared → Prop) (E E' : Value → Shared → Prop), Inv (X.suite a pn) [] σ H s → PySem.W.Looks (model X.prog X.w) s.heap (typeOf (.ref a)) cls →
  (∀ h', (∀ q o, s.heap.get? q = some o → h'.get? q = some o) → Q b { s with heap := h' }) → wpAny (model X.prog X.w) (X.A.mark (some (.ref a))) (eval t X.env) (fun c s1 => wpAny (model X.prog X.w) (X.A.mark (some (.ref a))) (excMatches (.ref a) c) Q E' s1) E s
theorem asks_name {x : Str} {p : Pos} {c : Value} {b : Bool} (hc : Names X x c) (e : PySem.W.exmOne X.K cls c = some b) : Asks X (.Name x p) cls b := by
  intro a pn σ H s Q E E' I ty q
  have asks := PySem.W.exm_one (M := model X.prog X.w) I.kIn ty e
  obtain ⟨c1, c2, c3⟩ := hc
  rcases c3 with c3 | ⟨c3, c4, c5⟩
  · exact ld_glob I c1 c3 (asks.here (q s.heap fun _ _ z => z)) c2
  · exact ld_blt I c1 c3 c4 (asks.here (q s.heap fun _ _ z => z)) c5 c2
/-- a name of the text's top -/
def Tops (X : Cx) (x : Str) (c : Value) : Prop := Gl X x ∧ (x == ("__debug__" : Str)) = false ∧ X.mg x = some c
theorem asks_four {x1 x2 x3 x4 : Str} {p1 p2 p3 p4 p : Pos} {k : Nat} {c1 c2 c3 c4 : Value} {b : Bool} (n1 : Tops X x1 c1) (n2 : Tops X x2 c2) (n3 : Tops X x3 c3) (n4 : Tops X x4 c4) (e : PySem.W.exmAny X.K cls [c1, c2, c3, c4] = some b) :
    Asks X (.Tuple [.Name x1 p1, .Name x2 p2, .Name x3 p3, .Name x4 p4] k p) cls b := by
  intro a pn σ H s Q E E' I ty q
  refine wpAny_Tuple (wpAny_items_cons (ld_glob I n1.1 n1.2.2 ?_ n1.2.1))
  refine wpAny_items_cons (ld_glob I n2.1 n2.2.2 ?_ n2.2.1)
  refine wpAny_items_cons (ld_glob I n3.1 n3.2.2 ?_ n3.2.1)
  refine wpAny_items_cons (ld_glob I n4.1 n4.2.2 ?_ n4.2.1)
  refine wpAny_items_nil ⟨by size_fits, ?_⟩
  have grown : ∀ q o, s.heap.get? q = some o → (s.heap.push { cls := .type "tuple", data := .seq [c1, c2, c3, c4].toArray }).get? q = some o := fun _ _ z => Heap.get?_push_of_some _ z
  exact (PySem.W.exm_tup4 (M := model X.prog X.w) (I.kIn.keeps grown) (ty.keeps grown) (Heap.get?_push_size s.heap rfl) e).here (q _ grown)
/-- nothing but new objects: still in hand -/
theorem Hand.grown (h : Hand X pins σ H a B cls d s) {g : Heap} (k : ∀ q o, s.heap.get? q = some o → g.get? q = some o) : Hand X pins σ H a B cls d { s with heap := g } := by
  have fl : HandSPX.FlyingZ B (X.env :: X.outer) a (Zc cls d) g := by
    obtain ⟨f1, f2, f3, oe, vs, T, oT, ts, e1, e2, e3, e4, e5, e6, e7, e8, e9⟩ := h.fly
    exact ⟨fun b o q => k b o (f1 b o q), f2, f3.of_keeps fun b o q _ => ⟨o, k b o q, rfl⟩, oe, vs, T, oT, ts, k _ _ e1, e2, e3, e4, e5, e6, k _ _ e7, e8, e9⟩
  exact ⟨h.ok, fl, fun h' f u => h.inv h' f ((Heap.UpToSlots.of_keeps k).trans u), h.gone, h.fr, fun h' f u => h.out h' f ((Heap.UpToSlots.of_keeps k).trans u)⟩
/-- the wish of one clause -/
def wK (ask : Value → Option Bool) (i : Nat) (ts : Addr → Value → Option Addr → TS) (Wout : WX) (D : Ends) : WX := fun cls d σ H =>
  ∃ b, ask cls = some b ∧ (b = true → ∀ a, H a = none → ts a cls d (ends0 i D) (σ.set i (some (.ref a))) (upd H a (ExK a cls d))) ∧ (b = false → Wout cls d σ H)
theorem Hand.clauseK {t : Expr} {n : Str} {i : Nat} {b₀ : Stmt} {suite : List Stmt} {q : Pos} {ts : Addr → Value → Option Addr → TS} {ask : Value → Option Bool} {Wout : WX} {D : Ends} (h : Hand X pins σ H a B cls d s) (nw : NewE X pins a) (tk : Takes X Wout)
    (hask : ∀ cls b, ask cls = some b → Asks X t cls b) (hn : NameOk X i n) (hs : ∀ (a : Addr) (cls : Value) (d : Option Addr) (pn : List (Addr × Obj)), PSs (X.suite a pn) (b₀ :: suite) (ts a cls d)) (w : wK ask i ts Wout D cls d σ H) :
    wpAny (model X.prog X.w) X.A (handleBy (.ref a) X.env [.ExceptHandler (some t) (some n) (b₀ :: suite) q]) (SP X pins D) X.xe s := by
  obtain ⟨b, e, y, no⟩ := w
  obtain ⟨oe, h1, h2, _, S⟩ := h.suite h.fly (Heap.UpToSlots.refl _)
  have ty : PySem.W.Looks (model X.prog X.w) s.heap (typeOf (.ref a)) cls := fun _ _ _ _ st z => wpAny_typeOf_ref (st _ _ h1) (h2.1 ▸ z)
  refine wpAny_handleBy_cons (codeAny_handlers_test (hask cls b e _ _ _ _ _ _ _ _ S ty fun g k => ?_)) (fun q => nomatch q)
  have hg := h.grown k
  cases b with
  | false => exact hg.leaves tk (no rfl)
  | true =>
    obtain ⟨n1, n2, n3⟩ := hn
    refine codeAny_handlers_suite_as (HandSPX.lands_againZ hg.fly fun g2 fl up => ?_)
    have S := hg.suiteK nw fl up
    refine store_ok (X := X.suite a (X.pn ++ pins)) (v := .ref a) S n1 n2 (.inl n3) rfl (fun s5 S5 => ?_) (.inr n3)
    refine wpAny_mono ((hs a cls d _).run [] s5 _ _ (ends0 i D) S5 (y rfl a h.gone)) (fun f s6 z => ?_) (fun _ _ z => z.elim)
    have unbound : ∀ {τ : L2.St} {J : Hp} {Q : Shared → Prop}, Inv (X.suite a (X.pn ++ pins)) [] τ J s6 → (∀ s7, Inv X pins (τ.set i none) J s7 → Q s7) → wpAny (model X.prog X.w) X.A (do bindName X.env n .none; unbindBehindTheSuite X.env n q) (fun _ s7 => Q s7) X.xe s6 :=
      fun z q => gone_ok (unsuiteK z h.ok) n1 n2 n3 q
    cases f with
    | next => exact let ⟨_, _, z1, z2⟩ := z; unbound z1 fun s7 y => ⟨_, _, y, z2⟩
    | brk => exact let ⟨_, _, z1, z2⟩ := z; unbound z1 fun s7 y => ⟨_, _, y, z2⟩
    | cont => exact let ⟨_, _, z1, z2⟩ := z; unbound z1 fun s7 y => ⟨_, _, y, z2⟩
    | ret u => exact let ⟨_, _, _, z1, z2, z3⟩ := z; unbound z1 fun s7 y => ⟨_, _, _, y, z2, z3⟩
/-- .. of slots that are so many -/
def wKl (n : Nat) (W : WX) : WX := fun cls d σ H => σ.length = n → W cls d σ H
/-- try: .. except t as n: .. -/
theorem ps_tryK {body : List Stmt} {t : Expr} {n : Str} {i : Nat} {b₀ : Stmt} {suite : List Stmt} {q pos : Pos} {tb : WX → TS} {ts : Addr → Value → Option Addr → TS} {ask : Value → Option Bool} {Wout : WX} (hs : X.stack = X.env :: X.outer) (hf : X.env.frame = some X.env.locals) (hx : X.ex = []) (tk : Takes X Wout)
    (hb : ∀ (W : WX) (pn : List (Addr × Obj)) (xe : Value → Shared → Prop), Takes (X.tr pn xe) W → PassesOwn (model X.prog X.w) X.A X.env xe → PSs (X.tr pn xe) body (tb W)) (hask : ∀ cls b, ask cls = some b → Asks X t cls b) (hn : NameOk X i n)
    (hsu : ∀ (a : Addr) (cls : Value) (d : Option Addr) (pn : List (Addr × Obj)), PSs (X.suite a pn) (b₀ :: suite) (ts a cls d)) :
    PS X (.Try body [.ExceptHandler (some t) (some n) (b₀ :: suite) q] [] [] pos) (fun D σ H => tb (wKl X.N.length (wK ask i ts Wout D)) D σ H) := by
  refine ⟨fun pins s σ H D I w => wpAny_Try_except ?_⟩
  have caught : ∀ (u : Value) (s' : Shared) (xe : Value → Shared → Prop), XE (X.tr (X.pn ++ pins) xe) (wKl X.N.length (wK ask i ts Wout D)) u s' →
      wpAny (model X.prog X.w) X.A (noteFrame u X.env) (fun _ s₂ => wpAny (model X.prog X.w) X.A (setFlight u none) (fun _ s₃ => wpAny (model X.prog X.w) X.A (handleBy u X.env [.ExceptHandler (some t) (some n) (b₀ :: suite) q]) (SP X pins D) X.xe s₃) X.xe s₂) X.xe s' := by
    intro u s' xe x
    obtain ⟨a, B, sI, pins2, σ, H, cls, d, rfl, J, nb, up, sky, na, os, ag, w⟩ := x
    have I' : Inv X pins σ H sI := J.ofTry I.ok
    have fr : X.A.frames = some (X.env :: X.outer) := I.ok.frames.trans (congrArg some hs)
    refine Sky.land Zc.steady fr hf (hs ▸ sky) fun g fl up2 => ?_
    have lands : ∀ h, HandSPX.FlyingZ B (X.env :: X.outer) a (Zc cls d) h → g.UpToSlots h → Inv X pins σ H { s' with heap := h } := fun h f u => I'.landed nb f.1 ((up.trans up2).trans u) os ag
    have hand : Hand X pins σ H a B cls d { s' with heap := g } := ⟨I.ok, fl, lands, na, hf, fun h hh u W t w => t _ _ ⟨a, B, sI, pins, σ, H, cls, d, rfl, I', nb, (up.trans up2).trans u, .inr (.inr (hs ▸ hh)), na, os, ag, w⟩⟩
    have offI : ∀ b o, sI.heap.get? b = some o → b ≠ a := fun b o e z => by
      subst z
      obtain ⟨oe, vs, g1, _, g3⟩ := fl.there
      obtain ⟨z1, z2⟩ := hand.notFrame fl g1 g3
      have nfs : b ∉ frs X.stack := fun hm => by
        rw [hs] at hm
        obtain ⟨e1, h1, h2⟩ := List.mem_filterMap.mp hm
        rcases List.mem_cons.mp h1 with rfl | h1
        · rw [hf] at h2; cases h2; exact z1 rfl
        · exact z2 (List.mem_filterMap.mpr ⟨e1, h1, h2⟩)
      have := nb b o e nfs
      rw [fl.2.1] at this
      cases this
    have nw : NewE X pins a := by
      refine ⟨?_, fun p hp => offI _ _ (I'.pin p hp).1⟩
      cases e : X.s_0.heap.get? a with
      | none => rfl
      | some o =>
        obtain ⟨o', e'⟩ := I'.base.there a o e (by rw [hx]; exact fun z => nomatch z)
        exact absurd rfl (offI _ _ e')
    exact hand.clauseK nw tk hask hn hsu (w J.len)
  have run := (hb (wKl X.N.length (wK ask i ts Wout D)) (X.pn ++ pins) _ (fun u s' x => caught u s' _ x) PassesOwn.looking).run [] s σ H D (I.toTry _) w
  refine wpAny_mono run (fun f s1 z => ?_) fun _ _ z => z
  cases f with
  | next => exact let ⟨_, _, z1, z2⟩ := z; wpAny_execs_nil ⟨_, _, z1.ofTry I.ok, z2⟩
  | brk => exact let ⟨_, _, z1, z2⟩ := z; ⟨_, _, z1.ofTry I.ok, z2⟩
  | cont => exact let ⟨_, _, z1, z2⟩ := z; ⟨_, _, z1.ofTry I.ok, z2⟩
  | ret u => exact let ⟨_, _, _, z1, z2, z3⟩ := z; ⟨_, _, _, z1.ofTry I.ok, z2, z3⟩
end
section
variable {X : Cx}
/-- e.f of a kept error -/
def tXk (K : PySem.W.Frag) (f : Str) (te : TE) : TE := fun σ H Q => te σ H fun x G => ∃ (a C dd : Addr) (fs : List (Str × V)) (v : V), x = .ref a ∧ G a = some (ExK a (.ref C) (some dd)) ∧ XfC K C ∧ PySem.W.findIn K (.ref C) f = some none ∧ G dd = some (.xd fs) ∧ fs.lookup f = some v ∧ Q v G
theorem pe_xk {e : Expr} {te : TE} {f : Str} {pos : Pos} (he : PE X e te) (hb : attributeBase e f X.env (eval e X.env) = eval e X.env := by rfl) : PE X (.Attribute e f pos) (tXk X.K f te) := by
  refine ⟨fun pins s σ H Q I h => attr_of hb (thn (he.run pins s σ H _ I h) fun u s1 ⟨x, G, I1, rx, a, C, dd, fs, v, ex, ea, T, hno, ed, l, q⟩ => ?_)⟩
  subst ex
  obtain rfl : u = Value.ref a := rx
  obtain ⟨oe, vs, ge, hz, hd⟩ := exK_at I1.hok ea
  have hx : ObjOk X.prog X.w G s1.heap dd (.xd fs) := I1.hok dd _ ed
  obtain ⟨mA, ns, hr⟩ := hx
  obtain ⟨od, go, hl⟩ := lookIn_ns ns
  obtain ⟨w, hw, rw'⟩ := RelO.some_of (v := v) (o := mA f) (by rw [← l]; exact hr f)
  have inst : PySem.W.InstAt s1.heap a oe C (some od) := ⟨ge, hz.1, by unfold PySem.W.notCls; rw [hd] <;> rfl, by rw [hz.2]; exact go⟩
  exact HandSPX.exc_get I1.kIn inst T.ga T.gg T.exC (PySem.W.findObj_own T.hdC hno rfl (by rw [hl, hw])) (handed_of rw') ⟨v, G, I1.tok _, rw', q⟩
/-- isinstance(e, C) of a kept error -/
def rIsK (K : PySem.W.Frag) : List V → Hp → VK → Prop := fun xs H Q => ∃ (a D C : Addr) (d : Option Addr) (b : Bool), xs = [.ref a, .ref C] ∧ H a = some (ExK a (.ref D) d) ∧ ExcC K D ∧ (∀ dd, d = some dd → ∃ fs, H dd = some (.xd fs)) ∧ PySem.W.kitOne K (.ref D) (.ref C) = some b ∧ Q (.bl b) H
theorem call_isK : CallR X (.builtin "isinstance") (rIsK X.K) := by
  intro pins s σ H xs us Q I r h
  obtain ⟨a, D, C, d, b, rfl, ea, T, hd, e, q⟩ := h
  cases r with
  | cons rx rr => cases rr with
    | cons rt rr =>
      cases rr
      cases rx
      cases rt
      obtain ⟨oe, vs, ge, hz, hv⟩ := exK_at I.hok ea
      have inst : ∃ od, PySem.W.InstAt s.heap a oe D od := by
        cases d with
        | none => exact ⟨none, ge, hz.1, by unfold PySem.W.notCls; rw [hv] <;> rfl, by rw [hz.2]; trivial⟩
        | some dd =>
          obtain ⟨fs, ed⟩ := hd dd rfl
          have hx : ObjOk X.prog X.w H s.heap dd (.xd fs) := I.hok dd _ ed
          obtain ⟨mA, ns, _⟩ := hx
          obtain ⟨od, go, _⟩ := lookIn_ns ns
          exact ⟨some od, ge, hz.1, by unfold PySem.W.notCls; rw [hv] <;> rfl, by rw [hz.2]; exact go⟩
      obtain ⟨od, J⟩ := inst
      obtain ⟨cd, hc, _⟩ := PySem.W.any_some T.hd
      exact PySem.W.kia_one (PySem.W.kitx_exc (by rw [hc]; rfl) T.hg T.hk T.hs T.ha T.hn T.ht T.hm) I.kIn J e (fun z => nomatch z) fun tk => ⟨.bl b, H, I.kept (t' := tk) fun _ _ z => z, rfl, q⟩
end
end DL
/-! lifted readings 19: lambdas over data -/
namespace DL
open PySem PySem.Spec PyProof.Rows L2 CD
variable {GP : GenP} {K : PySem.W.Frag} {mg : Str → Option Value} {B : Hp × Hp × GAt}
section
variable {H0 F0 H H' F F' : Hp} {γ0 γ : GAt} {σ : L2.St} {ρ : Rho} {v : V} {d : D}
/-- a lambda was made: the tables may have grown -/
theorem Rp.ext {G : Hp} (r : Rp GP K H0 F0 γ0 γ σ H F ρ) (e : ExtT GP.T H G) (tb : LamX.Tabs GP.T G) : Rp GP K H0 F0 γ0 γ σ G F ρ where
  f0 := r.f0
  sub := fun a o h => e _ _ (r.sub _ _ h) fun z => by rw [(r.tin a z).1] at h; cases h
  keep := fun a o h n => e _ _ (r.keep a o h n) fun z => n (.inr z)
  fnew := r.fnew
  tr := fun a o h => by
    obtain ⟨u, hu⟩ := r.tr a o h
    by_cases z : TbA GP.T a
    · obtain ⟨ps, q⟩ := tabs_there tb z
      exact ⟨_, q⟩
    · exact ⟨u, e _ _ hu z⟩
  len := r.len
  val := r.val
  own := fun i d q => by
    obtain ⟨a, h1, h2, h3, h4, h5, h6⟩ := r.own i d q
    obtain ⟨o, ho⟩ := h2.there
    exact ⟨a, h1, h2.move (Same.refl _) ((e _ _ ho fun z => h5 (.inr z)).trans ho.symm), h3, h4, h5, h6⟩
  gen := fun i n q => by
    obtain ⟨p, h1, h2, h3, h4⟩ := r.gen i n q
    obtain ⟨n1, n2, n3, _⟩ := GP.dd h3
    have st : ∀ a, H a ≠ none → ¬ TbA GP.T a → G a = H a := fun a n nt => by
      cases q : H a with
      | none => exact absurd q n
      | some o => exact e _ _ q nt
    exact ⟨p, h1, h2, GP.stab h3 (st _ n1 (r.gn p h1).1) (st _ n2 (r.gn p h1).2) (st _ n3 fun z => h4 (r.tin _ z).1), h4⟩
  one := r.one
  g0 := r.g0
  g1 := r.g1
  gt0 := r.gt0
  gt := fun p hp => by
    obtain ⟨o, u, h1, h2, h3⟩ := r.gt p hp
    exact ⟨o, u, e _ _ h1 (r.gn p hp).1, e _ _ h2 (r.gn p hp).2, h3⟩
  gf := r.gf
  tabs := tb
  tin := r.tin
  gn := r.gn
end
variable (GP K mg) in
/-- an expression that may raise: t with the wish of what is raised -/
def LEx (B : Hp × Hp × GAt) (t : XK → TE) (ub : (EX → Rho → Prop) → UE) : Prop := ∀ ⦃H0 F0 : Hp⦄ ⦃γ0 : GAt⦄ [FinerC GP K B H0 F0 γ0] ⦃γ : GAt⦄ ⦃σ : L2.St⦄ ⦃H F : Hp⦄ ⦃ρ : Rho⦄ (R : VK) (E : XK) (Q : RV → Rho → Prop) (QE : EX → Rho → Prop), Rp GP K H0 F0 γ0 γ σ H F ρ → ub QE ρ Q →
  (∀ H' F' γ' ρ' v x, Rp GP K H0 F0 γ0 γ' σ H' F' ρ' → Same F F' → RVok GP K H0 γ0 γ' σ H' F' ρ' v x → Q x ρ' → R v H') →
  (∀ H' F' γ' ρ' nm C d x, Rp GP K H0 F0 γ0 γ' σ H' F' ρ' → Same F F' → ExD K F' d x → mg nm = some (.ref C) → QE (nm, x) ρ' → E (.ref C) d H') → t E σ H R
theorem lex_calm {t : TE} {u : UE} (h : LE GP K B t u) : LEx GP K mg B (fun _ => t) (fun _ => u) := fun H0 F0 γ0 _ γ σ H F ρ R E Q QE r z k _ => h R Q r z k
theorem lex_call {n : Nat} {Wd : WDX} {t : TA} {u : UA} (ha : LA GP K B t u) : LEx GP K mg B (fun E => tCallS (spX GP K mg n Wd) (fun _ => E) t) (fun QE => uCallX n Wd QE u) := by
  intro H0 F0 γ0 _ γ σ H F ρ R E Q QE r0 u0 h hE
  refine ha _ _ r0 u0 fun H1 F1 γ1 ρ1 vs xs r1 s1 k1 u1 => ?_
  obtain ⟨F2, ρb, as, r2, s2, a2, ⟨hl, ho, hWd⟩, gg⟩ := argsK_ok r1 k1 u1
  show spX GP K mg n Wd vs H1 R E
  have fin : ∀ (γc : GAt), (γc = none ∨ γc = γ1) → ∀ v H' F' γ' d m, LamX.Tabs GP.T H' → (∀ a o, H1 a = some o → ¬ GA GP γc a → H' a = some o) → (∀ a o, H1 a = some o → ∃ u, H' a = some u) → Same F2 F' → Same F' H' → (∀ a o, F' a = some o → F2 a = some o ∨ H1 a = none ∨ ∃ xs, o = .tup xs) → Dd K F' v d →
      GenAfter GP H1 H' F' γc γ' m → (if flatD d = true then Q (.val d) (setG m ρ1) else Q (.val d) (setG m ρb)) → R v H' := by
    intro γc hc v H' F' γ' d m tb kp tr s3 sub fnew dd ga q
    by_cases f : flatD d = true
    · rw [if_pos f] at q
      obtain ⟨γ2, r3⟩ := r1.after (F' := F1) hc tb kp tr (Same.refl _) ((s2.trans s3).trans sub) (fun a o h => .inl h) ga (.inl rfl)
      exact h _ _ _ _ _ (.val _) r3 s1 (dd.flat f) q
    · rw [if_neg f] at q
      obtain ⟨γ2, r3⟩ := r2.after (F' := F') hc tb kp tr s3 sub fnew ga (.inr rfl)
      exact h _ _ _ _ _ (.val _) r3 (s1.trans (s2.trans s3)) dd q
  have finX : ∀ (γc : GAt), (γc = none ∨ γc = γ1) → ∀ nm C e x H' F' γ' m, LamX.Tabs GP.T H' → (∀ a o, H1 a = some o → ¬ GA GP γc a → H' a = some o) → (∀ a o, H1 a = some o → ∃ u, H' a = some u) → Same F2 F' → Same F' H' → (∀ a o, F' a = some o → F2 a = some o ∨ H1 a = none ∨ ∃ xs, o = .tup xs) → ExD K F' e x → mg nm = some (.ref C) →
      GenAfter GP H1 H' F' γc γ' m → QE (nm, x) (setG m ρb) → E (.ref C) e H' := by
    intro γc hc nm C e x H' F' γ' m tb kp tr s3 sub fnew dd hm ga q
    obtain ⟨γ2, r3⟩ := r2.after (F' := F') hc tb kp tr s3 sub fnew ga (.inr rfl)
    exact hE _ _ _ _ _ _ _ _ r3 (s1.trans (s2.trans s3)) dd hm q
  by_cases c : hasG as = true
  · obtain ⟨p, hp⟩ := hasG_gen a2 c
    exact ⟨F2, γ1, as, _, _, r2.sub, a2, by rw [c, hp]; rfl, ho, hl, r2.gf, r2.tabsF, hWd, fin γ1 (.inr rfl), finX γ1 (.inr rfl)⟩
  · have c' : hasG as = false := by simpa using c
    exact ⟨F2, none, as, _, _, r2.sub, noGen_args a2 c', by rw [c']; rfl, ho, hl, fun p hp => (by cases hp), r2.tabsF, hWd, fin none (.inl rfl), finX none (.inl rfl)⟩
/-- what a def makes of the lambda that it gets: N of its result, C of its error -/
def TTg (N : V → Hp → VK → Prop) (C : Value → Option Addr → Hp → VK → Prop) : (XK → Hp → VK → Prop) → Hp → VK → Prop := fun tl H Q => ∀ H1, Same H H1 → ∀ (E' : XK) (R' : VK), (∀ cls d G, C cls d G Q → E' cls d G) → (∀ v G, N v G Q → R' v G) → tl E' H1 R'
abbrev UN := RV → Rho → (RV → Rho → Prop) → Prop
abbrev UC := EX → Rho → (RV → Rho → Prop) → Prop
variable (GP K) in
def NOk (N : V → Hp → VK → Prop) (uN : UN) : Prop := ∀ ⦃H0 F0 : Hp⦄ ⦃γ0 γ : GAt⦄ ⦃σ : L2.St⦄ ⦃H F : Hp⦄ ⦃ρ : Rho⦄ ⦃v : V⦄ ⦃x : RV⦄ (R : VK) (Q : RV → Rho → Prop), Rp GP K H0 F0 γ0 γ σ H F ρ → RVok GP K H0 γ0 γ σ H F ρ v x → uN x ρ Q →
  (∀ H' F' γ' ρ' v x, Rp GP K H0 F0 γ0 γ' σ H' F' ρ' → Same F F' → RVok GP K H0 γ0 γ' σ H' F' ρ' v x → Q x ρ' → R v H') → N v H R
variable (GP K mg) in
def COk (C : Value → Option Addr → Hp → VK → Prop) (uC : UC) : Prop := ∀ ⦃H0 F0 : Hp⦄ ⦃γ0 γ : GAt⦄ ⦃σ : L2.St⦄ ⦃H F : Hp⦄ ⦃ρ : Rho⦄ ⦃nm : Str⦄ ⦃c : Addr⦄ ⦃d : Option Addr⦄ ⦃x : Option (Str × D)⦄ (R : VK) (Q : RV → Rho → Prop), Rp GP K H0 F0 γ0 γ σ H F ρ → ExD K F d x → mg nm = some (.ref c) → uC (nm, x) ρ Q →
  (∀ H' F' γ' ρ' v x, Rp GP K H0 F0 γ0 γ' σ H' F' ρ' → Same F F' → RVok GP K H0 γ0 γ' σ H' F' ρ' v x → Q x ρ' → R v H') → C (.ref c) d H R
def uLam (ub : (EX → Rho → Prop) → UE) (uN : UN) (uC : UC) : UE := fun ρ Q => ub (fun x ρ' => uC x ρ' Q) ρ fun x ρ' => uN x ρ' Q
theorem le_lam {N : V → Hp → VK → Prop} {C : Value → Option Addr → Hp → VK → Prop} {tb : XK → TE} {ub : (EX → Rho → Prop) → UE} {uN : UN} {uC : UC} (hN : NOk GP K N uN) (hC : COk GP K mg C uC) (hb : LEx GP K mg B tb ub) : LE GP K B (tLamT GP.T (TTg N C) tb) (uLam ub uN uC) := by
  intro H0 F0 γ0 fi γ σ H F ρ R Q r u h
  refine ⟨r.tabs, fun G ex tb G1 sG E' R' hE hR => ?_⟩
  have rG := (r.ext ex tb).same sG
  refine hb _ _ _ _ rG u (fun H' F' γ' ρ' v x r' s k q => ?_) (fun H' F' γ' ρ' nm c d x r' s k hm q => ?_)
  · refine hR _ _ ?_
    exact hN R Q r' k q fun H2 F2 γ2 ρ2 v2 x2 r2 s2 k2 q2 => h _ _ _ _ _ _ r2 (s.trans s2) k2 q2
  · refine hE _ _ _ ?_
    exact hC R Q r' k hm q fun H2 F2 γ2 ρ2 v2 x2 r2 s2 k2 q2 => h _ _ _ _ _ _ r2 (s.trans s2) k2 q2
/-! ### a promise where no tables are told, where they are -/
theorem tabs_kept {G : GenP} {T : List (Addr × Str)} {H H' F : Hp} {γ : GAt} {vs : List V} {as : List SV} (eT : G.T = []) (t : LamX.Tabs T H) (a : ArgsOk (G.tb T) K F H γ vs as) (hg : hasG as = γ.isSome) (kp : ∀ a o, H a = some o → ¬ GA G γ a → H' a = some o) : LamX.Tabs T H' := by
  refine tabs_stay t fun b o h n => kp b o h fun z => ?_
  rcases z with ⟨p, hp, e⟩ | ⟨q, hq⟩
  · have gd : ∃ n, G.D H p.1 p.2.1 p.2.2 n := by
      rw [hp] at hg
      clear kp eT
      induction as generalizing vs with
      | nil => cases hg
      | cons x as ih =>
        cases vs with
        | nil => exact a.elim
        | cons v vs =>
          cases x with
          | val d => exact ih a.2 hg
          | own d => exact a.1.elim
          | gen m =>
            obtain ⟨p', h1, _, h3, _⟩ := a.1
            rw [hp] at h1
            cases h1
            exact ⟨m, h3⟩
    obtain ⟨m, hD⟩ := gd
    exact n (G.nx hD (e.elim (fun e => .inl (e ▸ h)) fun e => .inr (e ▸ h)))
  · rw [eT] at hq; cases hq
theorem argsOk_tb {G : GenP} {T : List (Addr × Str)} {F H : Hp} {γ : GAt} : ∀ {vs : List V} {as : List SV}, ArgsOk (G.tb T) K F H γ vs as → ArgsOk G K F H γ vs as
  | [], [], _ => trivial
  | v :: vs, .val d :: as, a => ⟨a.1, argsOk_tb a.2⟩
  | v :: vs, .gen n :: as, a => ⟨a.1, argsOk_tb a.2⟩
  | v :: vs, .own d :: as, a => a.1.elim
  | [], _ :: _, a => a.elim
  | _ :: _, [], a => a.elim
theorem genAfter_tb {G : GenP} {T : List (Addr × Str)} {H H' F' : Hp} {γ γ' : GAt} : ∀ {m : Option Nat}, GenAfter G H H' F' γ γ' m → GenAfter (G.tb T) H H' F' γ γ' m
  | none, h => h
  | some _, h => h
theorem spL_tb {G : GenP} (eT : G.T = []) (T : List (Addr × Str)) {n : Nat} {W : WD} {vs : List V} {H : Hp} {R : VK} {E : XK} (h : spL (G.tb T) K n W vs H R E) : spL G K n W vs H R E := by
  obtain ⟨F, γ, as, Q, h1, h2, h3, h4, h5, h6, hT, h7, h8⟩ := h
  refine ⟨F, γ, as, Q, h1, argsOk_tb h2, h3, h4, h5, h6, ⟨fun p hp => (by rw [eT] at hp; cases hp), fun a ⟨q, hq⟩ => (by rw [eT] at hq; cases hq)⟩, h7, ?_⟩
  intro v H' F' γ' d m _ kp tr s3 s4 fn dd ga q
  refine h8 v H' F' γ' d m (tabs_kept eT hT.1 h2 h3 kp) (fun a o h n => kp a o h fun z => n ?_) tr s3 s4 fn dd (genAfter_tb ga) q
  rcases z with z | ⟨q, hq⟩
  · exact .inl z
  · rw [eT] at hq; cases hq
theorem CalG.tb {P : Program} {w : World} {base : Heap} {k : Nat} {x : Str} {ps : List Str} {G : GenP} (eT : G.T = []) (T : List (Addr × Str)) {n : Nat} {W : WD} (C : CalG P w K mg base k x ps (spL G K n W)) : CalG P w K mg base k x ps (spL (G.tb T) K n W) := by
  obtain ⟨f, fd, ok, r⟩ := C
  exact ⟨f, fd, ⟨fun vs H Q E q => ok.len vs H Q E (spL_tb eT T q), fun A outer s H args us vs Q E hg hr e0 hb r q => ok.run A outer s H args us vs Q E hg hr e0 hb r (spL_tb eT T q)⟩, r⟩
end DL
set_option maxHeartbeats 1000000
/-! lifted readings 20: the end of a law whose defs make lambdas -/
namespace DL
open PySem PySem.Spec PyProof.Rows L2 CD
/-- the law's end, tables of code objects tracked -/
theorem law_cT {P : Program} {w : World} {K : PySem.W.Frag} {mg mb : Str → Option Value} {k : Nat} {fa a : Addr} {x y : Str} {sp : Sp} {s₁ : Shared} {vs : List Value} {ns : List Int} {cs : List (Addr × Addr)}
    (KX : K.In s₁.heap) (hns : s₁.heap.Ns mainGlobals mg) (hb : s₁.heap.Ns builtinsNs mb) (hbb : ∀ x : Str, x ≠ "__name__" → mb x = bootBuiltins x) (hlim : s₁.heap.NoLimit) (hg : s₁.gens = #[])
    (hT : ∀ p ∈ cs, s₁.heap.get? p.2 = some { cls := .none, data := .fields #[] }) (nT : ∀ p ∈ cs, K.lookup p.2 = none) (hC : ∀ p ∈ cs, PySem.W.CodeHd s₁.heap p.1 p.2)
    (hbm : ∃ (bm : Addr) (ob : Obj), mg "__builtins__" = some (.ref bm) ∧ bm ≠ builtinsNs ∧ s₁.heap.get? bm = some ob ∧ ob.cls = .type "module" ∧ ob.dict = some builtinsNs ∧ ob.data = .plain)
    (ha : s₁.heap.get? a = some { cls := .type "list", data := .seq vs.toArray }) (hi : IntsAre vs ns) (hl : ns.length ≤ sizeLine) (hr : Room k callerA) (hy : mg y = some (.ref fa))
    (F : ∀ base : Heap, K.In base → base.Ns mainGlobals mg → (∀ p ∈ cs, LamX.TabB base mg p.1 p.2) → CalG P w K mg base k y [x] sp)
    (hsp : ∀ F H : Hp, SqL K F a (ns.map V.int) → Same F H → (∀ p ∈ cs, H p.2 = some (.tbl #[]) ∧ F p.2 = none) → sp [.ref a] H (fun v _ => v = .bl true) fun _ _ _ => False) :
    codeAny (model P w) callerA (.call (.ref fa) ⟨[.ref a], []⟩) (fun r s' => r = .ok (.ret (.bool true)) ∧ OldK s₁.heap s'.heap ∧ s'.os = s₁.os ∧ AllBare s'.gens) s₁ := by
  have rv := vals_ints hi
  generalize hO : ({ cls := .type "list", data := .seq vs.toArray } : Obj) = o at ha
  have isT : ∀ b, b ∈ cs.map (·.2) → s₁.heap.get? b = some { cls := .none, data := .fields #[] } := fun b hb => by
    obtain ⟨p, hp, rfl⟩ := List.mem_map.mp hb
    exact hT p hp
  have aT : a ∉ cs.map (·.2) := fun z => by
    have := isT a z
    rw [ha] at this
    have e : o.data = Data.fields #[] := congrArg Obj.data (Option.some.inj this)
    rw [← hO] at e
    cases e
  generalize hF : H00 K a o ns = F0
  have trF : ∀ b u, F0 b = some u → b = a ∧ K.lookup a = none ∧ u = .frz o (.lst (ns.map V.int)) := fun b u e => by
    rw [← hF] at e
    unfold H00 at e
    by_cases c : b = a ∧ K.lookup a = none
    · rw [if_pos c] at e; exact ⟨c.1, c.2, (Option.some.inj e).symm⟩
    · rw [if_neg c] at e; cases e
  obtain ⟨H, hH⟩ : ∃ H : Hp, H = fun b => if b ∈ cs.map (·.2) then some (.tbl #[]) else F0 b := ⟨_, rfl⟩
  have atT : ∀ b, b ∈ cs.map (·.2) → H b = some (.tbl #[]) := fun b hb => by rw [hH]; exact if_pos hb
  have atF : ∀ b, b ∉ cs.map (·.2) → H b = F0 b := fun b hb => by rw [hH]; exact if_neg hb
  have tr : ∀ b u, H b = some u → (b ∈ cs.map (·.2) ∧ u = .tbl #[]) ∨ (b = a ∧ K.lookup a = none ∧ u = .frz o (.lst (ns.map V.int))) := fun b u e => by
    by_cases hb : b ∈ cs.map (·.2)
    · rw [atT b hb] at e; cases e; exact .inl ⟨hb, rfl⟩
    · rw [atF b hb] at e; exact .inr (trF b u e)
  have same : Same F0 H := fun b u e => by
    obtain ⟨rfl, _⟩ := trF b u e
    rw [atF b aT]; exact e
  have own : s₁.heap.get? a = some { cls := .type "list", data := .seq vs.toArray } := by rw [hO]; exact ha
  have okF : HOk P w H s₁.heap := fun b u e => by
    rcases tr b u e with ⟨h1, rfl⟩ | ⟨rfl, _, rfl⟩
    · exact isT b h1
    · exact ⟨ha, by rw [List.length_map]; exact hl, vs, _, rv, own⟩
  have free : ∀ {b : Addr} {u : Obj}, s₁.heap.get? b = some u → u.data ≠ .fields #[] → (b ≠ a) → H b = none := fun {b u} e n1 n2 => by
    cases q : H b with
    | none => rfl
    | some z =>
      rcases tr b z q with ⟨h1, _⟩ | ⟨h1, _⟩
      · have := isT b h1
        rw [e] at this
        cases this
        exact absurd rfl n1
      · exact absurd h1 n2
  have offA : ∀ {b : Addr} {u : Obj}, s₁.heap.get? b = some u → (∀ xs n, u.data ≠ .seq xs n) → b ≠ a := fun {b u} e n z => by
    subst z
    rw [own] at e
    cases e
    exact n _ _ rfl
  have hidn : ∀ {b : Addr} {m : Str → Option Value}, s₁.heap.Ns b m → (hidT s₁.heap H).Ns b m := fun {b m} ⟨u, es, ep, e, d, r⟩ =>
    ⟨u, es, ep, hidT_get e (free e (fun z => by rw [d] at z; cases z) (offA e fun xs n z => by rw [d] at z; cases z)), d, r⟩
  have kin : K.In (hidT s₁.heap H) := fun b u e => hidT_get (KX b u e) (by
    cases q : H b with
    | none => rfl
    | some z =>
      rcases tr b z q with ⟨h1, _⟩ | ⟨rfl, n, _⟩
      · obtain ⟨p, hp, rfl⟩ := List.mem_map.mp h1
        rw [nT p hp] at e; cases e
      · rw [n] at e; cases e)
  have sq : SqL K F0 a (ns.map V.int) := by
    cases hk : K.lookup a with
    | none => exact .inl (.inr ⟨o, by rw [← hF]; unfold H00; rw [if_pos ⟨rfl, hk⟩]⟩)
    | some u =>
      have e := KX a u hk
      rw [own] at e
      cases e
      exact .inr ⟨_, vs.toArray, _, hk, rfl, rfl, rfl, by rw [List.size_toArray, hi.length]; exact hl, by simpa using rv⟩
  have hM : Mod K mg (hidT s₁.heap H) := ⟨kin, hidn hns, ⟨mb, hidn hb, hbb⟩, let ⟨mc, h1, h2⟩ := hlim; ⟨mc, hidn h1, h2⟩⟩
  have TB : ∀ p ∈ cs, LamX.TabB (hidT s₁.heap H) mg p.1 p.2 := fun p hp => by
    refine ⟨?_, ?_, fun z => ?_⟩
    · obtain ⟨o', us, file, tf, flags, tg, inF, text, tt, e1, r1, r2, r3, r4⟩ := hC p hp
      refine ⟨o', us, file, tf, flags, tg, inF, text, tt, hidT_get e1 (free e1 (fun z => ?_) (offA e1 fun xs n z => ?_)), r1, r2, r3, r4⟩
      · rw [r2] at z; cases z; simp at r3
      · rw [r2] at z; cases z
    · obtain ⟨bm, ob, b1, b2, b3, b4, b5, b6⟩ := hbm
      have nG : bm ≠ mainGlobals := fun q => by
        obtain ⟨o', es, ep, e, hd, _⟩ := hns
        rw [q, e] at b3
        cases b3
        rw [hd] at b6
        cases b6
      have nP : bm ≠ p.2 := fun q => by
        rw [q, hT p hp] at b3
        cases b3
        cases b6
      refine ⟨bm, ob, b1, b2, nG, nP, hidT_get b3 (free b3 (fun z => ?_) (offA b3 fun xs n z => ?_)), b4, b5, b6⟩
      · rw [b6] at z; cases z
      · rw [b6] at z; cases z
    · obtain ⟨o', es, ep, e, hd, _⟩ := hns
      rw [z, hT p hp] at e
      cases e
      cases hd
  have e0 : Env0 P w K mg (hidT s₁.heap H) callerA [] s₁ H := ⟨rfl, hM, fun b u e => of_hidT e, Nat.le_of_eq (hidT_size _ _), trivial, fun b hm => (by cases hm), okF, .of_eq hg⟩
  obtain ⟨f', fd, G, hf, _, hbd⟩ := F _ kin (hidn hns) TB
  rw [hy] at hf
  cases hf
  have hb1 := hbd s₁ [.ref a] KX rfl
  rw [List.append_nil] at hb1
  have told := hsp F0 H sq same fun p hp => ⟨atT _ (List.mem_map.mpr ⟨p, hp, rfl⟩), by
    cases q : F0 p.2 with
    | none => rfl
    | some z =>
      obtain ⟨h1, _⟩ := trF _ z q
      exact absurd (h1 ▸ List.mem_map.mpr ⟨p, hp, rfl⟩) aT⟩
  refine codeAny_mono (G.run callerA [] s₁ H ⟨[.ref a], []⟩ [.ref a] [.ref a] _ _ rfl hr e0 hb1 (.cons rfl .nil) told) fun r s' h => ?_
  match r, h with
  | .error _, h => exact False.elim h
  | .ok .next, h => exact False.elim h
  | .ok .brk, h => exact False.elim h
  | .ok .cont, h => exact False.elim h
  | .ok (.ret u), ⟨v, H', os, bare, un, ok', r', q⟩ =>
    obtain rfl : v = .bl true := q
    obtain rfl : u = Value.bool true := r'
    have old : ∀ b u, b ∉ cs.map (·.2) → s₁.heap.get? b = some u → s'.heap.get? b = some u := fun b u nb e => by
      cases q : H b with
      | none => exact un.keep b u e q (fun z => by cases z) (fun z => by cases z)
      | some z =>
        rcases tr b z q with ⟨h1, _⟩ | ⟨rfl, _, rfl⟩
        · exact absurd h1 nb
        · obtain ⟨e1, _⟩ := okF b _ q
          obtain ⟨e2, _⟩ := ok' b _ (un.frzs b o _ q)
          rw [e] at e1; cases e1
          exact e2
    have grown : ∀ b, b ∈ cs.map (·.2) → ∃ more : Array Value, s'.heap.get? b = some { cls := .none, data := .fields more } := fun b hb => by
      obtain ⟨more, z⟩ := un.tbls b #[] (atT b hb)
      exact ⟨_, ok' b _ z⟩
    refine ⟨rfl, ⟨fun b u e => ?_, fun b u e => ?_⟩, os, bare⟩
    · by_cases hb : b ∈ cs.map (·.2)
      · obtain ⟨more, hm⟩ := grown b hb
        obtain ⟨p, hp, rfl⟩ := List.mem_map.mp hb
        have e' := hT p hp
        rw [e] at e'
        cases e'
        exact .inr (.inl ⟨((hC p hp).tab (hT p hp)).isCodeTable, rfl, #[], more, rfl, by rw [Array.empty_append]; exact hm⟩)
      · exact .inl (old b u hb e)
    · by_cases hb : b ∈ cs.map (·.2)
      · obtain ⟨more, hm⟩ := grown b hb
        exact ⟨_, hm⟩
      · exact ⟨u, old b u hb e⟩
/-- a code object of the written part, its table at P -/
def CodeIn (K : PySem.W.Frag) (c P : Addr) : Prop := ∃ o vs file tf flags tg inF text tt, K.lookup c = some o ∧ o.cls = .type "code" ∧ o.data = .fields vs ∧ vs[11]? = some (.ref P) ∧ vs.getD 11 .none = .ref P ∧ vs.getD 18 .none = .str file tf ∧
    vs.getD 7 .none = .int flags tg ∧ vs.getD 9 .none = .bool inF ∧ vs.getD 10 .none = .int text tt ∧ c ≠ P
/-- a def of the text: its code object at c, the table at P, which is not of the written part -/
structure TabW (K : PySem.W.Frag) (y : Str) (c P : Addr) : Prop where
  code : CodeIn K c P
  fn : ∃ (f : Addr) (o : Obj) (fd : FuncData), PySem.W.nsIn K mainGlobals y = some (some (.ref f)) ∧ K.lookup f = some o ∧ o.data = .func fd ∧ fd.code = .ref c
  off : K.lookup P = none
/-- what is known of the law's promise at the head's heap -/
def LawT (l : PySem.W.OpenLaw) (w : World) (K : PySem.W.Frag) (k n : Nat) (x y : Str) (q : Program) (mg : Str → Option Value) : Prop :=
  ∃ (ts : List (Str × Addr × Addr)) (sp : Sp), (∀ t ∈ ts, TabW K t.1 t.2.1 t.2.2 ∧ ((recsOf q).any fun e => e.name == t.1) = true) ∧
    (∀ (F H : Hp) (a : Addr) (ns : List Int), ns.length ≤ n → SqL K F a (ns.map V.int) → Same F H → (∀ t ∈ ts, H t.2.2 = some (.tbl #[]) ∧ F t.2.2 = none) → sp [.ref a] H (fun v _ => v = .bl true) fun _ _ _ => False) ∧
    ∀ base : Heap, K.In base → base.Ns mainGlobals mg → (∀ t ∈ ts, LamX.TabB base mg t.2.1 t.2.2) → CalG l.prog w K mg base k y [x] sp
theorem walk_cT {l : PySem.W.OpenLaw} {n k : Nat} {q : Program} {loose : List Str} {XP : (Str → Option Value) → Heap → Prop} {YP : World → Heap → Prop} {d : DefRec} {K : Params → PySem.W.Frag} {x : Str}
    (hn : l.most = some n) (hn2 : n ≤ sizeLine) (hdf : d.params.defaults = []) (hr : Room k callerA) (hY : ∀ (w : World) (h : Heap), YP w h → (K w.params).In h)
    (F : ∀ (w : World) (mg : Str → Option Value) (fa : Addr) (h : Heap), (K w.params).In h → h.Ns mainGlobals mg → mg d.name = some (.ref fa) → LawT l w (K w.params) k n x d.name q mg) :
    PySem.W.WalkO q loose XP YP l.row.toRowW d [] (fun f vs => PySem.call f vs) := by
  refine Att.attach_callB hn hdf fun w s₀ s₁ mg mb fa o pm cd doc a vs ns G Y ho hd hcd hmg hobj hints hlen hbits hg => ?_
  have KX := hY w _ Y
  obtain ⟨ts, sp, ht, hsp, hF⟩ := F w mg fa _ KX G.T.g hmg
  have facts : ∀ t ∈ ts, s₁.heap.get? t.2.2 = some { cls := .none, data := .fields #[] } ∧ (K w.params).lookup t.2.2 = none ∧ PySem.W.CodeHd s₁.heap t.2.1 t.2.2 := fun t hm => by
    obtain ⟨⟨⟨o, vs, file, tf, flags, tg, inF, text, tt, g1, g2, g3, g4, g5⟩, ⟨f, of, fd, f1, f2, f3, f4⟩, off⟩, hrec⟩ := ht t hm
    obtain ⟨dL, hm1, hn1⟩ := List.any_eq_true.mp hrec
    have hn2 : dL.name = t.1 := beq_iff_eq.mp hn1
    obtain ⟨a', o', fd', c', P', h1, h2, h3, h4, h5, h6⟩ := G.T.tab dL hm1
    rw [hn2, PySem.W.mg_of KX G.T.g f1] at h1
    cases h1
    rw [KX _ _ f2] at h2
    cases h2
    rw [f3] at h3
    cases h3
    rw [f4] at h4
    cases h4
    obtain ⟨⟨oc, vc, e1, _, e3, e4⟩, hP⟩ := h6
    rw [KX _ _ g1] at e1
    cases e1
    rw [g3] at e3
    cases e3
    rw [g4] at e4
    cases e4
    exact ⟨hP, off, ⟨o, vs, file, tf, flags, tg, inF, text, tt, KX _ _ g1, g2, g3, g4, g5⟩⟩
  refine law_cT (cs := ts.map (·.2)) (sp := sp) (x := x) KX G.T.g G.T.b G.T.builtins G.T.nolimit hg ?_ ?_ ?_ G.T.bmain hobj hints (Nat.le_trans hlen hn2) hr hmg ?_ ?_
  · intro p hp; obtain ⟨t, hm, rfl⟩ := List.mem_map.mp hp; exact (facts t hm).1
  · intro p hp; obtain ⟨t, hm, rfl⟩ := List.mem_map.mp hp; exact (facts t hm).2.1
  · intro p hp; obtain ⟨t, hm, rfl⟩ := List.mem_map.mp hp; exact (facts t hm).2.2
  · exact fun base h1 h2 h3 => hF base h1 h2 fun t hm => h3 _ (List.mem_map.mpr ⟨t, hm, rfl⟩)
  · exact fun F H h1 h2 h3 => hsp F H a ns hlen h1 h2 fun t hm => h3 _ (List.mem_map.mpr ⟨t, hm, rfl⟩)
/-- the law's promise told of its reading -/
theorem spL_lawT {GP : GenP} {K : PySem.W.Frag} {W : WD} {n : Nat} (h : ∀ ns : List Int, ns.length ≤ n → W [.val (.scr ns)] fun d _ => d = .bl true) (F H : Hp) (a : Addr) (ns : List Int) (l : ns.length ≤ n) (s : SqL K F a (ns.map V.int)) (sm : Same F H) (hT : ∀ p ∈ GP.T, H p.1 = some (.tbl #[]) ∧ F p.1 = none) :
    spL GP K 1 (fun as Q => hasG as = false ∧ W as Q) [.ref a] H (fun v _ => v = .bl true) fun _ _ _ => False := by
  refine ⟨F, none, [.val (.scr ns)], fun d _ => d = .bl true, sm, ⟨.scr s, trivial⟩, rfl, rfl, rfl, fun p hp => (by cases hp), ⟨fun p hp => .nil (hT p hp).1, fun a ⟨q, hq⟩ => (hT _ hq).2⟩, ⟨rfl, h ns l⟩, fun v H' F' γ' d m _ _ _ _ _ _ e _ q => ?_⟩
  subst q
  cases e
  rfl
/-! ### a def that makes lambdas: its code object is told -/
section
variable {P : Program} {w : World} {K : PySem.W.Frag} {mg : Str → Option Value} {base : Heap}
theorem g_okC {x qual : Str} {st : Stmt} {f : Addr} {fd : FuncData} {N ps : List Str} {k : Nat} {sp : Sp} (F : Fun K x qual st f fd) (S : FnScope N ps (defScope st)) (len : ∀ vs H Q E, sp vs H Q E → vs.length = ps.length)
    (body : ∀ (A : Around) (outer : List Env) (s : Shared) (H : Hp) (vs : List V) (Q : VK) (E : XK), A.guards = some [] → Room k (A.deeper (envOfC qual (defScope st) s.heap.objs.size f fd.code)) → sp vs H Q E →
      ∃ t, PSs (cxOf CX0 P w K mg base N qual (defScope st) f fd.code A outer s H E).nox (defBody st) t ∧ t { nx := fun _ H' => Q .non H', rt := Q } (start N vs) H) : GOk P w K mg base (k + 1) f fd ps sp := by
  obtain ⟨oc, od, kV, doc, pm, an, cdv, ct, osl, rfl, lk, hcd⟩ := F.ex
  refine ⟨len, fun A outer s H args us vs Q E hg hr e0 hb r hsp => ?_⟩
  have keepB : ∀ b o, base.get? b = some o → s.heap.get? b = some o := fun b o e => (e0.bs b o e).1
  refine codeAny_call_function hr.depth ((e0.mod.kin.keeps keepB) _ _ lk) rfl S.co S.gen rfl (PySem.W.codeRec_of (e0.mod.kin.keeps keepB) hcd) (hb _ _ _ _ ?_)
  refine wpAny_newFunctionEnv_cells S.kind (fun y hy => ?_) fun env he s1 x1 => ?_
  · rcases S.par y.1 (List.of_mem_zip hy).1 with q | q
    · exact .inl q
    · exact .inr ⟨q, PySem.W.cellsFrom_some _ _ _ (.inl q)⟩
  subst he
  refine ⟨(e0.mod.nolimit.keeps keepB).keeps x1.toInCall.keep, codeAny_func ?_⟩
  obtain ⟨t, ht, hq⟩ := body A outer s H vs Q E hg (hr.deeper _) hsp
  refine wpAny_mono (ht.nox.run [] s1 (start N vs) H _ (inv_start S hr.hd e0 (len _ _ _ _ hsp) r x1) hq) (fun fl s' hs => ?_) fun e s' hs => hs
  match fl, hs with
  | .ret u, ⟨v, σ', H', J, rv, q⟩ => exact ⟨v, H', J.os, J.bare, J.base, J.hok, rv, q⟩
  | .next, ⟨σ', H', J, q⟩ => exact ⟨V.non, H', J.os, J.bare, J.base, J.hok, rfl, q⟩
  | .brk, ⟨_, _, _, q⟩ => exact False.elim q
  | .cont, ⟨_, _, _, q⟩ => exact False.elim q
/-- the code object of the def x -/
def CodeOf (K : PySem.W.Frag) (mg : Str → Option Value) (x : Str) (c : Addr) : Prop := ∀ (f : Addr) (o : Obj) (fd : FuncData), mg x = some (.ref f) → K.lookup f = some o → o.data = .func fd → fd.code = .ref c
theorem TabW.codeOf {h : Heap} {x : Str} {c T : Addr} (t : TabW K x c T) (X : K.In h) (G : h.Ns mainGlobals mg) : CodeOf K mg x c := fun f o fd m l d => by
  obtain ⟨f', o', fd', h1, h2, h3, h4⟩ := t.fn
  rw [PySem.W.mg_of X G h1] at m
  cases m
  rw [l] at h2
  cases h2
  rw [d] at h3
  cases h3
  exact h4
variable {GP : GenP} {x : Str} {st : Stmt} {N ps : List Str} {k : Nat}
theorem _root_.CD.Def.calDT (D : Def K mg x st ps) (S : FnScope N ps (defScope st)) {c : Addr} (hc : CodeOf K mg x c) (u : US)
    (body : ∀ (f : Addr) (cdv : Value) (A : Around) (outer : List PySem.Env) (s : Shared) (H : Hp) (E : XK), cdv = .ref c → A.guards = some [] → Room k (A.deeper (envOfC x (defScope st) s.heap.objs.size f cdv)) →
      ∃ t, PSs (cxOf CX0 P w K mg base N x (defScope st) f cdv A outer s H E).nox (defBody st) t ∧ ∀ B, LS GP K B t u) : CalG P w K mg base (k + 1) x ps (spL GP K ps.length (Wof N.length u)) := by
  obtain ⟨f, fd, F, m, b⟩ := D
  refine ⟨f, fd, g_okC F S (fun vs H Q E h => spL_len h) fun A outer s H vs Q E hgd hr h => ?_, m, F.kp, b⟩
  have code : fd.code = .ref c := by
    obtain ⟨oc, od, kV, doc, pm, an, cdv, ct, osl, e, lk, _⟩ := F.ex
    exact hc f _ fd m lk rfl
  obtain ⟨t, ht, hl⟩ := body f fd.code A outer s H E code hgd hr
  refine ⟨t, ht, ?_⟩
  obtain ⟨F, γ, as, Qd, h1, h2, h3, h4, h5, h6, hT, h7, h8⟩ := h
  have hn : vs.length ≤ N.length := by
    have := congrArg List.length S.pre
    rw [List.length_take] at this
    rw [h2.length, h5]
    omega
  have r := start_rp (N := N) h1 h2 h3 h4 h6 hT hn
  haveI : FinerC GP K (H, F, γ) H F γ := ⟨id, rfl⟩
  refine hl (H, F, γ) _ _ r h7 (fun σ' H' F' γ' ρ' r' q' => ?_) (fun _ _ _ _ _ _ q' => q'.elim) (fun _ _ _ _ _ _ q' => q'.elim) (fun σ' v H' F' γ' ρ' d r' dd q' => ?_)
  · exact out_ok h3 r' Dd.non q' fun v H' F' γ' d m a0 a1 a2 a3 a4 a5 a6 a7 a8 => h8 v H' F' _ d m a0 a1 a2 a3 a4 a5 a6 a7 a8
  · exact out_ok h3 r' dd q' fun v H' F' γ' d m a0 a1 a2 a3 a4 a5 a6 a7 a8 => h8 v H' F' _ d m a0 a1 a2 a3 a4 a5 a6 a7 a8
/-- the law's own: no draws ahead of it -/
theorem _root_.CD.Def.calDLT (D : Def K mg x st ps) (S : FnScope N ps (defScope st)) {c : Addr} (hc : CodeOf K mg x c) (u : US)
    (body : ∀ (f : Addr) (cdv : Value) (A : Around) (outer : List PySem.Env) (s : Shared) (H : Hp) (E : XK), cdv = .ref c → A.guards = some [] → Room k (A.deeper (envOfC x (defScope st) s.heap.objs.size f cdv)) →
      ∃ t, PSs (cxOf CX0 P w K mg base N x (defScope st) f cdv A outer s H E).nox (defBody st) t ∧ ∀ B, B.2.2 = none → LS GP K B t u) : CalG P w K mg base (k + 1) x ps (spL GP K ps.length fun as Q => hasG as = false ∧ Wof N.length u as Q) := by
  obtain ⟨f, fd, F, m, b⟩ := D
  refine ⟨f, fd, g_okC F S (fun vs H Q E h => spL_len h) fun A outer s H vs Q E hgd hr h => ?_, m, F.kp, b⟩
  have code : fd.code = .ref c := by
    obtain ⟨oc, od, kV, doc, pm, an, cdv, ct, osl, e, lk, _⟩ := F.ex
    exact hc f _ fd m lk rfl
  obtain ⟨t, ht, hl⟩ := body f fd.code A outer s H E code hgd hr
  refine ⟨t, ht, ?_⟩
  obtain ⟨F, γ, as, Qd, h1, h2, h3, h4, h5, h6, hT, ⟨h0, h7⟩, h8⟩ := h
  have hn : vs.length ≤ N.length := by
    have := congrArg List.length S.pre
    rw [List.length_take] at this
    rw [h2.length, h5]
    omega
  have r := start_rp (N := N) h1 h2 h3 h4 h6 hT hn
  have g0 : γ = none := by
    rw [h0] at h3
    cases γ with
    | none => rfl
    | some _ => cases h3
  haveI : FinerC GP K (H, F, γ) H F γ := ⟨id, rfl⟩
  refine hl (H, F, γ) g0 _ _ r h7 (fun σ' H' F' γ' ρ' r' q' => ?_) (fun _ _ _ _ _ _ q' => q'.elim) (fun _ _ _ _ _ _ q' => q'.elim) (fun σ' v H' F' γ' ρ' d r' dd q' => ?_)
  · exact out_ok h3 r' Dd.non q' fun v H' F' γ' d m a0 a1 a2 a3 a4 a5 a6 a7 a8 => h8 v H' F' _ d m a0 a1 a2 a3 a4 a5 a6 a7 a8
  · exact out_ok h3 r' dd q' fun v H' F' γ' d m a0 a1 a2 a3 a4 a5 a6 a7 a8 => h8 v H' F' _ d m a0 a1 a2 a3 a4 a5 a6 a7 a8
end
/-- what a def that makes lambdas has at hand -/
structure LamT (K : PySem.W.Frag) (mg : Str → Option Value) (base : Heap) (T : List (Addr × Str)) (x : Str) (c P : Addr) : Prop where
  tb : LamX.TabB base mg c P
  code : CodeOf K mg x c
  mem : (P, x ++ ".<locals>." ++ "<lambda>") ∈ T
  only : ∀ z ∈ T, z.1 = P → z.2 = x ++ ".<locals>." ++ "<lambda>"
section
variable {X : Cx}
/-- x(lambda: e), x known by its def -/
theorem pe_lam0 {T : List (Addr × Str)} {TT : (XK → Hp → VK → Prop) → Hp → VK → Prop} {x a y : Str} {c P : Addr} {k : Nat} {st : Stmt} {Ng : List Str} {ps : Arguments} {e : Expr} {sc : Scope} {t : XK → TE} {p lpos pos : Pos} (LT : LamT X.K X.mg X.base T y c P) (hq : lamQ X = y ++ ".<locals>." ++ "<lambda>")
    (D : Def X.K X.mg x st [a]) (Sg : FnScope Ng [a] (defScope st)) (hG : ∀ (g : Addr) (cdv : Value), LamX.GivesTo X Ng x (defScope st) g cdv (defBody st) a (lamQ X) TT) (hg : Gl X x) (hN : Ng[0]? = some a) (hv : Vis (defScope st) a) (hco : X.env.code = .ref c) (hr : Room (k + 2) X.A) (L : LamD [] X.env.scope sc)
    (hd : defaultsOf ps X.env = ([], [])) (bind : ∀ (q : Str) (cl : List (Str × Addr)) (doc m co ct : Value), bindArgs (PySem.W.kdv_fn "<lambda>" q ps (.expr e) sc cl .none doc m co ct) ⟨[], []⟩ = pure []) (hgd : X.A.guards = some [])
    (body : ∀ (A : Around) (outer : List Env) (s : Shared) (H : Hp) (E : XK) (f co : Addr), A.guards = some [] → Room k (A.deeper (LamX.lamEnv X sc s.heap.objs.size f co)) → PE (LamX.lamCx X A outer s H E sc f co) e (t E))
    (hdb : (x == ("__debug__" : Str)) = false := by decide) (hda : (a == ("__debug__" : Str)) = false := by decide) (hca : (a == ("__classdict__" : Str)) = false := by decide) :
    PE X (.Call (.Name x p) [.Lambda ps e sc lpos] [] pos) (tLamT T TT t) := by
  obtain ⟨g, fd, F, m, b⟩ := D
  obtain ⟨oc, od, kV, doc, pm, an, cdv, ct, osl, rfl, lk, hcd⟩ := F.ex
  exact pe_lamcall0 hg m F.kp lk hcd b Sg hN hv (hG g cdv) LT.tb hco (hq ▸ LT.mem) (hq ▸ LT.only) hr L hd bind hgd body hdb hda hca
/-- x(lambda z=i: e) -/
theorem pe_lamD {T : List (Addr × Str)} {TT : (XK → Hp → VK → Prop) → Hp → VK → Prop} {x a y z : Str} {c P : Addr} {k : Nat} {st : Stmt} {Ng : List Str} {ps : Arguments} {e : Expr} {sc : Scope} {t : XK → TE} {i0 : Int} {j0 : Nat} {p0 p lpos pos : Pos} (LT : LamT X.K X.mg X.base T y c P) (hq : lamQ X = y ++ ".<locals>." ++ "<lambda>")
    (D : Def X.K X.mg x st [a]) (Sg : FnScope Ng [a] (defScope st)) (hG : ∀ (g : Addr) (cdv : Value), LamX.GivesTo X Ng x (defScope st) g cdv (defBody st) a (lamQ X) TT) (hg : Gl X x) (hN : Ng[0]? = some a) (hv : Vis (defScope st) a) (hco : X.env.code = .ref c) (hr : Room (k + 2) X.A) (L : LamD [z] X.env.scope sc) (nz : z ∉ X.N)
    (hd : ps.defaults = [.Constant (.int i0) j0 p0]) (hkd : ps.kw_defaults = [])
    (bind : ∀ (q : Str) (cl : List (Str × Addr)) (t : Addr) (doc m co ct : Value) (tk : Tok), ∃ kk, bindArgs (PySem.W.kdv_fn "<lambda>" q ps (.expr e) sc cl (.ref t) doc m co ct) ⟨[], []⟩ = seqItems? (.ref t) >>= kk ∧ kk (some #[.int i0 tk]) = pure [(z, .int i0 tk)]) (hgd : X.A.guards = some [])
    (body : ∀ (A : Around) (outer : List Env) (s : Shared) (H : Hp) (E : XK) (f co : Addr), A.guards = some [] → Room k (A.deeper (LamX.lamEnv X sc s.heap.objs.size f co)) → PE (LamX.lamCx X A outer s H E sc f co) e (t E))
    (hdb : (x == ("__debug__" : Str)) = false := by decide) (hda : (a == ("__debug__" : Str)) = false := by decide) (hca : (a == ("__classdict__" : Str)) = false := by decide) :
    PE X (.Call (.Name x p) [.Lambda ps e sc lpos] [] pos) (tLamT T TT t) := by
  obtain ⟨g, fd, F, m, b⟩ := D
  obtain ⟨oc, od, kV, doc, pm, an, cdv, ct, osl, rfl, lk, hcd⟩ := F.ex
  exact pe_lamcallD hg m F.kp lk hcd b Sg hN hv (hG g cdv) LT.tb hco (hq ▸ LT.mem) (hq ▸ LT.only) hr L nz hd hkd bind hgd body hdb hda hca
end
end DL
set_option maxHeartbeats 400000
/-! lifted readings 21: texts, sign by sign; parts of them -/
namespace DL
open PySem PySem.Spec PyProof.Rows L2 CD
variable {GP : GenP} {K : PySem.W.Frag} {B : Hp × Hp × GAt}
/-! ### for c in s -/
def sgD (z : Str) : List D := z.cps.toList.map fun c => D.str ⟨#[c]⟩
def uiStr (u : UE) : UI := fun ρ Q => u ρ fun x ρ1 => match cn ρ1 x with
  | some (.str z) => Q (sgD z) ρ1
  | _ => False
theorem li_str {t : TE} {u : UE} (h : LE GP K B t u) : LI GP K B (iStr t) (uiStr u) := by
  intro H0 F0 γ0 _ γ σ H F ρ R Q r z k
  refine h _ _ r z fun H1 F1 γ1 ρ1 v x r1 s1 k1 u1 => ?_
  split at u1
  · rename_i s e
    obtain rfl := (RVok.cnt r1 k1 e).str
    refine ⟨s, rfl, k _ _ _ _ _ _ _ _ _ r1 s1 walk_str (by unfold sgD; rw [List.length_map, Array.length_toList]) (fun _ _ => trivial) (fun i H v H' F hi _ _ y => ?_) u1⟩
    obtain ⟨rfl, c, hc, rfl⟩ := y
    refine ⟨.str ⟨#[c]⟩, ?_, .inl ⟨rfl, .str _⟩⟩
    unfold sgD
    rw [List.getElem?_map, Array.getElem?_toList, hc]
    rfl
  · exact u1.elim
/-! ### c in s, c one sign -/
def pSgn (neg : Bool) : P2 := fun x y Q => match x, y with
  | .str a, .str z => ∃ c, a = ⟨#[c]⟩ ∧ Q (.val (.bl (if neg = true then !decide (c ∈ z.cps.toList) else decide (c ∈ z.cps.toList))))
  | _, _ => False
def rSgn (neg : Bool) : R2 := fun x y H Q => ∃ (c : Nat) (z : Str), x = .str ⟨#[c]⟩ ∧ y = .str z ∧ Q (.bl (if neg = true then !decide (c ∈ z.cps.toList) else decide (c ∈ z.cps.toList))) H
theorem lr_sgn (neg : Bool) : LR K (rSgn neg) (pSgn neg) := by
  intro F H x y dx dy R Q s c1 c2 p h
  unfold pSgn at p
  split at p
  · obtain ⟨c, rfl, p2⟩ := p
    exact ⟨c, _, c1.str, c2.str, h _ _ (.val _) (Same.refl _) (Dd.bl _) p2⟩
  · exact p.elim
theorem op_sgnIn {X : Cx} : OpR X (compareOp .In) (rSgn false) := fun pins s σ H x y v u Q I rx ry ⟨c, z, e1, e2, q⟩ => op_in_sign pins s σ H x y v u Q I rx ry ⟨c, z, e1, e2, q⟩
theorem op_sgnNot {X : Cx} : OpR X (compareOp .NotIn) (rSgn true) := fun pins s σ H x y v u Q I rx ry ⟨c, z, e1, e2, q⟩ => op_notIn_sign pins s σ H x y v u Q I rx ry ⟨c, z, e1, e2, q⟩
/-! ### a part of a text -/
def pSlS : PS3 := fun x l h Q => match x with
  | .str z => z.length ≤ sizeLine ∧ Q (.val (.str (Txt.slice z l h)))
  | _ => False
theorem lsl_S : LSl K C8.rSlX pSlS := by
  intro F H x dx l hh R Q s k p h
  unfold pSlS at p
  split at p
  · exact ⟨_, k.str, p.1, h _ _ (.val _) (Same.refl _) (Dd.str _) p.2⟩
  · exact p.elim
theorem call_len_seqK {X : Cx} {K : PySem.W.Frag} (h : X.K = K) : CallR X (.builtin "len") (fun xs H Q => ∃ p ys, xs = [V.ref p] ∧ (SqL K H p ys ∨ SqT K H p ys) ∧ Q (V.int ys.length) H) := h ▸ call_len_seq
theorem op_eqDK {X : Cx} {K : PySem.W.Frag} (h : X.K = K) (hu : X.A.units + 64 < cLine) : OpR X (compareOp .Eq) (rEqD K) := h ▸ op_eqD hu
/-! ### a, b, c = e1, e2, e3: names of the def's own -/
def uPar3 (i j l : Nat) (u : UA) : US := fun Q ρ => u ρ fun xs ρ' => match xs with
  | [.val a, .val b, .val c] => Q.nx (((ρ'.set i (some (.val a))).set j (some (.val b))).set l (some (.val c)))
  | _ => False
theorem ls_par3 {i j l : Nat} {t : TA} {u : UA} (h : LA GP K B t u) : LS GP K B (tPar3 i j l t) (uPar3 i j l u) := by
  intro H0 F0 γ0 _ γ σ H F ρ E Q r z n bk ct rt
  refine h _ _ r z fun H1 F1 γ1 ρ1 vs xs r1 s1 k1 u1 => ?_
  split at u1
  · rename_i a b c
    obtain ⟨v1, w1, rfl, z1, k1⟩ := k1.cons_of
    obtain ⟨v2, w2, rfl, z2, k1⟩ := k1.cons_of
    obtain ⟨v3, w3, rfl, z3, k1⟩ := k1.cons_of
    obtain rfl := k1.nil_of
    exact ⟨v1, v2, v3, rfl, n _ _ _ _ _ (((r1.setVal i z1.1).setVal j z2.1).setVal l z3.1) u1⟩
  · exact u1.elim
/-! ### len(set(t)), t a tuple of ints -/
def tLenSetA (K : PySem.W.Frag) (ta : TE) : TE := fun σ H Q => ta σ H fun x H1 => ∃ (l : Addr) (ns : List Int), x = .ref l ∧ SqT K H1 l (ns.map V.int) ∧ ns.length ≤ 1000 ∧ ∀ ms : List Int, ms.Nodup → (∀ j, j ∈ ms ↔ j ∈ ns) → Q (.int (ms.length : Nat)) H1
theorem pe_lenSetA {X : Cx} {a : Expr} {ta : TE} {p p2 q pos : Pos} (hg : Gl X "len") (hm : X.mg "len" = none) (hg2 : Gl X "set") (hm2 : X.mg "set" = none) (ha : PE X a ta) (hc : X.calm = true := by rfl)
    (na : starEach [a] X.env = (false, eval a X.env) :: starEach [] X.env := by rfl) : PE X (.Call (.Name "len" p) [.Call (.Name "set" p2) [a] [] q] [] pos) (tLenSetA X.K ta) := by
  refine ⟨fun pins s σ H Q I h => ?_⟩
  refine Call_ (ld_blt I hg hm boot_len (PyProof.Rows.callWith_builtin1 (PyProof.Rows.args_cons ?_ rfl) rfl rfl))
  refine Call_ (ld_blt I hg2 hm2 boot_set (PyProof.Rows.callWith_type1 (PyProof.Rows.args_cons (thn (ha.run pins s σ H _ I h) fun v s1 ⟨x, H1, I1, r1, l, ns, ex, hq, hl, q1⟩ => PyProof.Rows.args_nil ?_) na) na rfl))
  subst ex
  cases r1
  obtain ⟨its, r, pl, hz⟩ := I1.tuple hq
  refine call_set_tupI ns (I1.ok.hd hc) (show s1.heap.IsTuple l its.toArray from pl) (by simpa using ints_of_vals r) (by unfold scanBound; omega) fun h' tk c hS hcl hk => PyProof.Rows.args_nil ?_
  obtain ⟨o, es, ep, t, ho, hex, hdt, g, nd, hm3, hb, hf, hn, _, _⟩ := hS
  have q2 := q1 (es.toList.map keyOf) nd fun j => by
    have z : decide (j ∈ ns) = true ↔ j ∈ es.toList.map keyOf := hm3 j
    rw [decide_eq_true_eq] at z
    exact z.symm
  have I2 : Inv X pins σ H1 { s1 with heap := h', toks := tk } := I1.kept hk
  have small : (es.toList.map keyOf).length ≤ ns.length := by
    have z : ∀ j, j ∈ es.toList.map keyOf → j ∈ ns := fun j hj => of_decide_eq_true ((hm3 j).mpr hj)
    exact List.Nodup.length_le_of_subset nd z
  rw [List.length_map, Array.length_toList] at small q2
  exact call_len_set ho hex hdt hf (by omega) ⟨.int es.size, H1, I2.tok _, ⟨_, rfl⟩, q2⟩
def uLenSetA (u : UE) : UE := fun ρ Q => u ρ fun x ρ1 => match cn ρ1 x with
  | some (.tup ds) => ∃ ns : List Int, ds = ns.map D.int ∧ ns.length ≤ 1000 ∧ ∀ ms : List Int, ms.Nodup → (∀ j, j ∈ ms ↔ j ∈ ns) → Q (.val (.int (ms.length : Nat))) ρ1
  | _ => False
theorem le_lenSetA {t : TE} {u : UE} (h : LE GP K B t u) : LE GP K B (tLenSetA K t) (uLenSetA u) := by
  intro H0 F0 γ0 _ γ σ H F ρ R Q r z k
  refine h _ _ r z fun H1 F1 γ1 ρ1 v x r1 s1 k1 u1 => ?_
  split at u1
  · rename_i ds e
    obtain ⟨ns, rfl, h2, q⟩ := u1
    obtain ⟨a, xs, rfl, hx, g⟩ := (RVok.cnt r1 k1 e).tup r1.sub
    rw [g.ints] at hx
    exact ⟨a, ns, rfl, hx, h2, fun ms n1 n2 => k _ _ _ _ _ (.val _) r1 s1 (Dd.int _) (q ms n1 n2)⟩
  · exact u1.elim
end DL
set_option maxHeartbeats 1000000
/-! repr of data with empty dicts in it; a sequence against an empty one -/
namespace CD
open PySem PySem.Spec PyProof.Rows L2
mutual
/-- data at a value, empty dicts among it -/
inductive De (K : PySem.W.Frag) (H : Hp) : V → PyData → Prop
  | non : De K H .non .none
  | bl (b : Bool) : De K H (.bl b) (.bool b)
  | int (i : Int) : De K H (.int i) (.int i)
  | str (x : Str) : De K H (.str x) (.str x)
  | emp {a : Addr} : H a = some (.dK []) → De K H (.ref a) (.dict [])
  | lst {a : Addr} {xs : List V} {ps : List PyData} : SqL K H a xs → DeL K H xs ps → De K H (.ref a) (.list ps)
  | tup {a : Addr} {xs : List V} {ps : List PyData} : SqT K H a xs → DeL K H xs ps → De K H (.ref a) (.tuple ps)
inductive DeL (K : PySem.W.Frag) (H : Hp) : List V → List PyData → Prop
  | nil : DeL K H [] []
  | cons {v : V} {vs : List V} {p : PyData} {ps : List PyData} : De K H v p → DeL K H vs ps → DeL K H (v :: vs) (p :: ps)
end
section
variable {X : Cx} {pins : List (Addr × Obj)} {σ : L2.St} {H : Hp} {s : Shared}
/-- what stands at an empty dict -/
theorem emp_at {P : Program} {w : World} {a : Addr} {h : Heap} (e : H a = some (.dK [])) (ok : HOk P w H h) : (a == sysModules) = false ∧ ∃ o n, h.get? a = some o ∧ o.cls = .type "dict" ∧ o.data = .dict #[] n := by
  obtain ⟨_, hs, vs, kv, o, es, ep, ho, ed, hd, _, pr, _⟩ := ok a _ e
  cases kv
  have l := pr.length
  have z : es = #[] := Array.eq_empty_of_size_eq_zero (by simpa using l)
  subst z
  exact ⟨hs, o, ep, ho, ed.1, hd⟩
mutual
theorem De.rk (I : Inv X pins σ H s) : ∀ (p : PyData) (v : V) (u : Value), De X.K H v p → RelV v u → p.showable = true → p.shown.length ≤ sizeLine →
    (∃ as, Reads s.heap u p as) ∧ ∃ bs, ReadAtMost s.heap p.depth bs ∧ ReprK X.prog X.w bs s.heap p.depth u p.shown
  | .none, _, _, h, r, _, _ => by
    cases h; cases r
    exact ⟨⟨_, .none⟩, [], nofun, by rw [PyData.shown]; exact .of_is ReprIs.none _ _ _⟩
  | .bool b, _, _, h, r, _, _ => by
    cases h; cases r
    exact ⟨⟨_, .bool b⟩, [], nofun, by rw [PyData.shown]; exact .of_is (ReprIs.bool b) _ _ _⟩
  | .int i, _, _, h, r, hs, _ => by
    cases h
    obtain ⟨t, rfl⟩ := r
    exact ⟨⟨_, .int i t⟩, [], nofun, by rw [PyData.shown]; exact .of_is (ReprIs.int t (by simpa [PyData.showable] using hs)) _ _ _⟩
  | .str x, _, _, h, r, _, hz => by
    cases h
    obtain ⟨t, rfl⟩ := r
    rw [PyData.shown] at hz
    exact ⟨⟨_, .str x t⟩, [], nofun, by rw [PyData.shown]; exact .of_is (ReprIs.str x t hz) _ _ _⟩
  | .dict (_ :: _), _, _, h, _, _, _ => by cases h
  | .dict [], _, _, h, r, _, hz => by
    cases h with
    | emp e =>
      cases r
      rename_i a
      obtain ⟨hsys, o, n, g1, g2, g3⟩ := emp_at e I.hok
      have rd : Reads s.heap (.ref a) (.dict []) _ := .dict g1 g2 g3 .nil .nil
      refine ⟨⟨_, rd⟩, [a], ReadAtMost.cons rd (Nat.le_refl _) nofun, ?_⟩
      have k := ReprK.dict (prog := X.prog) (w := X.w) (as := []) (d := PyData.depthKv []) g1 g2 g3 hsys (by simp) (ps := []) (ReprEntriesK.of_two [] _ _ .nil .nil)
      rw [PyData.depth, PyData.shown, PyData.shownKv]
      exact k
  | .list ps, _, _, h, r, hs, hz => by
    cases h with
    | lst hq hd =>
      cases r
      rename_i a xs
      obtain ⟨its, rv, ⟨o, n, ho, hc, _, hdt⟩, _⟩ := I.list hq
      rw [PyData.shown] at hz
      obtain ⟨⟨as, ra⟩, bs, hb, hk⟩ := DeL.rk I ps _ its hd rv (by simpa [PyData.showable] using hs) fun t ht => Nat.le_trans (listText_mem_le ht) hz
      have rd : Reads s.heap (.ref a) (.list ps) _ := .list ho hc hdt ra
      have na : a ∉ bs := not_mem_of_deeper rd (by rw [PyData.depth]; omega) hb
      refine ⟨⟨_, rd⟩, a :: bs, ReadAtMost.cons rd (by rw [PyData.depth]; omega) hb, ?_⟩
      rw [PyData.depth, PyData.shown]
      cases its with
      | nil =>
        cases (show ReadsAll s.heap [] ps as from ra)
        rw [PyData.shownAll, listText_nil]
        exact ReprK.listEmpty ho hc hdt
      | cons y its => exact ReprK.list ho hc hdt na (by simpa using hk.length_eq) fun i z e => hk.item i z (by simpa using e)
  | .tuple ps, _, _, h, r, hs, hz => by
    cases h with
    | tup hq hd =>
      cases r
      rename_i a xs
      obtain ⟨its, rv, ⟨o, ho, hc, n, hdt⟩, _⟩ := I.tuple hq
      rw [PyData.shown] at hz
      obtain ⟨⟨as, ra⟩, bs, hb, hk⟩ := DeL.rk I ps _ its hd rv (by simpa [PyData.showable] using hs) fun t ht => Nat.le_trans (tupleText_mem_le ht) hz
      have rd : Reads s.heap (.ref a) (.tuple ps) _ := .tuple ho hc hdt ra
      have na : a ∉ bs := not_mem_of_deeper rd (by rw [PyData.depth]; omega) hb
      refine ⟨⟨_, rd⟩, a :: bs, ReadAtMost.cons rd (by rw [PyData.depth]; omega) hb, ?_⟩
      rw [PyData.depth, PyData.shown]
      exact ReprK.tuple ho hc hdt na hk
theorem DeL.rk (I : Inv X pins σ H s) : ∀ (ps : List PyData) (vs : List V) (us : List Value), DeL X.K H vs ps → Vals vs us → PyData.showableAll ps = true → (∀ t ∈ PyData.shownAll ps, t.length ≤ sizeLine) →
    (∃ as, ReadsAll s.heap us ps as) ∧ ∃ bs, ReadAtMost s.heap (PyData.depthAll ps) bs ∧ ReprAllK X.prog X.w bs s.heap (PyData.depthAll ps) us (PyData.shownAll ps)
  | [], _, _, h, r, _, _ => by
    cases h; cases r
    exact ⟨⟨_, .nil⟩, [], nofun, by rw [PyData.shownAll]; exact .nil⟩
  | p :: ps, _, _, h, r, hs, hz => by
    cases h with
    | cons h1 h2 =>
      cases r with
      | cons r1 r2 =>
        rw [PyData.showableAll, Bool.and_eq_true] at hs
        rw [PyData.shownAll] at hz
        obtain ⟨⟨a1, q1⟩, b1, d1, k1⟩ := De.rk I p _ _ h1 r1 hs.1 (hz _ List.mem_cons_self)
        obtain ⟨⟨a2, q2⟩, b2, d2, k2⟩ := DeL.rk I ps _ _ h2 r2 hs.2 fun t ht => hz t (List.mem_cons_of_mem _ ht)
        refine ⟨⟨_, .cons q1 q2⟩, b1 ++ b2, fun b hm => ?_, ?_⟩
        · rw [PyData.depthAll]
          rcases List.mem_append.mp hm with hm | hm
          · obtain ⟨d', as', r', l⟩ := d1 b hm
            exact ⟨d', as', r', by omega⟩
          · obtain ⟨d', as', r', l⟩ := d2 b hm
            exact ⟨d', as', r', by omega⟩
        · rw [PyData.depthAll, PyData.shownAll]
          exact .cons ((k1.more fun b hb => List.mem_append_left _ hb).level_le (by omega)) (k2.more_le (fun b hb => List.mem_append_right _ hb) (by omega))
end
end
/-- repr(x) -/
def rReprE (K : PySem.W.Frag) : List V → Hp → VK → Prop := fun xs H Q => ∃ (x : V) (p : PyData), xs = [x] ∧ De K H x p ∧ p.showable = true ∧ p.depth ≤ 60 ∧ p.shown.length ≤ sizeLine ∧ Q (.str p.shown) H
section
variable {X : Cx}
theorem call_reprE (hg : X.A.guards = some []) (hu : X.A.units + 64 < cLine) : CallR X (.builtin "repr") (rReprE X.K) := by
  intro pins s σ H xs us Q I r h
  obtain ⟨x, p, rfl, hd, hs, hp, hz, q⟩ := h
  obtain ⟨u, rfl, ru⟩ := vals1 r
  have fin : ∀ (h' : Heap) (t : Tok) (tk : Nat), (∀ b o, s.heap.get? b = some o → h'.get? b = some o) → _ := fun h' t tk hk => (⟨.str p.shown, H, I.kept hk, ⟨t, rfl⟩, q⟩ : ∃ v H', Inv X pins σ H' { s with heap := h', toks := tk } ∧ RelV v (.str p.shown t) ∧ Q v H')
  cases hd with
  | non => cases ru; exact PySem.P.repr_of_none (by rw [PyData.shown] at q; exact ⟨.str _, H, I.tok _, ⟨_, rfl⟩, q⟩)
  | bl b => cases ru; exact PySem.P.repr_of_bool (by rw [PyData.shown] at q; exact ⟨.str _, H, I.tok _, ⟨_, rfl⟩, q⟩)
  | int i => obtain ⟨t, rfl⟩ := ru; exact PySem.P.repr_of_int (by simpa [PyData.showable] using hs) (by rw [PyData.shown] at q; exact ⟨.str _, H, I.tok _, ⟨_, rfl⟩, q⟩)
  | str y => obtain ⟨t, rfl⟩ := ru; exact PySem.P.repr_of_str (by rw [PyData.shown] at q; exact ⟨.str _, H, I.tok _, ⟨_, rfl⟩, q⟩) (by rw [PyData.shown] at hz; exact hz)
  | emp e =>
    cases ru
    obtain ⟨hsys, o, n, g1, g2, g3⟩ := emp_at e I.hok
    rw [PyData.shown, PyData.shownKv] at q hz
    refine call_repr_slot (by omega) ⟨o, g1, g2⟩ PySem.F.slot_dict_repr ?_
    exact call_dict_reprK (as := []) (d := 0) g1 g2 g3 hsys (by simp) (ps := []) (ReprEntriesK.of_two [] _ _ .nil .nil) (A := X.A.in1) hg (fun b _ => Clear.nil b) (by show X.A.units + 1 + (0 + 1) < cLine; omega) (fun _ _ z => z) (fun h' t tk hk => ⟨_, _, rfl, .str _, H, I.kept hk, ⟨_, rfl⟩, q⟩) hz
  | @lst a xs ps hq hl =>
    cases ru
    obtain ⟨its, rv, ⟨o, n, ho, hc, _, hdt⟩, _⟩ := I.list hq
    rw [PyData.shown] at q hz
    rw [PyData.depth] at hp
    obtain ⟨⟨as, ra⟩, bs, hb, hk⟩ := DeL.rk I ps _ its hl rv (by simpa [PyData.showable] using hs) fun t ht => Nat.le_trans (listText_mem_le ht) hz
    have rd : Reads s.heap (.ref a) (.list ps) _ := .list ho hc hdt ra
    have na : a ∉ bs := not_mem_of_deeper rd (by rw [PyData.depth]; omega) hb
    refine call_repr_slot (by omega) ⟨o, ho, hc⟩ PySem.F.slot_list_repr.toG ?_
    cases its with
    | nil =>
      cases (show ReadsAll s.heap [] ps as from ra)
      rw [PyData.shownAll, listText_nil] at q
      exact call_list_repr_empty ⟨o, ho, hc⟩ ho hdt ⟨_, _, rfl, .str _, H, I.tok _, ⟨_, rfl⟩, q⟩
    | cons y its =>
      exact call_list_reprK (A := X.A.in1) ho hc hdt na (by simpa using hk.length_eq) (fun i z e => hk.item i z (by simpa using e)) hg (fun b _ => Clear.nil b) (by show X.A.units + 1 + (PyData.depthAll ps + 1) < cLine; omega) (fun _ _ z => z) (fun h' t tk hk => ⟨_, _, rfl, .str _, H, I.kept hk, ⟨_, rfl⟩, q⟩) hz
  | @tup a xs ps hq hl =>
    cases ru
    obtain ⟨its, rv, ⟨o, ho, hc, n, hdt⟩, _⟩ := I.tuple hq
    rw [PyData.shown] at q hz
    rw [PyData.depth] at hp
    obtain ⟨⟨as, ra⟩, bs, hb, hk⟩ := DeL.rk I ps _ its hl rv (by simpa [PyData.showable] using hs) fun t ht => Nat.le_trans (tupleText_mem_le ht) hz
    have rd : Reads s.heap (.ref a) (.tuple ps) _ := .tuple ho hc hdt ra
    have na : a ∉ bs := not_mem_of_deeper rd (by rw [PyData.depth]; omega) hb
    refine call_repr_slot (by omega) ⟨o, ho, hc⟩ PySem.F.slot_tuple_repr ?_
    exact call_tuple_reprK (A := X.A.in1) ho hc hdt na hk hg (fun b _ => Clear.nil b) (by show X.A.units + 1 + (PyData.depthAll ps + 1) < cLine; omega) (fun _ _ z => z) (fun h' t tk hk => ⟨_, _, rfl, .str _, H, I.kept hk, ⟨_, rfl⟩, q⟩) hz
/-- a sequence against an empty one -/
def rNil (K : PySem.W.Frag) (neg : Bool) : R2 := fun x y H Q => ∃ (a b : Addr) (xs : List V), x = .ref a ∧ y = .ref b ∧ (SqL K H a xs ∧ SqL K H b [] ∨ SqT K H a xs ∧ SqT K H b []) ∧ Q (.bl (if neg then !xs.isEmpty else xs.isEmpty)) H
theorem nil_ne {its : List Value} {y : Value} : ((y :: its).toArray.size != (#[] : Array Value).size) = true := by simp
theorem op_eqNil (hu : X.A.units + 64 < cLine) : OpR X (compareOp .Eq) (rNil X.K false) := by
  intro pins s σ H x y v u Q I rx ry h
  obtain ⟨a, b, xs, rfl, rfl, h | h, q⟩ := h
  · obtain ⟨its, rv, ⟨o, n, e1, e2, _, e3⟩, _⟩ := I.list h.1
    obtain ⟨its', rv', ⟨o', n', g1, g2, _, g3⟩, _⟩ := I.list h.2
    cases rx; cases ry
    cases rv'
    cases rv with
    | nil => exact SeqAt.RcAt.lists (e := fun _ => true) ⟨o, e1, e2, n, e3⟩ ⟨o', g1, g2, n', g3⟩ rfl (by omega) (fun j h1 => absurd h1 (Nat.not_lt_zero j)) _ _ _ _ ⟨.bl _, H, I, rfl, q⟩
    | cons _ _ => exact SeqAt.RcAt.lists_lengths ⟨o, e1, e2, n, e3⟩ ⟨o', g1, g2, n', g3⟩ nil_ne (by omega) _ _ _ _ ⟨.bl _, H, I, rfl, q⟩
  · obtain ⟨its, rv, ⟨o, e1, e2, n, e3⟩, _⟩ := I.tuple h.1
    obtain ⟨its', rv', ⟨o', g1, g2, n', g3⟩, _⟩ := I.tuple h.2
    cases rx; cases ry
    cases rv'
    refine SeqAt.RcAt.tuples (e := fun _ => true) ⟨o, e1, e2, n, e3⟩ ⟨o', g1, g2, n', g3⟩ (by omega) (fun j _ h2 => absurd h2 (Nat.not_lt_zero j)) _ _ _ _ ⟨.bl _, H, I, ?_, q⟩
    cases rv with
    | nil => rfl
    | cons _ _ => rfl
theorem op_neNil (hu : X.A.units + 64 < cLine) : OpR X (compareOp .NotEq) (rNil X.K true) := by
  intro pins s σ H x y v u Q I rx ry h
  obtain ⟨a, b, xs, rfl, rfl, h | h, q⟩ := h
  · obtain ⟨its, rv, ⟨o, n, e1, e2, _, e3⟩, _⟩ := I.list h.1
    obtain ⟨its', rv', ⟨o', n', g1, g2, _, g3⟩, _⟩ := I.list h.2
    cases rx; cases ry
    cases rv'
    cases rv with
    | nil => exact SeqAt.RcNeAt.lists (e := fun _ => true) ⟨o, e1, e2, n, e3⟩ ⟨o', g1, g2, n', g3⟩ rfl (by omega) (fun j h1 => absurd h1 (Nat.not_lt_zero j)) _ _ _ _ ⟨.bl _, H, I, rfl, q⟩
    | cons _ _ => exact SeqAt.RcNeAt.lists_lengths ⟨o, e1, e2, n, e3⟩ ⟨o', g1, g2, n', g3⟩ nil_ne (by omega) _ _ _ _ ⟨.bl _, H, I, rfl, q⟩
  · obtain ⟨its, rv, ⟨o, e1, e2, n, e3⟩, _⟩ := I.tuple h.1
    obtain ⟨its', rv', ⟨o', g1, g2, n', g3⟩, _⟩ := I.tuple h.2
    cases rx; cases ry
    cases rv'
    refine SeqAt.RcNeAt.tuples (e := fun _ => true) ⟨o, e1, e2, n, e3⟩ ⟨o', g1, g2, n', g3⟩ (by omega) (fun j _ h2 => absurd h2 (Nat.not_lt_zero j)) _ _ _ _ ⟨.bl _, H, I, ?_, q⟩
    cases rv with
    | nil => rfl
    | cons _ _ => rfl
end
/-! ### t[::-1], t a tuple -/
section
variable {prog : Program} {w : World} {A : Around} {E : Value → Shared → Prop} {s : Shared}
theorem applied_back {sl : Addr} {vl vu vs : Value} {n : Nat} {Q : Int × Int × Nat → Shared → Prop} (hs : s.heap.IsSliceOf sl vl vu vs) (pl : IsPart vl none) (pu : IsPart vu none) (ps : IsPart vs (some (-1)))
    (h : Q ((n : Int) - 1, -1, n) s) : wpAny (model prog w) A (Builtin.Slice.sliceApplied (.ref sl) (pure (n : Int))) Q E s := by
  obtain ⟨os, h1, h2, h3⟩ := id hs
  unfold Builtin.Slice.sliceApplied Builtin.Slice.sliceFields
  refine wpAny_bind (wpAny_bind (wpAny_field h1 h3 (x := vl) rfl (wpAny_bind (wpAny_field h1 h3 (x := vu) rfl (wpAny_bind (wpAny_field h1 h3 (x := vs) rfl (wpAny_pure ?_)))))))
  refine wpAny_bind (HT.slicePart_ ps ?_)
  show wpAny _ _ (if ((-1 : Int) == 0) = true then _ else _) _ _ s
  rw [if_neg (by decide)]
  refine wpAny_bind (HT.slicePart_ pl (wpAny_bind (HT.slicePart_ pu (wpAny_bind (wpAny_pure ?_)))))
  show wpAny _ _ (pure ((n : Int) - 1, (-1 : Int), Builtin.Slice.slicePlaces ((n : Int) - 1) (-1) (-1))) _ _ s
  have e : Builtin.Slice.slicePlaces ((n : Int) - 1) (-1) (-1) = n := by
    unfold Builtin.Slice.slicePlaces
    rw [if_neg (by decide)]
    by_cases z : n = 0
    · subst z; rfl
    · rw [if_pos (by omega)]
      have : ((n : Int) - 1 - -1 - 1) / (- -1) = (n : Int) - 1 := by rw [show (- -1 : Int) = 1 by decide, Int.ediv_one]; omega
      rw [this]; omega
  rw [e]
  exact wpAny_pure h
theorem fmx_congr {α β : Type} {f g : α → Option β} : ∀ {l : List α}, (∀ a ∈ l, f a = g a) → l.filterMap f = l.filterMap g
  | [], _ => rfl
  | a :: r, h => by rw [List.filterMap_cons, List.filterMap_cons, h a List.mem_cons_self, fmx_congr fun x hx => h x (List.mem_cons_of_mem _ hx)]
theorem pick_back (xs : Array Value) : ((List.range xs.size).filterMap fun (m : Nat) => xs[(((xs.size : Int) - 1) + (m : Int) * (-1)).toNat]?).toArray = xs.toList.reverse.toArray := by
  rw [← PySem.W.krv_pick]
  unfold slicePick
  rw [PySem.W.krv_bounds]
  show _ = ((sliceRange ((xs.size : Int) - 1) (-1) (-1)).filterMap (xs[·]?)).toArray
  rw [PySem.W.krv_sliceRange, List.filterMap_map]
  rw [fmx_congr (g := (fun x => xs[x]?) ∘ fun k => xs.size - 1 - k) fun m hm => ?_]
  have := List.mem_range.mp hm
  have e : (((xs.size : Int) - 1) + (m : Int) * (-1)).toNat = xs.size - 1 - m := by omega
  rw [e]; rfl
theorem item_back {t sl : Addr} {items : Array Value} {vl vu vs : Value} {Q : Value → Shared → Prop} (ht : IsTup s.heap t items) (hs : s.heap.IsSliceOf sl vl vu vs) (pl : IsPart vl none) (pu : IsPart vu none) (ps : IsPart vs (some (-1)))
    (h : Q (.ref s.heap.objs.size) { s with heap := s.heap.push { cls := .type "tuple", data := .seq items.toList.reverse.toArray } }) (hz : items.size ≤ sizeLine) : wpAny (model prog w) A (getItem (.ref t) (.ref sl)) Q E s := by
  have ok : sizeOk (.seq items.toList.reverse.toArray) := by
    show items.toList.reverse.toArray.size ≤ sizeLine
    rw [List.size_toArray, List.length_reverse, Array.length_toList]
    exact hz
  obtain ⟨os, h1, h2, h3⟩ := id hs
  have isS : s.TypeIs (.ref sl) "slice" := ⟨os, h1, h2⟩
  unfold getItem
  try with_reducible refine wpAny_holding ?_
  first | refine wpAny_bind (wpAny_pure ?_) | skip
  refine wpAny_bind (wpAny_sequenceKey ht.typeIs (by decide) ?_)
  refine wpAny_bind (wpAny_callSpecial?_slot (name := Str.ofString "__getitem__") ht.typeIs PyProof.Rows.slot_tuple_getitem (wpAny_call_entry PyProof.Rows.slot_tuple_getitem ht.typeIs entry_tuple_getitem ?_ (args_tuple_getitem _ _)))
  show wpAny _ _ (Builtin.Tuple.tupleItemsOf (.ref t) >>= _) _ _ s
  refine wpAny_bind (tupleItemsOf_ ht ?_)
  refine wpAny_bind (wpAny_typeOf isS ?_)
  rw [if_pos (by decide)]
  refine wpAny_bind (applied_back hs pl pu ps ?_)
  show wpAny _ _ (if (((items.size : Int) - 1) == 0 && (-1 : Int) == 1 && items.size == items.size) = true then _ else _) _ _ s
  rw [if_neg (by simp), pick_back]
  first
    | exact wpAny_bind (m := Builtin.Tuple.tupleExact _) (wpAny_newObj_type (wpAny_pure ⟨_, rfl, wpAny_pure h⟩) ok)
    | exact wpAny_bind (wpAny_bind (m := Builtin.Tuple.tupleExact _) (wpAny_newObj_type (wpAny_pure (wpAny_pure ⟨_, rfl, wpAny_pure h⟩)) ok))
    | exact wpAny_bind (wpAny_bind (m := Builtin.Tuple.tupleExact _) (wpAny_newObj_type (wpAny_pure ⟨_, rfl, wpAny_pure h⟩) ok))
end
def tRevT (K : PySem.W.Frag) (te : TE) : TE := fun σ H Q => te σ H fun x H1 => ∃ a xs, x = .ref a ∧ SqT K H1 a xs ∧ ∀ p, H1 p = none → Q (.ref p) (upd H1 p (.tup xs.reverse))
section
variable {X : Cx}
theorem pe_revT {e : Expr} {te : TE} {k : Nat} {p1 p2 p3 pos : Pos} (he : PE X e te) : PE X (.Subscript e (.Slice none none (some (.UnaryOp .USub (.Constant (.int 1) k p1) p2)) p3) pos) (tRevT X.K te) := by
  refine ⟨fun pins s σ H Q I h => ?_⟩
  refine Subscript_ (thn (he.run pins s σ H _ I h) fun v s1 ⟨x, H1, I1, r1, a, xs, ex, hx, q⟩ => ?_)
  subst ex
  cases r1
  have hst : PO X (some (.UnaryOp .USub (.Constant (.int 1) k p1) p2)) (tPart (tUn (rU fun i => .int (-i)) (tC (.int 1)))) := po_some (pe_un un_neg pe_int)
  refine wpAny_Slice (thn (po_none.run pins s1 σ H1 (fun o H2 => o = none ∧ H2 = H1) I1 ⟨rfl, rfl⟩) fun vl s2 ⟨l, H2, I2, pl, el, e2⟩ => ?_)
  subst el e2
  refine thn (po_none.run pins s2 σ H2 (fun o H3 => o = none ∧ H3 = H2) I2 ⟨rfl, rfl⟩) fun vu s3 ⟨u, H3, I3, pu, eu, e3⟩ => ?_
  subst eu e3
  refine thn (hst.run pins s3 σ H3 (fun o H4 => o = some (-1) ∧ H4 = H3) I3 ⟨1, rfl, -1, rfl, rfl, rfl⟩) fun vs s4 ⟨o, H4, I4, ps, eo, e4⟩ => ?_
  subst eo e4
  have I5 : Inv X pins σ H4 { s4 with heap := s4.heap.push { cls := .type "slice", data := .fields #[vl, vu, vs] } } := I4.kept (t' := s4.toks) fun b ob q => Heap.get?_push_of_some _ q
  obtain ⟨its, r, ht, hz⟩ := I5.tuple hx
  have hlen := r.length
  show wpAny (model X.prog X.w) X.A (subscriptTail e (.Slice none none (some (.UnaryOp .USub (.Constant (.int 1) k p1) p2)) p3) (.ref a) (.ref s4.heap.objs.size)) (EP X pins σ Q) X.xe _
  refine tail_any (ops := [.ref a, .ref s4.heap.objs.size]) ht.typeIs PyProof.Rows.slot_tuple_getitem.lookup ?_ (by with_unfolding_all rfl)
  refine item_back ht (Heap.IsSliceOf.new _ vl vu vs) pl pu ps ?_ (by rw [List.size_toArray]; omega)
  exact ⟨.ref _, _, I5.laid (t' := s4.toks) (o := .tup xs.reverse) (fun b ob q => Heap.get?_push_of_some _ q) (Nat.le_refl _) ⟨by rw [List.length_reverse]; exact hz, _, r.reverse, IsTup.new _ _⟩, rfl, q _ (I5.hok.fresh (Nat.le_refl _))⟩
end
end CD
/-! lifted readings 22: repr of things with empty dicts, a sequence against an empty one -/
namespace DL
open PySem PySem.Spec PyProof.Rows L2 CD
variable {K : PySem.W.Frag}
mutual
inductive PyE : D → PyData → Prop
  | non : PyE .non .none
  | bl (b : Bool) : PyE (.bl b) (.bool b)
  | int (i : Int) : PyE (.int i) (.int i)
  | str (x : Str) : PyE (.str x) (.str x)
  | emp : PyE (.dk []) (.dict [])
  | list {ds : List D} {ps : List PyData} : PyEL ds ps → PyE (.list ds) (.list ps)
  | tup {ds : List D} {ps : List PyData} : PyEL ds ps → PyE (.tup ds) (.tuple ps)
inductive PyEL : List D → List PyData → Prop
  | nil : PyEL [] []
  | cons {d : D} {ds : List D} {p : PyData} {ps : List PyData} : PyE d p → PyEL ds ps → PyEL (d :: ds) (p :: ps)
end
section
variable {F H : Hp}
mutual
theorem Dd.de (s : Same F H) : ∀ {d : D} {p : PyData}, PyE d p → ∀ {v : V}, Dd K F v d → De K H v p
  | _, _, .non, _, h => by cases h; exact .non
  | _, _, .bl b, _, h => by cases h; exact .bl b
  | _, _, .int i, _, h => by cases h; exact .int i
  | _, _, .str x, _, h => by cases h; exact .str x
  | _, _, .emp, _, h => by
    cases h with
    | dK h g => cases g; exact .emp (s _ _ h)
  | _, _, .list q, _, h => by
    cases h with
    | lst h g => exact .lst (.inl (.inl (s _ _ h))) (DdL.de s q g)
  | _, _, .tup q, _, h => by
    cases h with
    | tup h g => exact .tup (.inl (.inl (s _ _ h))) (DdL.de s q g)
theorem DdL.de (s : Same F H) : ∀ {d : List D} {p : List PyData}, PyEL d p → ∀ {v : List V}, DdL K F v d → DeL K H v p
  | _, _, .nil, _, h => by cases h; exact .nil
  | _, _, .cons q r, _, h => by
    cases h with
    | cons h g => exact .cons (Dd.de s q h) (DdL.de s r g)
end
theorem Cnt.de {v : V} {d : D} {p : PyData} (s : Same F H) (c : Cnt K F H v d) (q : PyE d p) : De K H v p := by
  rcases c with h | ⟨a, rfl, h⟩ | ⟨a, xs, ds, rfl, rfl, h, g⟩
  · exact Dd.de s q h
  · cases h with
    | lst h g =>
      cases q with
      | list q => exact .lst (.inl (.inl h)) (DdL.de s q g)
    | dK h g =>
      cases q
      cases g
      exact .emp h
    | dT _ _ => cases q
    | set _ _ _ _ => cases q
  · cases q with
    | tup q => exact .tup ((same_none H).tup h) (DdL.de (same_none H) q g)
end
structure RepE (p : PyData) : Prop where
  s : p.showable = true
  z : p.shown.length ≤ sizeLine
  p : p.depth ≤ 60
def pReprE : PN := fun ds Q => match ds with
  | [d] => ∃ p, PyE d p ∧ RepE p ∧ Q (.val (.str p.shown))
  | _ => False
theorem lb_reprE : LB K (rReprE K) pReprE := by
  intro F H vs ds R Q s c p h
  unfold pReprE at p
  split at p
  · obtain ⟨v, rfl, k⟩ := cl1 c
    obtain ⟨q, h1, h2, h3⟩ := p
    exact ⟨v, q, rfl, k.de s h1, h2.s, h2.p, h2.z, h _ _ (.val _) (Same.refl _) (Dd.str _) h3⟩
  · exact p.elim
def pNil (neg : Bool) : P2 := fun x y Q => match x, y with
  | .list ds, .list [] => Q (.val (.bl (if neg then !ds.isEmpty else ds.isEmpty)))
  | .tup ds, .tup [] => Q (.val (.bl (if neg then !ds.isEmpty else ds.isEmpty)))
  | _, _ => False
theorem ddL_emp {F : Hp} {xs : List V} {ds : List D} (g : DdL K F xs ds) : xs.isEmpty = ds.isEmpty := by cases g <;> rfl
theorem lr_nil (neg : Bool) : LR K (rNil K neg) (pNil neg) := by
  intro F H x y dx dy R Q s c1 c2 p h
  unfold pNil at p
  split at p
  · obtain ⟨a, xs, rfl, hx, g⟩ := c1.list s
    obtain ⟨b, ys, rfl, hy, g'⟩ := c2.list s
    cases g'
    exact ⟨a, b, xs, rfl, rfl, .inl ⟨.inl (.inl hx), .inl (.inl hy)⟩, by rw [ddL_emp g]; exact h _ _ (.val _) (Same.refl _) (Dd.bl _) p⟩
  · obtain ⟨a, xs, rfl, hx, g⟩ := c1.tup s
    obtain ⟨b, ys, rfl, hy, g'⟩ := c2.tup s
    cases g'
    exact ⟨a, b, xs, rfl, rfl, .inr ⟨hx, hy⟩, by rw [ddL_emp g]; exact h _ _ (.val _) (Same.refl _) (Dd.bl _) p⟩
  · exact p.elim
section
variable {GP : GenP} {B : Hp × Hp × GAt}
/-- t[::-1], t a tuple -/
def uRevT (a : UE) : UE := fun ρ Q => a ρ fun x ρ1 => match ck ρ1 (sf x) with
  | some (.tup ds) => Q (.val (.tup ds.reverse)) ρ1
  | _ => False
theorem le_revT {te : TE} {ue : UE} (he : LE GP K B te ue) : LE GP K B (tRevT K te) (uRevT ue) := by
  intro H0 F0 γ0 _ γ σ H F ρ R Q r z k
  refine he _ _ r z fun H1 F1 γ1 ρ1 v x r1 s1 k1 u1 => ?_
  obtain ⟨F2, r2, s2, k2⟩ := sf_ok r1 k1
  split at u1
  · rename_i ds e
    obtain ⟨p, xs, rfl, hp, gp⟩ := ck_tup r2 k2.one e
    have S := s1.trans s2
    refine ⟨p, xs, rfl, .inl (.inl (r2.sub _ _ hp)), fun l nl => ?_⟩
    obtain ⟨F5, r5, s5, d5⟩ := new_tup r2 nl gp.reverse
    exact k _ _ _ _ _ (.val _) r5 (S.trans s5) d5 u1
  · exact u1.elim
end
theorem op_in_seqK {X : Cx} {K : PySem.W.Frag} (e : X.K = K) : OpR X (compareOp .In) (rIn K false) := by
  subst e
  exact op_in_seq
theorem op_notIn_seqK {X : Cx} {K : PySem.W.Frag} (e : X.K = K) : OpR X (compareOp .NotIn) (rIn K true) := by
  subst e
  exact op_notIn_seq
theorem sl_tupAK {X : Cx} {K : PySem.W.Frag} (e : X.K = K) : SlR X (rSlA K) := by
  subst e
  exact sl_tupA
/-- a promise that is never asked for -/
theorem calG_never {P : Program} {w : World} {mg : Str → Option Value} {base : Heap} {GP : GenP} {x : Str} {st : Stmt} {ps : List Str} {k : Nat} (D : Def K mg x st ps) : CalG P w K mg base k x ps (spL GP K ps.length fun _ _ => False) := by
  obtain ⟨f, fd, F, m, b⟩ := D
  refine ⟨f, fd, ⟨fun vs H Q E h => spL_len h, fun A outer s H args us vs Q E hg hr e0 hb r h => ?_⟩, m, F.kp, b⟩
  obtain ⟨_, _, _, _, _, _, _, _, _, _, _, z, _⟩ := h
  exact z.elim
/-- isinstance between own classes -/
theorem kit_own {K : PySem.W.Frag} {C D : Addr} {b : Bool} (t : PySem.W.typeIn K (.ref C) = some (.type "type")) (hd : PySem.W.hasDictIn K C = true) (s : PySem.W.subIn K (.ref D) (.ref C) = some b) (ss : PySem.W.subIn K (.ref C) (.ref C) = some true) : PySem.W.kitOne K (.ref D) (.ref C) = some b := by
  unfold PySem.W.kitOne
  split
  · rename_i h
    have e := eq_of_beq h
    rw [e, ss] at s
    exact s
  · obtain ⟨cd, hc, _⟩ := PySem.W.any_some hd
    unfold PySem.W.kitCls
    dsimp only
    rw [hc, t, if_pos (by simp)]
    exact s
/-- len(set(l)), l a list of ints -/
def uLenSetL (u : UE) : UE := fun ρ Q => u ρ fun x ρ1 => match cn ρ1 x with
  | some (.list ds) => ∃ ns : List Int, ds = ns.map D.int ∧ ns.length ≤ 1000 ∧ ∀ ms : List Int, ms.Nodup → (∀ j, j ∈ ms ↔ j ∈ ns) → Q (.val (.int (ms.length : Nat))) ρ1
  | _ => False
theorem le_lenSetL {GP : GenP} {B : Hp × Hp × GAt} {t : TE} {u : UE} (h : LE GP K B t u) : LE GP K B (tLenSetGL K t) (uLenSetL u) := by
  intro H0 F0 γ0 _ γ σ H F ρ R Q r z k
  refine h _ _ r z fun H1 F1 γ1 ρ1 v x r1 s1 k1 u1 => ?_
  split at u1
  · rename_i ds e
    obtain ⟨ns, rfl, h2, q⟩ := u1
    obtain ⟨a, xs, rfl, hx, g⟩ := (RVok.cnt r1 k1 e).list r1.sub
    rw [g.ints] at hx
    exact ⟨a, ns, rfl, .inl (.inl hx), h2, fun ms n1 n2 => k _ _ _ _ _ (.val _) r1 s1 (Dd.int _) (q ms n1 n2)⟩
  · exact u1.elim
end DL
/-! tuples of ints by >=; a tuple of at most one thing against (1,) -/
namespace CD
open PySem PySem.Spec PyProof.Rows L2
/-! ### t >= u -/
/-- not less -/
def lexGe (xs ys : List Int) : Bool := !HT.lexLt xs ys
theorem lexGe_cons (x y : Int) (xs ys : List Int) : lexGe (x :: xs) (y :: ys) = if x = y then lexGe xs ys else decide (y ≤ x) := by
  unfold lexGe
  rw [HT.lexLt_cons]
  by_cases h : x = y
  · rw [if_pos h, if_pos h]
  · rw [if_neg h, if_neg h]
    by_cases k : x < y
    · rw [decide_eq_true k, decide_eq_false (by omega)]; rfl
    · rw [decide_eq_false k, decide_eq_true (by omega)]; rfl
section
open PySem.SeqAt
open PySem.AutoSeq1 (wpAny_loadPart')
open PySem.MeetsSeq PySem.MeetsSeq2 PySem.MeetsSeq3
theorem rcGe_int (A : Around) (s : Shared) (a : Int) (t : Tok) (c : Int) (u : Tok) (prog : Program) (w : World) (E : Value → Shared → Prop) (Q : Value → Shared → Prop) (h : Q (.bool (decide (c ≤ a))) s) :
    wpAny (model prog w) A (richCompare .GtE (.int a t) (.int c u)) Q E s :=
  (PyProof.Rows.ge_int h : wpAny (model prog w) A (compareOp .GtE (.int a t) (.int c u)) Q E s)
theorem tuple_ge_ints (l b : Addr) (items items2 : Array Value) (n n2 : Nat) (dd dd2 : Option Addr) (sl sl2 : Array (Option Value)) (ns ms : List Int) (hi : IntsAre items.toList ns) (hj : IntsAre items2.toList ms) :
    Meets (Builtin.«tuple.__ge__» ⟨[.ref l, .ref b], []⟩)
      (fun _ R s => s.heap.get? l = some { cls := .type "tuple", dict := dd, data := .seq items n, slots := sl } ∧ s.heap.get? b = some { cls := .type "tuple", dict := dd2, data := .seq items2 n2, slots := sl2 } ∧
        R (.ok (.ret (.bool (lexGe ns ms)))) s) :=
  .of_wp fun prog w A R s h => by
    obtain ⟨hp, g, d, tk, os⟩ := s; obtain ⟨hl, hb, h⟩ := h
    have f2 := AutoSeq1.sub_tuple_tuple
    have z1 : items.size = ns.length := by rw [← hi.length]; simp
    have z2 : items2.size = ms.length := by rw [← hj.length]; simp
    wp_walk using wpAny_loadPart' hl, wpAny_loadPart' hb, wpAny_forIn_list _ (fun rest b s' => b.1 = none ∧ s' = ⟨hp, g, d, tk, os⟩ ∧ ∃ (vs ws : List Value) (ns' ms' : List Int), rest = vs.zip ws ∧
      IntsAre vs ns' ∧ IntsAre ws ms' ∧ ns'.length + items2.size = ms'.length + items.size ∧ R (.ok (.ret (.bool (lexGe ns' ms')))) ⟨hp, g, d, tk, os⟩) _
    case turn =>
      rintro ⟨y, x⟩ rest b s' ⟨hb', rfl, vs, ws, ns', ms', hz, hvi, hwi, hlen, hR⟩
      cases hvi with
      | nil => rw [List.zip_nil_left] at hz; cases hz
      | cons a t hvi' =>
        cases hwi with
        | nil => rw [List.zip_nil_right] at hz; cases hz
        | cons c u hwi' =>
          rw [List.zip_cons_cons] at hz
          injection hz with hyx hrest
          injection hyx with hy hx
          subst hy hx
          rw [lexGe_cons] at hR
          simp only [List.length_cons] at hlen
          obtain ⟨e, he, hiff⟩ := HT.eqAt_int A.in1 ⟨hp, g, d, tk, os⟩ a t c u
          refine wpAny_bind (he prog w _ _ ?_)
          cases e with
          | true =>
            rw [if_pos (hiff.mp rfl)] at hR
            wp_walk
            exact ⟨rfl, rfl, _, _, _, _, hrest, hvi', hwi', by omega, hR⟩
          | false =>
            rw [if_neg (fun q => absurd (hiff.mpr q) Bool.false_ne_true)] at hR
            have hri := rcGe_int A.in1 ⟨hp, g, d, tk, os⟩ a t c u prog w
            wp_walk using hri
            exact ⟨_, rfl, by simpa using hR⟩
    case fin =>
      rintro ⟨b1, b2⟩ s' ⟨hb', rfl, vs, ws, ns', ms', hz, hvi, hwi, hlen, hR⟩
      simp only at hb'
      subst hb'
      have hv : lexGe ns' ms' = decide (items.size ≥ items2.size) := by
        unfold lexGe
        cases hvi with
        | nil =>
          cases hwi with
          | nil =>
            simp only [List.length_nil] at hlen
            rw [HT.lexLt_nil_nil]
            exact (decide_eq_true (by omega)).symm
          | cons c u hw =>
            simp only [List.length_nil, List.length_cons] at hlen
            rw [HT.lexLt_nil_cons]
            exact (decide_eq_false (by omega)).symm
        | cons a t hv =>
          cases hwi with
          | nil =>
            simp only [List.length_nil, List.length_cons] at hlen
            rw [HT.lexLt_cons_nil]
            exact (decide_eq_true (by omega)).symm
          | cons c u hw =>
            rw [List.zip_cons_cons] at hz
            cases hz
      rw [hv] at hR
      wp_walk
      exact ⟨_, rfl, by simpa [Builtin.Tuple.tupleCompareSizes] using hR⟩
    case h =>
      exact ⟨rfl, rfl, items.toList, items2.toList, ns, ms, rfl, hi, hj, by omega, h⟩
end
section
variable {X : Cx}
def rGeT (K : PySem.W.Frag) : R2 := fun x y H Q => ∃ a b ns ms, x = .ref a ∧ y = .ref b ∧ SqT K H a (ns.map V.int) ∧ SqT K H b (ms.map V.int) ∧ Q (.bl (lexGe ns ms)) H
theorem op_geT (hu : X.A.units < cLine) : OpR X (compareOp .GtE) (rGeT X.K) := by
  intro pins s σ H x y v u Q I rx ry h
  obtain ⟨a, b, ns, ms, rfl, rfl, ha, hb, q⟩ := h
  cases rx
  cases ry
  obtain ⟨its, r1, p1, _⟩ := I.tuple ha
  obtain ⟨its2, r2, p2, _⟩ := I.tuple hb
  have i1 : IntsAre its.toArray.toList ns := intsAre_of r1
  have i2 : IntsAre its2.toArray.toList ms := intsAre_of r2
  obtain ⟨⟨cls, dd, data, sl⟩, ho, hc, n, hd⟩ := id p1
  obtain ⟨⟨cls2, dd2, data2, sl2⟩, ho2, hc2, n2, hd2⟩ := id p2
  simp only at hc hd hc2 hd2
  subst hc hd hc2 hd2
  exact richCompare_meets_room (op := .GtE) ⟨_, ho, rfl⟩ ⟨_, ho2, rfl⟩ PySem.F.slot_tuple_ge PySem.F.entry_tuple_ge (PySem.F.args_tuple_ge_2 _ _) (tuple_ge_ints a b its.toArray its2.toArray n n2 dd dd2 sl sl2 ns ms i1 i2)
    ⟨ho, ho2, show Value.bool (lexGe ns ms) ≠ Value.notImplemented ∧ _ from ⟨(fun x => nomatch x), ⟨.bl (lexGe ns ms), H, I, rfl, q⟩⟩⟩ hu
end
/-! ### t != (1,), t of at most one thing -/
section
open PySem.SeqAt PySem.AutoSeq1
theorem dict_eq_declines_int (l : Addr) (es : Array DictEntry) (n : Nat) (dd : Option Addr) (sl : Array (Option Value)) (b : Int) (u : Tok) :
    Meets (Builtin.«dict.__eq__» ⟨[.ref l, .int b u], []⟩) (fun _ R s => s.heap.get? l = some { cls := .type "dict", dict := dd, data := .dict es n, slots := sl } ∧ R (.ok (.ret .notImplemented)) s) :=
  .of_wp fun prog w A R s h => by
    obtain ⟨hp, g, d, tk, os⟩ := s; obtain ⟨hl, h⟩ := h
    have f1 := PySem.F.sub_int_dict
    wp_walk using wpAny_loadPart' hl
    exact ⟨_, rfl, h⟩
theorem int_eq_declines_dict (b : Int) (u : Tok) (l : Addr) (c : Value) (es : Array DictEntry) (n : Nat) (dd : Option Addr) (sl : Array (Option Value)) :
    Meets (Builtin.«int.__eq__» ⟨[.int b u, .ref l], []⟩) (fun _ R s => s.heap.get? l = some { cls := c, dict := dd, data := .dict es n, slots := sl } ∧ R (.ok (.ret .notImplemented)) s) :=
  .of_wp fun prog w A R s h => by obtain ⟨hp, g, d, tk, os⟩ := s; obtain ⟨hl, h⟩ := h; wp_walk using wpAny_loadPart' hl, wpAny_load hl; exact ⟨_, rfl, h⟩
theorem dict_int {A : Around} {s : Shared} {l : Addr} {o : Obj} {es : Array DictEntry} {n : Nat} (b : Int) (u : Tok) (ho : s.heap.get? l = some o) (hc : o.cls = .type "dict") (hd : o.data = .dict es n) (hu : A.units < cLine) : EqAt A s (.ref l) (.int b u) false := fun prog w E Q h => by
  obtain ⟨cls, dd, data, sl⟩ := o
  simp only at hc hd
  subst hc hd
  unfold eqBool
  refine wpAny_holding ?_
  refine wpAny_ite_split (fun hab => absurd (eq_of_beq hab) nofun) (fun _ => ?_)
  refine wpAny_bind (?_ : wpAny (model prog w) A (richCompare .Eq (.ref l) (.int b u)) _ E s)
  exact rc_eq_decline_or (k := false) ⟨_, ho, rfl⟩ (typeIs_int s b u) (by decide) PySem.F.sub_int_dict PySem.F.slot_dict_eq PySem.F.slot_int_eq_refl
    (fun _ hq => call_meets PySem.F.slot_dict_eq ⟨_, ho, rfl⟩ PySem.F.entry_dict_eq (PySem.F.args_dict_eq_2 _ _) (dict_eq_declines_int l es n dd sl b u) ⟨ho, hq⟩)
    (fun _ hq => call_meets PySem.F.slot_int_eq_refl (typeIs_int s b u) PySem.F.entry_int_eq (PySem.F.args_int_eq_2 _ _) (int_eq_declines_dict b u l (.type "dict") es n dd sl) ⟨ho, hq⟩)
    (fun _ hq => wpAny_of_eq (rfl : isSame (.ref l) (.int b u) = pure false) hq) (.inr hu) (wpAny_truthy_bool h)
/-- is it 1 -/
def isOne : PyData → Bool
  | .bool b => b
  | .int i => i == 1
  | _ => false
theorem De.one {X : Cx} {pins : List (Addr × Obj)} {σ : L2.St} {H : Hp} {s : Shared} {A : Around} (I : Inv X pins σ H s) (hu : A.units < cLine) {v : V} {p : PyData} {u : Value} (d : De X.K H v p) (r : RelV v u) (t : Tok) : EqAt A s u (.int 1 t) (isOne p) := by
  cases d with
  | non => cases r; exact EqAt.none_int 1 t
  | bl b =>
    cases r
    have := EqAt.bool_int (A := A) (s := s) b 1 t
    have e : ((if b then 1 else 0 : Int) == 1) = b := by cases b <;> rfl
    rw [e] at this
    exact this
  | int i => obtain ⟨t', rfl⟩ := r; exact EqAt.int_int i t' 1 t
  | str x => obtain ⟨t', rfl⟩ := r; exact EqAt.str_int x t' 1 t
  | emp e =>
    cases r
    obtain ⟨_, o, n, h1, h2, h3⟩ := emp_at e I.hok
    exact dict_int 1 t h1 h2 h3 hu
  | lst hq _ =>
    cases r
    obtain ⟨its, rv, pl, _⟩ := I.list hq
    exact EqAt.list_int 1 t pl.isList hu
  | tup hq _ =>
    cases r
    obtain ⟨its, rv, pl, _⟩ := I.tuple hq
    exact EqAt.tuple_int 1 t pl hu
/-- t != (1,) -/
def rNe1 (K : PySem.W.Frag) : R2 := fun x y H Q => ∃ (a b : Addr) (xs : List V) (ps : List PyData), x = .ref a ∧ y = .ref b ∧ SqT K H a xs ∧ DeL K H xs ps ∧ ps.length ≤ 1 ∧ SqT K H b [.int 1] ∧ Q (.bl (!ps.any isOne)) H
theorem op_ne1 {X : Cx} (hu : X.A.units + 64 < cLine) : OpR X (compareOp .NotEq) (rNe1 X.K) := by
  intro pins s σ H x y v u Q I rx ry h
  obtain ⟨a, b, xs, ps, rfl, rfl, ha, hp, hl, hb, q⟩ := h
  cases rx
  cases ry
  obtain ⟨its, r1, p1, _⟩ := I.tuple ha
  obtain ⟨its2, r2, p2, _⟩ := I.tuple hb
  cases r2 with
  | cons r2 rn =>
    cases rn
    obtain ⟨t, rfl⟩ := r2
    cases hp with
    | nil =>
      cases r1
      refine RcNeAt.tuples (e := fun _ => true) p1 p2 (by omega) (fun j h1 _ => absurd h1 (Nat.not_lt_zero j)) _ _ _ _ ⟨.bl _, H, I, ?_, q⟩
      rfl
    | @cons v0 vs p ps d0 dl =>
      cases dl with
      | cons _ _ => simp at hl
      | nil =>
        cases r1 with
        | cons r0 rn =>
          cases rn
          refine RcNeAt.tuples (e := fun _ => isOne p) p1 p2 (by omega) (fun j h1 h2 => ?_) _ _ _ _ ⟨.bl _, H, I, ?_, q⟩
          · obtain rfl : j = 0 := by simpa using h1
            exact De.one I (by show X.A.units + 1 < cLine; omega) d0 r0 t
          · have e : ([p].any isOne) = isOne p := by simp
            rw [e]
            generalize isOne p = k
            cases k <;> rfl
end
end CD
/-! lifted readings 23: tuples of ints by their order, in a tuple of such, a sorted set of such; (x,) against (1,) -/
namespace DL
open PySem PySem.Spec PyProof.Rows L2 CD
theorem room65 {k : Nat} {A : Around} (r : Room k A) : A.units + 65 < cLine := by have := r.un; omega
variable {K : PySem.W.Frag}
abbrev tI (ns : List Int) : D := .tup (ns.map D.int)
def pLtT : P2 := fun x y Q => ∃ ns ms, x = tI ns ∧ y = tI ms ∧ Q (.val (.bl (HT.lexLt ns ms)))
theorem lr_ltT : LR K (rLtT K) pLtT := by
  intro F H x y dx dy R Q s c1 c2 p h
  obtain ⟨ns, ms, rfl, rfl, p⟩ := p
  obtain ⟨a, xs, rfl, hx, g⟩ := c1.tup s
  obtain ⟨b, ys, rfl, hy, g'⟩ := c2.tup s
  rw [g.ints] at hx
  rw [g'.ints] at hy
  exact ⟨a, b, ns, ms, rfl, rfl, hx, hy, h _ _ (.val _) (Same.refl _) (Dd.bl _) p⟩
def pGeT : P2 := fun x y Q => ∃ ns ms, x = tI ns ∧ y = tI ms ∧ Q (.val (.bl (lexGe ns ms)))
theorem lr_geT : LR K (rGeT K) pGeT := by
  intro F H x y dx dy R Q s c1 c2 p h
  obtain ⟨ns, ms, rfl, rfl, p⟩ := p
  obtain ⟨a, xs, rfl, hx, g⟩ := c1.tup s
  obtain ⟨b, ys, rfl, hy, g'⟩ := c2.tup s
  rw [g.ints] at hx
  rw [g'.ints] at hy
  exact ⟨a, b, ns, ms, rfl, rfl, hx, hy, h _ _ (.val _) (Same.refl _) (Dd.bl _) p⟩
theorem op_geTK {X : Cx} {K : PySem.W.Frag} (e : X.K = K) (hu : X.A.units < cLine) : OpR X (compareOp .GtE) (rGeT K) := e ▸ op_geT hu
theorem op_ltTK {X : Cx} {K : PySem.W.Frag} (e : X.K = K) (hu : X.A.units < cLine) : OpR X (compareOp .Lt) (rLtT K) := e ▸ op_ltT hu
def pNe1 : P2 := fun x y Q => ∃ ds ps, x = .tup ds ∧ PyEL ds ps ∧ ps.length ≤ 1 ∧ y = .tup [.int 1] ∧ Q (.val (.bl (!ps.any isOne)))
theorem lr_ne1 : LR K (rNe1 K) pNe1 := by
  intro F H x y dx dy R Q s c1 c2 p h
  obtain ⟨ds, ps, rfl, hp, hl, rfl, p⟩ := p
  obtain ⟨a, xs, rfl, hx, g⟩ := c1.tup s
  obtain ⟨b, ys, rfl, hy, g'⟩ := c2.tup s
  obtain rfl := DdL.ints (ns := [1]) g'
  exact ⟨a, b, xs, ps, rfl, rfl, hx, DdL.de s hp g, hl, hy, h _ _ (.val _) (Same.refl _) (Dd.bl _) p⟩
/-- x not in t, data of any depth -/
def rNotInTD (K : PySem.W.Frag) : R2 := fun x y H Q => ∃ d ds, Dp K H x d ∧ Dp K H y (.tuple ds) ∧ SeqAt.shaped d = true ∧ SeqAt.shaped (.tuple ds) = true ∧ Q (.bl (!ds.any fun z => PyData.eqv z d)) H
theorem op_notInTD {X : Cx} (hu : X.A.units + 65 < cLine) : OpR X (compareOp .NotIn) (rNotInTD X.K) := by
  intro pins s σ H x y v u Q I rx ry h
  obtain ⟨d, ds, hd, he, sd, se, q⟩ := h
  obtain ⟨as, r1⟩ := Dp.reads I d x v hd rx
  obtain ⟨bs, r2⟩ := Dp.reads I (.tuple ds) y u he ry
  exact SeqAt.notIn_tuple_reads r2 r1 (SeqAt.canLay_of_shaped se) (SeqAt.canLay_of_shaped sd) (room_in_shaped sd hu) ⟨.bl _, H, I, rfl, q⟩
def pNotInTD : P2 := fun x y Q => ∃ d ds, PyOf x d ∧ PyOf y (.tuple ds) ∧ SeqAt.shaped d = true ∧ SeqAt.shaped (.tuple ds) = true ∧ Q (.val (.bl (!ds.any fun z => PyData.eqv z d)))
theorem lr_notInTD : LR K (rNotInTD K) pNotInTD := by
  intro F H x y dx dy R Q s c1 c2 p h
  obtain ⟨p, q, h1, h2, h3, h4, h5⟩ := p
  exact ⟨p, q, c1.dp s h1, c2.dp s h2, h3, h4, h _ _ (.val _) (Same.refl _) (Dd.bl _) h5⟩
/-! ### sorted(set(l)), l a list of tuples of d ints in [0, B) -/
theorem tups_of {F H : Hp} (s : Same F H) : ∀ {xs : List V} {ts : List (List Int)}, DdL K F xs (ts.map tI) → ∃ ks : List (Addr × List Int), xs = ks.map (fun p => V.ref p.1) ∧ ts = ks.map (·.2) ∧ (∀ p ∈ ks, SqT K H p.1 (p.2.map V.int)) ∧ ∀ p ∈ ks, Dd K F (.ref p.1) (tI p.2)
  | _, [], h => by cases h; exact ⟨[], rfl, rfl, nofun, nofun⟩
  | _, t :: ts, h => by
    cases h with
    | cons h g =>
      obtain ⟨ks, rfl, rfl, h1, h2⟩ := tups_of s g
      cases h with
      | tup e d =>
        rename_i a ys
        have z := d.ints
        subst z
        refine ⟨(a, t) :: ks, rfl, rfl, fun p hp => ?_, fun p hp => ?_⟩
        · rcases List.mem_cons.mp hp with rfl | hp
          · exact .inl (.inl (s _ _ e))
          · exact h1 p hp
        · rcases List.mem_cons.mp hp with rfl | hp
          · exact .tup e (DdL.of_ints _)
          · exact h2 p hp
theorem tups_to {F : Hp} : ∀ (ks : List (Addr × List Int)), (∀ p ∈ ks, Dd K F (.ref p.1) (tI p.2)) → DdL K F (ks.map fun p => V.ref p.1) ((ks.map (·.2)).map tI)
  | [], _ => .nil
  | p :: ks, h => .cons (h p List.mem_cons_self) (tups_to ks fun q hq => h q (List.mem_cons_of_mem _ hq))
def tSortSet (K : PySem.W.Frag) (P : Program) (w : World) (t : TE) : TE := tCB (rSortedT K P w) (tCons (tCB (rSetOfT K P w) (tCons t tNil)) tNil)
def uSortSet (u : UE) : UE := fun ρ Q => u ρ fun x ρ1 => match cn ρ1 x with
  | some (.list ds) => ∃ (d : Nat) (B : Int) (ts : List (List Int)), ds = ts.map tI ∧ 1 ≤ d ∧ ts.length < 64 ∧ (∀ t ∈ ts, t.length = d ∧ TS.Bd B t) ∧
    ∀ ts' : List (List Int), ts'.Nodup → (∀ t, t ∈ ts' ↔ t ∈ ts) → ts'.length < 64 → ts'.Pairwise (fun q r => TS.code B q ≤ TS.code B r) → Q (.fr (.list (ts'.map tI))) ρ1
  | _ => False
variable {GP : GenP} {B : Hp × Hp × GAt} {P : Program} {w : World}
theorem le_sortSet {t : TE} {u : UE} (h : LE GP K B t u) : LE GP K B (tSortSet K P w t) (uSortSet u) := by
  intro H0 F0 γ0 _ γ σ H F ρ R Q r z k
  refine h _ _ r z fun H1 F1 γ1 ρ1 v x r1 s1 k1 u1 => ?_
  split at u1
  · rename_i ds e
    obtain ⟨d, B, ts, rfl, hd, hl, hB, q⟩ := u1
    obtain ⟨a, xs, rfl, hx, g⟩ := (RVok.cnt r1 k1 e).list r1.sub
    obtain ⟨ks, rfl, rfl, hk, hD⟩ := tups_of r1.sub g
    rw [List.length_map] at hl
    refine ⟨a, ks, rfl, .inl (.inl hx), hk, hl, fun b L nb h1 h2 => ?_⟩
    have sb : Same H1 (upd H1 b (SetTO P w b L)) := same_upd nb
    refine ⟨b, L, d, B, rfl, upd_same, fun p hp => sb.tup (hk p (h1 p hp)), hd, fun p hp => hB _ (List.mem_map.mpr ⟨p, h1 p hp, rfl⟩), fun L' p pm nd hf pw np => ?_⟩
    have r2 := r1.same sb
    have mem : ∀ p ∈ L', p ∈ ks := fun p hp => h1 p (pm.mem_iff.mp hp)
    refine k _ _ _ _ _ (.fr _) (r2.same (same_upd np)) s1 (fr_new r2 np (.lst upd_same (tups_to L' fun p hp => hD p (mem p hp)))) (q _ nd (fun t => ⟨fun ht => ?_, fun ht => ?_⟩) (by rw [List.length_map]; exact hf) (List.pairwise_map.mpr pw))
    · obtain ⟨p, hp, rfl⟩ := List.mem_map.mp ht
      exact List.mem_map.mpr ⟨p, mem p hp, rfl⟩
    · obtain ⟨p, hp, rfl⟩ := List.mem_map.mp ht
      obtain ⟨p', hp', e'⟩ := List.mem_map.mp (h2 p hp)
      exact List.mem_map.mpr ⟨p', pm.mem_iff.mpr hp', e'⟩
  · exact u1.elim
end DL
/-! lifted readings 24: l.index(None) -/
namespace DL
open PySem PySem.Spec PyProof.Rows L2 CD
variable {GP : GenP} {K : PySem.W.Frag} {B : Hp × Hp × GAt}
def oVn : Option Int → V
  | none => .non
  | some i => .int i
theorem ddL_opt {F : Hp} : ∀ {os : List (Option Int)} {xs : List V}, DdL K F xs (os.map oD2) → xs = os.map oVn
  | [], _, h => by cases h; rfl
  | none :: r, _, h => by
    cases h with
    | cons h g => cases h; rw [ddL_opt g]; rfl
  | some i :: r, _, h => by
    cases h with
    | cons h g => cases h; rw [ddL_opt g]; rfl
def uIndexN (u v : UE) : UE := fun ρ Q => u ρ fun x ρ1 => ∃ os : List (Option Int), cn ρ1 (sf x) = some (.list (os.map oD2)) ∧ v ρ1 fun y ρ2 => cn ρ2 (sf x) = some (.list (os.map oD2)) ∧ ∃ j : Nat, cn ρ2 y = some .non ∧ os[j]? = some none ∧ (∀ i < j, os[i]? ≠ some none) ∧ Q (.val (.int (j : Nat))) ρ2
theorem le_indexN {to t : TE} {u v : UE} (ho : LE GP K B to u) (ht : LE GP K B t v) : LE GP K B (tBM K "list" (rIndex K) to (tCons t tNil)) (uIndexN u v) := by
  intro H0 F0 γ0 _ γ σ H F ρ R Q r z k
  refine ho _ _ r z fun H1 F1 γ1 ρ1 w x r1 s1 k1 u1 => ?_
  obtain ⟨F2, r2, s2, k2⟩ := sf_ok r1 k1
  obtain ⟨os, e1, u1⟩ := u1
  obtain ⟨a, xs, rfl, hx, g⟩ := (RVok.cnt r2 k2.one e1).list r2.sub
  refine ⟨.inl ⟨rfl, _, .inl (.inl hx)⟩, ?_⟩
  refine ht _ _ r2 u1 fun H3 F3 γ3 ρ3 w y r3 s3 k3 u3 => ?_
  obtain ⟨e2, j, e3, f1, f2, q⟩ := u3
  obtain ⟨b, ys, hb, hy, g2⟩ := (RVok.cnt r3 (k2.same s3).one e2).list r3.sub
  cases hb
  obtain rfl := (RVok.cnt r3 k3 e3).non
  rw [ddL_opt g2] at hy
  refine ⟨a, _, _, j, .non, rfl, rfl, .inl (.inl hy), rfl, ?_, by rw [List.getElem?_map, f1]; rfl, ?_, fun m z' hm hz => ?_, ?_⟩
  · rw [List.all_map]
    exact List.all_eq_true.mpr fun o _ => by cases o <;> rfl
  · rfl
  · rw [List.getElem?_map] at hz
    obtain ⟨i, hi, rfl⟩ := Option.map_eq_some_iff.mp hz
    cases i with
    | none => exact absurd hi (f2 m hm)
    | some i => rfl
  · exact k _ _ _ _ _ (.val _) r3 (s1.trans (s2.trans s3)) (Dd.int _) q
theorem op_repAK {X : Cx} {K : PySem.W.Frag} (h : X.K = K) : OpR X (binaryOp .Mult) (rRepA K) := h ▸ op_repA
end DL
/-! lifted readings 25: math.gcd -/
namespace DL
open PySem PySem.Spec PyProof.Rows L2 CD
variable {GP : GenP} {K : PySem.W.Frag} {B : Hp × Hp × GAt}
def pGcd : PN := fun ds Q => match ds with
  | [.int i, .int j] => Q (.val (.int ((Nat.gcd i.natAbs j.natAbs : Nat) : Int)))
  | _ => False
theorem lb_gcd : LB K rGcd pGcd := by
  intro F H vs ds R Q s c p h
  unfold pGcd at p
  split at p
  · obtain ⟨v, w, rfl, c1, c2⟩ := cl2 c
    exact ⟨_, _, by rw [c1.int, c2.int], h _ _ (.val _) (Same.refl _) (Dd.int _) p⟩
  · exact p.elim
end DL
/-! lifted readings 26: sorted(set(l)), l of ints -/
namespace DL
open PySem PySem.Spec PyProof.Rows L2 CD
variable {GP : GenP} {K : PySem.W.Frag} {B : Hp × Hp × GAt} {w : World}
def tSortSetI (K : PySem.W.Frag) (w : World) (t : TE) : TE := tCB (rSortedSet w) (tCons (tCB (rSetLs K w) (tCons t tNil)) tNil)
def uSortSetI (u : UE) : UE := fun ρ Q => u ρ fun x ρ1 => match cn ρ1 x with
  | some (.list ds) => ∃ ns : List Int, ds = ns.map D.int ∧ ns.length < 64 ∧ ∀ ms : List Int, ms.Pairwise (· < ·) → (∀ j, j ∈ ms ↔ j ∈ ns) → ms.length ≤ ns.length → Q (.fr (.list (ms.map D.int))) ρ1
  | _ => False
theorem le_sortSetI {t : TE} {u : UE} (h : LE GP K B t u) : LE GP K B (tSortSetI K w t) (uSortSetI u) := by
  intro H0 F0 γ0 _ γ σ H F ρ R Q r z k
  refine h _ _ r z fun H1 F1 γ1 ρ1 v x r1 s1 k1 u1 => ?_
  split at u1
  · rename_i ds e
    obtain ⟨ns, rfl, hl, q⟩ := u1
    obtain ⟨a, xs, rfl, hx, g⟩ := (RVok.cnt r1 k1 e).list r1.sub
    rw [g.ints] at hx
    refine ⟨a, ns, rfl, .inl (.inl hx), by omega, fun p c np hc => ?_⟩
    have sb : Same H1 (upd H1 p (SetO w p (fun j => decide (j ∈ ns)) c)) := same_upd np
    refine ⟨p, _, c, rfl, upd_same, by omega, fun ms p2 pw hm el np2 => ?_⟩
    have r2 := r1.same sb
    refine k _ _ _ _ _ (.fr _) (r2.same (same_upd np2)) s1 (fr_new r2 np2 (.lst upd_same (DdL.of_ints ms))) (q ms pw (fun j => (hm j).trans decide_eq_true_iff) (by omega))
  · exact u1.elim
end DL
/-! lifted readings 27: sorted(l, key=lambda y: 0 - y), l of ints -/
namespace DL
open PySem PySem.Spec PyProof.Rows L2 CD LamX
open PySem.W (dataLe AllAlike Sortable EachIs sorted_key_data KeyPure)
/-- the lambda called: 0 - y -/
theorem turn_neg {P : Program} {w : World} {A : Around} {s : Shared} {f co : Addr} {q y : Str} {ps : Arguments} {sc : Scope} {cl : List (Str × Addr)} {doc m ct : Value} {i : Int} {t : Tok} {k : Nat} {p1 p2 p3 : Pos} {Q : Value → Shared → Prop}
    (hroom : A.depth < recursionLimit) (gf : s.heap.get? f = some (lamF q ps (.BinOp (.Constant (.int 0) k p1) .Sub (.Name y p2) p3) sc cl .none doc m co ct))
    (hkind : sc.kind = .function) (hco : sc.isCoroutine = false) (hgen : sc.isGenerator = false) (hcell : ∀ x ∈ sc.names, x.2 ≠ .cell) (hy : sc.names.lookup y = some .local) (hd : (y == ("__debug__" : Str)) = false)
    (hcd : s.heap.CodeRec (.ref co) q) (hb : ∀ v, bindArgs (PySem.W.kdv_fn "<lambda>" q ps (.expr (.BinOp (.Constant (.int 0) k p1) .Sub (.Name y p2) p3)) sc cl .none doc m (.ref co) ct) ⟨[v], []⟩ = pure [(y, v)])
    (nl : s.heap.NoLimit) (h : ∀ h' tk u, (∀ b o, s.heap.get? b = some o → h'.get? b = some o) → Q (.int (0 - i) u) { s with heap := h', toks := tk }) :
    wpAny (model P w) A (call (.ref f) [.int i t]) Q (fun _ _ => False) s := by
  refine wpAny_call ?_
  refine PySem.W.kla_callFunE hroom gf rfl hco hgen rfl hcd ?_
  rw [hb]
  refine wpAny_pure (wpAny_newFunctionEnv hcell (fun z hz => by rw [List.mem_singleton.mp hz]; exact hy) (fun h₁ hns hsb => ⟨nl.fresh _ hsb, ?_⟩) hkind)
  have hk₁ : ∀ b o, s.heap.get? b = some o → h₁.get? b = some o := fun b o e => hsb.extBut b o (Nat.ne_of_lt (Heap.lt_size e)) (Heap.get?_push_of_some _ e)
  refine PySem.W.kla_codeExpr ?_
  refine wpAny_BinOp (wpAny_Constant_int ?_)
  refine wpAny_Name (wpAny_loadName_local (v := .int i t) hkind ?_ hns ?_ ?_) hd
  · exact hy
  · show ([(y, Value.int i t)].reverse).lookup y = some (.int i t)
    simp [List.lookup]
  · exact sub_int (h _ _ _ hk₁)
def tSortNeg (T : List (Addr × Str)) (te : TE) : TE := fun σ H Q => te σ H fun x H1 => Tabs T H1 ∧ ∃ (a : Addr) (ns : List Int), x = V.ref a ∧ H1 a = some (.lst (ns.map V.int)) ∧
  ∀ (H2 : Hp) (ns' : List Int) (p : Addr), ExtT T H1 H2 → Tabs T H2 → ns'.Perm ns → ns'.Pairwise (· ≥ ·) → H2 p = none → Q (.ref p) (upd H2 p (.lst (ns'.map V.int)))
theorem each_ints : ∀ {us : List Value} {ns : List Int}, IntsAre us ns → EachIs (fun (u : Value) (i : Int) => ∃ t, u = .int i t) us ns
  | _, _, .nil => .nil
  | _, _, .cons i t h => .cons ⟨t, rfl⟩ (each_ints h)
theorem ints_each : ∀ {us : List Value} {ns : List Int}, EachIs (fun (u : Value) (i : Int) => ∃ t, u = .int i t) us ns → IntsAre us ns
  | _, _, .nil => .nil
  | _, _, .cons ⟨t, e⟩ h => by subst e; exact .cons _ t (ints_each h)
section
variable {X : Cx}
/-- sorted(e, key=lambda z: 0 - z) -/
theorem pe_sortNeg {T : List (Addr × Str)} {y z : Str} {c P : Addr} {e : Expr} {te : TE} {ps : Arguments} {sc : Scope} {k k0 : Nat} {p kpos lpos pos p1 p2 p3 : Pos} (LT : LamT X.K X.mg X.base T y c P) (hq : lamQ X = y ++ ".<locals>." ++ "<lambda>")
    (he : PE X e te) (hg : Gl X "sorted") (hm : X.mg "sorted" = none) (hco : X.env.code = .ref c) (hr : Room k X.A) (L : LamD [z] X.env.scope sc) (hd : defaultsOf ps X.env = ([], []))
    (bind : ∀ (q : Str) (cl : List (Str × Addr)) (doc m co ct v : Value), bindArgs (PySem.W.kdv_fn "<lambda>" q ps (.expr (.BinOp (.Constant (.int 0) k0 p1) .Sub (.Name z p2) p3)) sc cl .none doc m co ct) ⟨[v], []⟩ = pure [(z, v)])
    (hz : (z == ("__debug__" : Str)) = false := by decide) (hs : backTo pos (starEach [e] X.env) = (false, eval e X.env) :: backTo pos (starEach [] X.env) := by rfl) (hpl : (backTo pos (starEach [e] X.env)).any (·.1) = false := by rfl) :
    PE X (.Call (.Name "sorted" p) [e] [⟨some "key", .Lambda ps (.BinOp (.Constant (.int 0) k0 p1) .Sub (.Name z p2) p3) sc lpos, kpos⟩] pos) (tSortNeg T te) := by
  refine ⟨fun pins s σ H Q I h => ?_⟩
  refine wpAny_Call_Name_kw (ld_blt I hg hm (by rfl) ?_ (by decide) (by decide))
  refine PyProof.Rows.callWith_kw (?_ : wpAny _ _ _ _ _ s) hs hpl (by rfl) (by rfl)
  rw [hs]
  refine Calls.spliced_cons (thn (he.run pins s σ H _ I h) fun u s1 ⟨x, H1, I1, r1, q1⟩ => Calls.spliced_nil ?_)
  obtain ⟨tabs, a, ns, ex, ha, q⟩ := q1
  subst ex
  obtain rfl : u = Value.ref a := r1
  show wpAny _ _ (evalAll [(do let v ← eval (.Lambda ps (.BinOp (.Constant (.int 0) k0 p1) .Sub (.Name z p2) p3) sc lpos) X.env; standAt pos; pure v)]) _ _ s1
  refine wpAny_evalAll_cons (wpAny_bind (lam_made0 I1 LT.tb hco (hq ▸ LT.mem) (hq ▸ LT.only) tabs hd (L.has I1.ok) fun f co doc m ct H2 s2 I2 ex T2 gf nf ff oco => wpAny_bind (wpAny_standAt (wpAny_pure (wpAny_evalAll_nil ?_)))))
  have na : ¬ TbA T a := fun ⟨q', hq'⟩ => by
    obtain ⟨us, e1, _⟩ := tabs _ hq'
    dsimp only at e1
    rw [ha] at e1
    cases e1
  have ha2 : H2 a = some (.lst (ns.map V.int)) := ex _ _ ha na
  obtain ⟨its, rv, hl, hz2⟩ := I2.list (.inl (.inl ha2))
  have hi := rv.ints
  show wpAny _ _ (call (.builtin "sorted") [.ref a] [(Str.ofString "key", .ref f)]) _ _ s2
  refine sorted_key_data (bs := ns) (b := false) (R := fun (u : Value) (i : Int) => ∃ t, u = .int i t) (fun i : Int => PyData.int (0 - i)) hl.isList (each_ints hi) ?_ ?_ (by simpa using hz2) (fun i _ => ?_) (PyProof.Rows.ksk_s1 _ _) (fun _ => PyProof.Rows.ksk_l1 _ _) (fun _ => PyProof.Rows.ksk_t1 _ _) (fun v i hv hin h' tk kp => ?_) fun out c' h' tk kp fresh hlist hlen hout => ?_
  · intro d hd d' hd'
    obtain ⟨i, _, rfl⟩ := List.mem_map.mp hd
    obtain ⟨j, _, rfl⟩ := List.mem_map.mp hd'
    rfl
  · refine .inr fun d hd => ?_
    obtain ⟨i, _, rfl⟩ := List.mem_map.mp hd
    exact ⟨nofun, fun xs => nofun⟩
  · show X.A.units + 2 + 0 < cLine
    have := hr.un
    omega
  · obtain ⟨t, rfl⟩ := hv
    obtain ⟨⟨oc, ws, t2, goc, dc, vc⟩, _, _⟩ := I2.hok co _ oco
    exact turn_neg (k := k0) hr.depth (kp _ _ gf) L.kind L.calm.1 L.calm.2 (fun x hx => (L.own x hx).1) (L.par z (by simp)) hz ⟨co, oc, ws, t2, rfl, kp _ _ goc, dc, vc⟩ (fun v => bind _ _ _ _ _ _ v) (I2.nolimit.keeps kp)
      fun h'' tk' u kp2 => ⟨h'', tk', rfl, kp2, .int _ _⟩
  · have sorted : (ns.mergeSort (dataLe false fun i : Int => PyData.int (0 - i))).Pairwise (· ≥ ·) := by
      rw [PySem.W.dataLe_int]
      refine (List.pairwise_mergeSort (fun a b c h1 h2 => ?_) (fun a b => ?_) ns).imp fun h => ?_
      · simp only [decide_eq_true_eq] at h1 h2 ⊢; omega
      · simp only [Bool.or_eq_true, decide_eq_true_eq]; omega
      · simp only [decide_eq_true_eq] at h; omega
    have perm := List.mergeSort_perm ns (dataLe false fun i : Int => PyData.int (0 - i))
    generalize ns.mergeSort (dataLe false fun i : Int => PyData.int (0 - i)) = ns' at hout sorted perm
    have ho := ints_each hout
    have hz3 : (ns'.map V.int).length ≤ sizeLine := by
      rw [List.length_map, perm.length_eq]
      rw [List.length_map] at hz2
      exact hz2
    exact ⟨.ref _, upd H2 (s2.heap.objs.size + 1) (.lst (ns'.map V.int)), I2.laid (t' := tk) kp (Nat.le_succ _) ⟨hz3, out, c', vals_of_ints ho, hlist⟩, rfl, q H2 ns' _ ex T2 perm sorted (I2.hok.fresh (Nat.le_succ _))⟩
end
end DL
/-! lifted readings 28: sorted(l, key=lambda y: 0 - y), lifted -/
namespace DL
open PySem PySem.Spec PyProof.Rows L2 CD LamX
variable {GP : GenP} {K : PySem.W.Frag} {B : Hp × Hp × GAt}
def uSortNeg (u : UE) : UE := fun ρ Q => u ρ fun x ρ1 => match x with
  | .fr (.list ds) => ∃ ns : List Int, ds = ns.map D.int ∧ ∀ ns' : List Int, ns'.Perm ns → ns'.Pairwise (· ≥ ·) → Q (.fr (.list (ns'.map D.int))) ρ1
  | _ => False
theorem le_sortNeg {t : TE} {u : UE} (h : LE GP K B t u) : LE GP K B (tSortNeg GP.T t) (uSortNeg u) := by
  intro H0 F0 γ0 _ γ σ H F ρ R Q r z k
  refine h _ _ r z fun H1 F1 γ1 ρ1 v x r1 s1 k1 u1 => ?_
  split at u1
  · obtain ⟨ns, rfl, q⟩ := u1
    obtain ⟨a, rfl, o, h1, h2, h3, h4⟩ := k1
    cases o with
    | lst ha g =>
      rw [g.ints] at ha
      refine ⟨r1.tabs, a, ns, rfl, ha, fun H2 ns' p ex T2 pm pw np => ?_⟩
      have r2 := r1.ext ex T2
      exact k _ _ _ _ _ (.fr _) (r2.same (same_upd np)) s1 (fr_new r2 np (.lst upd_same (DdL.of_ints ns'))) (q ns' pm pw)
  · exact u1.elim
end DL
namespace CD
/-! few -/
theorem few_succ (rule : List Int) : ∀ (n : Nat) (st : LState), few rule (n + 1) st = behindP (few rule n st) (calledAt rule (few rule n st).1)
  | 0, _ => rfl
  | n + 1, st => by
    show few rule (n + 1) (behindP st (calledAt rule st.1)) = _
    rw [few_succ rule n]
    rfl
theorem few_add (rule : List Int) : ∀ (a b : Nat) (st : LState), few rule (a + b) st = few rule b (few rule a st)
  | 0, b, st => by rw [Nat.zero_add]; rfl
  | a + 1, b, st => by
    rw [Nat.add_right_comm]
    show few rule (a + b) (behindP st _) = few rule b (few rule a (behindP st _))
    exact few_add rule a b _
theorem behindP_len (st : LState) (t : Option Int) (h : 1 ≤ st.1.length) : (behindP st t).1.length = st.1.length := by
  show (st.1.tail ++ [t]).length = _
  rw [List.length_append, List.length_tail, List.length_singleton]
  omega
theorem few_len (rule : List Int) : ∀ (n : Nat) (st : LState), 1 ≤ st.1.length → (few rule n st).1.length = st.1.length
  | 0, _, _ => rfl
  | n + 1, st, h => by
    show (few rule n (behindP st _)).1.length = _
    rw [few_len rule n _ (by rw [behindP_len st _ h]; exact h), behindP_len st _ h]
/-! later -/
theorem laterW_len (ws : Win) (m : Int) : (laterW ws m).length = ws.length := List.length_map ..
theorem laterW_add (ws : Win) (a b : Int) : laterW (laterW ws a) b = laterW ws (a + b) := by
  unfold laterW
  rw [List.map_map]
  refine List.map_congr_left fun o _ => ?_
  cases o with
  | none => rfl
  | some t => show some (t + a + b) = some (t + (a + b)); rw [Int.add_assoc]
theorem laterW_zero (ws : Win) : laterW ws 0 = ws := by
  unfold laterW
  conv => rhs; rw [← List.map_id ws]
  refine List.map_congr_left fun o _ => ?_
  cases o with
  | none => rfl
  | some t => show some (t + 0) = some t; rw [Int.add_zero]
theorem back_later (ws : Win) (s m : Int) : back (laterW ws m) s = (back ws s).map (· + m) := by
  unfold back
  rw [laterW_len]
  unfold laterW
  rw [List.getD_eq_getElem?_getD, List.getD_eq_getElem?_getD, List.getElem?_map]
  cases ws[ws.length - s.toNat]? <;> rfl
theorem foldmin_add (m : Int) : ∀ (ns : List Int) (n : Int), (ns.map (· + m)).foldl min (n + m) = ns.foldl min n + m
  | [], _ => rfl
  | k :: r, n => by
    rw [List.map_cons, List.foldl_cons, List.foldl_cons, ← foldmin_add m r]
    congr 1
    omega
theorem leastO_add (m : Int) (ns : List Int) : leastO (ns.map (· + m)) = (leastO ns).map (· + m) := by
  cases ns with
  | nil => rfl
  | cons n r => show some ((r.map (· + m)).foldl min (n + m)) = some (r.foldl min n + m); rw [foldmin_add]
theorem calls_later (rule : List Int) (ws : Win) (m : Int) : calls rule (laterW ws m) = (calls rule ws).map (· + m) := by
  unfold calls
  rw [List.map_filterMap]
  congr 1
  funext p
  unfold callAt
  rw [back_later]
  cases back ws p.1 with
  | none => rfl
  | some t => show some (t + m + _) = some (t + _ + m); rw [Int.add_right_comm]
theorem called_later (rule : List Int) (ws : Win) (m : Int) : calledAt rule (laterW ws m) = (calledAt rule ws).map (· + m) := by
  unfold calledAt
  rw [calls_later, leastO_add]
/-! ticks -/
def nextW (rule : List Int) (ws : Win) : Win := ws.tail ++ [calledAt rule ws]
def winN (rule : List Int) : Nat → Win → Win
  | 0, ws => ws
  | n + 1, ws => winN rule n (nextW rule ws)
def ticks (rule : List Int) : Nat → Win → List (Option Int)
  | 0, _ => []
  | n + 1, ws => calledAt rule ws :: ticks rule n (nextW rule ws)
def lastL (l : Int) (ts : List (Option Int)) : Int := ts.foldl (fun l t => lastOf t l) l
theorem few_eq (rule : List Int) : ∀ (n : Nat) (st : LState), few rule n st = (winN rule n st.1, lastL st.2 (ticks rule n st.1))
  | 0, _ => rfl
  | n + 1, st => by
    show few rule n (behindP st (calledAt rule st.1)) = _
    rw [few_eq rule n]
    rfl
theorem nextW_later (rule : List Int) (ws : Win) (m : Int) : nextW rule (laterW ws m) = laterW (nextW rule ws) m := by
  unfold nextW
  rw [called_later]
  unfold laterW
  rw [List.map_append, List.map_tail]
  rfl
theorem winN_later (rule : List Int) (m : Int) : ∀ (n : Nat) (ws : Win), winN rule n (laterW ws m) = laterW (winN rule n ws) m
  | 0, _ => rfl
  | n + 1, ws => by
    show winN rule n (nextW rule (laterW ws m)) = laterW (winN rule n (nextW rule ws)) m
    rw [nextW_later, winN_later rule m n]
theorem ticks_later (rule : List Int) (m : Int) : ∀ (n : Nat) (ws : Win), ticks rule n (laterW ws m) = (ticks rule n ws).map (·.map (· + m))
  | 0, _ => rfl
  | n + 1, ws => by
    show calledAt rule (laterW ws m) :: ticks rule n (nextW rule (laterW ws m)) = _
    rw [called_later, nextW_later, ticks_later rule m n]
    rfl
theorem winN_add (rule : List Int) : ∀ (a b : Nat) (ws : Win), winN rule (a + b) ws = winN rule b (winN rule a ws)
  | 0, b, ws => by rw [Nat.zero_add]; rfl
  | a + 1, b, ws => by
    rw [Nat.add_right_comm]
    exact winN_add rule a b _
theorem ticks_add (rule : List Int) : ∀ (a b : Nat) (ws : Win), ticks rule (a + b) ws = ticks rule a ws ++ ticks rule b (winN rule a ws)
  | 0, b, ws => by rw [Nat.zero_add]; rfl
  | a + 1, b, ws => by
    rw [Nat.add_right_comm]
    show calledAt rule ws :: ticks rule (a + b) (nextW rule ws) = calledAt rule ws :: (ticks rule a (nextW rule ws) ++ _)
    rw [ticks_add rule a b]
    rfl
/-! the greatest -/
theorem lastOf_ge (t : Option Int) (l : Int) : l ≤ lastOf t l := by
  cases t with
  | none => exact Int.le_refl _
  | some t => show l ≤ if l < t then t else l; split <;> omega
theorem lastL_ge : ∀ (ts : List (Option Int)) (l : Int), l ≤ lastL l ts
  | [], _ => Int.le_refl _
  | t :: r, l => Int.le_trans (lastOf_ge t l) (lastL_ge r (lastOf t l))
theorem lastL_mem : ∀ (ts : List (Option Int)) (l x : Int), some x ∈ ts → x ≤ lastL l ts
  | t :: r, l, x, h => by
    rcases List.mem_cons.mp h with e | h
    · subst e
      refine Int.le_trans ?_ (lastL_ge r (lastOf (some x) l))
      show x ≤ if l < x then x else l
      split <;> omega
    · exact lastL_mem r _ x h
theorem lastL_is : ∀ (ts : List (Option Int)) (l : Int), lastL l ts = l ∨ some (lastL l ts) ∈ ts
  | [], _ => .inl rfl
  | t :: r, l => by
    show lastL (lastOf t l) r = l ∨ _
    rcases lastL_is r (lastOf t l) with e | e
    · cases t with
      | none => exact .inl e
      | some x =>
        by_cases h : l < x
        · have e2 : lastOf (some x) l = x := if_pos h
          rw [e2] at e
          refine .inr ?_
          show some (lastL (lastOf (some x) l) r) ∈ _
          rw [e2, e]
          exact List.mem_cons_self
        · have e2 : lastOf (some x) l = l := if_neg h
          rw [e2] at e
          exact .inl (by rw [e2]; exact e)
    · exact .inr (List.mem_cons_of_mem _ e)
theorem lastL_append (a b : List (Option Int)) (l : Int) : lastL l (a ++ b) = lastL (lastL l a) b := List.foldl_append ..
/-- what comes ahead does not matter where something as great comes behind -/
theorem lastL_absorb {a b : List (Option Int)} (l : Int) (h : ∀ x, some x ∈ a → ∃ y, some y ∈ b ∧ x ≤ y) : lastL l (a ++ b) = lastL l b := by
  rw [lastL_append]
  refine Int.le_antisymm ?_ ?_
  · rcases lastL_is b (lastL l a) with e | e
    · rw [e]
      rcases lastL_is a l with e2 | e2
      · rw [e2]; exact lastL_ge b l
      · obtain ⟨y, hy, le⟩ := h _ e2
        exact Int.le_trans le (lastL_mem b l y hy)
    · exact lastL_mem b l _ e
  · rcases lastL_is b l with e | e
    · rw [e]
      exact Int.le_trans (lastL_ge a l) (lastL_ge b _)
    · exact lastL_mem b _ _ e
/-! rounds -/
theorem winN_rounds (rule : List Int) {ws : Win} {z : Nat} {m : Int} (h : winN rule z ws = laterW ws m) : ∀ r : Nat, winN rule (r * z) ws = laterW ws (r * m)
  | 0 => by rw [Nat.zero_mul]; show ws = laterW ws _; rw [show ((0 : Nat) : Int) * m = 0 by simp, laterW_zero]
  | r + 1 => by
    rw [Nat.add_mul, Nat.one_mul, winN_add, winN_rounds rule h r, winN_later, h, laterW_add]
    congr 1
    rw [show ((r + 1 : Nat) : Int) = (r : Int) + 1 by omega, Int.add_mul, Int.one_mul, Int.add_comm]
/-- the ticks of whole rounds are those of the first one, later -/
theorem ticks_rounds (rule : List Int) {ws : Win} {z : Nat} {m : Int} (h : winN rule z ws = laterW ws m) : ∀ (r : Nat) (x : Int), some x ∈ ticks rule (r * z) ws → ∃ (a : Nat) (y : Int), a < r ∧ some y ∈ ticks rule z ws ∧ x = y + a * m
  | 0, x, hx => by rw [Nat.zero_mul] at hx; cases hx
  | r + 1, x, hx => by
    rw [Nat.add_mul, Nat.one_mul, ticks_add, List.mem_append] at hx
    rcases hx with hx | hx
    · obtain ⟨a, y, ha, hy, e⟩ := ticks_rounds rule h r x hx
      exact ⟨a, y, by omega, hy, e⟩
    · rw [winN_rounds rule h r, ticks_later, List.mem_map] at hx
      obtain ⟨o, ho, e⟩ := hx
      cases o with
      | none => cases e
      | some y =>
        have e2 : some (y + r * m) = some x := e
        exact ⟨r, y, by omega, ho, (Option.some.inj e2).symm⟩
/-- THE ROUNDS: whole rounds may be left out -/
theorem few_rounds (rule : List Int) {ws : Win} {z : Nat} {m : Int} (hz : 1 ≤ z) (hm : 0 ≤ m) (h : winN rule z ws = laterW ws m) (L : Nat) (last : Int) :
    few rule L (ws, last) = few rule (L - (L / z - 1) * z) (laterW ws (((L / z - 1 : Nat) : Int) * m), last) := by
  generalize hr : L / z - 1 = r
  by_cases r0 : r = 0
  · subst r0
    rw [Nat.zero_mul, Nat.sub_zero, show ((0 : Nat) : Int) * m = 0 by simp, laterW_zero]
  have hdiv : z * (L / z) ≤ L := Nat.mul_div_le L z
  have hq : L / z = r + 1 := by omega
  have hL : r * z + z ≤ L := by
    have e : z * (r + 1) = r * z + z := by rw [Nat.mul_comm, Nat.add_mul, Nat.one_mul]
    rw [hq, e] at hdiv
    exact hdiv
  generalize hn : L - r * z = n
  have eL : L = r * z + n := by omega
  have hzn : z ≤ n := by omega
  rw [eL, few_eq, few_eq]
  have hw := winN_rounds rule h r
  refine Prod.ext ?_ ?_
  · show winN rule (r * z + n) ws = winN rule n (laterW ws (r * m))
    rw [winN_add, hw]
  · show lastL last (ticks rule (r * z + n) ws) = lastL last (ticks rule n (laterW ws (r * m)))
    rw [ticks_add, hw]
    refine lastL_absorb last fun x hx => ?_
    obtain ⟨a, y, ha, hy, rfl⟩ := ticks_rounds rule h r x hx
    refine ⟨y + r * m, ?_, ?_⟩
    · obtain ⟨k, rfl⟩ : ∃ k, n = z + k := ⟨n - z, by omega⟩
      rw [ticks_later, ticks_add]
      refine List.mem_map.mpr ⟨some y, List.mem_append_left _ hy, rfl⟩
    · have : (a : Int) * m ≤ r * m := Int.mul_le_mul_of_nonneg_right (by omega) hm
      omega
end CD
namespace CD
/-! base and shape -/
theorem told_mem {ws : Win} {t : Int} : t ∈ told ws ↔ some t ∈ ws := by
  unfold told
  rw [List.mem_filterMap]
  exact ⟨fun ⟨o, h, e⟩ => by rw [show o = some t from e] at h; exact h, fun h => ⟨_, h, rfl⟩⟩
theorem foldmin_le : ∀ (ns : List Int) (n : Int), ns.foldl min n ≤ n ∧ (∀ k ∈ ns, ns.foldl min n ≤ k) ∧ (ns.foldl min n = n ∨ ns.foldl min n ∈ ns)
  | [], n => ⟨Int.le_refl _, fun k h => (by cases h), .inl rfl⟩
  | k :: r, n => by
    obtain ⟨h1, h2, h3⟩ := foldmin_le r (min n k)
    rw [List.foldl_cons]
    refine ⟨by omega, fun j hj => ?_, ?_⟩
    · rcases List.mem_cons.mp hj with rfl | hj
      · omega
      · exact h2 j hj
    · rcases h3 with e | e
      · by_cases c : n ≤ k
        · exact .inl (by rw [e]; omega)
        · refine .inr ?_
          rw [e, show min n k = k by omega]
          exact List.mem_cons_self
      · exact .inr (List.mem_cons_of_mem _ e)
theorem leastO_spec {ns : List Int} {m : Int} (h : leastO ns = some m) : m ∈ ns ∧ ∀ k ∈ ns, m ≤ k := by
  cases ns with
  | nil => cases h
  | cons n r =>
    obtain ⟨h1, h2, h3⟩ := foldmin_le r n
    have e : r.foldl min n = m := Option.some.inj h
    rw [e] at h1 h2 h3
    refine ⟨?_, fun k hk => ?_⟩
    · rcases h3 with q | q
      · rw [q]; exact List.mem_cons_self
      · exact List.mem_cons_of_mem _ q
    · rcases List.mem_cons.mp hk with rfl | hk
      · exact h1
      · exact h2 k hk
theorem leastO_none {ns : List Int} (h : leastO ns = none) : ns = [] := by
  cases ns with
  | nil => rfl
  | cons n r => cases h
theorem told_later (ws : Win) (m : Int) : told (laterW ws m) = (told ws).map (· + m) := by
  unfold told laterW
  rw [List.filterMap_map, List.map_filterMap]
  congr 1
theorem base_later {ws : Win} (h : told ws ≠ []) (m : Int) : baseOf (laterW ws m) = baseOf ws + m := by
  unfold baseOf
  rw [told_later, leastO_add]
  cases e : told ws with
  | nil => exact absurd e h
  | cons n r => rfl
theorem later_shape (ws : Win) : laterW (shapeOf ws) (baseOf ws) = ws := by
  unfold shapeOf
  rw [laterW_add, Int.add_left_neg, laterW_zero]
theorem shape_eq {a b : Win} (h : shapeOf a = shapeOf b) : b = laterW a (baseOf b - baseOf a) := by
  have e := later_shape b
  rw [← h] at e
  unfold shapeOf at e
  rw [laterW_add] at e
  rw [← e]
  congr 1
  have q : baseOf (laterW a (-baseOf a + baseOf b)) = baseOf b := by rw [e]
  omega
/-! bounds -/
theorem back_mem {ws : Win} {s t : Int} (h : back ws s = some t) : some t ∈ ws := by
  unfold back at h
  rw [List.getD_eq_getElem?_getD] at h
  cases e : ws[ws.length - s.toNat]? with
  | none => rw [e] at h; cases h
  | some o =>
    rw [e] at h
    have h2 : o = some t := h
    subst h2
    exact List.mem_of_getElem? e
theorem called_bounds {rule : List Int} (hl : rule.length ≤ 4) {ws : Win} {lo hi t : Int} (h : ∀ x ∈ told ws, lo ≤ x ∧ x ≤ hi) (ht : calledAt rule ws = some t) : lo ≤ t ∧ t ≤ hi + 4 := by
  obtain ⟨hm, _⟩ := leastO_spec ht
  unfold calls at hm
  obtain ⟨p, hp, e⟩ := List.mem_filterMap.mp hm
  unfold callAt at e
  cases eb : back ws p.1 with
  | none => rw [eb] at e; cases e
  | some x =>
    rw [eb] at e
    have e2 : x + (p.2 : Int) = t := Option.some.inj e
    obtain ⟨b1, b2⟩ := h x (told_mem.mpr (back_mem eb))
    obtain ⟨i, hi2⟩ := List.mem_iff_getElem?.mp hp
    rw [List.getElem?_zipIdx] at hi2
    cases er : rule[i]? with
    | none => rw [er] at hi2; cases hi2
    | some s =>
      rw [er] at hi2
      have e3 : (s, 1 + i) = p := Option.some.inj hi2
      have hlt := (List.getElem?_eq_some_iff.mp er).1
      have e4 : p.2 = 1 + i := by rw [← e3]
      omega
theorem winN_bounds {rule : List Int} (hl : rule.length ≤ 4) {lo : Int} : ∀ (n : Nat) (ws : Win) (hi : Int), (∀ x ∈ told ws, lo ≤ x ∧ x ≤ hi) → ∀ x ∈ told (winN rule n ws), lo ≤ x ∧ x ≤ hi + 4 * (n : Int)
  | 0, ws, hi, h => fun x hx => by have := h x hx; omega
  | n + 1, ws, hi, h => fun x hx => by
    have step : ∀ y ∈ told (nextW rule ws), lo ≤ y ∧ y ≤ hi + 4 := fun y hy => by
      have hy' := told_mem.mp hy
      unfold nextW at hy'
      rcases List.mem_append.mp hy' with q | q
      · have := h y (told_mem.mpr (List.mem_of_mem_tail q))
        omega
      · exact called_bounds hl h (List.mem_singleton.mp q).symm
    have := winN_bounds hl n (nextW rule ws) (hi + 4) step x hx
    omega
theorem exists_max : ∀ (ns : List Int), ns ≠ [] → ∃ m ∈ ns, ∀ k ∈ ns, k ≤ m
  | [], h => absurd rfl h
  | [n], _ => ⟨n, List.mem_cons_self, fun k hk => by rw [List.mem_singleton.mp hk]; exact Int.le_refl _⟩
  | n :: k :: r, _ => by
    obtain ⟨m, hm, h⟩ := exists_max (k :: r) (by simp)
    by_cases c : n ≤ m
    · exact ⟨m, List.mem_cons_of_mem _ hm, fun j hj => by
        rcases List.mem_cons.mp hj with rfl | hj
        · exact c
        · exact h j hj⟩
    · exact ⟨n, List.mem_cons_self, fun j hj => by
        rcases List.mem_cons.mp hj with rfl | hj
        · exact Int.le_refl _
        · have := h j hj; omega⟩
/-- where a shape comes again, by how much it is later -/
theorem more_bounds {rule : List Int} (hl : rule.length ≤ 4) {ws : Win} {z : Nat} (h : shapeOf ws = shapeOf (winN rule z ws)) :
    winN rule z ws = laterW ws (baseOf (winN rule z ws) - baseOf ws) ∧ 0 ≤ baseOf (winN rule z ws) - baseOf ws ∧ baseOf (winN rule z ws) - baseOf ws ≤ 4 * (z : Int) := by
  have e := shape_eq h
  refine ⟨e, ?_⟩
  generalize hm : baseOf (winN rule z ws) - baseOf ws = m at e
  by_cases hn : told ws = []
  · have : baseOf ws = 0 := by unfold baseOf; rw [hn]; rfl
    have h2 : baseOf (winN rule z ws) = 0 := by
      rw [e]
      unfold baseOf
      rw [told_later, hn]
      rfl
    omega
  · have hb : ∃ b, leastO (told ws) = some b := by
      cases q : told ws with
      | nil => exact absurd q hn
      | cons n r => exact ⟨_, rfl⟩
    obtain ⟨b, hb⟩ := hb
    obtain ⟨b1, b2⟩ := leastO_spec hb
    obtain ⟨x, x1, x2⟩ := exists_max _ hn
    have bd := winN_bounds hl z ws x (lo := b) fun y hy => ⟨b2 y hy, x2 y hy⟩
    rw [e, told_later] at bd
    have c1 := bd (b + m) (List.mem_map.mpr ⟨b, b1, rfl⟩)
    have c2 := bd (x + m) (List.mem_map.mpr ⟨x, x1, rfl⟩)
    omega
/-! the film of all people -/
def backF (fs : List (Option Int)) (s : Int) : Option Int := if s.toNat ≤ fs.length then fs.getD (fs.length - s.toNat) none else none
def callF (fs : List (Option Int)) (p : Int × Nat) : Option Int := (backF fs p.1).map (· + (p.2 : Int))
def nextF (rule gone : List Int) (fs : List (Option Int)) : Option Int := if (fs.length : Int) ∈ gone then none else leastO ((rule.zipIdx 1).filterMap (callF fs))
def film (rule gone : List Int) : Nat → List (Option Int)
  | 0 => [some 0]
  | n + 1 => film rule gone n ++ [nextF rule gone (film rule gone n)]
theorem film_len (rule gone : List Int) : ∀ n, (film rule gone n).length = n + 1
  | 0 => rfl
  | n + 1 => by
    show (film rule gone n ++ [_]).length = _
    rw [List.length_append, film_len rule gone n]
    rfl
def winOf (R : Nat) (fs : List (Option Int)) : Win := (List.replicate R none ++ fs).drop fs.length
theorem winOf_len (R : Nat) (fs : List (Option Int)) : (winOf R fs).length = R := by
  unfold winOf
  rw [List.length_drop, List.length_append, List.length_replicate]
  omega
theorem winOf_snoc {R : Nat} (fs : List (Option Int)) (t : Option Int) (h : 1 ≤ R) : winOf R (fs ++ [t]) = (winOf R fs).tail ++ [t] := by
  unfold winOf
  rw [← List.append_assoc, List.length_append, List.length_singleton, List.drop_append_of_le_length (by rw [List.length_append, List.length_replicate]; omega), List.tail_drop]
theorem back_winOf {R : Nat} {fs : List (Option Int)} {s : Int} (h1 : 1 ≤ s) (h2 : s ≤ R) : back (winOf R fs) s = backF fs s := by
  unfold back backF
  rw [winOf_len, List.getD_eq_getElem?_getD]
  unfold winOf
  rw [List.getElem?_drop]
  by_cases c : s.toNat ≤ fs.length
  · rw [if_pos c, List.getElem?_append_right (by rw [List.length_replicate]; omega), List.length_replicate, List.getD_eq_getElem?_getD]
    congr 2
    omega
  · rw [if_neg c, List.getElem?_append_left (by rw [List.length_replicate]; omega), List.getElem?_replicate]
    split <;> rfl
structure Fits (rule : List Int) (R : Nat) : Prop where
  r1 : 1 ≤ R
  st : ∀ s ∈ rule, 1 ≤ s ∧ s ≤ (R : Int)
theorem filterMap_same {α β : Type} {f g : α → Option β} : ∀ {xs : List α}, (∀ x ∈ xs, f x = g x) → xs.filterMap f = xs.filterMap g
  | [], _ => rfl
  | x :: r, h => by
    rw [List.filterMap_cons, List.filterMap_cons, h x List.mem_cons_self, filterMap_same fun y hy => h y (List.mem_cons_of_mem _ hy)]
theorem called_winOf {rule : List Int} {R : Nat} (F : Fits rule R) (fs : List (Option Int)) : calledAt rule (winOf R fs) = leastO ((rule.zipIdx 1).filterMap (callF fs)) := by
  unfold calledAt calls
  congr 1
  refine filterMap_same fun p hp => ?_
  have hm : p.1 ∈ rule := by
    obtain ⟨i, hi⟩ := List.mem_iff_getElem?.mp hp
    rw [List.getElem?_zipIdx] at hi
    cases er : rule[i]? with
    | none => rw [er] at hi; cases hi
    | some s =>
      rw [er] at hi
      have e3 : (s, 1 + i) = p := Option.some.inj hi
      rw [← e3]
      exact List.mem_of_getElem? er
  unfold callAt callF
  rw [back_winOf (F.st _ hm).1 (F.st _ hm).2]
/-- the state behind the people 0 to n -/
def stF (rule gone : List Int) (R n : Nat) : LState := (winOf R (film rule gone n), lastL 0 (film rule gone n))
theorem stF_succ {rule gone : List Int} {R : Nat} (F : Fits rule R) (n : Nat) : stF rule gone R (n + 1) = behindP (stF rule gone R n) (nextF rule gone (film rule gone n)) := by
  unfold stF behindP
  refine Prod.ext ?_ ?_
  · exact winOf_snoc _ _ F.r1
  · show lastL 0 (film rule gone n ++ [_]) = _
    rw [lastL_append]
    rfl
theorem stF_few {rule gone : List Int} {R : Nat} (F : Fits rule R) (n : Nat) : ∀ k : Nat, (∀ j : Nat, n < j → j ≤ n + k → (j : Int) ∉ gone) → few rule k (stF rule gone R n) = stF rule gone R (n + k)
  | 0, _ => rfl
  | k + 1, h => by
    rw [few_succ, stF_few F n k fun j h1 h2 => h j h1 (by omega), ← Nat.add_assoc, stF_succ F]
    congr 1
    show calledAt rule (winOf R (film rule gone (n + k))) = nextF rule gone (film rule gone (n + k))
    rw [called_winOf F]
    unfold nextF
    rw [if_neg]
    rw [film_len]
    exact h _ (by omega) (by omega)
/-! the walk over those who are missing -/
def behindAll (rule : List Int) : List Int → Int → Int → LState → LState
  | [], person, people, st => few rule (people - person).toNat st
  | g :: gs, person, people, st => if g < people then behindAll rule gs (g + 1) people (behindP (few rule (g - person).toNat st) none) else behindAll rule gs person people st
theorem asc_cons {g : Int} {gs : List Int} (h : ascB (g :: gs) = true) : ascB gs = true ∧ ∀ k ∈ gs, g < k := by
  induction gs generalizing g with
  | nil => exact ⟨rfl, fun k hk => by cases hk⟩
  | cons k r ih =>
    have e : ascB (g :: k :: r) = (decide (g < k) && ascB (k :: r)) := rfl
    rw [e, Bool.and_eq_true, decide_eq_true_eq] at h
    refine ⟨h.2, fun j hj => ?_⟩
    rcases List.mem_cons.mp hj with rfl | hj
    · exact h.1
    · have := (ih h.2).2 j hj
      omega
theorem behindAll_film {rule G : List Int} {R : Nat} (F : Fits rule R) : ∀ (gs : List Int) (p n : Nat), ascB gs = true → (∀ k ∈ gs, (p : Int) < k) → (∀ k : Int, (p : Int) < k → (k ∈ G ↔ k ∈ gs)) → p ≤ n →
    behindAll rule gs ((p : Int) + 1) ((n : Int) + 1) (stF rule G R p) = stF rule G R n
  | [], p, n, _, _, hG, hn => by
    show few rule (((n : Int) + 1) - ((p : Int) + 1)).toNat _ = _
    obtain ⟨k, rfl⟩ : ∃ k, n = p + k := ⟨n - p, by omega⟩
    rw [show (((p + k : Nat) : Int) + 1 - ((p : Int) + 1)).toNat = k by omega]
    refine stF_few F p k fun j h1 h2 hm => ?_
    have := (hG (j : Int) (by omega)).mp hm
    cases this
  | g :: gs, p, n, ha, hp, hG, hn => by
    obtain ⟨a1, a2⟩ := asc_cons ha
    have hg := hp g List.mem_cons_self
    show (if g < (n : Int) + 1 then _ else _) = _
    by_cases c : g < (n : Int) + 1
    · rw [if_pos c]
      obtain ⟨q, hq⟩ : ∃ q : Nat, g = (q : Int) + 1 := ⟨(g - 1).toNat, by omega⟩
      obtain ⟨k, hk⟩ : ∃ k, q = p + k := ⟨q - p, by omega⟩
      have e1 : (g - ((p : Int) + 1)).toNat = k := by omega
      rw [e1, stF_few F p k (fun j h1 h2 hm => by
        have := (hG (j : Int) (by omega)).mp hm
        rcases List.mem_cons.mp this with e | e
        · omega
        · have := a2 _ e; omega), ← hk]
      have e2 : behindP (stF rule G R q) none = stF rule G R (q + 1) := by
        rw [stF_succ F]
        congr 1
        unfold nextF
        rw [film_len, if_pos]
        rw [show ((q + 1 : Nat) : Int) = g by omega]
        exact (hG g hg).mpr List.mem_cons_self
      have e3 : g + 1 = ((q + 1 : Nat) : Int) + 1 := by omega
      rw [e2, e3]
      refine behindAll_film F gs (q + 1) n a1 (fun k hk => by have := a2 k hk; omega) (fun k hk => ?_) (by omega)
      rw [hG k (by omega)]
      exact ⟨fun h => (List.mem_cons.mp h).resolve_left (by omega), List.mem_cons_of_mem _⟩
    · rw [if_neg c]
      -- g and all behind are beyond
      have : ∀ (l : List Int), (∀ k ∈ l, (n : Int) < k) → behindAll rule l ((p : Int) + 1) ((n : Int) + 1) (stF rule G R p) = few rule (n - p) (stF rule G R p) := by
        intro l
        induction l with
        | nil =>
          intro _
          show few rule (((n : Int) + 1) - ((p : Int) + 1)).toNat _ = _
          congr 1
          omega
        | cons x r ih =>
          intro hx
          show (if x < (n : Int) + 1 then _ else _) = _
          have := hx x List.mem_cons_self
          rw [if_neg (by omega)]
          exact ih fun k hk => hx k (List.mem_cons_of_mem _ hk)
      rw [this gs fun k hk => by have := a2 k hk; omega, stF_few F p (n - p) (fun j h1 h2 hm => by
        have := (hG (j : Int) (by omega)).mp hm
        rcases List.mem_cons.mp this with e | e
        · omega
        · have := a2 _ e; omega)]
      congr 1
      omega
def stInit (R : Nat) : LState := (List.replicate (R - 1) none ++ [some 0], 0)
theorem stInit_film {rule gone : List Int} {R : Nat} (h : 1 ≤ R) : stInit R = stF rule gone R 0 := by
  obtain ⟨r, rfl⟩ : ∃ r, R = r + 1 := ⟨R - 1, by omega⟩
  refine Prod.ext ?_ rfl
  show (List.replicate (r + 1 - 1) none ++ [some 0] : Win) = (List.replicate (r + 1) none ++ [some 0] : Win).drop 1
  rw [List.replicate_succ]
  rfl
theorem behindAll_eq {rule gone : List Int} {R : Nat} (F : Fits rule R) (ha : ascB gone = true) (h1 : ∀ k ∈ gone, 1 ≤ k) (n : Nat) : behindAll rule gone 1 ((n : Int) + 1) (stInit R) = stF rule gone R n := by
  rw [stInit_film (rule := rule) (gone := gone) F.r1]
  have := behindAll_film (G := gone) F gone 0 n ha (fun k hk => by have := h1 k hk; omega) (fun k _ => Iff.rfl) (Nat.zero_le _)
  exact this
end CD
namespace CD
/-- what tick_of tells of person n -/
def tickV (rule gone : List Int) (n : Nat) : Option Int := (film rule gone n).getD n none
theorem film_last (rule gone : List Int) (n : Nat) : (film rule gone (n + 1)).getD (n + 1) none = nextF rule gone (film rule gone n) := by
  show (film rule gone n ++ [_]).getD (n + 1) none = _
  rw [List.getD_eq_getElem?_getD, List.getElem?_append_right (by rw [film_len]; omega), film_len, Nat.sub_self]
  rfl
theorem film_pre (rule gone : List Int) : ∀ (k n i : Nat), i ≤ n → (film rule gone (n + k)).getD i none = (film rule gone n).getD i none
  | 0, _, _, _ => rfl
  | k + 1, n, i, h => by
    rw [← Nat.add_assoc]
    show (film rule gone (n + k) ++ [_]).getD i none = _
    rw [List.getD_eq_getElem?_getD, List.getElem?_append_left (by rw [film_len]; omega), ← List.getD_eq_getElem?_getD]
    exact film_pre rule gone k n i h
def maxOf (rule : List Int) : Int := match rule with | [] => 0 | n :: r => r.foldl max n
theorem foldmax_ge : ∀ (ns : List Int) (n : Int), n ≤ ns.foldl max n ∧ (∀ k ∈ ns, k ≤ ns.foldl max n) ∧ (ns.foldl max n = n ∨ ns.foldl max n ∈ ns)
  | [], n => ⟨Int.le_refl _, fun k h => (by cases h), .inl rfl⟩
  | k :: r, n => by
    obtain ⟨h1, h2, h3⟩ := foldmax_ge r (max n k)
    rw [List.foldl_cons]
    refine ⟨by omega, fun j hj => ?_, ?_⟩
    · rcases List.mem_cons.mp hj with rfl | hj
      · omega
      · exact h2 j hj
    · rcases h3 with e | e
      · by_cases c : k ≤ n
        · exact .inl (by rw [e]; omega)
        · refine .inr ?_
          rw [e, show max n k = k by omega]
          exact List.mem_cons_self
      · exact .inr (List.mem_cons_of_mem _ e)
theorem maxOf_ge {rule : List Int} {s : Int} (h : s ∈ rule) : s ≤ maxOf rule := by
  cases rule with
  | nil => cases h
  | cons n r =>
    obtain ⟨h1, h2, _⟩ := foldmax_ge r n
    rcases List.mem_cons.mp h with rfl | h
    · exact h1
    · exact h2 s h
theorem maxOf_mem {rule : List Int} (h : rule ≠ []) : maxOf rule ∈ rule := by
  cases rule with
  | nil => exact absurd rfl h
  | cons n r =>
    obtain ⟨_, _, h3⟩ := foldmax_ge r n
    rcases h3 with e | e
    · show r.foldl max n ∈ _
      rw [e]; exact List.mem_cons_self
    · exact List.mem_cons_of_mem _ e
def R6 (rule : List Int) : Nat := (maxOf rule).toNat
theorem IsRule.r {rule : List Int} (h : IsRule rule) : 1 ≤ maxOf rule ∧ maxOf rule ≤ 6 := by
  have h1 := h.pos
  exact h.step _ (maxOf_mem fun e => by rw [e] at h1; exact absurd h1 (by decide))
theorem IsRule.fits {rule : List Int} (h : IsRule rule) : Fits rule (R6 rule) := by
  have := h.r
  refine ⟨by unfold R6; omega, fun s hs => ?_⟩
  have h1 := h.step s hs
  have h2 := maxOf_ge hs
  unfold R6
  omega
end CD
/-! far people: the shapes of a walk come again. The row of ticks behind a window, as a function. -/
namespace CD
/-- the n-th tick: the window's own ones first, then those of the walk -/
def rowT (rule : List Int) (ws : Win) (n : Nat) : Option Int := if n < ws.length then ws.getD n none else calledAt rule (winN rule (n - ws.length) ws)
theorem nextW_len (rule : List Int) (ws : Win) (h : 1 ≤ ws.length) : (nextW rule ws).length = ws.length := by
  unfold nextW
  rw [List.length_append, List.length_tail]
  show ws.length - 1 + 1 = ws.length
  omega
theorem winN_len (rule : List Int) : ∀ (n : Nat) (ws : Win), 1 ≤ ws.length → (winN rule n ws).length = ws.length
  | 0, _, _ => rfl
  | n + 1, ws, h => by
    show (winN rule n (nextW rule ws)).length = _
    rw [winN_len rule n _ (by rw [nextW_len rule ws h]; exact h), nextW_len rule ws h]
theorem winN_succ (rule : List Int) (n : Nat) (ws : Win) : winN rule (n + 1) ws = nextW rule (winN rule n ws) := by
  rw [winN_add]
  rfl
/-- the window behind n people: the row from n on -/
theorem winN_row (rule : List Int) (ws : Win) (h : 1 ≤ ws.length) : ∀ (n j : Nat), j < ws.length → (winN rule n ws).getD j none = rowT rule ws (n + j)
  | 0, j, hj => by
    unfold rowT
    rw [Nat.zero_add, if_pos hj]
    rfl
  | n + 1, j, hj => by
    have hl := winN_len rule n ws h
    rw [winN_succ]
    unfold nextW
    by_cases c : j + 1 < ws.length
    · have ih := winN_row rule ws h n (j + 1) c
      rw [List.getD_eq_getElem?_getD, List.getElem?_append_left (by rw [List.length_tail, hl]; omega), List.getElem?_tail, ← List.getD_eq_getElem?_getD, ih]
      rw [show n + (j + 1) = n + 1 + j by omega]
    · have e : j = ws.length - 1 := by omega
      subst e
      rw [List.getD_eq_getElem?_getD, List.getElem?_append_right (by rw [List.length_tail, hl]; omega), List.length_tail, hl, Nat.sub_self]
      show calledAt rule (winN rule n ws) = _
      unfold rowT
      rw [if_neg (by omega), show n + 1 + (ws.length - 1) - ws.length = n by omega]
theorem filterMap_congr' {α β : Type} {f g : α → Option β} : ∀ {l : List α}, (∀ a ∈ l, f a = g a) → l.filterMap f = l.filterMap g
  | [], _ => rfl
  | a :: r, h => by rw [List.filterMap_cons, List.filterMap_cons, h a List.mem_cons_self, filterMap_congr' fun b hb => h b (List.mem_cons_of_mem _ hb)]
/-- one of the row, behind the window: the least of the calls -/
theorem row_calls (rule : List Int) (ws : Win) (h : 1 ≤ ws.length) (hs : ∀ s ∈ rule, 1 ≤ s ∧ s ≤ (ws.length : Int)) (n : Nat) :
    rowT rule ws (ws.length + n) = leastO ((rule.zipIdx 1).filterMap fun p => (rowT rule ws (ws.length + n - p.1.toNat)).map (· + (p.2 : Int))) := by
  have e0 : rowT rule ws (ws.length + n) = calledAt rule (winN rule n ws) := by
    unfold rowT
    rw [if_neg (by omega), Nat.add_sub_cancel_left]
  rw [e0]
  unfold calledAt calls
  congr 1
  refine filterMap_congr' fun p hp => ?_
  have hm : p.1 ∈ rule := by
    obtain ⟨j, hj⟩ := List.mem_iff_getElem?.mp hp
    rw [List.getElem?_zipIdx] at hj
    cases en : rule[j]? with
    | none => rw [en] at hj; cases hj
    | some st =>
      rw [en] at hj
      have e2 : (st, 1 + j) = p := Option.some.inj hj
      rw [← e2]
      exact List.mem_of_getElem? en
  obtain ⟨h1, h2⟩ := hs p.1 hm
  unfold callAt back
  rw [winN_len rule n ws h, winN_row rule ws h n _ (by omega), show n + (ws.length - p.1.toNat) = ws.length + n - p.1.toNat by omega]
/-! ### what a row keeps to -/
/-- a row f behind its first R: each one is the least of the calls, steps at most R -/
structure Row (f : Nat → Option Int) (rule : List Int) (R : Nat) : Prop where
  st : ∀ s ∈ rule, 1 ≤ s ∧ s ≤ (R : Int)
  eq : ∀ n, R ≤ n → f n = leastO ((rule.zipIdx 1).filterMap fun p => (f (n - p.1.toNat)).map (· + (p.2 : Int)))
theorem Row.of {rule : List Int} {ws : Win} (h : 1 ≤ ws.length) (hs : ∀ s ∈ rule, 1 ≤ s ∧ s ≤ (ws.length : Int)) : Row (rowT rule ws) rule ws.length :=
  ⟨hs, fun n hn => by
    obtain ⟨k, rfl⟩ : ∃ k, n = ws.length + k := ⟨n - ws.length, by omega⟩
    exact row_calls rule ws h hs k⟩
theorem Row.le {f : Nat → Option Int} {rule : List Int} {R : Nat} (h : Row f rule R) {n : Nat} (hn : R ≤ n) {p : Int × Nat} (hp : p ∈ rule.zipIdx 1) {t : Int} (ht : f (n - p.1.toNat) = some t) : ∃ t', f n = some t' ∧ t' ≤ t + (p.2 : Int) := by
  have hm : t + (p.2 : Int) ∈ (rule.zipIdx 1).filterMap fun p => (f (n - p.1.toNat)).map (· + (p.2 : Int)) := List.mem_filterMap.mpr ⟨p, hp, by rw [ht]; rfl⟩
  cases e : f n with
  | none =>
    rw [h.eq n hn] at e
    rw [leastO_none e] at hm
    cases hm
  | some t' =>
    rw [h.eq n hn] at e
    exact ⟨t', rfl, (leastO_spec e).2 _ hm⟩
theorem Row.by {f : Nat → Option Int} {rule : List Int} {R : Nat} (h : Row f rule R) {n : Nat} (hn : R ≤ n) {t' : Int} (ht : f n = some t') : ∃ p ∈ rule.zipIdx 1, ∃ t, f (n - p.1.toNat) = some t ∧ t' = t + (p.2 : Int) := by
  rw [h.eq n hn] at ht
  obtain ⟨p, hp, e⟩ := List.mem_filterMap.mp (leastO_spec ht).1
  cases et : f (n - p.1.toNat) with
  | none => rw [et] at e; cases e
  | some t =>
    rw [et] at e
    exact ⟨p, hp, t, et, (Option.some.inj e).symm⟩
theorem zip_step {rule : List Int} (hl : rule.length ≤ 4) {p : Int × Nat} (hp : p ∈ rule.zipIdx 1) : p.1 ∈ rule ∧ 1 ≤ p.2 ∧ p.2 ≤ 4 := by
  obtain ⟨j, hj⟩ := List.mem_iff_getElem?.mp hp
  rw [List.getElem?_zipIdx] at hj
  cases en : rule[j]? with
  | none => rw [en] at hj; cases hj
  | some st =>
    rw [en] at hj
    have e2 : (st, 1 + j) = p := Option.some.inj hj
    have hjl : j < rule.length := (List.getElem?_eq_some_iff.mp en).1
    rw [← e2]
    exact ⟨List.mem_of_getElem? en, by omega, by omega⟩
/-- a place and a step of the least fraction -/
theorem best_exists : ∀ l : List (Int × Nat), l ≠ [] → (∀ p ∈ l, 1 ≤ p.1) → ∃ q ∈ l, ∀ p ∈ l, (q.2 : Int) * p.1 ≤ q.1 * (p.2 : Int)
  | [], h, _ => absurd rfl h
  | [a], _, _ => ⟨a, List.mem_cons_self, fun p hp => by rw [List.mem_singleton.mp hp, Int.mul_comm]; exact Int.le_refl _⟩
  | a :: b :: r, _, hpos => by
    obtain ⟨q, hq, hb⟩ := best_exists (b :: r) (List.cons_ne_nil _ _) fun p hp => hpos p (List.mem_cons_of_mem _ hp)
    have ha := hpos a List.mem_cons_self
    have hq1 := hpos q (List.mem_cons_of_mem _ hq)
    by_cases c : (q.2 : Int) * a.1 ≤ q.1 * (a.2 : Int)
    · refine ⟨q, List.mem_cons_of_mem _ hq, fun p hp => ?_⟩
      rcases List.mem_cons.mp hp with rfl | hp
      · exact c
      · exact hb p hp
    · refine ⟨a, List.mem_cons_self, fun p hp => ?_⟩
      rcases List.mem_cons.mp hp with rfl | hp
      · rw [Int.mul_comm]; exact Int.le_refl _
      · have h1 := hb p hp
        have hp1 := hpos p (List.mem_cons_of_mem _ hp)
        have c2 : q.1 * (a.2 : Int) < (q.2 : Int) * a.1 := by omega
        -- a.2 * p.1 ≤ a.1 * p.2
        have m1 : q.1 * (a.2 : Int) * p.1 ≤ (q.2 : Int) * a.1 * p.1 := Int.mul_le_mul_of_nonneg_right (Int.le_of_lt c2) (by omega)
        have m2 : (q.2 : Int) * p.1 * a.1 ≤ q.1 * (p.2 : Int) * a.1 := Int.mul_le_mul_of_nonneg_right h1 (by omega)
        have m3 : q.1 * ((a.2 : Int) * p.1) ≤ q.1 * (a.1 * (p.2 : Int)) := by
          have e1 : q.1 * ((a.2 : Int) * p.1) = q.1 * (a.2 : Int) * p.1 := by rw [Int.mul_assoc]
          have e2 : q.1 * (a.1 * (p.2 : Int)) = q.1 * (p.2 : Int) * a.1 := by rw [Int.mul_assoc, Int.mul_comm a.1]
          have e3 : (q.2 : Int) * a.1 * p.1 = (q.2 : Int) * p.1 * a.1 := by rw [Int.mul_assoc, Int.mul_comm a.1, ← Int.mul_assoc]
          rw [e1, e2]
          omega
        exact Int.le_of_mul_le_mul_left m3 (by omega)
/-! ### sums: S times the tick, less P times the person -/
structure Best (rule : List Int) (S P : Nat) : Prop where
  mem : ((S : Int), P) ∈ rule.zipIdx 1
  s1 : 1 ≤ S
  s6 : S ≤ 6
  p4 : P ≤ 4
  le : ∀ p ∈ rule.zipIdx 1, (P : Int) * p.1 ≤ (S : Int) * (p.2 : Int)
theorem IsRule.best {rule : List Int} (h : IsRule rule) : ∃ S P, Best rule S P := by
  have hne : rule.zipIdx 1 ≠ [] := fun e => by
    have := congrArg List.length e
    rw [List.length_zipIdx] at this
    have h1 := h.pos
    rw [this] at h1
    exact absurd h1 (by decide)
  obtain ⟨q, hq, hb⟩ := best_exists (rule.zipIdx 1) hne fun p hp => (h.step _ (zip_step h.most hp).1).1
  obtain ⟨a1, a2⟩ := h.step _ (zip_step h.most hq).1
  obtain ⟨_, _, a3⟩ := zip_step h.most hq
  obtain ⟨s, p⟩ := q
  obtain ⟨S, rfl⟩ : ∃ S : Nat, s = S := ⟨s.toNat, by omega⟩
  exact ⟨S, p, hq, by omega, by omega, a3, hb⟩
/-- what is told of the sums: all of those up to n lie between L and B less 24 for each one not told of the last S -/
def unt (f : Nat → Option Int) (n : Nat) : Nat → Nat
  | 0 => 0
  | j + 1 => unt f n j + (if f (n + j) = none then 1 else 0)
theorem unt_le (f : Nat → Option Int) (n : Nat) : ∀ j, unt f n j ≤ j
  | 0 => Nat.le_refl _
  | j + 1 => by
    have := unt_le f n j
    unfold unt
    split <;> omega
theorem unt_shift (f : Nat → Option Int) (n : Nat) : ∀ j, unt f (n + 1) j + (if f n = none then 1 else 0) = unt f n (j + 1)
  | 0 => by
    show 0 + _ = 0 + (if f (n + 0) = none then 1 else 0)
    rfl
  | j + 1 => by
    have ih := unt_shift f n j
    show unt f (n + 1) j + (if f (n + 1 + j) = none then 1 else 0) + _ = unt f n (j + 1) + (if f (n + (j + 1)) = none then 1 else 0)
    rw [show n + 1 + j = n + (j + 1) by omega, ← ih]
    omega
section
variable {f : Nat → Option Int} {rule : List Int} {R S P : Nat}
theorem low_stays (W : Row f rule R) (B : Best rule S P) {L : Int} (h : ∀ m, m < R → ∀ t, f m = some t → L ≤ (S : Int) * t - (P : Int) * (m : Int)) : ∀ n t, f n = some t → L ≤ (S : Int) * t - (P : Int) * (n : Int) := by
  intro n
  induction n using Nat.strongRecOn with
  | ind n ih =>
    intro t ht
    by_cases hn : n < R
    · exact h n hn t ht
    · obtain ⟨p, hp, t0, h0, rfl⟩ := W.by (by omega) ht
      have hm : p.1 ∈ rule := by
        obtain ⟨j, hj⟩ := List.mem_iff_getElem?.mp hp
        rw [List.getElem?_zipIdx] at hj
        cases en : rule[j]? with
        | none => rw [en] at hj; cases hj
        | some st =>
          rw [en] at hj
          have e2 : (st, 1 + j) = p := Option.some.inj hj
          rw [← e2]
          exact List.mem_of_getElem? en
      obtain ⟨b1, b2⟩ := W.st _ hm
      have g := ih (n - p.1.toNat) (by omega) t0 h0
      have k := B.le p hp
      have e : ((n - p.1.toNat : Nat) : Int) = (n : Int) - p.1 := by omega
      rw [e, Int.mul_sub] at g
      rw [Int.mul_add]
      omega
theorem best_le (W : Row f rule R) (B : Best rule S P) {n : Nat} (hn : R ≤ n) {t : Int} (ht : f (n - S) = some t) : ∃ t', f n = some t' ∧ t' ≤ t + (P : Int) := W.le hn B.mem (by rw [Int.toNat_natCast]; exact ht)
theorem high_stays (W : Row f rule R) (B : Best rule S P) (hl : rule.length ≤ 4) (hS : S ≤ R) {M : Int} (h : ∀ m, m < R → ∀ t, f m = some t → (S : Int) * t - (P : Int) * (m : Int) ≤ M) :
    ∀ k m t, m < R + k → f m = some t → (S : Int) * t - (P : Int) * (m : Int) + 24 * (unt f (R + k - S) S : Int) ≤ M + 24 * (S : Int) := by
  intro k
  induction k with
  | zero =>
    intro m t hm ht
    have := h m hm t ht
    have := unt_le f (R + 0 - S) S
    omega
  | succ k ih =>
    intro m t hm ht
    have rel := unt_shift f (R + k - S) S
    rw [show R + k - S + 1 = R + (k + 1) - S by omega] at rel
    have u1 : unt f (R + k - S) (S + 1) = unt f (R + k - S) S + (if f (R + k - S + S) = none then 1 else 0) := rfl
    rw [u1, show R + k - S + S = R + k by omega] at rel
    have hp : f (R + k) = none → f (R + k - S) = none := fun e => by
      cases e2 : f (R + k - S) with
      | none => rfl
      | some t0 =>
        obtain ⟨t', e3, _⟩ := best_le W B (by omega) e2
        rw [e] at e3
        cases e3
    by_cases hm2 : m < R + k
    · have g := ih m t hm2 ht
      by_cases c : f (R + k) = none
      · rw [if_pos c, if_pos (hp c)] at rel
        omega
      · rw [if_neg c] at rel
        split at rel <;> omega
    · have e : m = R + k := by omega
      subst e
      have hn0 : ¬ f (R + k) = none := fun z => by rw [ht] at z; cases z
      rw [if_neg hn0] at rel
      cases e2 : f (R + k - S) with
      | some t0 =>
        obtain ⟨t', e3, e4⟩ := best_le W B (by omega) e2
        rw [ht] at e3
        obtain rfl := Option.some.inj e3
        have hn1 : ¬ f (R + k - S) = none := fun z => by rw [e2] at z; cases z
        rw [if_neg hn1] at rel
        have s1 := B.s1
        have g := ih (R + k - S) t0 (by omega) e2
        have m1 : (S : Int) * t ≤ (S : Int) * (t0 + (P : Int)) := Int.mul_le_mul_of_nonneg_left e4 (by omega)
        rw [Int.mul_add] at m1
        have e5 : ((R + k - S : Nat) : Int) = ((R + k : Nat) : Int) - (S : Int) := by omega
        rw [e5, Int.mul_sub, Int.mul_comm (P : Int) (S : Int)] at g
        omega
      | none =>
        rw [if_pos e2] at rel
        obtain ⟨p, hp2, t0, h0, rfl⟩ := W.by (by omega) ht
        obtain ⟨q1, q2, q3⟩ := zip_step hl hp2
        obtain ⟨b1, b2⟩ := W.st _ q1
        have g := ih (R + k - p.1.toNat) t0 (by omega) h0
        have e5 : ((R + k - p.1.toNat : Nat) : Int) = ((R + k : Nat) : Int) - p.1 := by omega
        rw [e5, Int.mul_sub] at g
        rw [Int.mul_add]
        have m2 : (S : Int) * (p.2 : Int) ≤ 24 := by
          have := B.s6
          have a1 : (S : Int) * (p.2 : Int) ≤ 6 * (p.2 : Int) := Int.mul_le_mul_of_nonneg_right (by omega) (by omega)
          omega
        have m3 : 0 ≤ (P : Int) * p.1 := Int.mul_nonneg (by omega) (by omega)
        omega
/-! ### the sum over the last ones never grows -/
def wgt (f : Nat → Option Int) (S P : Nat) (L : Int) (big n : Nat) : Nat := match f n with
  | some t => ((S : Int) * t - (P : Int) * (n : Int) - L).toNat
  | none => big + 1
def sumW (g : Nat → Nat) (n : Nat) : Nat → Nat
  | 0 => 0
  | j + 1 => sumW g n j + g (n + j)
theorem sumW_shift (g : Nat → Nat) (n : Nat) : ∀ j, sumW g (n + 1) j + g n = sumW g n (j + 1)
  | 0 => by
    show 0 + g n = 0 + g (n + 0)
    rfl
  | j + 1 => by
    have ih := sumW_shift g n j
    show sumW g (n + 1) j + g (n + 1 + j) + g n = sumW g n (j + 1) + g (n + (j + 1))
    rw [show n + 1 + j = n + (j + 1) by omega, ← ih]
    omega
theorem sumW_le (g : Nat → Nat) (n b : Nat) : ∀ j, (∀ i, i < j → g (n + i) ≤ b) → sumW g n j ≤ j * b
  | 0, _ => by
    show 0 ≤ 0 * b
    omega
  | j + 1, h => by
    have := sumW_le g n b j fun i hi => h i (by omega)
    have := h j (by omega)
    show sumW g n j + g (n + j) ≤ (j + 1) * b
    rw [Nat.succ_mul]
    omega
theorem stands_still (q : Nat → Nat) (R : Nat) (hq : ∀ n, R ≤ n → q (n + 1) ≤ q n) : ∀ v n, R ≤ n → q n ≤ v → ∃ i, n ≤ i ∧ i ≤ n + R * v ∧ ∀ j, j < R → q (i + j + 1) = q (i + j) := by
  have mono : ∀ (k n : Nat), R ≤ n → q (n + k) ≤ q n := fun k => by
    induction k with
    | zero => exact fun n _ => Nat.le_refl _
    | succ k ih =>
      intro n hn
      have := hq (n + k) (by omega)
      have := ih n hn
      show q (n + k + 1) ≤ q n
      omega
  intro v
  induction v with
  | zero =>
    intro n hn h0
    refine ⟨n, Nat.le_refl _, by omega, fun j _ => ?_⟩
    have a := mono (j + 1) n hn
    have b := mono j n hn
    show q (n + (j + 1)) = _
    omega
  | succ v ih =>
    intro n hn hv
    by_cases c : ∀ j, j < R → q (n + j + 1) = q (n + j)
    · exact ⟨n, Nat.le_refl _, by omega, c⟩
    · have hlt : q (n + R) < q n := by
        refine Classical.byContradiction fun z => c fun j hj => ?_
        have a := mono j n hn
        have b := hq (n + j) (by omega)
        have d := mono (R - (j + 1)) (n + j + 1) (by omega)
        rw [show n + j + 1 + (R - (j + 1)) = n + R by omega] at d
        omega
      obtain ⟨i, i1, i2, i3⟩ := ih (n + R) (by omega) (by omega)
      exact ⟨i, by omega, by rw [Nat.mul_succ]; omega, i3⟩
end
/-! ### the shapes come again -/
theorem told_nil {ws : Win} (h : told ws = []) (m : Int) : laterW ws m = ws := by
  unfold laterW
  have : ∀ o ∈ ws, o.map (· + m) = o := fun o ho => by
    cases o with
    | none => rfl
    | some t => have hm := told_mem.mpr ho; rw [h] at hm; cases hm
  exact (List.map_congr_left this).trans (List.map_id ws)
theorem shape_later (ws : Win) (m : Int) : shapeOf (laterW ws m) = shapeOf ws := by
  by_cases h : told ws = []
  · rw [told_nil h]
  · unfold shapeOf
    rw [base_later h, laterW_add, show m + -(baseOf ws + m) = -(baseOf ws) by omega]
/-- the sums of a window lie within D -/
def Spread (S P : Nat) (ws : Win) (D : Nat) : Prop := ∃ L : Int, ∀ j t, j < ws.length → ws.getD j none = some t → L ≤ (S : Int) * t - (P : Int) * (j : Int) ∧ (S : Int) * t - (P : Int) * (j : Int) ≤ L + (D : Int)
theorem row_bounds {rule : List Int} {ws : Win} {S P D : Nat} (hl : rule.length ≤ 4) (h1 : 1 ≤ ws.length) (hs : ∀ s ∈ rule, 1 ≤ s ∧ s ≤ (ws.length : Int)) (B : Best rule S P) (hS : S ≤ ws.length) {L : Int}
    (hL : ∀ j t, j < ws.length → ws.getD j none = some t → L ≤ (S : Int) * t - (P : Int) * (j : Int) ∧ (S : Int) * t - (P : Int) * (j : Int) ≤ L + (D : Int)) :
    ∀ n t, rowT rule ws n = some t → L ≤ (S : Int) * t - (P : Int) * (n : Int) ∧ (S : Int) * t - (P : Int) * (n : Int) ≤ L + (D : Int) + 144 := by
  have W := Row.of h1 hs
  have e0 : ∀ m, m < ws.length → rowT rule ws m = ws.getD m none := fun m hm => by unfold rowT; rw [if_pos hm]
  intro n t ht
  refine ⟨low_stays W B (fun m hm t0 h0 => (hL m t0 hm (by rw [← e0 m hm]; exact h0)).1) n t ht, ?_⟩
  have g := high_stays W B hl hS (M := L + (D : Int)) (fun m hm t0 h0 => (hL m t0 hm (by rw [← e0 m hm]; exact h0)).2) (n + 1) n t (by omega) ht
  have := B.s6
  omega
theorem shapes_again {rule : List Int} {ws : Win} {S P D : Nat} (hl : rule.length ≤ 4) (h1 : 1 ≤ ws.length) (h6 : ws.length ≤ 6) (hs : ∀ s ∈ rule, 1 ≤ s ∧ s ≤ (ws.length : Int)) (B : Best rule S P) (hS : S ≤ ws.length) (hD : Spread S P ws D) :
    ∃ i j, i < j ∧ j ≤ 36 * (D + 146) + 12 ∧ shapeOf (winN rule i ws) = shapeOf (winN rule j ws) := by
  obtain ⟨L, hL⟩ := hD
  have W := Row.of h1 hs
  have bd := row_bounds hl h1 hs B hS hL
  have s1 := B.s1
  have s6 := B.s6
  generalize hf : rowT rule ws = f at W bd
  have gle : ∀ n, wgt f S P L (D + 144) n ≤ D + 145 := fun n => by
    unfold wgt
    cases e : f n with
    | none => exact Nat.le_refl _
    | some t =>
      have := bd n t e
      show ((S : Int) * t - (P : Int) * (n : Int) - L).toNat ≤ _
      omega
  have gS : ∀ n, ws.length ≤ n + S → wgt f S P L (D + 144) (n + S) ≤ wgt f S P L (D + 144) n := fun n hn => by
    cases e : f n with
    | none =>
      have e1 : wgt f S P L (D + 144) n = D + 145 := by unfold wgt; rw [e]
      rw [e1]
      exact gle _
    | some t =>
      obtain ⟨t', e2, e3⟩ := best_le W B hn (t := t) (by rw [Nat.add_sub_cancel]; exact e)
      unfold wgt
      rw [e, e2]
      show ((S : Int) * t' - (P : Int) * ((n + S : Nat) : Int) - L).toNat ≤ ((S : Int) * t - (P : Int) * (n : Int) - L).toNat
      have m1 : (S : Int) * t' ≤ (S : Int) * (t + (P : Int)) := Int.mul_le_mul_of_nonneg_left e3 (by omega)
      rw [Int.mul_add] at m1
      have e5 : ((n + S : Nat) : Int) = (n : Int) + (S : Int) := by omega
      rw [e5, Int.mul_add, Int.mul_comm (P : Int) (S : Int)]
      omega
  have rel : ∀ n, sumW (wgt f S P L (D + 144)) (n + 1) S + wgt f S P L (D + 144) n = sumW (wgt f S P L (D + 144)) n S + wgt f S P L (D + 144) (n + S) := fun n => sumW_shift _ n S
  obtain ⟨i, i1, i2, i3⟩ := stands_still (fun n => sumW (wgt f S P L (D + 144)) n S) ws.length (fun n hn => by
    have := rel n
    have := gS n (by omega)
    show sumW (wgt f S P L (D + 144)) (n + 1) S ≤ sumW (wgt f S P L (D + 144)) n S
    omega) (6 * (D + 145)) ws.length (Nat.le_refl _) (by
      have := sumW_le (wgt f S P L (D + 144)) ws.length (D + 145) S fun i _ => gle _
      show sumW (wgt f S P L (D + 144)) ws.length S ≤ _
      exact Nat.le_trans this (Nat.mul_le_mul_right _ s6))
  have later : ∀ j, j < ws.length → f (i + j + S) = (f (i + j)).map (· + (P : Int)) := fun j hj => by
    have a := i3 j hj
    have b := rel (i + j)
    have a2 : sumW (wgt f S P L (D + 144)) (i + j + 1) S = sumW (wgt f S P L (D + 144)) (i + j) S := a
    have c : wgt f S P L (D + 144) (i + j + S) = wgt f S P L (D + 144) (i + j) := by omega
    unfold wgt at c
    cases e : f (i + j) with
    | none =>
      rw [e] at c
      cases e2 : f (i + j + S) with
      | none => rfl
      | some t =>
        rw [e2] at c
        have := bd _ t e2
        have c2 : ((S : Int) * t - (P : Int) * ((i + j + S : Nat) : Int) - L).toNat = D + 144 + 1 := c
        omega
    | some t =>
      obtain ⟨t', e2, e3⟩ := best_le W B (n := i + j + S) (by omega) (t := t) (by rw [Nat.add_sub_cancel]; exact e)
      rw [e, e2] at c
      have c2 : ((S : Int) * t' - (P : Int) * ((i + j + S : Nat) : Int) - L).toNat = ((S : Int) * t - (P : Int) * ((i + j : Nat) : Int) - L).toNat := c
      have b1 := bd _ t e
      have b2 := bd _ t' e2
      have e5 : ((i + j + S : Nat) : Int) = ((i + j : Nat) : Int) + (S : Int) := by omega
      rw [e5, Int.mul_add, Int.mul_comm (P : Int) (S : Int)] at c2 b2
      have e6 : (S : Int) * t' = (S : Int) * (t + (P : Int)) := by rw [Int.mul_add]; omega
      have e7 : t' = t + (P : Int) := Int.eq_of_mul_eq_mul_left (by omega) e6
      rw [e2, e7]
      rfl
  refine ⟨i, i + S, by omega, ?_, ?_⟩
  · have : ws.length * (6 * (D + 145)) ≤ 6 * (6 * (D + 145)) := Nat.mul_le_mul_right _ h6
    omega
  · have ew : winN rule (i + S) ws = laterW (winN rule i ws) (P : Int) := by
      have l1 := winN_len rule (i + S) ws h1
      have l2 := winN_len rule i ws h1
      refine List.ext_getElem (by unfold laterW; rw [List.length_map, l1, l2]) fun j a b => ?_
      rw [l1] at a
      have r1 := winN_row rule ws h1 (i + S) j a
      have r2 := winN_row rule ws h1 i j a
      rw [hf, show i + S + j = i + j + S by omega, later j a, ← hf, ← r2] at r1
      rw [List.getD_eq_getElem?_getD, List.getElem?_eq_getElem (by rw [l1]; exact a), Option.getD_some, List.getD_eq_getElem?_getD, List.getElem?_eq_getElem (by rw [l2]; exact a), Option.getD_some] at r1
      have e9 : (laterW (winN rule i ws) (P : Int))[j]'b = ((winN rule i ws)[j]'(by rw [l2]; exact a)).map (· + (P : Int)) := List.getElem_map _
      rw [e9]
      exact r1
    rw [ew, shape_later]
theorem spread_walk {rule : List Int} {ws : Win} {S P D : Nat} (hl : rule.length ≤ 4) (h1 : 1 ≤ ws.length) (hs : ∀ s ∈ rule, 1 ≤ s ∧ s ≤ (ws.length : Int)) (B : Best rule S P) (hS : S ≤ ws.length) (hD : Spread S P ws D) (n : Nat) : Spread S P (winN rule n ws) (D + 144) := by
  obtain ⟨L, hL⟩ := hD
  have bd := row_bounds hl h1 hs B hS hL
  refine ⟨L + (P : Int) * (n : Int), fun j t hj ht => ?_⟩
  rw [winN_len rule n ws h1] at hj
  rw [winN_row rule ws h1 n j hj] at ht
  have := bd _ t ht
  have e : ((n + j : Nat) : Int) = (n : Int) + (j : Int) := by omega
  rw [e, Int.mul_add] at this
  omega
theorem spread_gone {ws : Win} {S P D : Nat} (hD : Spread S P ws D) : Spread S P (ws.tail ++ [none]) D := by
  obtain ⟨L, hL⟩ := hD
  refine ⟨L + (P : Int), fun j t hj ht => ?_⟩
  by_cases c : j < ws.tail.length
  · rw [List.getD_eq_getElem?_getD, List.getElem?_append_left c, List.getElem?_tail, ← List.getD_eq_getElem?_getD] at ht
    rw [List.length_tail] at c
    have := hL (j + 1) t (by omega) ht
    have e : ((j + 1 : Nat) : Int) = (j : Int) + 1 := by omega
    rw [e, Int.mul_add, Int.mul_one] at this
    omega
  · rw [List.getD_eq_getElem?_getD, List.getElem?_append_right (by omega)] at ht
    cases e : j - ws.tail.length with
    | zero => rw [e] at ht; cases ht
    | succ k => rw [e] at ht; cases ht
theorem spread_init (S P R : Nat) : Spread S P (stInit R).1 0 := by
  refine ⟨-((P : Int) * ((R - 1 : Nat) : Int)), fun j t hj ht => ?_⟩
  unfold stInit at ht hj
  dsimp only at ht hj
  by_cases c : j < R - 1
  · rw [List.getD_eq_getElem?_getD, List.getElem?_append_left (by rw [List.length_replicate]; exact c), List.getElem?_replicate, if_pos c] at ht
    cases ht
  · rw [List.length_append, List.length_replicate] at hj
    have hj2 : j < R - 1 + 1 := hj
    have e : j = R - 1 := by omega
    rw [List.getD_eq_getElem?_getD, List.getElem?_append_right (by rw [List.length_replicate]; omega), List.length_replicate, e, Nat.sub_self] at ht
    have e2 : some (0 : Int) = some t := ht
    injection e2 with e2
    subst e2
    rw [e]
    omega
end CD
/-! the mathematics of line rules beside each other: rounds come again within 36 people, where two rules part -/
namespace CD
def six : List Int := [1, 2, 3, 4, 5, 6]
def oneMore (rs : List (List Int)) : List (List Int) := rs.flatMap fun r => (six.filter fun s => decide (s ∉ r)).map fun s => s :: r
def allR : Nat → List (List Int)
  | 0 => [[]]
  | n + 1 => oneMore (allR n)
theorem six_mem {s : Int} (h : 1 ≤ s ∧ s ≤ 6) : s ∈ six := by
  have : s = 1 ∨ s = 2 ∨ s = 3 ∨ s = 4 ∨ s = 5 ∨ s = 6 := by omega
  rcases this with rfl | rfl | rfl | rfl | rfl | rfl <;> decide
theorem allR_mem : ∀ (r : List Int), (∀ s ∈ r, 1 ≤ s ∧ s ≤ 6) → r.Nodup → r ∈ allR r.length
  | [], _, _ => List.mem_singleton.mpr rfl
  | s :: r, h, n => by
    obtain ⟨n1, n2⟩ := List.nodup_cons.mp n
    refine List.mem_flatMap.mpr ⟨r, allR_mem r (fun k hk => h k (List.mem_cons_of_mem _ hk)) n2, List.mem_map.mpr ⟨s, List.mem_filter.mpr ⟨six_mem (h s List.mem_cons_self), decide_eq_true n1⟩, rfl⟩⟩
def win6 : Win := [none, none, none, none, none, some 0]
def againAt (rule : List Int) : Bool :=
  let w := winN rule 30 win6
  let s := shapeOf w
  [1, 2, 3, 4, 5, 6].any fun z => decide (shapeOf (winN rule z w) = s)
theorem again1 : (allR 1).all againAt = true := by decide +kernel
theorem again2 : (allR 2).all againAt = true := by decide +kernel
theorem again3 : (allR 3).all againAt = true := by decide +kernel
theorem again4 : (allR 4).all againAt = true := by decide +kernel
theorem again_six {rule : List Int} (h : IsRule rule) : ∃ z m, 1 ≤ z ∧ z ≤ 6 ∧ winN rule (30 + z) win6 = laterW (winN rule 30 win6) m := by
  have hm := allR_mem rule h.step h.nodup
  have hp := h.pos
  have hq := h.most
  have c : againAt rule = true := by
    have : rule.length = 1 ∨ rule.length = 2 ∨ rule.length = 3 ∨ rule.length = 4 := by omega
    rcases this with e | e | e | e <;> rw [e] at hm
    · exact List.all_eq_true.mp again1 _ hm
    · exact List.all_eq_true.mp again2 _ hm
    · exact List.all_eq_true.mp again3 _ hm
    · exact List.all_eq_true.mp again4 _ hm
  obtain ⟨z, hz, e⟩ := List.any_eq_true.mp c
  have e := of_decide_eq_true e
  refine ⟨z, _, ?_, ?_, by rw [winN_add]; exact shape_eq e.symm⟩
  all_goals
    simp only [List.mem_cons, List.not_mem_nil, or_false] at hz
    omega
/-- the last ones alone -/
theorem back_drop {ws : Win} {d : Nat} {s : Int} (h1 : 1 ≤ s) (h2 : s ≤ (ws.length : Int) - d) : back (ws.drop d) s = back ws s := by
  unfold back
  rw [List.length_drop, List.getD_eq_getElem?_getD, List.getD_eq_getElem?_getD, List.getElem?_drop]
  congr 2
  omega
theorem called_drop {rule : List Int} {ws : Win} {d : Nat} (h : ∀ s ∈ rule, 1 ≤ s ∧ s ≤ (ws.length : Int) - d) : calledAt rule (ws.drop d) = calledAt rule ws := by
  unfold calledAt calls
  congr 1
  refine filterMap_same fun p hp => ?_
  unfold callAt
  have hs : p.1 ∈ rule := by
    obtain ⟨i, hi⟩ := List.mem_iff_getElem?.mp hp
    rw [List.getElem?_zipIdx] at hi
    cases q : rule[i]? with
    | none => rw [q] at hi; cases hi
    | some v =>
      rw [q] at hi
      cases hi
      exact List.mem_of_getElem? q
  rw [back_drop (h _ hs).1 (h _ hs).2]
theorem winN_drop {rule : List Int} {d : Nat} : ∀ (n : Nat) (ws : Win), (∀ s ∈ rule, 1 ≤ s ∧ s ≤ (ws.length : Int) - d) → d < ws.length → winN rule n (ws.drop d) = (winN rule n ws).drop d
  | 0, _, _, _ => rfl
  | n + 1, ws, h, hd => by
    have e : nextW rule (ws.drop d) = (nextW rule ws).drop d := by
      unfold nextW
      rw [called_drop h, List.drop_append_of_le_length (by rw [List.length_tail]; omega), ← List.drop_one, ← List.drop_one, List.drop_drop, List.drop_drop, Nat.add_comm]
    have l : (nextW rule ws).length = ws.length := nextW_len rule ws (by omega)
    show winN rule n (nextW rule (ws.drop d)) = (winN rule n (nextW rule ws)).drop d
    rw [e]
    exact winN_drop n _ (by rw [l]; exact h) (by rw [l]; exact hd)
theorem init_drop {R : Nat} (h1 : 1 ≤ R) (h6 : R ≤ 6) : (stInit R).1 = win6.drop (6 - R) := by
  have : R = 1 ∨ R = 2 ∨ R = 3 ∨ R = 4 ∨ R = 5 ∨ R = 6 := by omega
  rcases this with rfl | rfl | rfl | rfl | rfl | rfl <;> rfl
theorem again {rule : List Int} (h : IsRule rule) {R : Nat} (hr : ∀ s ∈ rule, s ≤ (R : Int)) (h6 : R ≤ 6) : ∃ z m, 1 ≤ z ∧ z ≤ 6 ∧ winN rule (30 + z) (stInit R).1 = laterW (winN rule 30 (stInit R).1) m := by
  have h1 : 1 ≤ R := by
    obtain ⟨s, hs⟩ := List.exists_mem_of_length_pos h.pos
    have := h.step s hs
    have := hr s hs
    omega
  obtain ⟨z, m, z1, z6, e⟩ := again_six h
  have ok : ∀ s ∈ rule, 1 ≤ s ∧ s ≤ (win6.length : Int) - (6 - R : Nat) := fun s hs => ⟨(h.step s hs).1, by
    have := hr s hs
    show s ≤ ((6 : Nat) : Int) - _
    omega⟩
  have lt : 6 - R < win6.length := by show 6 - R < 6; omega
  refine ⟨z, m, z1, z6, ?_⟩
  rw [init_drop h1 h6, winN_drop _ _ ok lt, winN_drop _ _ ok lt, e]
  exact (List.map_drop ..).symm
def Parts (ns ms : List Int) (R k : Nat) : Prop := calledAt ns (winN ns k (stInit R).1) ≠ calledAt ms (winN ns k (stInit R).1)
theorem never_part {ns ms : List Int} {W : Win} {i z : Nat} {m : Int} (hz : 1 ≤ z) (e : winN ns (i + z) W = laterW (winN ns i W) m) (h : ∀ k, k < i + z → calledAt ns (winN ns k W) = calledAt ms (winN ns k W)) :
    ∀ k, calledAt ns (winN ns k W) = calledAt ms (winN ns k W) := by
  intro k
  induction k using Nat.strongRecOn with
  | ind k ih =>
    by_cases c : k < i + z
    · exact h k c
    · obtain ⟨j, rfl⟩ : ∃ j, k = i + z + j := ⟨k - (i + z), by omega⟩
      have e2 : winN ns (i + z + j) W = laterW (winN ns (i + j) W) m := by
        rw [winN_add ns (i + z), e, winN_later, ← winN_add]
      have q := ih (i + j) (by omega)
      rw [e2, called_later, called_later, q]
theorem win_film {ns : List Int} {R : Nat} (F : Fits ns R) (h1 : 1 ≤ R) (k : Nat) : winN ns k (stInit R).1 = winOf R (film ns [] k) := by
  have e := stF_few (gone := []) F 0 k (fun _ _ _ => nofun)
  rw [few_eq, ← stInit_film h1, Nat.zero_add] at e
  exact congrArg Prod.fst e
theorem film_next (ns : List Int) (k : Nat) : film ns [] (k + 1) = film ns [] k ++ [nextF ns [] (film ns [] k)] := rfl
theorem next_called {ns : List Int} {R : Nat} (F : Fits ns R) (fs : List (Option Int)) : nextF ns [] fs = calledAt ns (winOf R fs) := by
  unfold nextF
  rw [if_neg (nofun), called_winOf F]
theorem film_same {ns ms : List Int} {R : Nat} (F : Fits ns R) (G : Fits ms R) (h1 : 1 ≤ R) : ∀ {i : Nat}, (∀ k, k < i → ¬ Parts ns ms R k) → film ns [] i = film ms [] i
  | 0, _ => rfl
  | i + 1, h => by
    have e := film_same F G h1 (i := i) fun k hk => h k (by omega)
    have p := Classical.byContradiction (h i (by omega))
    rw [win_film F h1] at p
    rw [film_next, film_next, next_called F, next_called G, p, ← e]
theorem parts_film {ns ms : List Int} {R : Nat} (F : Fits ns R) (G : Fits ms R) (h1 : 1 ≤ R) {i : Nat} (h : ∀ k, k < i → ¬ Parts ns ms R k) : Parts ns ms R i ↔ nextF ns [] (film ns [] i) ≠ nextF ms [] (film ms [] i) := by
  unfold Parts
  rw [win_film F h1, next_called F, next_called G, ← film_same F G h1 h]
/-- where the films part -/
theorem film_getD (ns : List Int) {k n : Nat} (h : k ≤ n) : (film ns [] n).getD k none = tickV ns [] k := by
  obtain ⟨d, rfl⟩ : ∃ d, n = k + d := ⟨n - k, by omega⟩
  exact film_pre ns [] d k k (Nat.le_refl _)
theorem tick_succ (ns : List Int) (k : Nat) : tickV ns [] (k + 1) = nextF ns [] (film ns [] k) := film_last ns [] k
theorem part_first {ns ms : List Int} {R : Nat} (F : Fits ns R) (G : Fits ms R) (h1 : 1 ≤ R) {i : Nat} (hp : Parts ns ms R i) (h : ∀ k, k < i → ¬ Parts ns ms R k) : tickV ns [] (i + 1) ≠ tickV ms [] (i + 1) ∧ ∀ k, k ≤ i → tickV ns [] k = tickV ms [] k := by
  refine ⟨?_, fun k hk => ?_⟩
  · rw [tick_succ, tick_succ]
    exact (parts_film F G h1 h).mp hp
  · rw [← film_getD ns hk, ← film_getD ms hk, film_same F G h1 h]
theorem part_never {ns ms : List Int} {R : Nat} (F : Fits ns R) (G : Fits ms R) (h1 : 1 ≤ R) (h : ∀ k, ¬ Parts ns ms R k) (k : Nat) : tickV ns [] k = tickV ms [] k := by
  rw [← film_getD ns (Nat.le_refl k), ← film_getD ms (Nat.le_refl k), film_same F G h1 fun j _ => h j]
end CD
/-! sets of any size, 1: the round of i -> 5 i + 1 below any power of two; the table -/
namespace CS
open PySem PySem.Spec PyProof.Rows L2
/-- 1 + 5 + .. + 5^(k-1) -/
def fs : Nat → Nat
  | 0 => 0
  | k + 1 => 5 * fs k + 1
theorem fs_add (a : Nat) : ∀ b, fs (a + b) = fs b + fs a * (4 * fs b + 1)
  | 0 => by simp [fs]
  | b + 1 => by
    show 5 * fs (a + b) + 1 = (5 * fs b + 1) + fs a * (4 * (5 * fs b + 1) + 1)
    rw [fs_add a b]
    have e : fs a * (4 * (5 * fs b + 1) + 1) = 5 * (fs a * (4 * fs b + 1)) := by
      rw [show 4 * (5 * fs b + 1) + 1 = 5 * (4 * fs b + 1) by omega, ← Nat.mul_assoc, Nat.mul_comm (fs a) 5, Nat.mul_assoc]
    omega
theorem odd_mul (a b : Nat) : ∃ c, (2 * a + 1) * (2 * b + 1) = 2 * c + 1 := ⟨2 * (a * b) + a + b, by
  rw [Nat.add_mul, Nat.mul_add, Nat.one_mul, Nat.mul_one, Nat.mul_assoc 2 a (2 * b), Nat.mul_left_comm a 2 b]; omega⟩
theorem fs_pow : ∀ n, ∃ u, fs (2 ^ n) = 2 ^ n * (2 * u + 1)
  | 0 => ⟨0, rfl⟩
  | n + 1 => by
    obtain ⟨u, e⟩ := fs_pow n
    have h : fs (2 ^ (n + 1)) = fs (2 ^ n) * (2 * (2 * fs (2 ^ n) + 1)) := by
      rw [show 2 ^ (n + 1) = 2 ^ n + 2 ^ n by rw [Nat.pow_succ]; omega, fs_add]
      have : fs (2 ^ n) * (2 * (2 * fs (2 ^ n) + 1)) = fs (2 ^ n) * (4 * fs (2 ^ n) + 1) + fs (2 ^ n) := by
        rw [show 2 * (2 * fs (2 ^ n) + 1) = (4 * fs (2 ^ n) + 1) + 1 by omega, Nat.mul_add, Nat.mul_one]
      omega
    obtain ⟨c, ec⟩ := odd_mul u (fs (2 ^ n))
    refine ⟨c, ?_⟩
    rw [h, ← ec]
    generalize fs (2 ^ n) = z at e ⊢
    rw [e, Nat.pow_succ, ← e]
    rw [e, Nat.mul_assoc, Nat.mul_assoc, Nat.mul_left_comm (2 * u + 1) 2]
/-- where one is k steps behind i, before the mask -/
def fi (i k : Nat) : Nat := i + fs k * (4 * i + 1)
theorem fi_up (i b n : Nat) : ∃ w, fi i (b + 2 ^ n) = fi i b + 2 ^ n * (2 * w + 1) := by
  obtain ⟨u, e⟩ := fs_pow n
  obtain ⟨c, ec⟩ := odd_mul u (2 * fs b)
  obtain ⟨d, ed⟩ := odd_mul c (2 * i)
  refine ⟨d, ?_⟩
  unfold fi
  rw [Nat.add_comm b, fs_add, e, Nat.add_mul, ← Nat.add_assoc, ← ed, ← ec, Nat.mul_assoc (2 ^ n), Nat.mul_assoc (2 ^ n)]
  rw [show 2 * (2 * fs b) + 1 = 4 * fs b + 1 by omega, show 2 * (2 * i) + 1 = 4 * i + 1 by omega]
theorem fi_hit (i : Nat) : ∀ n j, ∃ b, b < 2 ^ n ∧ fi i b % 2 ^ n = j % 2 ^ n
  | 0, j => ⟨0, by decide, by simp [Nat.mod_one]⟩
  | n + 1, j => by
    obtain ⟨b, hb, e⟩ := fi_hit i n j
    obtain ⟨w, ew⟩ := fi_up i b n
    have hp : 0 < 2 ^ n := Nat.pow_pos (by decide)
    rw [Nat.pow_succ]
    generalize 2 ^ n = P at *
    have a1 := Nat.mod_add_div (fi i b) P
    have a2 := Nat.mod_add_div j P
    have hr : fi i b % P < P := Nat.mod_lt _ hp
    have half : ∀ q, (P * 2) * (q / 2) + P * (q % 2) = P * q := fun q => by
      rw [Nat.mul_assoc, ← Nat.mul_add]; congr 1; omega
    have low : ∀ q r, (r + P * q) % (P * 2) = (P * (q % 2) + r) % (P * 2) := fun q r => by
      rw [show r + P * q = (P * 2) * (q / 2) + (P * (q % 2) + r) by have := half q; omega, Nat.mul_add_mod]
    have c1 : fi i b % (P * 2) = (P * (fi i b / P % 2) + fi i b % P) % (P * 2) := by rw [← low, a1]
    have c2 : j % (P * 2) = (P * (j / P % 2) + j % P) % (P * 2) := by rw [← low, a2]
    have c3 : fi i (b + P) % (P * 2) = (P * ((fi i b / P + (2 * w + 1)) % 2) + fi i b % P) % (P * 2) := by
      rw [← low, ew, Nat.mul_add P (fi i b / P)]; congr 1; omega
    by_cases z : fi i b / P % 2 = j / P % 2
    · exact ⟨b, by omega, by rw [c1, c2, z, e]⟩
    · exact ⟨b + P, by omega, by rw [c3, c2, show (fi i b / P + (2 * w + 1)) % 2 = j / P % 2 by omega, e]⟩
/-- the masks: a power of two less one -/
def Mk (m : Nat) : Prop := ∃ n, 3 ≤ n ∧ m + 1 = 2 ^ n
theorem lcg_fi (m i : Nat) : ∀ k, lcgI m i k % (m + 1) = fi i k % (m + 1)
  | 0 => by show i % _ = (i + 0 * _) % _; rw [Nat.zero_mul]; rfl
  | k + 1 => by
    show (lcgI m i k * 5 + 1) % (m + 1) % (m + 1) = _
    rw [Nat.mod_mod, Nat.add_mod, Nat.mul_mod, lcg_fi m i k, ← Nat.mul_mod, ← Nat.add_mod]
    congr 1
    show _ = i + (5 * fs k + 1) * (4 * i + 1)
    unfold fi
    rw [Nat.add_mul (5 * fs k), Nat.mul_assoc 5]
    omega
theorem lcg_le {m i : Nat} (h : i ≤ m) : ∀ k, lcgI m i k ≤ m
  | 0 => h
  | _ + 1 => Nat.le_of_lt_succ (Nat.mod_lt _ (Nat.succ_pos _))
theorem round_all {m : Nat} (hm : Mk m) {i j : Nat} (hi : i ≤ m) (hj : j ≤ m) : ∃ k, k ≤ m ∧ lcgI m i k = j := by
  obtain ⟨n, _, e⟩ := hm
  obtain ⟨b, hb, q⟩ := fi_hit i n j
  rw [← e] at hb q
  have l := lcg_le hi b
  rw [← lcg_fi, Nat.mod_eq_of_lt (Nat.lt_succ_of_le l), Nat.mod_eq_of_lt (Nat.lt_succ_of_le hj)] at q
  exact ⟨b, Nat.le_of_lt_succ hb, q⟩
theorem starts_all {m : Nat} (hm : Mk m) (h : Int) {j : Nat} (hj : j ≤ m) : ∃ n, n ≤ m + 12 ∧ runI m (SetTable.bits h) n = j :=
  let ⟨k, hk, e⟩ := round_all hm (runI_le m (SetTable.bits h) 12) hj
  ⟨12 + k, by omega, (runI_tail (bits_lt h) k).trans e⟩
theorem way_all {m : Nat} (hm : Mk m) (h : Int) {j : Nat} (hj : j ≤ m) : ∃ k, k < 10 * SetTable.turns m ∧ way m h k = j :=
  let ⟨n, hn, e⟩ := starts_all hm h hj
  let ⟨k, hk, e2⟩ := run_nth m (SetTable.bits h) n
  ⟨k, by unfold SetTable.turns; omega, (congrArg SetTable.Probe.j e2).trans e⟩
theorem way_in (m : Nat) (h : Int) (k : Nat) : way m h k ≤ m := by
  have a : SetTable.bits h % (m + 1) ≤ m := Nat.le_of_lt_succ (Nat.mod_lt _ (Nat.succ_pos _))
  have c := runEnd_bd a
  exact Nat.le_trans (Nat.le_add_right _ _) (nth_in k (runAt m _ _) (show SetTable.bits h % (m + 1) + (_ - _) ≤ m by omega))
/-- the table's places, each found again by its hash -/
structure Tb (t : SetTable) (hs : List Int) : Prop where
  up : Ris t.place.toList
  nod : t.dummies = #[]
  len : t.place.toList.length = hs.length
  mok : Mk t.mask
  inn : ∀ x ∈ t.place.toList, x ≤ t.mask
  back : ∀ {i : Nat} {h : Int} {j : Nat}, hs[i]? = some h → t.place.toList[i]? = some j → ∃ k, way t.mask h k = j ∧ ∀ c, c < k → way t.mask h c ∈ t.place.toList
theorem Mk.odd {m : Nat} (h : Mk m) : m % 2 = 1 := by
  obtain ⟨n, hn, e⟩ := h
  obtain ⟨k, rfl⟩ : ∃ k, n = k + 1 := ⟨n - 1, by omega⟩
  rw [Nat.pow_succ] at e
  omega
theorem Tb.gap {t : SetTable} {hs : List Int} (T : Tb t hs) (l : hs.length ≤ t.mask) (h : Int) : ∃ K, K < 10 * SetTable.turns t.mask ∧ way t.mask h K ∉ t.place.toList ∧ ∀ c, c < K → way t.mask h c ∈ t.place.toList := by
  obtain ⟨j, h1, h2⟩ := st_missing t.place.toList (t.mask + 1) (by rw [T.len]; omega)
  obtain ⟨k, h3, h4⟩ := way_all T.mok h (Nat.le_of_lt_succ h1)
  obtain ⟨K, k1, k2, k3⟩ := st_least (p := fun k => way t.mask h k ∉ t.place.toList) k (h4 ▸ h2)
  exact ⟨K, by omega, k2, fun c hc => Classical.byContradiction (k3 c hc)⟩
theorem Tb.ahead {t : SetTable} {hs : List Int} (T : Tb t hs) {h : Int} {K i j : Nat} (g : way t.mask h K ∉ t.place.toList) (a : hs[i]? = some h) (b : t.place.toList[i]? = some j) : ∃ k, k < K ∧ way t.mask h k = j := by
  obtain ⟨k, e, l⟩ := T.back a b
  refine ⟨k, Nat.lt_of_not_le fun c => ?_, e⟩
  rcases Nat.lt_or_eq_of_le c with c | c
  · exact g (l K c)
  · subst c; exact g (e ▸ List.mem_of_getElem? b)
/-- one more -/
theorem Tb.more {t : SetTable} {hs : List Int} (T : Tb t hs) {h : Int} {K : Nat} (g : way t.mask h K ∉ t.place.toList) (l : ∀ c, c < K → way t.mask h c ∈ t.place.toList) {t1 : SetTable} {p : Nat} (e : t.put (way t.mask h K) = (t1, p)) :
    p ≤ hs.length ∧ Tb t1 (hs.take p ++ h :: hs.drop p) ∧ t1.mask = t.mask ∧ t1.led = t.led ∧ t1.fill = hs.length + 1 := by
  have wi := way_in t.mask h K
  generalize hj : way t.mask h K = j at *
  obtain ⟨c1, _, _⟩ := below_cut T.up j
  have pl := put_place t j
  have dm := put_dm T.nod j
  have no : t.place[SetTable.below t.place j]? ≠ some j := fun z => g (List.mem_of_getElem? (i := SetTable.below t.place j) (by rw [Array.getElem?_toList]; exact z))
  have up := ris_insert T.up no
  have s2 : (t.put j).2 = SetTable.below t.place j := rfl
  have mm : (t.put j).1.mask = t.mask := rfl
  have ll : (t.put j).1.led = t.led := rfl
  have up' : Ris (t.put j).1.place.toList := up
  rw [e] at pl dm s2 mm ll up'
  dsimp only at pl dm s2 mm ll up'
  subst s2
  have lt := T.len
  rw [Array.length_toList] at lt
  have q0 : SetTable.below t.place j ≤ hs.length := by rw [← lt]; exact c1
  have q1 : SetTable.below t.place j ≤ t.place.toList.length := by rw [T.len]; exact q0
  have len1 : t1.place.toList.length = hs.length + 1 := by rw [pl, len_ins _ q1, T.len]
  have kp : ∀ {x}, x ∈ t.place.toList → x ∈ t1.place.toList := fun hx => pl ▸ mem_ins.2 (.inr hx)
  refine ⟨q0, ⟨up', dm, by rw [len1, len_ins _ q0], by rw [mm]; exact T.mok, fun x hx => ?_, fun {i h' j'} a b => ?_⟩, mm, ll, ?_⟩
  · rw [mm]
    rw [pl] at hx
    rcases mem_ins.1 hx with z | z
    · omega
    · exact T.inn x z
  · rw [mm]
    rw [tins_get hs q0] at a
    rw [pl, tins_get _ q1] at b
    split at a
    · rw [if_pos (by assumption)] at b
      obtain ⟨k, x, y⟩ := T.back a b
      exact ⟨k, x, fun c hc => kp (y c hc)⟩
    · rw [if_neg (by assumption)] at b
      split at a
      · rw [if_pos (by assumption)] at b
        cases a; cases b
        exact ⟨K, hj, fun c hc => kp (l c hc)⟩
      · rw [if_neg (by assumption)] at b
        obtain ⟨k, x, y⟩ := T.back a b
        exact ⟨k, x, fun c hc => kp (y c hc)⟩
  · unfold SetTable.fill
    rw [dm, ← Array.length_toList, len1]
    rfl
end CS
/-! sets of any size, 2: the table laid anew -/
namespace CS
open PySem PySem.Spec PyProof.Rows L2
abbrev frees (m : Nat) (ow : Array (Option Nat)) (h : Int) : Option Nat := SetTable.layClean.free m ow (SetTable.turns m) (SetTable.bits h % (m + 1)) (SetTable.bits h)
theorem frees_way {m : Nat} (hm : Mk m) {ow : Array (Option Nat)} (h : Int) {j : Nat} (hj : j ≤ m) (e : oAt ow j = none) :
    ∃ K, frees m ow h = some (way m h K) ∧ oAt ow (way m h K) = none ∧ ∀ c, c < K → oAt ow (way m h c) ≠ none := by
  obtain ⟨n, n1, n2⟩ := starts_all hm h hj
  generalize hO : off m (SetTable.bits h % (m + 1)) (SetTable.bits h) n = o
  have wo : way m h o = j := by rw [← hO]; unfold way; rw [nth_off, itL_run]; exact n2
  obtain ⟨K, k1, k2, k3⟩ := st_least (p := fun k => oAt ow (way m h k) = none) o (wo ▸ e)
  refine ⟨K, free_spec m ow _ n _ _ K (by unfold SetTable.turns; omega) (hO ▸ k1) (fun c hc => ?_) (Option.isNone_iff_eq_none.mpr k2), k2, k3⟩
  rw [← Bool.not_eq_true, Option.isNone_iff_eq_none]
  exact k3 c hc
theorem own_more {m : Nat} (hm : Mk m) {done : List Int} {ow : Array (Option Nat)} (W : Own m done ow) (l : done.length ≤ m) (h : Int) :
    ∃ j, frees m ow h = some j ∧ Own m (done ++ [h]) (ow.setIfInBounds j (some done.length)) := by
  obtain ⟨ps, p1, p2⟩ := W.ps
  obtain ⟨g, g1, g2⟩ := st_missing ps (m + 1) (by omega)
  have g3 : oAt ow g = none := Classical.byContradiction fun z => g2 (p2 g (Nat.le_of_lt_succ g1) z)
  obtain ⟨K, f1, f2, f3⟩ := frees_way hm h (Nat.le_of_lt_succ g1) g3
  have wl := way_in m h K
  refine ⟨_, f1, ?_⟩
  generalize hw : way m h K = j at *
  have me : oAt (ow.setIfInBounds j (some done.length)) j = some done.length := oAt_set_self _ (by rw [W.sz]; omega)
  have ot : ∀ {i}, i ≠ j → oAt (ow.setIfInBounds j (some done.length)) i = oAt ow i := fun z => oAt_set_ne _ z
  have kp : ∀ {i}, oAt ow i ≠ none → oAt (ow.setIfInBounds j (some done.length)) i ≠ none := fun {i} z => by
    by_cases c : i = j
    · subst c; exact absurd f2 z
    · rw [ot c]; exact z
  have ll : (done ++ [h]).length = done.length + 1 := by simp
  refine { sz := ?_, at_ := fun i k hi e => ?_, all := fun k hk => ?_, ps := ⟨j :: ps, ?_, fun i hi e => ?_⟩ }
  · rw [Array.size_setIfInBounds, W.sz]
  · by_cases c : i = j
    · subst c
      rw [me] at e
      cases e
      exact ⟨h, K, by simp, hw, fun c hc => kp (f3 c hc)⟩
    · rw [ot c] at e
      obtain ⟨h', K', a, b, d⟩ := W.at_ i k hi e
      exact ⟨h', K', by rw [List.getElem?_append_left (List.getElem?_eq_some_iff.mp a).1, a], b, fun c hc => kp (d c hc)⟩
  · rw [ll] at hk
    rcases Nat.lt_or_eq_of_le (Nat.le_of_lt_succ hk) with c | c
    · obtain ⟨i, hi, e⟩ := W.all k c
      exact ⟨i, hi, by rw [ot (fun z => by subst z; rw [f2] at e; cases e), e]⟩
    · subst c; exact ⟨j, wl, me⟩
  · rw [ll, List.length_cons, p1]
  · by_cases c : i = j
    · subst c; exact List.mem_cons_self
    · exact List.mem_cons_of_mem _ (p2 i hi (by rw [ot c] at e; exact e))
theorem own_all {m : Nat} (hm : Mk m) : ∀ (rest done : List Int) (ow : Array (Option Nat)), Own m done ow → done.length + rest.length ≤ m →
    ∃ ow', rest.foldl (stepF m) (some (ow, done.length)) = some (ow', done.length + rest.length) ∧ Own m (done ++ rest) ow'
  | [], done, ow, W, _ => ⟨ow, rfl, by rw [List.append_nil]; exact W⟩
  | h :: rest, done, ow, W, l => by
    have l' : done.length + (rest.length + 1) ≤ m := l
    obtain ⟨j, f, W1⟩ := own_more hm W (by omega) h
    obtain ⟨ow', f2, W2⟩ := own_all hm rest (done ++ [h]) _ W1 (by simp; omega)
    rw [List.append_assoc] at W2
    refine ⟨ow', ?_, W2⟩
    rw [List.foldl_cons, stepF_some f]
    simp only [List.length_append, List.length_cons, List.length_nil] at f2 ⊢
    rw [show done.length + (rest.length + 1) = done.length + (0 + 1) + rest.length by omega]
    exact f2
theorem clean_ok {m : Nat} (hm : Mk m) {hs : Array Int} (l : hs.size ≤ m) : ∃ ow, SetTable.layClean m hs = some ow ∧ Own m hs.toList ow := by
  obtain ⟨ow, f, W⟩ := own_all hm hs.toList [] _ (Own.init m) (by simpa using l)
  refine ⟨ow, ?_, W⟩
  rw [layClean_eq]
  exact congrArg (Option.map Prod.fst) f
theorem laid_ok (t : SetTable) {hs : Array Int} {n : Nat} (hM : Mk (SetTable.sizeAbove n - 1)) (l : hs.size ≤ SetTable.sizeAbove n - 1) :
    ∃ t' ord, t.relaid hs n = some (t', ord) ∧ ord.toList.Perm (List.range hs.size) ∧ Tb t' (ord.toList.map fun i => hs.getD i 0) ∧ t'.mask = SetTable.sizeAbove n - 1 ∧ t'.led = t.led := by
  rw [relaid_eq]
  generalize SetTable.sizeAbove n - 1 = M at *
  obtain ⟨ow, e, W⟩ := clean_ok hM l
  rw [e]
  refine ⟨_, _, rfl, ?_, ?_, rfl, rfl⟩
  all_goals
    have rz := ris_live (fun j => ow.getD j none) (List.range (M + 1)) (by unfold Ris; exact List.pairwise_lt_range)
    have nd : ((liveOf M ow).map (·.1)).Nodup := rz.1.imp fun z => Nat.ne_of_lt z
    have mem := fun {j k} => mem_live (j := j) (k := k) W.sz
    have sur : ∀ k, k < hs.size → k ∈ (liveOf M ow).map (·.2) := fun k hk => by
      obtain ⟨j, a, b⟩ := W.all k (by rw [Array.length_toList]; exact hk)
      exact List.mem_map.mpr ⟨(j, k), mem.2 ⟨a, b⟩, rfl⟩
    have len : (liveOf M ow).length = hs.size := by
      obtain ⟨ps, p1, p2⟩ := W.ps
      refine Nat.le_antisymm ?_ ?_
      · have z := nat_nodup_len _ ps nd fun x hx => by
          obtain ⟨⟨y, k⟩, a, rfl⟩ := List.mem_map.mp hx
          obtain ⟨b, c⟩ := mem.1 a
          exact p2 y b (by rw [c]; exact nofun)
        rw [List.length_map, p1, Array.length_toList] at z
        exact z
      · have z := nat_nodup_len (List.range hs.size) _ List.nodup_range fun k hk => sur k (List.mem_range.mp hk)
        rw [List.length_map, List.length_range] at z
        exact z
  · exact perm_range hs.size _ (by rw [List.length_map, len]) sur
  · refine { up := rz.1, nod := rfl, len := ?_, mok := hM, inn := fun x hx => Nat.le_of_lt_succ (List.mem_range.mp (rz.2 x hx)), back := fun {i h j} a b => ?_ }
    · show ((liveOf M ow).map _).length = (((liveOf M ow).map _).map _).length
      simp only [List.length_map]
    · have a' : (((liveOf M ow).map (·.2)).map fun i => hs.getD i 0)[i]? = some h := a
      have b' : ((liveOf M ow).map (·.1))[i]? = some j := b
      cases q : (liveOf M ow)[i]? with
      | none => simp [q] at b'
      | some v =>
        obtain ⟨y, k⟩ := v
        simp only [List.getElem?_map, q, Option.map_some, Option.some.injEq] at a' b'
        subst b'
        obtain ⟨c1, c2⟩ := mem.1 (List.mem_of_getElem? q)
        obtain ⟨h0, K, x1, x2, x3⟩ := W.at_ y k c1 c2
        have eh : h0 = h := by rw [← a', Array.getD_eq_getD_getElem?, ← Array.getElem?_toList, x1]; rfl
        subst eh
        refine ⟨K, x2, fun c hc => ?_⟩
        cases z : oAt ow (way M h0 c) with
        | none => exact absurd z (x3 c hc)
        | some k2 => exact List.mem_map.mpr ⟨(way M h0 c, k2), mem.2 ⟨way_in _ _ _, z⟩, rfl⟩
/-- the size above a number is a power of two above it -/
theorem size_go : ∀ (f s n : Nat), (∃ k, 3 ≤ k ∧ s = 2 ^ k) → n < s * 2 ^ f → n < SetTable.sizeAbove.go n f s ∧ ∃ k, 3 ≤ k ∧ SetTable.sizeAbove.go n f s = 2 ^ k
  | 0, s, n, p, l => ⟨by show n < s; simpa using l, p⟩
  | f + 1, s, n, ⟨k, k3, e⟩, l => by
    unfold SetTable.sizeAbove.go
    split
    · exact size_go f (s * 2) n ⟨k + 1, by omega, by rw [e, Nat.pow_succ]⟩ (by rw [Nat.mul_assoc, Nat.mul_comm 2, ← Nat.pow_succ]; exact l)
    · exact ⟨by omega, k, k3, e⟩
theorem size_mk {n : Nat} (l : n < 2 ^ 60) : n < SetTable.sizeAbove n ∧ Mk (SetTable.sizeAbove n - 1) := by
  obtain ⟨a, k, k3, e⟩ := size_go 64 8 n ⟨3, by decide, by decide⟩ (by
    have : (2 : Nat) ^ 60 ≤ 8 * 2 ^ 64 := by decide
    omega)
  refine ⟨a, k, k3, ?_⟩
  show SetTable.sizeAbove.go n 64 8 - 1 + 1 = _
  rw [e]
  exact Nat.sub_add_cancel (Nat.pow_pos (by decide))
/-- how large it may be -/
theorem size_le : ∀ (f s n B : Nat), s ≤ B → 2 * n ≤ B → SetTable.sizeAbove.go n f s ≤ B
  | 0, _, _, _, h, _ => h
  | f + 1, s, n, B, h, h2 => by
    unfold SetTable.sizeAbove.go
    split
    · exact size_le f (s * 2) n B (by omega) h2
    · exact h
end CS
set_option maxHeartbeats 2000000
/-! sets of any size, 3: sets of nested tuples: what a search finds -/
namespace CS
open PySem PySem.Spec PyProof.Rows L2
section
variable {P : Program} {w : World} {A : Around} {E : Value → Shared → Prop} {s : Shared}
/-- asking v how it hashes comes to an end, n levels down -/
def ByValAt (P : Program) (w : World) (n : Nat) (s : Shared) (v : Value) : Prop := ∀ (A : Around) (E : Value → Shared → Prop) (Q : Bool → Shared → Prop), (∀ b, Q b s) → wpAny (model P w) A (hashByValue n v) Q E s
theorem ByValAt.tup {n : Nat} {b : Addr} {o : Obj} {vs : Array Value} {m : Nat} (g : s.heap.get? b = some o) (c : o.cls = .type "tuple") (d : o.data = .seq vs m) (all : ∀ v ∈ vs.toList, ByValAt P w n s v) : ByValAt P w (n + 1) s (.ref b) := fun A E Q h => by
  unfold hashByValue
  refine wpAny_bind (wpAny_specialOf (T := "tuple") ⟨_, g, c⟩ F.slot_tuple_hash.lookup ?_)
  show wpAny _ _ (seqItems? (.ref b) >>= _) _ _ s
  refine wpAny_bind (wpAny_seqItems g d ?_)
  refine wpAny_bind ?_
  show wpAny _ _ (forIn vs _ _) _ _ s
  rw [← Array.forIn_toList]
  refine wpAny_forIn_list _ (fun rest _ s' => s' = s ∧ ∀ v ∈ rest, v ∈ vs.toList) _ ?_ ?_ _ _ ⟨rfl, fun _ z => z⟩
  · rintro v rest r s' ⟨rfl, sub⟩
    refine wpAny_bind (all v (sub v List.mem_cons_self) A _ _ fun b => ?_)
    cases b
    · simp only [Bool.not_false, if_true]
      exact wpAny_pure (wpAny_pure (h _))
    · simp only [Bool.not_true, Bool.false_eq_true, if_false]
      exact wpAny_pure ⟨rfl, fun z hz => sub z (List.mem_cons_of_mem _ hz)⟩
  · rintro ⟨r1, r2⟩ s' ⟨rfl, _⟩
    cases r1 <;> exact wpAny_pure (h _)
mutual
theorem byVal_key : ∀ (k : NestedKey) (v : Value) (n : Nat) (s : Shared), NestedIs s.heap k v → ByValAt P w n s v
  | .none, _, n, s, x => by cases x; cases n <;> exact fun _ _ _ h => wpAny_pure (h _)
  | .num i, _, n, s, x => by cases x <;> cases n <;> exact fun _ _ _ h => wpAny_pure (h _)
  | .text y, _, n, s, x => by cases x; cases n <;> exact fun _ _ _ h => wpAny_pure (h _)
  | .tup ks, _, 0, s, x => by cases x; exact fun _ _ _ h => wpAny_pure (h _)
  | .tup ks, _, n + 1, s, x => by
    cases x with
    | tup g c d all => exact .tup g c d (byVal_keys ks _ n s all)
theorem byVal_keys : ∀ (ks : List NestedKey) (vs : List Value) (n : Nat) (s : Shared), NestedAll s.heap ks vs → ∀ v ∈ vs, ByValAt P w n s v
  | [], _, n, s, x, v, hv => by cases x; cases hv
  | k :: ks, _, n, s, x, v, hv => by
    cases x with
    | cons x1 x2 =>
      rcases List.mem_cons.mp hv with e | hv
      · rw [e]; exact byVal_key k _ n s x1
      · exact byVal_keys ks _ n s x2 v hv
end
/-- no class statement stands in v, n levels down -/
def NoClassAt (P : Program) (w : World) (n : Nat) (s : Shared) (v : Value) : Prop := ∀ (A : Around) (E : Value → Shared → Prop) (Q : Bool → Shared → Prop), Q false s → wpAny (model P w) A (ofAClassStatement n v) Q E s
theorem NoClassAt.tup {n : Nat} {b : Addr} {o : Obj} {vs : Array Value} {m : Nat} (g : s.heap.get? b = some o) (c : o.cls = .type "tuple") (d : o.data = .seq vs m) (all : ∀ v ∈ vs.toList, NoClassAt P w n s v) : NoClassAt P w (n + 1) s (.ref b) := fun A E Q h => by
  unfold ofAClassStatement
  refine wpAny_bind (wpAny_typeOf (T := "tuple") ⟨_, g, c⟩ ?_)
  dsimp only
  rw [show (("tuple" : String) == "tuple") = true from by decide]
  simp only [if_true, Bool.not_true, Bool.false_eq_true, if_false]
  try refine wpAny_bind (wpAny_pure ?_)
  try simp only [Bool.not_true, Bool.false_eq_true, if_false]
  show wpAny _ _ (seqItems? (.ref b) >>= _) _ _ s
  refine wpAny_bind (wpAny_seqItems g d ?_)
  dsimp only
  refine wpAny_bind ?_
  show wpAny _ _ (forIn vs _ _) _ _ s
  rw [← Array.forIn_toList]
  refine wpAny_forIn_list _ (fun rest r s' => r.1 = none ∧ s' = s ∧ ∀ v ∈ rest, v ∈ vs.toList) _ ?_ ?_ _ _ ⟨rfl, rfl, fun _ z => z⟩
  · rintro v rest r s' ⟨hr, rfl, sub⟩
    refine wpAny_bind (all v (sub v List.mem_cons_self) A _ _ ?_)
    simp only [Bool.false_eq_true, if_false]
    exact wpAny_pure ⟨rfl, rfl, fun z hz => sub z (List.mem_cons_of_mem _ hz)⟩
  · rintro ⟨r1, r2⟩ s' ⟨hr, rfl, _⟩
    cases hr
    exact wpAny_pure h
mutual
theorem noClass_key : ∀ (k : NestedKey) (v : Value) (n : Nat) (s : Shared), NestedIs s.heap k v → k.depth ≤ n → NoClassAt P w n s v
  | .none, _, n, s, x, _ => by cases x; cases n <;> exact fun _ _ _ h => wpAny_pure h
  | .num i, _, n, s, x, _ => by cases x <;> cases n <;> exact fun _ _ _ h => wpAny_pure h
  | .text y, _, n, s, x, _ => by cases x; cases n <;> exact fun _ _ _ h => wpAny_pure h
  | .tup ks, _, n, s, x, hn => by
    cases x with
    | tup g c d all =>
      simp only [NestedKey.depth] at hn
      cases n with
      | zero => omega
      | succ n => exact .tup g c d (noClass_keys ks _ n s all (by omega))
theorem noClass_keys : ∀ (ks : List NestedKey) (vs : List Value) (n : Nat) (s : Shared), NestedAll s.heap ks vs → NestedKey.depthAll ks ≤ n → ∀ v ∈ vs, NoClassAt P w n s v
  | [], _, n, s, x, _, v, hv => by cases x; cases hv
  | k :: ks, _, n, s, x, hn, v, hv => by
    cases x with
    | cons x1 x2 =>
      simp only [NestedKey.depthAll] at hn
      rcases List.mem_cons.mp hv with e | hv
      · rw [e]; exact noClass_key k _ n s x1 (by omega)
      · exact noClass_keys ks _ n s x2 (by omega) v hv
end
abbrev KIs (h : Heap) (k : NestedKey) (a : Addr) : Prop := NestedIs h k (.ref a) ∧ k.depth ≤ 8
/-- a search among keys shows nothing of them -/
theorem unseen {k : NestedKey} {b : Addr} {Q : Bool → Shared → Prop} (hk : KIs s.heap k b) {ys : List Value} (hy : ∀ y ∈ ys, ∃ k' c, y = Value.ref c ∧ KIs s.heap k' c) (h : Q false s) :
    wpAny (model P w) A (searchCouldBeSeen (.ref b) ys) Q E s := by
  unfold searchCouldBeSeen
  refine wpAny_bind ?_
  refine wpAny_forIn_list _ (fun rest r s' => r.1 = none ∧ s' = s ∧ ∀ y ∈ rest, y ∈ ys) _ ?_ ?_ _ _ ⟨rfl, rfl, fun _ z => z⟩
  · rintro v rest r s' ⟨hr, rfl, sub⟩
    obtain ⟨k', c, rfl, hc⟩ := hy v (sub v List.mem_cons_self)
    have on : r.1 = none ∧ s' = s' ∧ ∀ y ∈ rest, y ∈ ys := ⟨hr, rfl, fun z hz => sub z (List.mem_cons_of_mem _ hz)⟩
    dsimp only
    by_cases e : (b == c || (carriedByValue (.ref b) && carriedByValue (.ref c))) = true
    · exact wp_if_pos e (wpAny_pure ⟨rfl, on.2⟩)
    · refine wp_if_neg e (wpAny_bind ((nestedKind P w).quiet hk ?_))
      simp only [Bool.not_true, Bool.false_eq_true, if_false]
      refine wpAny_bind ((nestedKind P w).quiet hc ?_)
      simp only [Bool.not_true, Bool.false_eq_true, if_false]
      refine wpAny_bind (noClass_key k _ 8 _ hk.1 hk.2 A _ _ ?_)
      simp only [Bool.false_eq_true, if_false]
      refine wpAny_bind (noClass_key k' _ 8 _ hc.1 hc.2 A _ _ ?_)
      simp only [Bool.false_eq_true, if_false]
      exact wpAny_pure ⟨rfl, on.2⟩
  · rintro ⟨r1, r2⟩ s' ⟨hr, rfl, _⟩
    cases hr
    exact wpAny_pure h

/-! ### the set at a: which keys, and where their tuples lie -/
abbrev KL := List (Addr × NestedKey)
def pairs (w : World) (L : KL) : List (Int × Value) := L.map fun p => (p.2.hash w, Value.ref p.1)
def hashesL (w : World) (L : KL) : List Int := L.map fun p => p.2.hash w
structure SetN (w : World) (h : Heap) (a : Addr) (L : KL) (es : Array (Int × Value)) (ep : Nat) (t : SetTable) : Prop where
  ob : ∃ o, h.get? a = some o ∧ o.ExactSet ∧ o.data = .set es ep t
  rows : es.toList = pairs w L
  tab : Tb t (hashesL w L)
  nd : (L.map (·.2)).Nodup
  keys : ∀ p ∈ L, KIs h p.2 p.1
  room : L.length * 5 < t.mask * 3
  low : t.mask ≤ 8191
variable {a : Addr} {L : KL} {es : Array (Int × Value)} {ep : Nat} {t : SetTable}
theorem SetN.sz (R : SetN w s.heap a L es ep t) : es.size = L.length := by
  rw [← Array.length_toList, R.rows]; unfold pairs; rw [List.length_map]
theorem SetN.pl (R : SetN w s.heap a L es ep t) : t.place.toList.length = L.length := by
  rw [R.tab.len]; unfold hashesL; rw [List.length_map]
theorem SetN.fit (R : SetN w s.heap a L es ep t) : t.fits es.size = true := by
  have h1 := R.pl
  have h2 := R.room
  rw [Array.length_toList] at h1
  unfold SetTable.fits SetTable.fill
  rw [R.tab.nod, R.sz, h1]
  simp
  omega
theorem SetN.at_ (R : SetN w s.heap a L es ep t) {i : Nat} {p : Addr × NestedKey} (h : L[i]? = some p) : es[i]? = some (p.2.hash w, Value.ref p.1) := by
  rw [← Array.getElem?_toList, R.rows]; unfold pairs; rw [List.getElem?_map, h]; rfl
theorem SetN.odd (R : SetN w s.heap a L es ep t) : ¬ t.gaveWay = true := by
  unfold SetTable.gaveWay; rw [R.tab.mok.odd]; decide
abbrev pr (m : Nat) (h : Int) (k : Nat) : SetTable.Probe := nth m (runAt m (SetTable.bits h % (m + 1)) (SetTable.bits h)) k
theorem pr_dummy (m : Nat) : ∀ (k : Nat) (p : SetTable.Probe), p.dummy = none → (nth m p k).dummy = none
  | 0, _, h => h
  | k + 1, p, h => pr_dummy m k (adv m p) (by unfold adv; split <;> exact h)

/-- the search from the c-th step of the way on: K is the first gap on it -/
theorem look (R : SetN w s.heap a L es ep t) {adding : Bool} {x : Addr} {k : NestedKey} (hx : KIs s.heap k x) (hu : A.units + 8 < cLine) {K : Nat} (kf : K < 10 * SetTable.turns t.mask)
    (g : way t.mask (k.hash w) K ∉ t.place.toList) (gb : ∀ c, c < K → way t.mask (k.hash w) c ∈ t.place.toList) {Q : SetFound → Shared → Prop}
    (hin : k ∈ L.map (·.2) → ∀ i, (adding = false → i ≠ none) → Q (.there i) s) (hout : k ∉ L.map (·.2) → Q (.free (way t.mask (k.hash w) K) false) s) :
    ∀ (f c : Nat) (st : Option SetTable.Probe), st.getD (t.probeStart (k.hash w)) = pr t.mask (k.hash w) c → c ≤ K → K < c + f →
      (∀ (i : Nat) (p : Addr × NestedKey), L[i]? = some p → p.2 = k → ∃ c', c ≤ c' ∧ c' < K ∧ t.place.toList[i]? = some (way t.mask (k.hash w) c')) →
      wpAny (model P w) A (setSearchFrom a (.ref x) (k.hash w) adding f st) Q E s
  | 0, c, _, _, _, hf, _ => by omega
  | f + 1, c, st, hst, hc, hf, ahd => by
    obtain ⟨o, ho, _, hd⟩ := R.ob
    rw [setSearchFrom_succ]
    refine wpAny_bind (wpAny_setState_of ho hd R.fit ?_)
    dsimp only
    refine wp_if_neg R.odd ?_
    try refine wpAny_bind (wpAny_pure ?_)
    rw [hst]
    have sh : ∀ q, nth t.mask (pr t.mask (k.hash w) c) q = pr t.mask (k.hash w) (c + q) := fun q => (nth_add t.mask c _ q).symm
    have sp := go_spec t R.tab.up R.tab.nod (fun i => (es[i]?.map (·.1)).getD 0) (k.hash w) (10 * SetTable.turns t.mask) (K - c) (pr t.mask (k.hash w) c) (pr_dummy _ _ _ rfl) (by omega)
      (fun q hq => by rw [sh]; exact gb _ (by omega)) (by rw [sh, show c + (K - c) = K by omega]; exact g)
    have hash : ∀ {i : Nat} {p : Addr × NestedKey}, L[i]? = some p → (es[i]?.map (·.1)).getD 0 = p.2.hash w := fun hp => by rw [R.at_ hp]; rfl
    simp only [sh] at sp
    unfold SetTable.probe
    rcases sp with ⟨q, i, hq, hi, hh, hno, e⟩ | ⟨hno, e⟩
    · rw [e]
      dsimp only
      have il : i < L.length := by rw [← R.pl]; exact (List.getElem?_eq_some_iff.mp hi).1
      obtain ⟨p, hp⟩ : ∃ p, L[i]? = some p := ⟨_, List.getElem?_eq_getElem il⟩
      have pm : p ∈ L := List.mem_of_getElem? hp
      have more : wpAny (model P w) A (searchRest a (.ref x) (k.hash w) adding f es t (pr t.mask (k.hash w) (c + q)).j i (pr t.mask (k.hash w) (c + (q + 1)))) Q E s := by
        unfold searchRest
        rw [R.at_ hp]
        dsimp only
        refine wpAny_bind (wpAny_holding ((nestedKind P w).eqBool hu (R.keys p pm) hx ?_))
        refine wpAny_bind (wpAny_setState_of ho hd R.fit ?_)
        dsimp only
        have live := slot_live R.tab.up hi
        by_cases ek : p.2 = k
        · have km : k ∈ L.map (·.2) := List.mem_map.mpr ⟨p, pm, ek⟩
          cases adding with
          | true => exact wp_if_pos (by simp [ek]) (wpAny_pure (hin km _ (fun z => nomatch z)))
          | false =>
            refine wp_if_neg (by simp) ?_
            try refine wpAny_bind (wpAny_pure ?_)
            rw [sameMem]
            dsimp only
            simp only [if_true, live, R.at_ hp]
            refine wpAny_bind (wpAny_isSame_ref_self (wpAny_bind (wpAny_pure ?_)))
            simp only [if_true]
            exact wp_if_pos (by simp [ek]) (wpAny_pure (hin km _ fun _ z => nomatch z))
        · refine wp_if_neg (by simp [ek]) ?_
          try refine wpAny_bind (wpAny_pure ?_)
          rw [sameMem]
          dsimp only
          simp only [if_true, live, R.at_ hp]
          refine wpAny_bind (wpAny_isSame_ref_self (wpAny_bind (wpAny_pure ?_)))
          simp only [if_true]
          refine wp_if_neg (by simp [ek]) (look R hx hu kf g gb hin hout f (c + (q + 1)) _ rfl (by omega) (by omega) fun i0 p0 h0 k0 => ?_)
          obtain ⟨c', a1, a2, a3⟩ := ahd i0 p0 h0 k0
          refine ⟨c', Nat.lt_of_not_le fun z => ?_, a2, a3⟩
          have z : c' ≤ c + q := z
          have hsame : (es[i0]?.map (·.1)).getD 0 = k.hash w := by rw [hash h0, k0]
          by_cases y : c' = c + q
          · subst y
            have l0 := slot_live R.tab.up a3
            rw [show t.slot (way t.mask (k.hash w) (c + q)) = .live i from live] at l0
            cases l0
            rw [hp] at h0
            cases h0
            exact ek k0
          · exact hno (c' - c) i0 (by omega) (by rw [show c + (c' - c) = c' by omega]; exact a3) hsame
      by_cases ld : t.led = true
      · refine wp_if_neg (by simp [ld]) ?_
        try refine wpAny_bind (wpAny_pure ?_)
        exact more
      · refine wp_if_pos (by simp [ld]) (wpAny_bind (unseen hx (fun y hy => ?_) ?_))
        · simp only [List.mem_map, Array.mem_toList_iff, Array.mem_filter] at hy
          obtain ⟨u, ⟨u1, _⟩, rfl⟩ := hy
          rw [← Array.mem_toList_iff, R.rows] at u1
          obtain ⟨p2, p3, rfl⟩ := List.mem_map.mp u1
          exact ⟨p2.2, p2.1, rfl, R.keys p2 p3⟩
        · refine wp_if_neg (by decide) ?_
          try refine wpAny_bind (wpAny_pure ?_)
          exact more
    · rw [e, show c + (K - c) = K by omega]
      dsimp only
      refine wpAny_pure (hout fun z => ?_)
      obtain ⟨p0, h0, k0⟩ := List.mem_map.mp z
      obtain ⟨i0, l0, e0⟩ := List.getElem_of_mem h0
      have g0 : L[i0]? = some p0 := by rw [List.getElem?_eq_getElem l0, e0]
      obtain ⟨c', a1, a2, a3⟩ := ahd i0 p0 g0 k0
      exact hno (c' - c) i0 (by omega) (by rw [show c + (c' - c) = c' by omega]; exact a3) (by rw [hash g0, k0])
theorem look0 (R : SetN w s.heap a L es ep t) {adding : Bool} {x : Addr} {k : NestedKey} (hx : KIs s.heap k x) (hu : A.units + 8 < cLine) {Q : SetFound → Shared → Prop}
    (hin : k ∈ L.map (·.2) → ∀ i, (adding = false → i ≠ none) → Q (.there i) s)
    (hout : ∀ K, k ∉ L.map (·.2) → way t.mask (k.hash w) K ∉ t.place.toList → (∀ c, c < K → way t.mask (k.hash w) c ∈ t.place.toList) → Q (.free (way t.mask (k.hash w) K) false) s) :
    wpAny (model P w) A (setSearch a (.ref x) (k.hash w) adding) Q E s := by
  have ll : (hashesL w L).length = L.length := by unfold hashesL; rw [List.length_map]
  obtain ⟨K, kf, g, gb⟩ := R.tab.gap (by have := R.room; omega) (k.hash w)
  have big : K < 0 + 100000 := by
    have := R.low
    unfold SetTable.turns at kf
    omega
  unfold setSearch
  refine look R hx hu kf g gb hin (fun z => hout K z g gb) 100000 0 none rfl (Nat.zero_le _) big fun i p hp ek => ?_
  have hi : (hashesL w L)[i]? = some (k.hash w) := by unfold hashesL; rw [List.getElem?_map, hp, ← ek]; rfl
  have il : i < t.place.toList.length := by rw [R.pl]; exact (List.getElem?_eq_some_iff.mp hp).1
  have hj := List.getElem?_eq_getElem il
  obtain ⟨c, c1, c2⟩ := R.tab.ahead g hi hj
  exact ⟨c, Nat.zero_le _, c1, by rw [hj, c2]⟩
end
end CS
/-! sets of any size, 4: adding, asking, a new one -/
namespace CS
open PySem PySem.Spec PyProof.Rows L2
theorem size_pw : ∀ (f s n K : Nat), (∃ k, s = 2 ^ k) → n < 2 ^ K → s ≤ 2 ^ K → SetTable.sizeAbove.go n f s ≤ 2 ^ K
  | 0, _, _, _, _, _, h => h
  | f + 1, s, n, K, ⟨k, e⟩, l, h => by
    unfold SetTable.sizeAbove.go
    split
    · rename_i c
      have kk : k < K := (Nat.pow_lt_pow_iff_right (by decide : 1 < 2)).mp (by omega)
      refine size_pw f (s * 2) n K ⟨k + 1, by rw [e, Nat.pow_succ]⟩ l ?_
      rw [e, ← Nat.pow_succ]
      exact Nat.pow_le_pow_right (by decide) kk
    · exact h
section
variable {P : Program} {w : World} {A : Around} {E : Value → Shared → Prop} {s : Shared}
theorem kis_but {h h' : Heap} {k : NestedKey} {a b : Addr} {o : Obj} {es : Array (Int × Value)} {ep : Nat} {t : SetTable} (x : KIs h k b) (ho : h.get? a = some o) (hd : o.data = .set es ep t) (sb : Heap.SameBut a h h') : KIs h' k b :=
  ⟨NestedIs.at (fun c o' vs n g d => (sb.2 c fun z => by subst z; rw [ho] at g; cases g; rw [hd] at d; cases d).trans g) k _ x.1, x.2⟩
theorem range_get {α : Type} : ∀ L : List α, (List.range L.length).filterMap (fun i => L[i]?) = L
  | [] => rfl
  | x :: L => by
    rw [List.length_cons, List.range_succ_eq_map, List.filterMap_cons_some (f := fun i => (x :: L)[i]?) (a := 0) (b := x) rfl, List.filterMap_map]
    congr 1
    exact range_get L
theorem ord_rows (L : KL) (es : Array (Int × Value)) (ord : Array Nat) (hr : es.toList = pairs w L) (hp : ord.toList.Perm (List.range L.length)) :
    ∃ L2, (ord.filterMap (es[·]?)).toList = pairs w L2 ∧ L2.Perm L ∧ hashesL w L2 = ord.toList.map fun i => (es.map (·.1)).getD i 0 := by
  have en : ∀ i : Nat, es[i]? = (L[i]?).map fun p => (p.2.hash w, Value.ref p.1) := fun i => by
    rw [← Array.getElem?_toList, hr]; unfold pairs; rw [List.getElem?_map]
  refine ⟨ord.toList.filterMap (fun i => L[i]?), ?_, ?_, ?_⟩
  · rw [Array.toList_filterMap]
    unfold pairs
    rw [List.map_filterMap]
    exact congrArg (fun f => List.filterMap f ord.toList) (funext en)
  · have z := hp.filterMap (fun i => L[i]?)
    rw [range_get] at z
    exact z
  · have bd : ∀ i ∈ ord.toList, i < L.length := fun i hi => List.mem_range.mp (hp.mem_iff.mp hi)
    generalize ord.toList = l at bd
    induction l with
    | nil => rfl
    | cons i l ih =>
      have hi := bd i List.mem_cons_self
      have el := List.getElem?_eq_getElem hi
      unfold hashesL at ih ⊢
      rw [List.filterMap_cons_some el, List.map_cons, List.map_cons, ih fun j hj => bd j (List.mem_cons_of_mem _ hj)]
      congr 1
      rw [Array.getD_eq_getD_getElem?, Array.getElem?_map, en, el]
      rfl
variable {a : Addr} {L : KL} {es : Array (Int × Value)} {ep : Nat} {t : SetTable}
theorem pairs_len : (pairs w L).length = L.length := by unfold pairs; rw [List.length_map]
theorem hashes_len : (hashesL w L).length = L.length := by unfold hashesL; rw [List.length_map]
theorem relay {o : Obj} (ho : s.heap.get? a = some o) (hex : o.ExactSet) (hd : o.data = .set es ep t) (rows : es.toList = pairs w L) (T : Tb t (hashesL w L)) (fl : L.length ≤ t.mask) (nd : (L.map (·.2)).Nodup) (keys : ∀ p ∈ L, KIs s.heap p.2 p.1)
    {n : Nat} (hn : n < 2 ^ 13) (h1 : L.length * 5 < (SetTable.sizeAbove n - 1) * 3) {Q : Unit → Shared → Prop}
    (hQ : ∀ h' L' es' ep' t', Heap.SameBut a s.heap h' → SetN w h' a L' es' ep' t' → L'.Perm L → Q () { s with heap := h' }) : wpAny (model P w) A (setRelay a n) Q E s := by
  have es_l : es.size = L.length := by rw [← Array.length_toList, rows, pairs_len]
  have pl_l : t.place.size = L.length := by rw [← Array.length_toList, T.len, hashes_len]
  have fit : t.fits es.size = true := by
    unfold SetTable.fits SetTable.fill
    rw [T.nod, es_l, pl_l]
    simp
    omega
  have mk := (size_mk (n := n) (by have : (2 : Nat) ^ 13 ≤ 2 ^ 60 := by decide
                                   omega)).2
  have top : SetTable.sizeAbove n ≤ 2 ^ 13 := size_pw 64 8 n 13 ⟨3, rfl⟩ hn (by decide)
  obtain ⟨t', ord, e, pm, T', em, _⟩ := laid_ok t (hs := es.map (·.1)) (n := n) mk (by rw [Array.size_map, es_l]; omega)
  rw [Array.size_map, es_l] at pm
  obtain ⟨L2, r1, r2, r3⟩ := ord_rows L es ord rows pm
  rw [← r3] at T'
  have sz2 : (ord.filterMap (es[·]?)).size = L.length := by rw [← Array.length_toList, r1, pairs_len, r2.length_eq]
  rw [setRelay_eq]
  refine wpAny_bind (wpAny_setState_of ho hd fit ?_)
  dsimp only
  refine wp_if_neg (by rw [sizeLine_eq]; omega) ?_
  try refine wpAny_bind (wpAny_pure ?_)
  rw [e]
  dsimp only
  refine wpAny_bind (wp_if_neg (by rw [sz2, es_l]; simp) ?_)
  try refine wpAny_bind (wpAny_pure ?_)
  refine wpAny_pure ?_
  dsimp only
  refine wpAny_storeSet_of ho hd ?_ (by rw [sz2, sizeLine_eq]; omega)
  have sb : Heap.SameBut a s.heap (s.heap.update a (Obj.putSet (ord.filterMap (es[·]?)) t')) := Heap.SameBut.update ..
  refine hQ _ L2 _ (ep + 1) t' sb ⟨⟨_, store_at ho hd, ⟨hex.1, hex.2.1, hex.2.2⟩, rfl⟩, r1, T', (r2.map _).nodup_iff.mpr nd, fun p hp => kis_but (keys p (r2.mem_iff.mp hp)) ho hd sb, ?_, ?_⟩ r2
  · rw [r2.length_eq, em]; exact h1
  · rw [em]; omega
/-- adding a key -/
theorem add_key (R : SetN w s.heap a L es ep t) {x : Addr} {k : NestedKey} (hx : KIs s.heap k x) (hu : A.units + 8 < cLine) (few : L.length < 2000) {Q : Bool → Shared → Prop}
    (hQ : ∀ b h' L' es' ep' t', Heap.SameBut a s.heap h' → SetN w h' a L' es' ep' t' → (k ∈ L.map (·.2) → L' = L) → (k ∉ L.map (·.2) → L'.Perm ((x, k) :: L)) → Q b { s with heap := h' }) :
    wpAny (model P w) A (setAddHashed a (.ref x) (k.hash w)) Q E s := by
  obtain ⟨o, ho, hex, hd⟩ := R.ob
  have room := R.room
  unfold setAddHashed
  refine wpAny_holding ?_
  rw [show (100000 : Nat) = 99999 + 1 from rfl, setAddHashedIn_succ]
  refine wpAny_bind (wpAny_setState_of ho hd R.fit ?_)
  dsimp only
  refine wp_if_neg (by simp [byScan, Value.scannable]) ?_
  try refine wpAny_bind (wpAny_pure ?_)
  refine wpAny_bind (look0 R hx hu (fun hm i _ => ?_) fun K hm g gb => ?_)
  · dsimp only
    exact wpAny_pure (hQ false s.heap L es ep t (Heap.SameBut.refl a s.heap) R (fun _ => rfl) fun z => absurd hm z)
  · dsimp only
    refine wpAny_bind (wpAny_setState_of ho hd R.fit ?_)
    dsimp only
    cases e : t.put (way t.mask (k.hash w) K) with
    | mk t1 p =>
      obtain ⟨q0, T1, mm, ll, ff⟩ := R.tab.more g gb e
      rw [hashes_len] at q0 ff
      have rows1 : (SetTable.insertAt es p (k.hash w, Value.ref x)).toList = pairs w (L.take p ++ (x, k) :: L.drop p) := by
        rw [SetTable.toList_insertAt, R.rows]
        unfold pairs
        rw [List.map_append, List.map_cons, List.map_take, List.map_drop]
      have hs1 : (hashesL w L).take p ++ k.hash w :: (hashesL w L).drop p = hashesL w (L.take p ++ (x, k) :: L.drop p) := by
        unfold hashesL
        rw [List.map_append, List.map_cons, List.map_take, List.map_drop]
      rw [hs1] at T1
      have pm := put_perm L p (x, k)
      have len1 := pm.length_eq
      rw [List.length_cons] at len1
      generalize L.take p ++ (x, k) :: L.drop p = L1 at *
      generalize SetTable.insertAt es p (k.hash w, Value.ref x) = es1 at *
      have es1l : es1.size = L.length + 1 := by rw [← Array.length_toList, rows1, pairs_len, len1]
      have nd1 : (L1.map (·.2)).Nodup := (pm.map (·.2)).nodup_iff.mpr (List.nodup_cons.mpr ⟨hm, R.nd⟩)
      -- however its hash goes
      have rest : ∀ t2 : SetTable, t2.mask = t1.mask → t2.place = t1.place → t2.dummies = t1.dummies → t2.led = t1.led → 
          wpAny (model P w) A (do
            storeSet a es1 t2
            if !false && t2.tooFull then setRelay a (SetTable.grown (es.size + 1))
            return true) Q E s := by
        intro t2 e1 e2 e3 e4
        have T2 : Tb t2 (hashesL w L1) := ⟨by rw [e2]; exact T1.up, by rw [e3]; exact T1.nod, by rw [e2]; exact T1.len, by rw [e1]; exact T1.mok, by rw [e1, e2]; exact T1.inn, by rw [e1, e2]; exact T1.back⟩
        have f2 : t2.fill = L.length + 1 := by unfold SetTable.fill at ff ⊢; rw [e2, e3]; exact ff
        refine wpAny_bind (wpAny_storeSet_of ho hd ?_ (by rw [es1l, sizeLine_eq]; omega))
        have sb : Heap.SameBut a s.heap (s.heap.update a (Obj.putSet es1 t2)) := Heap.SameBut.update ..
        have ho1 := store_at (es' := es1) (t' := t2) ho hd
        generalize s.heap.update a (Obj.putSet es1 t2) = h1 at sb ho1 ⊢
        have keys1 : ∀ p ∈ L1, KIs h1 p.2 p.1 := fun p hp => by
          rcases List.mem_cons.mp (pm.mem_iff.mp hp) with z | z
          · rw [z]; exact kis_but hx ho hd sb
          · exact kis_but (R.keys p z) ho hd sb
        by_cases full : t2.tooFull = true
        · have after : wpAny (model P w) A (setRelay a (SetTable.grown (es.size + 1))) (fun _ s' => wpAny (model P w) A (pure true) Q E s') E { s with heap := h1 } := by
            have gr : SetTable.grown (es.size + 1) = (L.length + 1) * 4 := by
              unfold SetTable.grown
              rw [R.sz, if_neg (by omega)]
            rw [gr]
            have l8 : (L.length + 1) * 4 < 2 ^ 13 := by
              show _ < 8192
              omega
            have big := (size_mk (n := (L.length + 1) * 4) (by have : (2 : Nat) ^ 13 ≤ 2 ^ 60 := by decide
                                                               omega)).1
            refine relay (s := { s with heap := h1 }) ho1 ⟨hex.1, hex.2.1, hex.2.2⟩ rfl rows1 T2 (by rw [len1, e1, mm]; omega) nd1 keys1 l8 (by rw [len1]; omega) fun h2 L2 es2 ep2 t2 sb2 R2 pm2 => ?_
            exact wpAny_pure (hQ true h2 L2 es2 ep2 t2 (sb.trans sb2) R2 (fun z => absurd z hm) fun _ => pm2.trans pm)
          first
            | (refine wpAny_bind ?_; refine wp_if_pos (by simp [full]) ?_; exact after)
            | (refine wp_if_pos (by simp [full]) ?_; exact wpAny_bind after)
        · first
            | refine wp_if_neg (by simp [full]) ?_
            | (refine wpAny_bind ?_; refine wp_if_neg (by simp [full]) ?_; refine wpAny_pure ?_)
          refine wpAny_pure (hQ true h1 L1 es1 (ep + 1) t2 sb ⟨⟨_, ho1, ⟨hex.1, hex.2.1, hex.2.2⟩, rfl⟩, rows1, T2, nd1, keys1, ?_, by rw [e1, mm]; exact R.low⟩ (fun z => absurd z hm) fun _ => pm)
          unfold SetTable.tooFull at full
          rw [decide_eq_true_eq, f2] at full
          rw [len1]
          omega
      have any : ∀ b : Bool, wpAny (model P w) A (do
            let t := if b then t1 else { t1 with plain := false }
            storeSet a es1 t
            if !false && t.tooFull then setRelay a (SetTable.grown (es.size + 1))
            return true) Q E s := fun b => by
        cases b
        · exact rest _ rfl rfl rfl rfl
        · exact rest _ rfl rfl rfl rfl
      dsimp only
      by_cases pl : t1.plain = true
      · first
          | (refine wpAny_bind ?_; refine wp_if_pos pl ?_; exact byVal_key k _ 8 s hx.1 A _ _ fun b => any b)
          | exact wp_if_pos pl (wpAny_bind (byVal_key k _ 8 s hx.1 A _ _ fun b => any b))
      · first
          | (refine wpAny_bind ?_; refine wp_if_neg pl ?_; exact wpAny_pure (any true))
          | exact wp_if_neg pl (wpAny_bind (wpAny_pure (any true)))
/-- whether a key is in the set -/
theorem find_key (R : SetN w s.heap a L es ep t) {x : Addr} {k : NestedKey} (hx : KIs s.heap k x) (hu : A.units + 8 < cLine) {Q : Option Nat → Shared → Prop} (hQ : ∀ i : Option Nat, i.isSome = decide (k ∈ L.map (·.2)) → Q i s) :
    wpAny (model P w) A (setFind a (.ref x) (k.hash w)) Q E s := by
  obtain ⟨o, ho, hex, hd⟩ := R.ob
  unfold setFind
  rw [show (100000 : Nat) = 99999 + 1 from rfl]
  unfold setFindIn
  refine wpAny_bind (wpAny_setState_of ho hd R.fit ?_)
  dsimp only
  refine wp_if_neg (by simp [byScan, Value.scannable]) ?_
  try refine wpAny_bind (wpAny_pure ?_)
  refine wpAny_bind (look0 R hx hu (fun hm i hi => ?_) fun K hm _ _ => ?_)
  · dsimp only
    refine wpAny_pure (hQ i ?_)
    cases i with
    | none => exact absurd rfl (hi rfl)
    | some _ => exact (decide_eq_true hm).symm
  · dsimp only
    exact wpAny_pure (hQ none (decide_eq_false hm).symm)
end
end CS
/-! sets of any size, 5: set(), s.add(k), k in s for keys that are nested tuples, in the hand layer -/
namespace CS
open PySem PySem.Spec PyProof.Rows L2 CD
mutual
/-- a value that is a key -/
inductive NkV (K : PySem.W.Frag) (H : Hp) : V → NestedKey → Prop
  | non : NkV K H .non .none
  | int (i : Int) : NkV K H (.int i) (.num i)
  | tup {a : Addr} {xs : List V} {ks : List NestedKey} : SqT K H a xs → NkL K H xs ks → NkV K H (.ref a) (.tup ks)
inductive NkL (K : PySem.W.Frag) (H : Hp) : List V → List NestedKey → Prop
  | nil : NkL K H [] []
  | cons {v : V} {vs : List V} {k : NestedKey} {ks : List NestedKey} : NkV K H v k → NkL K H vs ks → NkL K H (v :: vs) (k :: ks)
end
section
variable {K : PySem.W.Frag} {H H' : Hp}
mutual
theorem NkV.same (s : Same H H') : ∀ {v : V} {k : NestedKey}, NkV K H v k → NkV K H' v k
  | _, _, .non => .non
  | _, _, .int i => .int i
  | _, _, .tup h g => .tup (s.tup h) (NkL.same s g)
theorem NkL.same (s : Same H H') : ∀ {v : List V} {k : List NestedKey}, NkL K H v k → NkL K H' v k
  | _, _, .nil => .nil
  | _, _, .cons h g => .cons (NkV.same s h) (NkL.same s g)
end
mutual
theorem NkV.keep (s : ∀ a xs, SqT K H a xs → SqT K H' a xs) : ∀ {v : V} {k : NestedKey}, NkV K H v k → NkV K H' v k
  | _, _, .non => .non
  | _, _, .int i => .int i
  | _, _, .tup h g => .tup (s _ _ h) (NkL.keep s g)
theorem NkL.keep (s : ∀ a xs, SqT K H a xs → SqT K H' a xs) : ∀ {v : List V} {k : List NestedKey}, NkL K H v k → NkL K H' v k
  | _, _, .nil => .nil
  | _, _, .cons h g => .cons (NkV.keep s h) (NkL.keep s g)
end
end
section
variable {X : Cx} {pins : List (Addr × Obj)} {σ : L2.St} {H : Hp} {s : Shared}
mutual
theorem NkV.is (I : Inv X pins σ H s) : ∀ {v : V} {k : NestedKey} {u : Value}, NkV X.K H v k → RelV v u → NestedIs s.heap k u
  | _, _, u, .non, r => by cases (show u = Value.none from r); exact .none
  | _, _, u, .int i, r => by obtain ⟨t, rfl⟩ := (show ∃ t, u = Value.int i t from r); exact .int i t
  | _, _, u, @NkV.tup _ _ a xs ks h g, r => by
    cases (show u = Value.ref a from r)
    obtain ⟨its, rv, ⟨o, ho, hc, n, hd⟩, _⟩ := I.tuple h
    exact .tup ho hc hd (by simpa using NkL.is I g rv)
theorem NkL.is (I : Inv X pins σ H s) : ∀ {v : List V} {k : List NestedKey} {u : List Value}, NkL X.K H v k → Vals v u → NestedAll s.heap k u
  | _, _, _, .nil, .nil => .nil
  | _, _, _, .cons h g, .cons r t => .cons (NkV.is I h r) (NkL.is I g t)
end
end
/-- the set object at a with the keys of L, where their tuples lie, in whatever order -/
structure Set0 (w : World) (h : Heap) (a : Addr) (L : KL) : Prop where
  ex : ∃ (L' : KL) (es : Array (Int × Value)) (ep : Nat) (t : SetTable), L'.Perm L ∧ (∃ o, h.get? a = some o ∧ o.ExactSet ∧ o.data = .set es ep t) ∧ es.toList = pairs w L' ∧ Tb t (hashesL w L') ∧ (L'.map (·.2)).Nodup ∧ L'.length * 5 < t.mask * 3 ∧ t.mask ≤ 8191
def SO (w : World) (a : Addr) (L : KL) : HO := .ext fun h => Set0 w h a L
def KeysS (K : PySem.W.Frag) (H : Hp) (L : KL) : Prop := ∀ p ∈ L, NkV K H (.ref p.1) p.2 ∧ p.2.depth ≤ 8
theorem KeysS.same {K : PySem.W.Frag} {H H' : Hp} {L : KL} (s : Same H H') (h : KeysS K H L) : KeysS K H' L := fun p hp => ⟨(h p hp).1.same s, (h p hp).2⟩
theorem SetN.s0 {w : World} {h : Heap} {a : Addr} {L L' : KL} {es : Array (Int × Value)} {ep : Nat} {t : SetTable} (R : SetN w h a L' es ep t) (p : L'.Perm L) : Set0 w h a L := ⟨L', es, ep, t, p, R.ob, R.rows, R.tab, R.nd, R.room, R.low⟩
theorem so_new {P : Program} {w : World} {H : Hp} {h : Heap} {a : Addr} {L : KL} (R : Set0 w h a L) : ObjOk P w H h a (SO w a L) := by
  obtain ⟨L', es, ep, t, pm, ⟨o, ho, r⟩, q⟩ := id R.ex
  refine ⟨R, ⟨o, ho⟩, fun h1 h2 p k => ?_⟩
  obtain ⟨L', es, ep, t, pm, ⟨o, ho, r⟩, q⟩ := Set0.ex p
  exact ⟨L', es, ep, t, pm, ⟨o, k o ho, r⟩, q⟩
section
variable {X : Cx} {pins : List (Addr × Obj)} {σ : L2.St} {H : Hp} {s : Shared} {a : Addr} {L : KL}
theorem so_get (I : Inv X pins σ H s) (ha : H a = some (SO X.w a L)) (ks : KeysS X.K H L) : ∃ L' es ep t, L'.Perm L ∧ SetN X.w s.heap a L' es ep t := by
  obtain ⟨L', es, ep, t, pm, h1, h2, h3, h4, h5, h6⟩ := Set0.ex (I.hok a _ ha).1
  exact ⟨L', es, ep, t, pm, h1, h2, h3, h4, fun p hp => ⟨(ks p (pm.mem_iff.mp hp)).1.is I rfl, (ks p (pm.mem_iff.mp hp)).2⟩, h5, h6⟩
theorem fresh_ok {w : World} {h : Heap} {a : Addr} {b : Bool} (ho : h.get? a = some { cls := .type "set", dict := none, data := .set #[] 0 (.fresh 0 0 b) }) : Set0 w h a [] :=
  ⟨[], #[], 0, .fresh 0 0 b, .refl _, ⟨_, ho, ⟨rfl, rfl, rfl⟩, rfl⟩, rfl, ⟨List.Pairwise.nil, rfl, rfl, ⟨3, by decide, rfl⟩, fun x hx => (by cases hx), fun {i h j} hi => (by simp [hashesL] at hi)⟩, List.nodup_nil, (by show 0 * 5 < 7 * 3; decide), (by show 7 ≤ 8191; decide)⟩
/-- set() -/
def rNewS (w : World) : List V → Hp → VK → Prop := fun xs H Q => xs = [] ∧ ∀ p, H p = none → Q (.ref p) (upd H p (SO w p []))
theorem cr_newS : CallR X (.type "set") (rNewS X.w) := by
  intro pins s σ H xs us Q I r h
  obtain ⟨rfl, q⟩ := h
  cases r
  refine setR_new fun _ => ?_
  refine ⟨.ref _, upd H s.heap.objs.size (SO X.w s.heap.objs.size []), I.laid (t' := s.toks) (fun b u e => Heap.get?_push_of_some _ e) (Nat.le_refl _) (so_new (fresh_ok (b := !X.w.params.followText "set-order") (Heap.get?_push_size _ rfl))), rfl, q _ (I.hok.fresh (Nat.le_refl _))⟩
/-- s.add(t) -/
def rAddS (K : PySem.W.Frag) (w : World) : V → List V → Hp → VK → Prop := fun x xs H Q => ∃ (a b : Addr) (k : NestedKey) (L : KL), x = .ref a ∧ xs = [.ref b] ∧ H a = some (SO w a L) ∧ KeysS K H L ∧ NkV K H (.ref b) k ∧ k.depth ≤ 8 ∧ k ∉ L.map (·.2) ∧ L.length < 2000 ∧
  Q .non (upd H a (SO w a ((b, k) :: L)))
theorem mt_addS (hu : X.A.units + 10 < cLine) : MtR X "set.add" (rAddS X.K X.w) := by
  intro pins s σ H x xs v us Q I rx rxs h
  obtain ⟨a, b, k, L, rfl, rfl, ha, ks, hk, hd, hn, few, q⟩ := h
  cases (show v = Value.ref a from rx)
  cases rxs with
  | @cons _ y _ _ ry rt =>
    cases rt
    cases (show y = Value.ref b from ry)
    obtain ⟨L', es, ep, t, pm, R⟩ := so_get I ha ks
    have hx : KIs s.heap k b := ⟨hk.is I rfl, hd⟩
    obtain ⟨o, ho, hex, hdt⟩ := R.ob
    have hT : s.TypeIs (.ref a) "set" := ⟨o, ho, hex.1⟩
    refine wpAny_call_entry F.slot_set_add hT F.entry_set_add ?_ (F.args_set_add_2 _ _)
    unfold Builtin.«set.add» Builtin.Frozenset.oneOther
    simp only [List.isEmpty_nil, bind_assoc]
    unfold Builtin.Frozenset.addrOf setAdd
    refine wpAny_bind (wpAny_pure ?_)
    try dsimp only
    refine wpAny_bind (wpAny_pure ?_)
    try dsimp only
    refine wpAny_bind (wpAny_holding (wpAny_bind ((nestedKind X.prog X.w).pyHash (k := k) (by show _ + 8 < cLine; simp only [Around.in1_units]; omega) hx ?_)))
    have lm : L'.length < 2000 := by rw [pm.length_eq]; exact few
    refine add_key (s := { s with toks := s.toks + k.draws }) R hx (by simp only [Around.in1_units]; omega) lm fun _ h' L2 es2 ep2 t2 sb R2 _ c2 => ?_
    have pm2 : L2.Perm ((b, k) :: L) := (c2 fun z => hn ((pm.map _).mem_iff.mp z)).trans (pm.cons _)
    obtain ⟨o2, ho2, _⟩ := R2.ob
    show wpAny _ _ (ret Value.none) _ _ _
    exact wpAny_pure ⟨_, rfl, .non, upd H a (SO X.w a ((b, k) :: L)), I.write (e := a) (t' := s.toks + k.draws) (by rw [ha]; trivial) (.inl rfl) (fun b u hb hu => (sb.2 b hb).trans hu) ⟨o2, ho2⟩ (so_new (R2.s0 pm2)), rfl, q⟩
def tAddS (K : PySem.W.Frag) (w : World) (to : TE) (t : TA) : TE := fun σ H Q => to σ H fun x H1 => (∃ a L, x = V.ref a ∧ H1 a = some (SO w a L)) ∧ t σ H1 fun xs H2 => rAddS K w x xs H2 Q
variable {o e : Expr} {es : List Expr} {to : TE} {t : TA} {apos cpos : Pos}
theorem pe_addS (hu : X.A.units + 10 < cLine) (ho : PE X o to) (ha : PA X (e :: es) t)
    (hb : attributeBase o "add" X.env (eval o X.env) = eval o X.env := by rfl)
    (hf : ((backTo cpos (starEach (e :: es) X.env)).all (fun x => !x.1) && (backToKw cpos (keywordEach [] X.env)).all (fun x => x.1.isSome) && decide ((e :: es).length + ([] : List Keyword).length + (if ([] : List Keyword).isEmpty then 0 else 1) < 30)) = true := by rfl)
    (hl : (apos.endLine == cpos.line) = true := by rfl) (hs : starEach (e :: es) X.env = (false, eval e X.env) :: starEach es X.env := by rfl) (hp : (backTo cpos (starEach es X.env)).any (·.1) = false := by rfl) :
    PE X (.Call (.Attribute o "add" apos) (e :: es) [] cpos) (tAddS X.K X.w to t) := by
  refine ⟨fun pins s σ H Q I h => ?_⟩
  refine wpAny_Call_method_late hb hf hl rfl (thn (ho.run pins s σ H _ I h) fun v s1 ⟨x, H1, I1, r1, ty, q1⟩ => ?_)
  obtain ⟨a, L, rfl, hka⟩ := ty
  obtain ⟨L', es', ep, tb, pm, ⟨ob, hob, hex, _⟩, _⟩ := Set0.ex (I1.hok a _ hka).1
  cases (show v = Value.ref a from r1)
  refine ⟨"set", "set.add", F.plainAttrs_set, F.slot_set_add, F.type_set_add, ⟨ob, hob, hex.1⟩, (fun a' z => by cases z; exact ⟨ob, hob, hex.2.1⟩), ?_⟩
  have hA := ha.run cpos pins s1 σ H1 _ I1 q1
  rw [hs] at hA ⊢
  refine Calls.callWith_builtin (by show (false || (backTo cpos (starEach es X.env)).any (·.1)) = false; rw [hp] <;> rfl) (Calls.evalArgs_plain ?_)
  exact thn hA fun us s2 ⟨vs, H2, I2, r2, q2⟩ => mt_addS hu pins s2 σ H2 (.ref a) vs (.ref a) us Q I2 rfl r2 q2
/-- t in s, t not in s -/
def rInS (K : PySem.W.Frag) (w : World) (neg : Bool) : V → V → Hp → VK → Prop := fun x y H Q => ∃ (b : Addr) (k : NestedKey) (a : Addr) (L : KL), x = .ref b ∧ y = .ref a ∧ H a = some (SO w a L) ∧ KeysS K H L ∧ NkV K H (.ref b) k ∧ k.depth ≤ 8 ∧ Q (.bl (if neg then !decide (k ∈ L.map (·.2)) else decide (k ∈ L.map (·.2)))) H
theorem holds_at {A : Around} {E : Value → Shared → Prop} {b : Addr} {k : NestedKey} {Q : Bool → Shared → Prop} (hu : A.units + 10 < cLine) (I : Inv X pins σ H s) (ha : H a = some (SO X.w a L)) (ks : KeysS X.K H L) (hk : NkV X.K H (.ref b) k) (hd : k.depth ≤ 8)
    (h : ∀ s', Inv X pins σ H s' → Q (decide (k ∈ L.map (·.2))) s') : wpAny (model X.prog X.w) A (contains (.ref a) (.ref b)) Q E s := by
  obtain ⟨L', es, ep, t, pm, R⟩ := so_get I ha ks
  have hx : KIs s.heap k b := ⟨hk.is I rfl, hd⟩
  obtain ⟨o, ho, hex, hdt⟩ := R.ob
  have hT : s.TypeIs (.ref a) "set" := ⟨o, ho, hex.1⟩
  unfold contains
  try with_reducible refine wpAny_holding ?_
  refine wpAny_bind (wpAny_specialOf hT F.slot_set_contains.lookup ?_)
  show wpAny _ _ (if (some (Value.builtin "set.__contains__") == some Value.none) = true then _ else _) _ E s
  rw [if_neg (by rw [beq_builtin_none]; exact Bool.false_ne_true)]
  refine wpAny_bind (wpAny_callSpecialUnlessNone?_slot (name := Str.ofString "__contains__") hT F.slot_set_contains (wpAny_call_entry F.slot_set_contains hT entry_set_contains ?_ (F.args_set_contains_2 _ _)))
  unfold Builtin.«frozenset.__contains__» Builtin.Frozenset.oneOther
  simp only [List.isEmpty_nil, bind_assoc]
  unfold Builtin.Frozenset.addrOf Builtin.Frozenset.withSetAsKey setContains
  refine wpAny_bind (wpAny_pure ?_)
  try dsimp only
  refine wpAny_bind (wpAny_pure ?_)
  try dsimp only
  refine wpAny_bind (wpAny_tryCatch (wpAny_holding (wpAny_bind ((nestedKind X.prog X.w).pyHash (k := k) (by show _ + 8 < cLine; simp only [Around.in1_units]; omega) hx ?_))))
  refine wpAny_bind (find_key (s := { s with toks := s.toks + k.draws }) R hx (by simp only [Around.in1_units]; omega) fun r hr => wpAny_pure ?_)
  show wpAny _ _ (ret (Value.bool r.isSome)) _ _ _
  rw [hr]
  refine wpAny_pure ⟨_, rfl, wpAny_truthy_bool ?_⟩
  have e : decide (k ∈ L'.map (·.2)) = decide (k ∈ L.map (·.2)) := decide_eq_decide.mpr (pm.map _).mem_iff
  rw [e]
  exact h _ (I.tok _)
theorem or_inS (hu : X.A.units + 10 < cLine) : OpR X (compareOp .In) (rInS X.K X.w false) := by
  intro pins s σ H x y v u Q I rx ry h
  obtain ⟨b, k, a, L, rfl, rfl, ha, ks, hk, hd, q⟩ := h
  cases (show v = Value.ref b from rx)
  cases (show u = Value.ref a from ry)
  show wpAny _ _ (do return Value.bool (← contains (.ref a) (.ref b)) : Sem Value) _ _ s
  exact wpAny_bind (holds_at hu I ha ks hk hd fun s' I' => wpAny_pure ⟨.bl _, H, I', rfl, q⟩)
theorem or_notInS (hu : X.A.units + 10 < cLine) : OpR X (compareOp .NotIn) (rInS X.K X.w true) := by
  intro pins s σ H x y v u Q I rx ry h
  obtain ⟨b, k, a, L, rfl, rfl, ha, ks, hk, hd, q⟩ := h
  cases (show v = Value.ref b from rx)
  cases (show u = Value.ref a from ry)
  show wpAny _ _ (do return Value.bool (!(← contains (.ref a) (.ref b))) : Sem Value) _ _ s
  exact wpAny_bind (holds_at hu I ha ks hk hd fun s' I' => wpAny_pure ⟨.bl _, H, I', rfl, q⟩)
end
end CS
set_option maxHeartbeats 1000000
namespace LK
open PySem PySem.Spec PyProof.Rows L2 CD
def topS (i : Nat) : Stmt := PySem.Challenge.pw_callsdown_k80_whole_lines_beside.main.body.getD i (.Pass ⟨0, 0, 0, 0⟩)
abbrev s_is_integer : Stmt := topS 7
abbrev n_is_integer : List Str := ["thing"]
abbrev p_is_integer : List Str := ["thing"]
theorem sc_is_integer : FnScope n_is_integer p_is_integer (defScope s_is_integer) := ⟨rfl, rfl, rfl, by decide +kernel, rfl, by decide +kernel, by decide +kernel⟩
abbrev s_is_number : Stmt := topS 8
abbrev n_is_number : List Str := ["thing", "low", "high"]
abbrev p_is_number : List Str := ["thing", "low", "high"]
theorem sc_is_number : FnScope n_is_number p_is_number (defScope s_is_number) := ⟨rfl, rfl, rfl, by decide +kernel, rfl, by decide +kernel, by decide +kernel⟩
abbrev s_is_ascending : Stmt := topS 9
abbrev n_is_ascending : List Str := ["things", "one", "behind"]
abbrev p_is_ascending : List Str := ["things"]
theorem sc_is_ascending : FnScope n_is_ascending p_is_ascending (defScope s_is_ascending) := ⟨rfl, rfl, rfl, by decide +kernel, rfl, by decide +kernel, by decide +kernel⟩
abbrev s_is_row : Stmt := topS 10
abbrev n_is_row : List Str := ["thing", "most", "low", "high", "one"]
abbrev p_is_row : List Str := ["thing", "most", "low", "high"]
theorem sc_is_row : FnScope n_is_row p_is_row (defScope s_is_row) := ⟨rfl, rfl, rfl, by decide +kernel, rfl, by decide +kernel, by decide +kernel⟩
abbrev s_is_absence : Stmt := topS 11
abbrev n_is_absence : List Str := ["thing", "most"]
abbrev p_is_absence : List Str := ["thing", "most"]
theorem sc_is_absence : FnScope n_is_absence p_is_absence (defScope s_is_absence) := ⟨rfl, rfl, rfl, by decide +kernel, rfl, by decide +kernel, by decide +kernel⟩
abbrev s_need_absence : Stmt := topS 12
abbrev n_need_absence : List Str := ["absent"]
abbrev p_need_absence : List Str := ["absent"]
theorem sc_need_absence : FnScope n_need_absence p_need_absence (defScope s_need_absence) := ⟨rfl, rfl, rfl, by decide +kernel, rfl, by decide +kernel, by decide +kernel⟩
abbrev s_need_person : Stmt := topS 13
abbrev n_need_person : List Str := ["person"]
abbrev p_need_person : List Str := ["person"]
theorem sc_need_person : FnScope n_need_person p_need_person (defScope s_need_person) := ⟨rfl, rfl, rfl, by decide +kernel, rfl, by decide +kernel, by decide +kernel⟩
abbrev s_first_window : Stmt := topS 15
abbrev n_first_window : List Str := ["reach"]
abbrev p_first_window : List Str := ["reach"]
theorem sc_first_window : FnScope n_first_window p_first_window (defScope s_first_window) := ⟨rfl, rfl, rfl, by decide +kernel, rfl, by decide +kernel, by decide +kernel⟩
abbrev s_called_at : Stmt := topS 16
abbrev n_called_at : List Str := ["rule", "window", "calls", "place", "step"]
abbrev p_called_at : List Str := ["rule", "window"]
theorem sc_called_at : FnScope n_called_at p_called_at (defScope s_called_at) := ⟨rfl, rfl, rfl, by decide +kernel, rfl, by decide +kernel, by decide +kernel⟩
abbrev s_state_behind : Stmt := topS 17
abbrev n_state_behind : List Str := ["rule", "absent", "people", "state", "person", "gone"]
abbrev p_state_behind : List Str := ["rule", "absent", "people"]
theorem sc_state_behind : FnScope n_state_behind p_state_behind (defScope s_state_behind) := ⟨rfl, rfl, rfl, by decide +kernel, rfl, by decide +kernel, by decide +kernel⟩
abbrev s_low_and_shape : Stmt := topS 18
abbrev n_low_and_shape : List Str := ["window", "low", "tick"]
abbrev p_low_and_shape : List Str := ["window"]
theorem sc_low_and_shape : FnScope n_low_and_shape p_low_and_shape (defScope s_low_and_shape) := ⟨rfl, rfl, rfl, by decide +kernel, rfl, by decide +kernel, by decide +kernel⟩
abbrev s__behind_person : Stmt := topS 19
abbrev n__behind_person : List Str := ["state", "tick", "window", "last"]
abbrev p__behind_person : List Str := ["state", "tick"]
theorem sc__behind_person : FnScope n__behind_person p__behind_person (defScope s__behind_person) := ⟨rfl, rfl, rfl, by decide +kernel, rfl, by decide +kernel, by decide +kernel⟩
abbrev s__behind_few : Stmt := topS 20
abbrev n__behind_few : List Str := ["rule", "state", "count", "_"]
abbrev p__behind_few : List Str := ["rule", "state", "count"]
theorem sc__behind_few : FnScope n__behind_few p__behind_few (defScope s__behind_few) := ⟨rfl, rfl, rfl, by decide +kernel, rfl, by decide +kernel, by decide +kernel⟩
abbrev s__behind_many : Stmt := topS 21
abbrev n__behind_many : List Str := ["rule", "state", "count", "seen", "left", "base", "shape", "start", "low"]
abbrev p__behind_many : List Str := ["rule", "state", "count"]
theorem sc__behind_many : FnScope n__behind_many p__behind_many (defScope s__behind_many) := ⟨rfl, rfl, rfl, by decide +kernel, rfl, by decide +kernel, by decide +kernel⟩
abbrev s__behind_rounds : Stmt := topS 22
abbrev n__behind_rounds : List Str := ["rule", "state", "count", "size", "more", "rounds", "window", "last", "ahead"]
abbrev p__behind_rounds : List Str := ["rule", "state", "count", "size", "more"]
theorem sc__behind_rounds : FnScope n__behind_rounds p__behind_rounds (defScope s__behind_rounds) := ⟨rfl, rfl, rfl, by decide +kernel, rfl, by decide +kernel, by decide +kernel⟩
abbrev s__later : Stmt := topS 23
abbrev n__later : List Str := ["window", "more", "tick"]
abbrev p__later : List Str := ["window", "more"]
theorem sc__later : FnScope n__later p__later (defScope s__later) := ⟨rfl, rfl, rfl, by decide +kernel, rfl, by decide +kernel, by decide +kernel⟩
abbrev s_need_rule : Stmt := topS 27
abbrev n_need_rule : List Str := ["thing", "step"]
abbrev p_need_rule : List Str := ["thing"]
theorem sc_need_rule : FnScope n_need_rule p_need_rule (defScope s_need_rule) := ⟨rfl, rfl, rfl, by decide +kernel, rfl, by decide +kernel, by decide +kernel⟩
abbrev s_tick_of : Stmt := topS 28
abbrev n_tick_of : List Str := ["rule", "absent", "person", "window", "_"]
abbrev p_tick_of : List Str := ["rule", "absent", "person"]
theorem sc_tick_of : FnScope n_tick_of p_tick_of (defScope s_tick_of) := ⟨rfl, rfl, rfl, by decide +kernel, rfl, by decide +kernel, by decide +kernel⟩
abbrev s_part_line : Stmt := topS 30
abbrev n_part_line : List Str := ["rule", "other", "window", "seen", "person", "_", "shape", "tick"]
abbrev p_part_line : List Str := ["rule", "other"]
theorem sc_part_line : FnScope n_part_line p_part_line (defScope s_part_line) := ⟨rfl, rfl, rfl, by decide +kernel, rfl, by decide +kernel, by decide +kernel⟩
abbrev s_growth : Stmt := topS 32
abbrev n_growth : List Str := ["rule", "above", "below", "place", "step", "shared"]
abbrev p_growth : List Str := ["rule"]
theorem sc_growth : FnScope n_growth p_growth (defScope s_growth) := ⟨rfl, rfl, rfl, by decide +kernel, rfl, by decide +kernel, by decide +kernel⟩
abbrev s__law_mix : Stmt := topS 34
abbrev n__law_mix : List Str := ["cell", "spot", "first", "second"]
abbrev p__law_mix : List Str := ["cell", "spot"]
theorem sc__law_mix : FnScope n__law_mix p__law_mix (defScope s__law_mix) := ⟨rfl, rfl, rfl, by decide +kernel, rfl, by decide +kernel, by decide +kernel⟩
abbrev s__law_begun : Stmt := topS 35
abbrev n__law_begun : List Str := ["script", "some", "cell"]
abbrev p__law_begun : List Str := ["script"]
theorem sc__law_begun : FnScope n__law_begun p__law_begun (defScope s__law_begun) := ⟨rfl, rfl, rfl, by decide +kernel, rfl, by decide +kernel, by decide +kernel⟩
abbrev s__law_draw : Stmt := topS 36
abbrev n__law_draw : List Str := ["m", "limit", "spot", "here", "left"]
abbrev p__law_draw : List Str := ["m", "limit"]
theorem sc__law_draw : FnScope n__law_draw p__law_draw (defScope s__law_draw) := ⟨rfl, rfl, rfl, by decide +kernel, rfl, by decide +kernel, by decide +kernel⟩
abbrev s__law_like : Stmt := topS 37
abbrev n__law_like : List Str := ["answer", "due"]
abbrev p__law_like : List Str := ["answer", "due"]
theorem sc__law_like : FnScope n__law_like p__law_like (defScope s__law_like) := ⟨rfl, rfl, rfl, by decide +kernel, rfl, by decide +kernel, by decide +kernel⟩
abbrev s__law_line : Stmt := topS 38
abbrev n__law_line : List Str := ["m", "left", "found", "k", "spot"]
abbrev p__law_line : List Str := ["m"]
theorem sc__law_line : FnScope n__law_line p__law_line (defScope s__law_line) := ⟨rfl, rfl, rfl, by decide +kernel, rfl, by decide +kernel, by decide +kernel⟩
abbrev s__law_next : Stmt := topS 39
abbrev n__law_next : List Str := ["row", "ahead", "found", "k"]
abbrev p__law_next : List Str := ["row", "ahead"]
theorem sc__law_next : FnScope n__law_next p__law_next (defScope s__law_next) := ⟨rfl, rfl, rfl, by decide +kernel, rfl, by decide +kernel, by decide +kernel⟩
abbrev s__law_walk : Stmt := topS 40
abbrev n__law_walk : List Str := ["row", "gone", "size", "found", "who"]
abbrev p__law_walk : List Str := ["row", "gone", "size"]
theorem sc__law_walk : FnScope n__law_walk p__law_walk (defScope s__law_walk) := ⟨rfl, rfl, rfl, by decide +kernel, rfl, by decide +kernel, by decide +kernel⟩
abbrev s__law_far : Stmt := topS 41
abbrev n__law_far : List Str := ["m", "least", "found", "k"]
abbrev p__law_far : List Str := ["m", "least"]
theorem sc__law_far : FnScope n__law_far p__law_far (defScope s__law_far) := ⟨rfl, rfl, rfl, by decide +kernel, rfl, by decide +kernel, by decide +kernel⟩
abbrev s__law_near : Stmt := topS 42
abbrev n__law_near : List Str := ["m", "row", "way", "spot", "more"]
abbrev p__law_near : List Str := ["m", "row"]
theorem sc__law_near : FnScope n__law_near p__law_near (defScope s__law_near) := ⟨rfl, rfl, rfl, by decide +kernel, rfl, by decide +kernel, by decide +kernel⟩
abbrev s__law_right : Stmt := topS 43
abbrev n__law_right : List Str := ["m", "row", "other", "mine", "yours", "who", "some", "told_so", "lap", "far"]
abbrev p__law_right : List Str := ["m", "row", "other"]
theorem sc__law_right : FnScope n__law_right p__law_right (defScope s__law_right) := ⟨rfl, rfl, rfl, by decide +kernel, rfl, by decide +kernel, by decide +kernel⟩
abbrev s__law_growth : Stmt := topS 44
abbrev n__law_growth : List Str := ["row", "found", "k", "one"]
abbrev p__law_growth : List Str := ["row"]
theorem sc__law_growth : FnScope n__law_growth p__law_growth (defScope s__law_growth) := ⟨rfl, rfl, rfl, by decide +kernel, rfl, by decide +kernel, by decide +kernel⟩
abbrev s__law_growth_by : Stmt := topS 45
abbrev n__law_growth_by : List Str := ["found", "one", "top", "low"]
abbrev p__law_growth_by : List Str := ["found", "one"]
theorem sc__law_growth_by : FnScope n__law_growth_by p__law_growth_by (defScope s__law_growth_by) := ⟨rfl, rfl, rfl, by decide +kernel, rfl, by decide +kernel, by decide +kernel⟩
abbrev s_law : Stmt := topS 46
abbrev n_law : List Str := ["script", "m", "lap", "row", "other"]
abbrev p_law : List Str := ["script"]
theorem sc_law : FnScope n_law p_law (defScope s_law) := ⟨rfl, rfl, rfl, by decide +kernel, rfl, by decide +kernel, by decide +kernel⟩
section
variable {P : Program} {w : World} {K : PySem.W.Frag} {mg : Str → Option Value} {base : Heap}
/-! ### checks -/
def spNum : Sp := fun vs H Q _ => ∃ n lo hi : Int, vs = [.int n, .int lo, .int hi] ∧ Q (.bl (decide (lo ≤ n ∧ n ≤ hi))) H
def spInt1 : Sp := fun vs H Q _ => ∃ n : Int, vs = [.int n] ∧ Q (.bl true) H
theorem cal_is_integer (z : Z mg) (D : Def K mg "is_integer" s_is_integer p_is_integer) : Cal P w K mg base 1 "is_integer" p_is_integer spInt1 := by
  refine D.cal sc_is_integer (fun vs H Q E h => by obtain ⟨_, rfl, _⟩ := h; rfl) fun f cdv A outer s H vs Q E hr h => ?_
  obtain ⟨n, rfl, q⟩ := h
  refine ⟨_, (pss_one (ps_ret (pe_and (pe_callB (call_isi) (by rfl) z.«isinstance» (by decide +kernel) (pa_cons (pv 0) (pa_cons (pe_bltn (v := .ty "int") (by rfl) z.«int» (by decide +kernel) rfl) pa_nil))) (pe_one (pe_not (pe_callB (call_isi) (by rfl) z.«isinstance» (by decide +kernel) (pa_cons (pv 0) (pa_cons (pe_bltn (v := .ty "bool") (by rfl) z.«bool» (by decide +kernel) rfl) pa_nil)))))))), ?_⟩
  refine ⟨.int n, rfl, .int n, .ty "int", .type "int", .type "int", true, rfl, .ty _, .base (.int n), kit_ty (by decide +kernel), true, rfl, iteT ?_⟩
  exact ⟨.int n, rfl, .int n, .ty "bool", .type "int", .type "bool", false, rfl, .ty _, .base (.int n), kit_ty (by decide +kernel), false, rfl, q⟩
theorem cal_is_number (z : Z mg) (c_is_integer : Cal P w K mg base 1 "is_integer" p_is_integer spInt1) (D : Def K mg "is_number" s_is_number p_is_number) : Cal P w K mg base 2 "is_number" p_is_number spNum := by
  refine D.cal sc_is_number (fun vs H Q E h => by obtain ⟨_, _, _, rfl, _⟩ := h; rfl) fun f cdv A outer s H vs Q E hr h => ?_
  obtain ⟨n, lo, hi, rfl, q⟩ := h
  refine ⟨_, (pss_one (ps_ret (pe_and (pe_cal c_is_integer (hr.mono (by decide)) (by rfl) (pa_cons (pv 0) pa_nil)) (pe_one (pe_chain op_le op_le (pv 1) (pv 0) (pv 2)))))), ?_⟩
  refine ⟨.int n, rfl, n, rfl, true, rfl, iteT ?_⟩
  refine ⟨.int lo, rfl, .int n, rfl, lo, n, rfl, rfl, _, rfl, ite2 (fun e => ?_) (fun e => ?_)⟩
  · have e' : lo ≤ n := of_decide_eq_true e
    refine ⟨.int hi, rfl, n, hi, rfl, rfl, ?_⟩
    show Q (.bl (decide (n ≤ hi))) H
    rw [show decide (n ≤ hi) = decide (lo ≤ n ∧ n ≤ hi) from decide_eq_decide.mpr ⟨fun x => ⟨e', x⟩, fun x => x.2⟩]
    exact q
  · have e' : ¬ lo ≤ n := fun x => e (decide_eq_true x)
    show Q (.bl false) H
    rw [show false = decide (lo ≤ n ∧ n ≤ hi) from (decide_eq_false fun x => e' x.1).symm]
    exact q
def spAsc (K : PySem.W.Frag) : Sp := fun vs H Q _ => ∃ (a : Addr) (ns : List Int), vs = [.ref a] ∧ SqT K H a (ns.map V.int) ∧ ns.length ≤ 1000 ∧ ∀ H', Same H H' → Q (.bl (ascB ns)) H'
theorem cal_is_ascending (z : Z mg) (D : Def K mg "is_ascending" s_is_ascending p_is_ascending) : Cal P w K mg base 2 "is_ascending" p_is_ascending (spAsc K) := by
  refine D.cal sc_is_ascending (fun vs H Q E h => by obtain ⟨_, _, rfl, _⟩ := h; rfl) fun f cdv A outer s H vs Q E hr h => ?_
  obtain ⟨a, ns, rfl, hS, hl, q⟩ := h
  refine ⟨_, (pss_one (ps_ret (pe_callB (cr_all rfl) (by rfl) z.«all» (by decide +kernel) (pa_cons (pe_lc (own := [("one", 1), ("behind", 2)]) (g := (gTup K 2 (gCons (gName 1) (gCons (gName 2) gNil)))) (tt := tYes) rfl sc_is_ascending.nd (RZ.pi_zipA (by rfl) z.«zip» (pa_cons (pv 0) (pa_cons (pe_slice sl_tupA (pv 0) (po_some pe_int) po_none) pa_nil))) (blkOk_by (N := n_is_ascending) (sc := defScope s_is_ascending) (by decide +kernel)) (fun _ _ _ _ _ => (pg_tup rfl (pgs_cons (pg_name (i := 1) sc_is_ascending.nd rfl (Or.inl rfl)) (pgs_cons (pg_name (i := 2) sc_is_ascending.nd rfl (Or.inl rfl)) pgs_nil)))) (fun _ _ _ _ _ => pts_nil) (fun _ _ _ _ _ => (pe_cmpR op_lt (pv 1) (pv 2) (nomark _)))) pa_nil)))), ?_⟩
  refine ⟨.ref a, rfl, .ref a, rfl, 1, rfl, ?_⟩
  dsimp only [tNoPart]
  refine sl_tail hS fun c Hc sm hc => ?_
  refine ⟨a, c, _, _, rfl, .inr ⟨sm.tup hS, hc, fun L nL => ?_⟩⟩
  refine lc_std (walk_zipT (K := K) (a := a) (b := c) (xs := ns.map V.int) (ys := (ns.map V.int).tail) rfl) (ns.zip ns.tail) (fun p => some (.bl (decide (p.1 < p.2)))) ?_ (small1000 ?_) nL (fun H2 s2 => ⟨s2.tup (sm.tup hS), s2.tup hc⟩) (fun i x H2 H3 p R hp s2 y hR => ?_) (fun H2 s2 e => ?_)
  · simp only [List.length_zip, List.length_tail, List.length_map]
  · simp only [List.length_tail, List.length_map]; omega
  · obtain ⟨T, v1, v2, rfl, nT, rfl, g1, g2⟩ := y
    have sT : Same H2 (upd H2 T (.tup [v1, v2])) := same_upd nT
    obtain ⟨k1, k2⟩ := zip_at hp
    obtain rfl := map_at k1 g1
    rw [← List.map_tail] at g2
    obtain rfl := map_at k2 g2
    refine ⟨T, _, rfl, .inl (.inl upd_same), rfl, _, _, rfl, _, _, rfl, rfl, rfl, ?_⟩
    exact ⟨_, rfl, _, rfl, p.1, p.2, rfl, rfl, hR _ sT⟩
  · refine ⟨L, (ns.zip ns.tail).map fun p => decide (p.1 < p.2), rfl, .inl (.inl ?_), ?_⟩
    · rw [e, filterMap_some, List.map_map]
      rfl
    · have e2 : ((ns.zip ns.tail).map fun p => decide (p.1 < p.2)).all id = ascB ns := by
        unfold ascB
        rw [List.all_map]
        rfl
      rw [e2]
      exact q _ (sm.trans s2)
/-- thing, most, low, high: a tuple of ints -/
def rowB (ns : List Int) (most lo hi : Int) : Bool := decide ((ns.length : Int) ≤ most) && (ns.all fun n => decide (lo ≤ n ∧ n ≤ hi)) && ascB ns
def spRow (K : PySem.W.Frag) : Sp := fun vs H Q _ => ∃ (a : Addr) (ns : List Int) (most lo hi : Int), vs = [.ref a, .int most, .int lo, .int hi] ∧ SqT K H a (ns.map V.int) ∧ ns.length ≤ 1000 ∧ ∀ H', Same H H' → Q (.bl (rowB ns most lo hi)) H'
theorem cal_is_row (z : Z mg) (c_is_number : Cal P w K mg base 2 "is_number" p_is_number spNum) (c_is_ascending : Cal P w K mg base 2 "is_ascending" p_is_ascending (spAsc K)) (D : Def K mg "is_row" s_is_row p_is_row) :
    Cal P w K mg base 3 "is_row" p_is_row (spRow K) := by
  refine D.cal sc_is_row (fun vs H Q E h => by obtain ⟨_, _, _, _, _, rfl, _⟩ := h; rfl) fun f cdv A outer s H vs Q E hr h => ?_
  obtain ⟨a, ns, most, lo, hi, rfl, hS, hl, q⟩ := h
  refine ⟨_, (pss_cons (ps_if (PW.pt (pw_or (pt_not (pt_val (pe_callB (call_isi) (by rfl) z.«isinstance» (by decide +kernel) (pa_cons (pv 0) (pa_cons (pe_bltn (v := .ty "tuple") (by rfl) z.«tuple» (by decide +kernel) rfl) pa_nil))))) (pw_or1 (pt_cmpR op_gt (pe_callB (call_len_seq) (by rfl) z.«len» (by decide +kernel) (pa_cons (pv 0) pa_nil)) (pv 1) (nomark _))))) (pss_one (ps_ret pe_bl)) pss_nil)
        (pss_one (ps_ret (pe_and (pe_callB (cr_all rfl) (by rfl) z.«all» (by decide +kernel) (pa_cons (pe_lc (own := [("one", 4)]) (g := (gName 4)) (tt := tYes) rfl sc_is_row.nd (pi_tup (pv 0)) (blkOk_by (N := n_is_row) (sc := defScope s_is_row) (by decide +kernel)) (fun _ _ _ _ _ => (pg_name (i := 4) sc_is_row.nd rfl (Or.inl rfl))) (fun _ _ _ _ _ => pts_nil) (fun _ _ _ _ _ => (pe_cal c_is_number (hr.mono (by decide)) (by rfl) (pa_cons (pv 4) (pa_cons (pv 2) (pa_cons (pv 3) pa_nil)))))) pa_nil)) (pe_one (pe_cal c_is_ascending (hr.mono (by decide)) (by rfl) (pa_cons (pv 0) pa_nil))))))), ?_⟩
  refine ⟨.ref a, rfl, .ref a, .ty "tuple", .type "tuple", .type "tuple", true, rfl, .ty _, tyx_tup hS, kit_ty (by decide +kernel), true, rfl, iteF ?_⟩
  refine ⟨.ref a, rfl, a, _, rfl, .inr hS, .int most, rfl, _, most, rfl, rfl, _, rfl, ite2 (fun e => ?_) (fun e => ?_)⟩
  · have e1 : most < ((ns.map V.int).length : Int) := of_decide_eq_true e
    rw [List.length_map] at e1
    have e2 : rowB ns most lo hi = false := by
      unfold rowB
      rw [decide_eq_false (by omega)]
      rfl
    have z2 := q H (Same.refl H)
    rw [e2] at z2
    exact z2
  · have e1 : ¬ most < ((ns.map V.int).length : Int) := fun x => e (decide_eq_true x)
    rw [List.length_map] at e1
    refine ⟨.ref a, rfl, a, rfl, ⟨_, hS⟩, fun L nL => ?_⟩
    refine lc_std (walk_tup (K := K) (a := a) (xs := ns.map V.int)) ns (fun n => some (.bl (decide (lo ≤ n ∧ n ≤ hi)))) (by rw [List.length_map]) (small1000 (by rw [List.length_map]; exact hl)) nL (fun H2 s2 => s2.tup hS) (fun i x H2 H3 n R hn s2 y hR => ?_) (fun H2 s2 e3 => ?_)
    · obtain ⟨rfl, g⟩ := y
      obtain rfl := map_at hn g
      refine ⟨rfl, ?_⟩
      exact ⟨_, rfl, .int lo, rfl, .int hi, rfl, n, lo, hi, rfl, hR _ (Same.refl _)⟩
    · refine ⟨L, ns.map fun n => decide (lo ≤ n ∧ n ≤ hi), rfl, .inl (.inl ?_), ?_⟩
      · rw [e3, filterMap_some, List.map_map]
        rfl
      · have e4 : (ns.map fun n => decide (lo ≤ n ∧ n ≤ hi)).all id = ns.all fun n => decide (lo ≤ n ∧ n ≤ hi) := by
          rw [List.all_map]
          rfl
        rw [e4]
        refine ⟨_, rfl, ite2 (fun e5 => ?_) (fun e5 => ?_)⟩
        · refine ⟨.ref a, rfl, a, ns, rfl, s2.tup hS, hl, fun H4 s4 => ?_⟩
          have z2 := q H4 (s2.trans s4)
          unfold rowB at z2
          rw [decide_eq_true (by omega), e5] at z2
          exact z2
        · have z2 := q H2 s2
          unfold rowB at z2
          rw [Bool.not_eq_true] at e5
          rw [decide_eq_true (by omega), e5] at z2
          exact z2
def spAbs (K : PySem.W.Frag) : Sp := fun vs H Q _ => ∃ (a : Addr) (ns : List Int) (most : Int), vs = [.ref a, .int most] ∧ SqT K H a (ns.map V.int) ∧ ns.length ≤ 1000 ∧ ∀ H', Same H H' → Q (.bl (rowB ns most 1 (10 ^ 30))) H'
theorem cal_is_absence (z : Z mg) (m_MOST_NUMBER : ∃ t, mg "MOST_NUMBER" = some (.int (10 ^ 30) t)) (c_is_row : Cal P w K mg base 3 "is_row" p_is_row (spRow K)) (D : Def K mg "is_absence" s_is_absence p_is_absence) :
    Cal P w K mg base 4 "is_absence" p_is_absence (spAbs K) := by
  obtain ⟨tt, m_MOST_NUMBER⟩ := m_MOST_NUMBER
  refine D.cal sc_is_absence (fun vs H Q E h => by obtain ⟨_, _, _, rfl, _⟩ := h; rfl) fun f cdv A outer s H vs Q E hr h => ?_
  obtain ⟨a, ns, most, rfl, hS, hl, q⟩ := h
  refine ⟨_, (pss_one (ps_ret (pe_cal c_is_row (hr.mono (by decide)) (by rfl) (pa_cons (pv 0) (pa_cons (pv 1) (pa_cons pe_int (pa_cons (pe_globI (by rfl) m_MOST_NUMBER) pa_nil))))))), ?_⟩
  exact ⟨.ref a, rfl, .int most, rfl, a, ns, most, 1, 10 ^ 30, rfl, hS, hl, q⟩
structure IsAbs (ns : List Int) : Prop where
  most : ns.length ≤ 4
  rng : ∀ n ∈ ns, 1 ≤ n ∧ n ≤ 10 ^ 30
  asc : ascB ns = true
theorem IsAbs.row {ns : List Int} (h : IsAbs ns) : rowB ns 4 1 (10 ^ 30) = true := by
  have h1 := h.most
  unfold rowB
  rw [decide_eq_true (by omega), h.asc, Bool.and_true, Bool.true_and, List.all_eq_true]
  intro n hn
  exact decide_eq_true (h.rng n hn)
def spNeedAbs (K : PySem.W.Frag) : Sp := fun vs H Q _ => ∃ (a : Addr) (ns : List Int), vs = [.ref a] ∧ SqT K H a (ns.map V.int) ∧ IsAbs ns ∧ ∀ H', Same H H' → Q .non H'
theorem cal_need_absence (z : Z mg) (m_MOST_MISSING : ∃ t, mg "MOST_MISSING" = some (.int 4 t)) (c_is_absence : Cal P w K mg base 4 "is_absence" p_is_absence (spAbs K)) (D : Def K mg "need_absence" s_need_absence p_need_absence) :
    Cal P w K mg base 5 "need_absence" p_need_absence (spNeedAbs K) := by
  obtain ⟨tt, m_MOST_MISSING⟩ := m_MOST_MISSING
  refine D.cal sc_need_absence (fun vs H Q E h => by obtain ⟨_, _, rfl, _⟩ := h; rfl) fun f cdv A outer s H vs Q E hr h => ?_
  obtain ⟨a, ns, rfl, hS, hA, q⟩ := h
  refine ⟨_, (pss_one (ps_if (pt_not (pt_val (pe_cal c_is_absence (hr.mono (by decide)) (by rfl) (pa_cons (pv 0) (pa_cons (pe_globI (by rfl) m_MOST_MISSING) pa_nil))))) (pss_one ps_never) pss_nil)), ?_⟩
  refine ⟨.ref a, rfl, a, ns, 4, rfl, hS, by have := hA.most; omega, fun H' sm => ?_⟩
  rw [hA.row]
  exact ⟨true, rfl, iteF (q H' sm)⟩
def spNeedNum (lo : Int) : Sp := fun vs H Q _ => ∃ n : Int, vs = [.int n] ∧ lo ≤ n ∧ n ≤ 10 ^ 30 ∧ Q .non H
theorem cal_need_person (z : Z mg) (m_MOST_NUMBER : ∃ t, mg "MOST_NUMBER" = some (.int (10 ^ 30) t)) (c_is_number : Cal P w K mg base 2 "is_number" p_is_number spNum) (D : Def K mg "need_person" s_need_person p_need_person) :
    Cal P w K mg base 3 "need_person" p_need_person (spNeedNum 0) := by
  obtain ⟨tt, m_MOST_NUMBER⟩ := m_MOST_NUMBER
  refine D.cal sc_need_person (fun vs H Q E h => by obtain ⟨_, rfl, _⟩ := h; rfl) fun f cdv A outer s H vs Q E hr h => ?_
  obtain ⟨n, rfl, h0, h1, q⟩ := h
  refine ⟨_, (pss_one (ps_if (pt_not (pt_val (pe_cal c_is_number (hr.mono (by decide)) (by rfl) (pa_cons (pv 0) (pa_cons pe_int (pa_cons (pe_globI (by rfl) m_MOST_NUMBER) pa_nil)))))) (pss_one ps_never) pss_nil)), ?_⟩
  refine ⟨.int n, rfl, n, 0, 10 ^ 30, rfl, ?_⟩
  rw [decide_eq_true ⟨h0, h1⟩]
  exact ⟨true, rfl, iteF q⟩
def spNeedRule (K : PySem.W.Frag) : Sp := fun vs H Q _ => ∃ (a : Addr) (ns : List Int), vs = [.ref a] ∧ SqT K H a (ns.map V.int) ∧ IsRule ns ∧ ∀ H', Same H H' → Q (.ref a) H'
theorem cal_need_rule (z : Z mg) (m_MOST_STEPS : ∃ t, mg "MOST_STEPS" = some (.int 4 t)) (m_GREATEST_STEP : ∃ t, mg "GREATEST_STEP" = some (.int 6 t)) (c_is_number : Cal P w K mg base 2 "is_number" p_is_number spNum)
    (D : Def K mg "need_rule" s_need_rule p_need_rule) : Cal P w K mg base 3 "need_rule" p_need_rule (spNeedRule K) := by
  obtain ⟨t1, m_MOST_STEPS⟩ := m_MOST_STEPS
  obtain ⟨t2, m_GREATEST_STEP⟩ := m_GREATEST_STEP
  refine D.cal sc_need_rule (fun vs H Q E h => by obtain ⟨_, _, rfl, _⟩ := h; rfl) fun f cdv A outer s H vs Q E hr h => ?_
  obtain ⟨a, ns, rfl, hS, hR, q⟩ := h
  have h1 := hR.pos
  have h4 := hR.most
  refine ⟨_, (pss_cons (ps_if (PW.pt (pw_or (pt_not (pt_val (pe_callB (call_isi) (by rfl) z.«isinstance» (by decide +kernel) (pa_cons (pv 0) (pa_cons (pe_bltn (v := .ty "tuple") (by rfl) z.«tuple» (by decide +kernel) rfl) pa_nil))))) (pw_or1 (pt_not (pt_chain op_le op_le pe_int (pe_callB (call_len_seq) (by rfl) z.«len» (by decide +kernel) (pa_cons (pv 0) pa_nil)) (pe_globI (by rfl) m_MOST_STEPS)))))) (pss_one ps_never) pss_nil)
        (pss_cons (ps_if (pt_not (pt_val (pe_callB (cr_all rfl) (by rfl) z.«all» (by decide +kernel) (pa_cons (pe_lc (own := [("step", 1)]) (g := (gName 1)) (tt := tYes) rfl sc_need_rule.nd (pi_tup (pv 0)) (blkOk_by (N := n_need_rule) (sc := defScope s_need_rule) (by decide +kernel)) (fun _ _ _ _ _ => (pg_name (i := 1) sc_need_rule.nd rfl (Or.inl rfl))) (fun _ _ _ _ _ => pts_nil) (fun _ _ _ _ _ => (pe_cal c_is_number (hr.mono (by decide)) (by rfl) (pa_cons (pv 1) (pa_cons pe_int (pa_cons (pe_globI (by rfl) m_GREATEST_STEP) pa_nil)))))) pa_nil)))) (pss_one ps_never) pss_nil)
        (pss_cons (ps_if (pt_cmpR op_lt (pe_lenSetT (by rfl) z.«len» (by rfl) z.«set» (pv 0)) (pe_callB (call_len_seq) (by rfl) z.«len» (by decide +kernel) (pa_cons (pv 0) pa_nil)) (nomark _)) (pss_one ps_never) pss_nil)
        (pss_one (ps_ret (pv 0)))))), ?_⟩
  refine ⟨.ref a, rfl, .ref a, .ty "tuple", .type "tuple", .type "tuple", true, rfl, .ty _, tyx_tup hS, kit_ty (by decide +kernel), true, rfl, iteF ?_⟩
  refine ⟨.ref a, rfl, a, _, rfl, .inr hS, 1, _, rfl, rfl, _, rfl, ?_⟩
  rw [List.length_map]
  have e1 : decide ((1 : Int) ≤ (ns.length : Int)) = true := decide_eq_true (by omega)
  have e2 : decide ((ns.length : Int) ≤ 4) = true := decide_eq_true (by omega)
  rw [e1]
  refine iteT ⟨_, 4, rfl, rfl, _, rfl, ?_⟩
  rw [e2]
  refine iteF ?_
  refine ⟨.ref a, rfl, a, rfl, ⟨_, hS⟩, fun L nL => ?_⟩
  refine lc_std (walk_tup (K := K) (a := a) (xs := ns.map V.int)) ns (fun n => some (.bl (decide (1 ≤ n ∧ n ≤ 6)))) (by rw [List.length_map]) (small1000 (by rw [List.length_map]; omega)) nL (fun H2 s2 => s2.tup hS) (fun i x H2 H3 n R hn s2 y hR => ?_) (fun H2 s2 e3 => ?_)
  · obtain ⟨rfl, g⟩ := y
    obtain rfl := map_at hn g
    refine ⟨rfl, ?_⟩
    exact ⟨_, rfl, n, 1, 6, rfl, hR _ (Same.refl _)⟩
  · refine ⟨L, ns.map fun n => decide (1 ≤ n ∧ n ≤ 6), rfl, .inl (.inl ?_), ?_⟩
    · rw [e3, filterMap_some, List.map_map]
      rfl
    · have e4 : (ns.map fun n => decide (1 ≤ n ∧ n ≤ 6)).all id = true := by
        rw [List.all_map, List.all_eq_true]
        intro n hn
        exact decide_eq_true (hR.step n hn)
      rw [e4]
      refine ⟨true, rfl, iteF ?_⟩
      refine ⟨.ref a, rfl, a, ns, rfl, s2.tup hS, hR.nodup, by omega, .ref a, rfl, a, _, rfl, .inr (s2.tup hS), _, _, rfl, rfl, _, rfl, ?_⟩
      rw [List.length_map, decide_eq_false (by omega)]
      exact iteF ⟨.ref a, rfl, q H2 s2⟩
end
end LK
namespace LK
open PySem PySem.Spec PyProof.Rows L2 CD
section
variable {P : Program} {w : World} {K : PySem.W.Frag} {mg : Str → Option Value} {base : Heap}
/-! ### walks -/
/-- a state (WINDOW, LAST) at p -/
def StAt (H : Hp) (p : Addr) (st : LState) : Prop := ∃ wa, H p = some (.tup [.ref wa, .int st.2]) ∧ H wa = some (.tup (st.1.map oV))
theorem StAt.same {H H' : Hp} {p : Addr} {st : LState} (h : StAt H p st) (s : Same H H') : StAt H' p st := let ⟨wa, h1, h2⟩ := h; ⟨wa, s _ _ h1, s _ _ h2⟩
theorem oV_at {ws : Win} {i : Nat} {o : Option Int} (h : ws[i]? = some o) : (ws.map oV)[i]? = some (oV o) := by rw [List.getElem?_map, h]; rfl
theorem back_at {ws : Win} {s : Int} (h1 : 1 ≤ s) (h2 : s ≤ ws.length) : atI (ws.map oV) (-s) = some (oV (back ws s)) := by
  obtain ⟨n, rfl⟩ : ∃ n : Nat, s = n := ⟨s.toNat, by omega⟩
  refine at_neg (by omega) (by rw [List.length_map]; omega) ?_
  rw [List.length_map]
  have hi : ws.length - n < ws.length := by omega
  have e : ws[ws.length - n]? = some ws[ws.length - n] := List.getElem?_eq_getElem hi
  rw [oV_at e]
  unfold back
  rw [List.getD_eq_getElem?_getD, Int.toNat_natCast, e]
  rfl
def spCalled (K : PySem.W.Frag) : Sp := fun vs H Q _ => ∃ (r wa : Addr) (ns : List Int) (ws : Win), vs = [.ref r, .ref wa] ∧ SqT K H r (ns.map V.int) ∧ SqT K H wa (ws.map oV) ∧ ns.length ≤ 100 ∧ (∀ s ∈ ns, 1 ≤ s ∧ s ≤ ws.length) ∧
  ∀ H', Same H H' → Q (oV (calledAt ns ws)) H'
theorem cal_called_at (z : Z mg) (D : Def K mg "called_at" s_called_at p_called_at) : Cal P w K mg base 2 "called_at" p_called_at (spCalled K) := by
  refine D.cal sc_called_at (fun vs H Q E h => by obtain ⟨_, _, _, _, rfl, _⟩ := h; rfl) fun f cdv A outer s H vs Q E hr h => ?_
  obtain ⟨r, wa, ns, ws, rfl, hr1, hw, hl, hst, q⟩ := h
  refine ⟨_, (pss_cons (ps_setLc (i := 2) (own := [("place", 3), ("step", 4)]) (g := (gTup K 2 (gCons (gName 3) (gCons (gName 4) gNil)))) rfl sc_called_at.nd rfl rfl (sw_true rfl rfl rfl (by decide +kernel)) (pi_enumT (by rfl) z.«enumerate» (pa_cons (pv 0) pa_nil) (pk_cons pe_int pk_nil)) (blkOk_by (N := n_called_at) (sc := defScope s_called_at) (by decide +kernel)) (fun _ _ _ _ _ => (pg_tup rfl (pgs_cons (pg_name (i := 3) sc_called_at.nd rfl (Or.inl rfl)) (pgs_cons (pg_name (i := 4) sc_called_at.nd rfl (Or.inl rfl)) pgs_nil)))) (fun _ _ _ _ _ => (pts_one (pt_cmpR op_notN (pe_ix (ix_tupK (K := K) rfl) (pv 1) (pe_un un_neg (pv 4)) (fun _ _ => rfl)) pe_non (nomark _)))) (fun _ _ _ _ _ => (pe_op op_add (pe_ix (ix_tupK (K := K) rfl) (pv 1) (pe_un un_neg (pv 4)) (fun _ _ => rfl)) (pv 3))))
        (pss_one (ps_ret (pe_callBK (cr_minDef rfl (hu_of hr)) (by rfl) z.«min» (by decide +kernel) (pa_cons (pv 2) pa_nil) (pk_cons pe_non pk_nil))))), ?_⟩
  refine ⟨.ref r, rfl, r, _, 1, rfl, rfl, by omega, by omega, hr1, fun L nL => ?_⟩
  refine lc_std (walk_enumT (K := K) (a := r) (k := 1) (xs := ns.map V.int)) (ns.zipIdx 1) (fun p => (callAt ws p).map V.int) (by rw [List.length_zipIdx, List.length_map]) (small1000 (by rw [List.length_map]; omega)) nL (fun H2 s2 => s2.tup hr1) (fun i x H2 H3 p R hp s2 y hR => ?_) (fun H2 s2 e => ?_)
  · obtain ⟨T, v1, v2, rfl, nT, rfl, g1, g2⟩ := y
    have sT : Same H2 (upd H2 T (.tup [v1, v2])) := same_upd nT
    rw [List.getElem?_zipIdx] at hp
    cases er : ns[i]? with
    | none => rw [er] at hp; cases hp
    | some sp =>
      rw [er] at hp
      have ep : p = (sp, 1 + i) := (Option.some.inj hp).symm
      subst ep
      obtain rfl := map_at er g2
      have e1 : v1 = .int (1 + (i : Nat)) := (Option.some.inj g1).symm
      subst e1
      obtain ⟨b1, b2⟩ := hst sp (List.mem_of_getElem? er)
      refine ⟨T, _, rfl, .inl (.inl upd_same), rfl, _, _, rfl, _, _, rfl, rfl, rfl, ?_⟩
      refine ⟨.ref wa, rfl, _, rfl, sp, rfl, wa, _, _, _, rfl, rfl, sT.tup (s2.tup hw), back_at b1 b2, rfl, ?_⟩
      cases eb : back ws sp with
      | none =>
        refine ⟨false, rfl, iteF ?_⟩
        have hc : callAt ws (sp, 1 + i) = none := by unfold callAt; rw [eb]; rfl
        rw [hc] at hR
        exact hR _ sT
      | some t =>
        refine ⟨true, rfl, iteT ?_⟩
        have hc : callAt ws (sp, 1 + i) = some (t + ((1 + i : Nat) : Int)) := by unfold callAt; rw [eb]; rfl
        rw [hc] at hR
        have e3 : (1 : Int) + (i : Nat) = ((1 + i : Nat) : Int) := by omega
        have hb := back_at b1 b2
        rw [eb] at hb
        refine ⟨.ref wa, rfl, _, rfl, sp, rfl, wa, _, _, _, rfl, rfl, sT.tup (s2.tup hw), hb, .int (1 + (i : Nat)), rfl, t, _, rfl, rfl, ?_⟩
        rw [e3]
        exact hR _ sT
  · have e2 : (ns.zipIdx 1).filterMap (fun p => (callAt ws p).map V.int) = (calls ns ws).map V.int := by
      unfold calls
      rw [List.map_filterMap]
    rw [e2] at e
    refine ⟨.ref L, rfl, L, calls ns ws, .non, rfl, rfl, .inl (.inl e), ?_⟩
    have z2 := q H2 s2
    unfold calledAt at z2
    cases el : leastO (calls ns ws) with
    | none => rw [el] at z2; exact z2
    | some m => rw [el] at z2; exact z2
def spPerson (K : PySem.W.Frag) : Sp := fun vs H Q _ => ∃ (p : Addr) (st : LState) (o : Option Int), vs = [.ref p, oV o] ∧ StAt H p st ∧ st.1.length ≤ 100 ∧ ∀ H' p', Same H H' → StAt H' p' (behindP st o) → Q (.ref p') H'
theorem cal_behind_person (z : Z mg) (D : Def K mg "_behind_person" s__behind_person p__behind_person) : Cal P w K mg base 2 "_behind_person" p__behind_person (spPerson K) := by
  refine D.cal sc__behind_person (fun vs H Q E h => by obtain ⟨_, _, _, rfl, _⟩ := h; rfl) fun f cdv A outer s H vs Q E hr h => ?_
  obtain ⟨p, st, o, rfl, ⟨wa, hp, hw⟩, hl, q⟩ := h
  refine ⟨_, (pss_cons (ps_asg (pv 0) (pg_tup rfl (pgs_cons (pg_name (i := 2) sc__behind_person.nd rfl (Or.inl rfl)) (pgs_cons (pg_name (i := 3) sc__behind_person.nd rfl (Or.inl rfl)) pgs_nil))))
        (pss_cons (ps_if (PW.pt (pw_and (pt_cmpR op_notN (pv 1) pe_non (nomark _)) (pw_and1 (pt_cmpR op_gt (pv 1) (pv 3) (nomark _))))) (pss_one (ps_set (i := 3) sc__behind_person.nd rfl (Or.inl rfl) (pv 1))) pss_nil)
        (pss_one (ps_ret (pe_tup (pa_cons (pe_op op_catA (pe_slice sl_tupA (pv 2) (po_some pe_int) po_none) (pe_tup (pa_cons (pv 1) pa_nil))) (pa_cons (pv 3) pa_nil))))))), ?_⟩
  refine ⟨.ref p, rfl, p, _, rfl, .inl (.inl hp), rfl, _, _, rfl, _, _, rfl, rfl, ?_⟩
  have fin : ∀ σ : L2.St, σ[1]? = some (some (oV o)) → σ[2]? = some (some (V.ref wa)) → σ[3]? = some (some (V.int (lastOf o st.2))) →
      tTup (tCons (tOp (rCatA K) (tSl (rSlA K) (tVar 2) (tPart (tC (.int 1))) tNoPart) (tTup (tCons (tVar 1) tNil))) (tCons (tVar 3) tNil)) σ H Q := fun σ h1 h2 h3 => by
    refine ⟨_, h2, 1, rfl, ?_⟩
    dsimp only [tNoPart]
    refine sl_tail (.inl (.inl hw)) fun c Hc sm hc => ?_
    refine ⟨_, h1, (by decide : 1 ≤ sizeLine), fun b nb => ?_⟩
    have sb : Same Hc (upd Hc b (.tup [oV o])) := same_upd nb
    refine cat_new (sb.tup hc) upd_same (by simp) (by rw [List.length_tail, List.length_map]; simp; omega) fun d Hd sd hd => ?_
    refine ⟨_, h3, (by decide : 2 ≤ sizeLine), fun e ne => ?_⟩
    have se : Same Hd (upd Hd e (.tup [.ref d, .int (lastOf o st.2)])) := same_upd ne
    refine q _ e (sm.trans (sb.trans (sd.trans se))) ⟨d, upd_same, se _ _ ?_⟩
    rw [hd]
    show some (HO.tup ((st.1.map oV).tail ++ [oV o])) = some (HO.tup ((st.1.tail ++ [o]).map oV))
    rw [List.map_append, List.map_tail]
    rfl
  cases o with
  | none => exact ⟨.non, rfl, rfl, false, rfl, iteF (iteF (fin [some (.ref p), some .non, some (.ref wa), some (.int st.2)] rfl rfl rfl))⟩
  | some t =>
    refine ⟨.int t, rfl, rfl, true, rfl, iteT ⟨.int t, rfl, .int st.2, rfl, t, st.2, rfl, rfl, _, rfl, ?_⟩⟩
    by_cases c : st.2 < t
    · rw [decide_eq_true c]
      refine iteT ⟨.int t, rfl, fin [some (.ref p), some (.int t), some (.ref wa), some (.int t)] rfl rfl ?_⟩
      show some (some (V.int t)) = some (some (V.int (if st.2 < t then t else st.2)))
      rw [if_pos c]
    · rw [decide_eq_false c]
      refine iteF (fin [some (.ref p), some (.int t), some (.ref wa), some (.int st.2)] rfl rfl ?_)
      show some (some (V.int st.2)) = some (some (V.int (if st.2 < t then t else st.2)))
      rw [if_neg c]
def spLater (K : PySem.W.Frag) : Sp := fun vs H Q _ => ∃ (wa : Addr) (ws : Win) (m : Int), vs = [.ref wa, .int m] ∧ SqT K H wa (ws.map oV) ∧ ws.length ≤ 100 ∧ ∀ H' c, Same H H' → H' c = some (.tup ((laterW ws m).map oV)) → Q (.ref c) H'
theorem cal_later (z : Z mg) (D : Def K mg "_later" s__later p__later) : Cal P w K mg base 2 "_later" p__later (spLater K) := by
  refine D.cal sc__later (fun vs H Q E h => by obtain ⟨_, _, _, rfl, _⟩ := h; rfl) fun f cdv A outer s H vs Q E hr h => ?_
  obtain ⟨wa, ws, m, rfl, hw, hl, q⟩ := h
  refine ⟨_, (pss_one (ps_ret (pe_callTy (call_tuple_of) (by rfl) z.«tuple» (by decide +kernel) (pa_cons (pe_lc (own := [("tick", 2)]) (g := (gName 2)) (tt := tYes) rfl sc__later.nd (pi_tup (pv 0)) (blkOk_by (N := n__later) (sc := defScope s__later) (by decide +kernel)) (fun _ _ _ _ _ => (pg_name (i := 2) sc__later.nd rfl (Or.inl rfl))) (fun _ _ _ _ _ => pts_nil) (fun _ _ _ _ _ => (pe_ifExp (pt_cmpR op_isN (pv 2) pe_non (nomark _)) pe_non (pe_op op_add (pv 2) (pv 1))))) pa_nil)))), ?_⟩
  refine ⟨.ref wa, rfl, wa, rfl, ⟨_, hw⟩, fun L nL => ?_⟩
  refine lc_std (walk_tup (K := K) (a := wa) (xs := ws.map oV)) ws (fun o => some (oV (o.map (· + m)))) (by rw [List.length_map]) (small1000 (by rw [List.length_map]; omega)) nL (fun H2 s2 => s2.tup hw) (fun i x H2 H3 o R ho s2 y hR => ?_) (fun H2 s2 e => ?_)
  · obtain ⟨rfl, g⟩ := y
    obtain rfl := map_at ho g
    refine ⟨rfl, ?_⟩
    cases o with
    | none => exact ⟨.non, rfl, rfl, true, rfl, iteT (hR _ (Same.refl _))⟩
    | some t => exact ⟨.int t, rfl, rfl, false, rfl, iteF ⟨.int t, rfl, .int m, rfl, t, m, rfl, rfl, hR _ (Same.refl _)⟩⟩
  · rw [filterMap_some] at e
    have e2 : ws.map (fun o => oV (o.map (· + m))) = (laterW ws m).map oV := by
      unfold laterW
      rw [List.map_map]
      rfl
    rw [e2] at e
    exact ⟨L, _, rfl, .inl ⟨.inl (.inl e), fun l nl => q _ l (s2.trans (same_upd nl)) upd_same⟩⟩
/-! ### many people more -/
structure Good (ns : List Int) (st : LState) : Prop where
  rl : ns.length ≤ 4
  fit : ∀ s ∈ ns, 1 ≤ s ∧ s ≤ st.1.length
  l1 : 1 ≤ st.1.length
  l2 : st.1.length ≤ 100
theorem Good.few {ns : List Int} {st : LState} (g : Good ns st) (n : Nat) : Good ns (few ns n st) := by
  have e := few_len ns n st g.l1
  exact ⟨g.rl, fun s hs => by rw [e]; exact g.fit s hs, by rw [e]; exact g.l1, by rw [e]; exact g.l2⟩
theorem Good.step {ns : List Int} {st : LState} (g : Good ns st) (o : Option Int) : Good ns (behindP st o) := by
  have e := behindP_len st o g.l1
  exact ⟨g.rl, fun s hs => by rw [e]; exact g.fit s hs, by rw [e]; exact g.l1, by rw [e]; exact g.l2⟩
theorem Good.win {ns : List Int} {st : LState} (g : Good ns st) (ws : Win) (l : Int) (e : ws.length = st.1.length) : Good ns (ws, l) :=
  ⟨g.rl, fun s hs => by show 1 ≤ s ∧ s ≤ (ws.length : Int); rw [e]; exact g.fit s hs, by show 1 ≤ ws.length; rw [e]; exact g.l1, by show ws.length ≤ 100; rw [e]; exact g.l2⟩
def spFew (K : PySem.W.Frag) : Sp := fun vs H Q _ => ∃ (r p : Addr) (ns : List Int) (st : LState) (c : Nat), vs = [.ref r, .ref p, .int c] ∧ SqT K H r (ns.map V.int) ∧ StAt H p st ∧ Good ns st ∧ c < 2 ^ 40 ∧
  ∀ H' p', Same H H' → StAt H' p' (few ns c st) → Q (.ref p') H'
theorem cal_few (z : Z mg) (c_called_at : Cal P w K mg base 2 "called_at" p_called_at (spCalled K)) (c__behind_person : Cal P w K mg base 2 "_behind_person" p__behind_person (spPerson K)) (D : Def K mg "_behind_few" s__behind_few p__behind_few) :
    Cal P w K mg base 3 "_behind_few" p__behind_few (spFew K) := by
  refine D.cal sc__behind_few (fun vs H Q E h => by obtain ⟨_, _, _, _, _, rfl, _⟩ := h; rfl) fun f cdv A outer s H vs Q E hr h => ?_
  obtain ⟨r, p, ns, st, c, rfl, hr1, hp, hg, hc, q⟩ := h
  refine ⟨_, (pss_cons (ps_for PassesOwn.never rfl (pi_range1 (by rfl) z.«range» (pa_cons (pv 2) pa_nil)) (pg_name (i := 3) sc__behind_few.nd rfl (Or.inl rfl)) (pss_one (ps_set (i := 1) sc__behind_few.nd rfl (Or.inl rfl) (pe_cal c__behind_person (hr.mono (by decide)) (by rfl) (pa_cons (pv 1) (pa_cons (pe_cal c_called_at (hr.mono (by decide)) (by rfl) (pa_cons (pv 0) (pa_cons (pe_ix ix_tup (pv 1) pe_int (fun _ _ => rfl)) pa_nil))) pa_nil))))))
        (pss_one (ps_ret (pv 1)))), ?_⟩
  refine ⟨.int c, rfl, c, rfl, by omega, by omega, ?_⟩
  refine for_it (walk_range (lo := 0) (n := (c : Int).toNat)) (fun i σ H2 => ∃ p2 y, σ = [some (.ref r), some (.ref p2), some (.int c), y] ∧ Same H H2 ∧ StAt H2 p2 (few ns i st)) ⟨p, none, rfl, Same.refl H, hp⟩ (fun _ _ _ _ _ => trivial) (fun i x σ H2 H3 hi hW y => ?_) (fun σ H2 hW => ?_)
  · obtain ⟨p2, y2, rfl, s2, hp2⟩ := hW
    obtain ⟨rfl, rfl⟩ := y
    obtain ⟨wa, h1, h2⟩ := id hp2
    have g2 := hg.few i
    refine ⟨.ref p2, rfl, .ref r, rfl, .ref p2, rfl, p2, _, 0, _, rfl, rfl, .inl (.inl h1), rfl, ?_⟩
    refine ⟨r, wa, ns, _, rfl, s2.tup hr1, .inl (.inl h2), by have := hg.rl; omega, g2.fit, fun H4 s4 => ?_⟩
    refine ⟨p2, _, _, rfl, hp2.same s4, g2.l2, fun H5 p5 s5 h5 => ?_⟩
    refine ⟨p5, _, rfl, s2.trans (s4.trans s5), ?_⟩
    rw [few_succ]
    exact h5
  · obtain ⟨p2, y2, rfl, s2, hp2⟩ := hW
    rw [Int.toNat_natCast] at hp2
    exact ⟨.ref p2, rfl, q _ _ s2 hp2⟩
end
end LK
namespace LK
open PySem PySem.Spec PyProof.Rows L2 CD
section
variable {P : Program} {w : World} {K : PySem.W.Frag} {mg : Str → Option Value} {base : Heap}
theorem fdiv_nat (a b : Nat) : Int.fdiv (a : Int) (b : Int) = ((a / b : Nat) : Int) := by
  rw [Int.fdiv_eq_ediv_of_nonneg _ (by omega)]
  rfl
def spRounds (K : PySem.W.Frag) : Sp := fun vs H Q _ => ∃ (r p : Addr) (ns : List Int) (st : LState) (c z : Nat) (m : Int), vs = [.ref r, .ref p, .int c, .int z, .int m] ∧ SqT K H r (ns.map V.int) ∧ StAt H p st ∧ Good ns st ∧ 1 ≤ z ∧ z ≤ 2 ^ 26 ∧ 0 ≤ m ∧ m ≤ 2 ^ 40 ∧
  ∀ H' p', Same H H' → StAt H' p' (few ns (c - (c / z - 1) * z) (laterW st.1 (((c / z - 1 : Nat) : Int) * m), st.2)) → Q (.ref p') H'
theorem cal_rounds (z : Z mg) (c__later : Cal P w K mg base 2 "_later" p__later (spLater K)) (c__behind_few : Cal P w K mg base 3 "_behind_few" p__behind_few (spFew K)) (D : Def K mg "_behind_rounds" s__behind_rounds p__behind_rounds) :
    Cal P w K mg base 4 "_behind_rounds" p__behind_rounds (spRounds K) := by
  refine D.cal sc__behind_rounds (fun vs H Q E h => by obtain ⟨_, _, _, _, _, _, _, rfl, _⟩ := h; rfl) fun f cdv A outer s H vs Q E hr h => ?_
  obtain ⟨r, p, ns, st, c, zz, m, rfl, hr1, hp, hg, z1, z2, m1, m2, q⟩ := h
  obtain ⟨wa, h1, h2⟩ := id hp
  refine ⟨_, (pss_cons (ps_set (i := 5) sc__behind_rounds.nd rfl (Or.inl rfl) (pe_callB (call_max2 rfl) (by rfl) z.«max» (by decide +kernel) (pa_cons pe_int (pa_cons (pe_op op_sub (pe_op op_fdivN (pv 2) (pv 3)) pe_int) pa_nil))))
        (pss_cons (ps_asg (pv 1) (pg_tup rfl (pgs_cons (pg_name (i := 6) sc__behind_rounds.nd rfl (Or.inl rfl)) (pgs_cons (pg_name (i := 7) sc__behind_rounds.nd rfl (Or.inl rfl)) pgs_nil))))
        (pss_cons (ps_set (i := 8) sc__behind_rounds.nd rfl (Or.inl rfl) (pe_tup (pa_cons (pe_cal c__later (hr.mono (by decide)) (by rfl) (pa_cons (pv 6) (pa_cons (pe_op op_mul (pv 5) (pv 4)) pa_nil))) (pa_cons (pv 7) pa_nil))))
        (pss_one (ps_ret (pe_cal c__behind_few (hr.mono (by decide)) (by rfl) (pa_cons (pv 0) (pa_cons (pv 8) (pa_cons (pe_op op_sub (pv 2) (pe_op op_mul (pv 5) (pv 3))) pa_nil))))))))), ?_⟩
  generalize hR : c / zz - 1 = R at q
  have eR : (if (Int.fdiv (c : Int) (zz : Int) - 1) > 0 then (Int.fdiv (c : Int) (zz : Int) - 1) else 0) = (R : Int) := by
    rw [fdiv_nat]
    split <;> omega
  have hz : zz * (c / zz) ≤ c := Nat.mul_div_le c zz
  have hle : R * zz ≤ c := by
    rw [← hR, Nat.mul_comm]
    exact Nat.le_trans (Nat.mul_le_mul_left _ (Nat.sub_le _ _)) hz
  have hlt : c - R * zz < 2 ^ 40 := by
    have e := Nat.div_add_mod c zz
    have l := Nat.mod_lt c (show zz > 0 by omega)
    have k : zz * (c / zz) ≤ R * zz + zz := by
      have : c / zz ≤ R + 1 := by omega
      calc zz * (c / zz) ≤ zz * (R + 1) := Nat.mul_le_mul_left _ this
        _ = R * zz + zz := by rw [Nat.mul_add, Nat.mul_one, Nat.mul_comm]
    omega
  refine ⟨.int c, rfl, .int zz, rfl, c, zz, rfl, rfl, ⟨by omega, by omega⟩, _, 1, rfl, rfl, 0, _, rfl, ?_⟩
  rw [eR]
  refine ⟨.ref p, rfl, p, _, rfl, .inl (.inl h1), rfl, _, _, rfl, _, _, rfl, rfl, ?_⟩
  refine ⟨.ref wa, rfl, .int R, rfl, .int m, rfl, R, m, rfl, rfl, .inr ⟨by omega, by omega⟩, ?_⟩
  refine ⟨wa, st.1, (R : Int) * m, rfl, .inl (.inl h2), hg.l2, fun H1 c1 s1 hc1 => ?_⟩
  refine ⟨.int st.2, rfl, (by decide : 2 ≤ sizeLine), fun p1 np1 => ?_⟩
  have s2 : Same H1 (upd H1 p1 (.tup [.ref c1, .int st.2])) := same_upd np1
  have e3 : (c : Int) - (R : Int) * (zz : Int) = ((c - R * zz : Nat) : Int) := by
    rw [Int.ofNat_sub hle, Int.natCast_mul]
  refine ⟨.ref r, rfl, .ref p1, rfl, .int c, rfl, .int R, rfl, .int zz, rfl, R, zz, rfl, rfl, .inr ⟨by omega, by omega⟩, c, _, rfl, rfl, ?_⟩
  refine ⟨r, p1, ns, (laterW st.1 ((R : Int) * m), st.2), c - R * zz, by rw [← e3]; rfl, s2.tup (s1.tup hr1), ⟨c1, upd_same, s2 _ _ hc1⟩, hg.win _ _ (laterW_len _ _), hlt, fun H3 p3 s3 h3 => ?_⟩
  exact q H3 p3 (s1.trans (s2.trans s3)) h3
/-- the shapes come again soon, or there are few people -/
def Rep (ns : List Int) (ws : Win) (c : Nat) : Prop := ∃ N, N ≤ 2 ^ 22 ∧ (c ≤ N ∨ ∃ i j, i < j ∧ j ≤ N ∧ shapeOf (winN ns i ws) = shapeOf (winN ns j ws))
theorem valO_some {ds : List (OKey × Addr × V)} {k : OKey} {v : V} (h : valO ds k = some v) : ∃ (i : Nat) (b : Addr), ds[i]? = some (k, b, v) := by
  unfold valO at h
  obtain ⟨p, hp, e⟩ := Option.map_eq_some_iff.mp h
  have hm := List.mem_of_find?_eq_some hp
  have hk : p.1 = k := of_decide_eq_true (by simpa using List.find?_some hp)
  obtain ⟨i, hi⟩ := List.mem_iff_getElem?.mp hm
  refine ⟨i, p.2.1, ?_⟩
  rw [hi, ← hk, ← e]
theorem valO_none {ds : List (OKey × Addr × V)} {k : OKey} (h : valO ds k = none) : ∀ p ∈ ds, p.1 ≠ k := by
  unfold valO at h
  have e := Option.map_eq_none_iff.mp h
  intro p hp hk
  have := List.find?_eq_none.mp e p hp
  simp [hk] at this
structure Many (P : Program) (w : World) (ns : List Int) (st : LState) (c j : Nat) (H : Hp) (d : Addr) (ds : List (OKey × Addr × V)) : Prop where
  jc : j ≤ c
  dict : H d = some (DO P w d ds)
  keys : KeysO H ds
  len : ds.length = j
  ent : ∀ i k b v, ds[i]? = some (k, b, v) → k = shapeOf (winN ns i st.1) ∧ ∃ t, v = .ref t ∧ H t = some (.tup [.int ((c : Int) - i), .int (baseOf (winN ns i st.1))])
  dis : ∀ i i2, i < i2 → i2 < j → shapeOf (winN ns i st.1) ≠ shapeOf (winN ns i2 st.1)
theorem Many.same {ns : List Int} {st : LState} {c j : Nat} {H H' : Hp} {d : Addr} {ds : List (OKey × Addr × V)} (m : Many P w ns st c j H d ds) (s : Same H H') : Many P w ns st c j H' d ds :=
  ⟨m.jc, s _ _ m.dict, fun p hp => s _ _ (m.keys p hp), m.len, fun i k b v h => by
    obtain ⟨e, t, et, ht⟩ := m.ent i k b v h
    exact ⟨e, t, et, s _ _ ht⟩, m.dis⟩
theorem told_list (ws : Win) : ws.filterMap (fun o => o.map V.int) = (told ws).map V.int := by
  unfold told
  rw [List.map_filterMap]
  rfl
theorem base_val (ws : Win) : orD (V.int 0) (leastO (told ws)) = V.int (baseOf ws) := by
  unfold baseOf
  cases leastO (told ws) <;> rfl
def spFirst : Sp := fun vs H Q _ => ∃ R : Nat, vs = [.int R] ∧ 1 ≤ R ∧ R ≤ 100 ∧ ∀ H' p, Same H H' → H' p = some (.tup ((stInit R).1.map oV)) → Q (.ref p) H'
theorem cal_first (z : Z mg) (D : Def K mg "first_window" s_first_window p_first_window) : Cal P w K mg base 2 "first_window" p_first_window spFirst := by
  refine D.cal sc_first_window (fun vs H Q E h => by obtain ⟨_, rfl, _⟩ := h; rfl) fun f cdv A outer s H vs Q E hr h => ?_
  obtain ⟨R, rfl, r1, r2, q⟩ := h
  refine ⟨_, (pss_one (ps_ret (pe_op op_catA (pe_op op_repA (pe_tup (pa_cons pe_non pa_nil)) (pe_op op_sub (pv 0) pe_int)) (pe_tup (pa_cons pe_int pa_nil))))), ?_⟩
  refine ⟨(by decide : 1 ≤ sizeLine), fun t1 nt1 => ?_⟩
  have s1 : Same H (upd H t1 (.tup [.non])) := same_upd nt1
  refine ⟨.int R, rfl, R, 1, rfl, rfl, ?_⟩
  have eM : (R : Int) - 1 = ((R - 1 : Nat) : Int) := by omega
  refine rep_any (congrArg V.int eM) (.inl (.inl upd_same)) (by simp) (by omega) (by simp) fun c Hc sm hc => ?_
  rw [flat_one] at hc
  refine ⟨(by decide : 1 ≤ sizeLine), fun t2 nt2 => ?_⟩
  have s2 : Same Hc (upd Hc t2 (.tup [.int 0])) := same_upd nt2
  refine cat_new (s2.tup hc) upd_same (by simp) (by rw [List.length_replicate]; simp; omega) fun d Hd sd hd => ?_
  refine q Hd d (s1.trans (sm.trans (s2.trans sd))) ?_
  rw [hd]
  unfold stInit
  rw [List.map_append, List.map_replicate]
  rfl
def spLow (K : PySem.W.Frag) : Sp := fun vs H Q _ => ∃ (wa : Addr) (ws : Win), vs = [.ref wa] ∧ SqT K H wa (ws.map oV) ∧ ws.length ≤ 100 ∧
  ∀ H' p c, Same H H' → H' p = some (.tup [.int (baseOf ws), .ref c]) → H' c = some (.tup ((shapeOf ws).map oV)) → Q (.ref p) H'
theorem cal_low (z : Z mg) (c__later : Cal P w K mg base 2 "_later" p__later (spLater K)) (D : Def K mg "low_and_shape" s_low_and_shape p_low_and_shape) : Cal P w K mg base 3 "low_and_shape" p_low_and_shape (spLow K) := by
  refine D.cal sc_low_and_shape (fun vs H Q E h => by obtain ⟨_, _, rfl, _⟩ := h; rfl) fun f cdv A outer s H vs Q E hr h => ?_
  obtain ⟨wa, ws, rfl, hw, hl, q⟩ := h
  refine ⟨_, (pss_cons (ps_set (i := 1) sc_low_and_shape.nd rfl (Or.inl rfl) (pe_callBK (cr_minDef rfl (hu_of hr)) (by rfl) z.«min» (by decide +kernel) (pa_cons (pe_lc (own := [("tick", 2)]) (g := (gName 2)) rfl sc_low_and_shape.nd (pi_tup (pv 0)) (blkOk_by (N := n_low_and_shape) (sc := defScope s_low_and_shape) (by decide +kernel)) (fun _ _ _ _ _ => (pg_name (i := 2) sc_low_and_shape.nd rfl (Or.inl rfl))) (fun _ _ _ _ _ => (pts_one (pt_cmpR op_notN (pv 2) pe_non (nomark _)))) (fun _ _ _ _ _ => (pv 2))) pa_nil) (pk_cons pe_int pk_nil)))
        (pss_one (ps_ret (pe_tup (pa_cons (pv 1) (pa_cons (pe_cal c__later (hr.mono (by decide)) (by rfl) (pa_cons (pv 0) (pa_cons (pe_un un_neg (pv 1)) pa_nil))) pa_nil)))))), ?_⟩
  refine ⟨.ref wa, rfl, wa, rfl, ⟨_, hw⟩, fun L nL => ?_⟩
  refine lc_std (walk_tup (K := K) (a := wa) (xs := ws.map oV)) ws (fun o => o.map V.int) (by rw [List.length_map]) (small1000 (by rw [List.length_map]; omega)) nL (fun H4 s4 => s4.tup hw) (fun i x H4 H5 o R ho s4 y hR => ?_) (fun H4 s4 e => ?_)
  · obtain ⟨rfl, g⟩ := y
    obtain rfl := map_at ho g
    refine ⟨rfl, ?_⟩
    cases o with
    | none => exact ⟨.non, rfl, rfl, false, rfl, iteF (hR _ (Same.refl _))⟩
    | some t => exact ⟨.int t, rfl, rfl, true, rfl, iteT ⟨.int t, rfl, hR _ (Same.refl _)⟩⟩
  rw [told_list] at e
  refine ⟨L, _, .int 0, rfl, rfl, .inl (.inl e), ?_⟩
  rw [base_val]
  refine ⟨_, rfl, .ref wa, rfl, _, rfl, baseOf ws, rfl, wa, ws, -baseOf ws, rfl, s4.tup hw, hl, fun H5 c5 s5 h5 => ⟨(by decide : 2 ≤ sizeLine), fun p np => ?_⟩⟩
  have sp := same_upd (o := .tup [.int (baseOf ws), .ref c5]) np
  exact q _ p c5 (s4.trans (s5.trans sp)) upd_same (sp _ _ h5)
def spMany (K : PySem.W.Frag) : Sp := fun vs H Q _ => ∃ (r p : Addr) (ns : List Int) (st : LState) (c : Nat), vs = [.ref r, .ref p, .int c] ∧ SqT K H r (ns.map V.int) ∧ StAt H p st ∧ Good ns st ∧ Rep ns st.1 c ∧
  ∀ H' p', Same H H' → StAt H' p' (few ns c st) → Q (.ref p') H'
theorem cal_many (z : Z mg) (c_low_and_shape : Cal P w K mg base 3 "low_and_shape" p_low_and_shape (spLow K)) (c__behind_few : Cal P w K mg base 3 "_behind_few" p__behind_few (spFew K)) (c__behind_rounds : Cal P w K mg base 4 "_behind_rounds" p__behind_rounds (spRounds K))
    (D : Def K mg "_behind_many" s__behind_many p__behind_many) : Cal P w K mg base 5 "_behind_many" p__behind_many (spMany K) := by
  refine D.cal sc__behind_many (fun vs H Q E h => by obtain ⟨_, _, _, _, _, rfl, _⟩ := h; rfl) fun f cdv A outer s H vs Q E hr h => ?_
  obtain ⟨r, p, ns, st, c, rfl, hr1, hp, hg, ⟨N, hN, hrep⟩, q⟩ := h
  have hu := hu_of hr
  refine ⟨_, (pss_cons (ps_set (i := 3) sc__behind_many.nd rfl (Or.inl rfl) pe_dnewO)
        (pss_cons (ps_set (i := 4) sc__behind_many.nd rfl (Or.inl rfl) (pv 2))
        (pss_cons (ps_while PassesOwn.never (pt_cmpR op_gt (pv 4) pe_int (nomark _)) (pss_cons (ps_asg (pe_cal c_low_and_shape (hr.mono (by decide)) (by rfl) (pa_cons (pe_ix ix_tup (pv 1) pe_int (fun _ _ => rfl)) pa_nil)) (pg_tup rfl (pgs_cons (pg_name (i := 5) sc__behind_many.nd rfl (Or.inl rfl)) (pgs_cons (pg_name (i := 6) sc__behind_many.nd rfl (Or.inl rfl)) pgs_nil))))
        (pss_cons (ps_if (pt_cmp (pc_oin hu (pv 6) (pv 3))) (pss_cons (ps_asg (pe_oget hu (pv 3) (pv 6) (fun _ _ => rfl)) (pg_tup rfl (pgs_cons (pg_name (i := 7) sc__behind_many.nd rfl (Or.inl rfl)) (pgs_cons (pg_name (i := 8) sc__behind_many.nd rfl (Or.inl rfl)) pgs_nil))))
        (pss_one (ps_ret (pe_cal c__behind_rounds (hr.mono (by decide)) (by rfl) (pa_cons (pv 0) (pa_cons (pv 1) (pa_cons (pv 4) (pa_cons (pe_op op_sub (pv 7) (pv 4)) (pa_cons (pe_op op_sub (pv 5) (pv 8)) pa_nil))))))))) pss_nil)
        (pss_cons (ps_oput hu (pv 3) (pv 6) (pe_tup (pa_cons (pv 4) (pa_cons (pv 5) pa_nil))) rfl)
        (pss_cons (ps_set (i := 1) sc__behind_many.nd rfl (Or.inl rfl) (pe_cal c__behind_few (hr.mono (by decide)) (by rfl) (pa_cons (pv 0) (pa_cons (pv 1) (pa_cons pe_int pa_nil)))))
        (pss_one (ps_aug (i := 4) sc__behind_many.nd rfl (Or.inl rfl) pe_int ip_sub)))))))
        (pss_one (ps_ret (pv 1)))))), ?_⟩
  intro d nd
  have s0 : Same H (upd H d (DO P w d [])) := same_upd nd
  refine ⟨_, rfl, ?_⟩
  refine ⟨fun m σ H2 => ∃ j pj ds y5 y6 y7 y8, m = c - j ∧ σ = [some (.ref r), some (.ref pj), some (.int c), some (.ref d), some (.int ((c : Int) - (j : Nat))), y5, y6, y7, y8] ∧ Same H H2 ∧ StAt H2 pj (few ns j st) ∧ Many P w ns st c j H2 d ds,
    ⟨c, 0, p, [], none, none, none, none, rfl, ?_, s0, hp.same s0, ⟨Nat.zero_le _, upd_same, fun _ h => (by cases h), rfl, fun _ _ _ _ h => (by simp at h), fun _ _ _ h => (by omega)⟩⟩, ?_⟩
  · show _ = [some (V.ref r), some (V.ref p), some (V.int c), some (V.ref d), some (V.int ((c : Int) - ((0 : Nat) : Int))), none, none, none, none]
    rw [show (c : Int) - ((0 : Nat) : Int) = c by omega]
    rfl
  intro m σ H2 hW
  obtain ⟨j, pj, ds, y5, y6, y7, y8, rfl, rfl, sm, hpj, M⟩ := hW
  obtain ⟨wa, h1, h2⟩ := id hpj
  have gj := hg.few j
  have ew : (few ns j st).1 = winN ns j st.1 := by rw [few_eq]
  have jc := M.jc
  refine ⟨.int ((c : Int) - (j : Nat)), rfl, _, 0, rfl, rfl, _, rfl, ?_⟩
  by_cases hj : (c : Int) - (j : Nat) > 0
  case neg =>
    rw [decide_eq_false (by omega)]
    refine iteF ⟨.ref pj, rfl, q H2 pj sm ?_⟩
    have : j = c := by omega
    rw [← this]
    exact hpj
  rw [decide_eq_true (by omega)]
  refine iteT ⟨fun σ H3 => ∃ pj ds y5 y6 y7 y8, σ = [some (.ref r), some (.ref pj), some (.int c), some (.ref d), some (.int ((c : Int) - (j + 1 : Nat))), y5, y6, y7, y8] ∧ Same H H3 ∧ StAt H3 pj (few ns (j + 1) st) ∧ Many P w ns st c (j + 1) H3 d ds,
    fun σ H3 hN => ?_, ?_⟩
  · obtain ⟨pj', ds', y5', y6', y7', y8', e, s3, h3, M3⟩ := hN
    exact ⟨c - (j + 1), by omega, j + 1, pj', ds', y5', y6', y7', y8', rfl, e, s3, h3, M3⟩
  -- base, shape
  refine ⟨.ref pj, rfl, pj, _, 0, _, rfl, rfl, .inl (.inl h1), rfl, wa, (few ns j st).1, rfl, .inl (.inl h2), gj.l2, fun H5 pq c5 sL hpq h5 => ?_⟩
  rw [ew] at hpq h5
  refine ⟨pq, _, rfl, .inl (.inl hpq), rfl, _, _, rfl, _, _, rfl, rfl, ?_⟩
  generalize hb : baseOf (winN ns j st.1) = bj
  have M5 := M.same sL
  have sm5 : Same H H5 := sm.trans sL
  have hp5 : StAt H5 pj (few ns j st) := hpj.same sL
  have h5' : H5 c5 = some (.tup ((shapeOf (winN ns j st.1)).map oV)) := h5
  -- shape in seen
  refine ⟨.ref c5, rfl, .ref d, rfl, d, c5, ds, _, rfl, rfl, M5.dict, M5.keys, h5', _, rfl, ?_⟩
  cases hv : valO ds (shapeOf (winN ns j st.1)) with
  | some v =>
    obtain ⟨i, b, hi⟩ := valO_some hv
    obtain ⟨hk, t, rfl, ht⟩ := M5.ent i _ b v hi
    have hij : i < j := by
      rw [← M5.len]
      exact (List.getElem?_eq_some_iff.mp hi).1
    refine iteT ⟨.ref d, rfl, .ref c5, rfl, d, c5, ds, _, _, rfl, rfl, M5.dict, M5.keys, h5', hv, t, _, rfl, .inl (.inl ht), rfl, _, _, rfl, _, _, rfl, rfl, ?_⟩
    obtain ⟨k, hk2⟩ : ∃ k, j = i + k := ⟨j - i, by omega⟩
    have ej : winN ns j st.1 = winN ns k (winN ns i st.1) := by rw [hk2, winN_add]
    rw [ej] at hk
    obtain ⟨e1, m1, m2⟩ := more_bounds hg.rl hk.symm
    rw [← ej] at e1 m1 m2
    -- j is small
    have hjN : j ≤ 2 ^ 22 := by
      rcases hrep with h | ⟨a, b2, hab, hbN, he⟩
      · omega
      · have : ¬ b2 < j := fun hlt => M5.dis a b2 hab hlt he
        omega
    refine ⟨.ref r, rfl, .ref pj, rfl, _, rfl, _, rfl, _, rfl, (c : Int) - i, (c : Int) - j, rfl, rfl, .int bj, rfl, .int (baseOf (winN ns i st.1)), rfl, bj, _, rfl, rfl, ?_⟩
    have a1 : (c : Int) - (i : Nat) - ((c : Int) - (j : Nat)) = (k : Nat) := by omega
    have a2 : (c : Int) - (j : Nat) = ((c - j : Nat) : Int) := by omega
    have m3 : bj - baseOf (winN ns i st.1) = baseOf (winN ns j st.1) - baseOf (winN ns i st.1) := by rw [hb]
    refine ⟨r, pj, ns, few ns j st, c - j, k, bj - baseOf (winN ns i st.1), by rw [← a1, ← a2]; rfl, sm5.tup hr1, hp5, gj, by omega, by omega, by rw [m3]; exact m1, by rw [m3]; omega, fun H6 p6 s6 h6 => ?_⟩
    refine q H6 p6 (sm5.trans s6) ?_
    have per : winN ns k (few ns j st).1 = laterW (few ns j st).1 (bj - baseOf (winN ns i st.1)) := by
      rw [ew, m3]
      conv => lhs; rw [e1, winN_later, ← ej]
    have fin := few_rounds ns (z := k) (by omega) (by rw [m3]; exact m1) per (c - j) (few ns j st).2
    have all : few ns c st = few ns (c - j) (few ns j st) := by
      rw [← few_add]
      congr 1
      omega
    rw [all]
    exact fin ▸ h6
  | none =>
    have nn := valO_none hv
    refine iteF ?_
    -- seen[shape] = (left, base)
    refine ⟨_, rfl, .int bj, rfl, (by decide : 2 ≤ sizeLine), fun t nt => ?_⟩
    have st1 : Same H5 (upd H5 t (.tup [.int ((c : Int) - (j : Nat)), .int bj])) := same_upd nt
    have M6 := M5.same st1
    have hlen : ds.length < sizeLine := by
      rw [M6.len]
      have : j ≤ 2 ^ 22 := by
        rcases hrep with h | ⟨a, b2, hab, hbN, he⟩
        · omega
        · have : ¬ b2 < j := fun hlt => M5.dis a b2 hab hlt he
          omega
      exact Nat.lt_of_le_of_lt this (by decide)
    refine ⟨.ref d, rfl, .ref c5, rfl, d, c5, ds, _, rfl, rfl, M6.dict, M6.keys, st1 _ _ h5', hv, hlen, ?_⟩
    have nod : ∀ b o, (upd H5 t (.tup [.int ((c : Int) - (j : Nat)), .int bj])) b = some o → (∀ ds', o ≠ DO P w d ds') → (upd (upd H5 t (.tup [.int ((c : Int) - (j : Nat)), .int bj])) d (DO P w d (ds ++ [(shapeOf (winN ns j st.1), c5, .ref t)]))) b = some o := fun b o e no => by
      rw [upd_ne]
      · exact e
      · rintro rfl
        rw [M6.dict] at e
        exact no _ (Option.some.inj e).symm
    generalize hH7 : upd (upd H5 t (.tup [.int ((c : Int) - (j : Nat)), .int bj])) d (DO P w d (ds ++ [(shapeOf (winN ns j st.1), c5, .ref t)])) = H7 at nod
    have tup7 : ∀ b xs, (upd H5 t (.tup [.int ((c : Int) - (j : Nat)), .int bj])) b = some (.tup xs) → H7 b = some (.tup xs) := fun b xs e => nod b _ e (fun _ z => nomatch z)
    have sm7 : Same H H7 := fun b o e => by
      have nb : b ≠ d := ne_of_none e nd
      rw [← hH7, upd_ne nb]
      exact st1 _ _ (sm5 _ _ e)
    have hp7 : StAt H7 pj (few ns j st) := by
      obtain ⟨w5, a1, a2⟩ := hp5
      exact ⟨w5, tup7 _ _ (st1 _ _ a1), tup7 _ _ (st1 _ _ a2)⟩
    have M7 : Many P w ns st c (j + 1) H7 d (ds ++ [(shapeOf (winN ns j st.1), c5, .ref t)]) := by
      refine ⟨by omega, by rw [← hH7, upd_same], fun p0 hp0 => ?_, by rw [List.length_append, M6.len]; rfl, fun i k b v hi => ?_, fun i i2 h12 h2j => ?_⟩
      · rcases List.mem_append.mp hp0 with h | h
        · exact tup7 _ _ (M6.keys p0 h)
        · rw [List.mem_singleton.mp h]
          exact tup7 _ _ (st1 _ _ h5')
      · by_cases hlt : i < ds.length
        · rw [List.getElem?_append_left hlt] at hi
          obtain ⟨e1, t1, e2, e3⟩ := M6.ent i k b v hi
          exact ⟨e1, t1, e2, tup7 _ _ e3⟩
        · rw [List.getElem?_append_right (by omega)] at hi
          have hi0 : i - ds.length = 0 := by
            cases hq : i - ds.length with
            | zero => rfl
            | succ n => rw [hq] at hi; simp at hi
          rw [hi0] at hi
          have e1 : (shapeOf (winN ns j st.1), c5, V.ref t) = (k, b, v) := Option.some.inj hi
          have ei : i = j := by have := M6.len; omega
          subst ei
          injection e1 with e1 e2
          injection e2 with e2 e3
          refine ⟨e1.symm, t, e3.symm, ?_⟩
          rw [hb]
          exact tup7 _ _ upd_same
      · by_cases hlt : i2 < j
        · exact M6.dis i i2 h12 hlt
        · have ei : i2 = j := by omega
          subst ei
          intro he
          have hi : i < ds.length := by rw [M6.len]; omega
          have hq : ds[i]? = some ds[i] := List.getElem?_eq_getElem hi
          obtain ⟨e1, _⟩ := M6.ent i ds[i].1 ds[i].2.1 ds[i].2.2 hq
          exact nn _ (List.mem_of_getElem? hq) (e1.trans he)
    -- state = _behind_few(rule, state, 1)
    subst hH7
    refine ⟨.ref r, rfl, .ref pj, rfl, r, pj, ns, few ns j st, 1, rfl, sm7.tup hr1, hp7, gj, by omega, fun H8 p8 s8 h8 => ?_⟩
    refine ⟨_, rfl, _, 1, rfl, rfl, ?_⟩
    refine ⟨p8, _, some (.int bj), some (.ref c5), y7, y8, ?_, sm7.trans s8, ?_, M7.same s8⟩
    · exact congrArg (fun v => [some (V.ref r), some (V.ref p8), some (V.int c), some (V.ref d), some (V.int v), some (V.int bj), some (V.ref c5), y7, y8]) (show (c : Int) - (j : Nat) - 1 = (c : Int) - (j + 1 : Nat) by omega)
    · have : few ns (j + 1) st = few ns 1 (few ns j st) := by rw [← few_add]
      rw [this]
      exact h8
end
end LK
namespace LK
open PySem PySem.Spec PyProof.Rows L2 CD
section
variable {P : Program} {w : World} {K : PySem.W.Frag} {mg : Str → Option Value} {base : Heap}
def RepAll (ns : List Int) : List Int → Int → Int → LState → Prop
  | [], person, people, st => Rep ns st.1 (people - person).toNat
  | g :: gs, person, people, st => if g < people then Rep ns st.1 (g - person).toNat ∧ RepAll ns gs (g + 1) people (behindP (few ns (g - person).toNat st) none) else RepAll ns gs person people st
theorem repAll_small {ns : List Int} : ∀ (gs : List Int) (person people : Int) (st : LState), ascB gs = true → (∀ k ∈ gs, person ≤ k) → 0 ≤ person → people ≤ 2 ^ 20 → RepAll ns gs person people st
  | [], person, people, st, _, _, h0, h => ⟨2 ^ 20, by decide, .inl (by omega)⟩
  | g :: gs, person, people, st, ha, hp, h0, h => by
    obtain ⟨a1, a2⟩ := asc_cons ha
    have hg := hp g List.mem_cons_self
    show if g < people then _ else _
    by_cases c : g < people
    · rw [if_pos c]
      exact ⟨⟨2 ^ 20, by decide, .inl (by omega)⟩, repAll_small gs _ _ _ a1 (fun k hk => by have := a2 k hk; omega) (by omega) h⟩
    · rw [if_neg c]
      exact repAll_small gs _ _ _ a1 (fun k hk => by have := a2 k hk; omega) h0 h
def spState (K : PySem.W.Frag) : Sp := fun vs H Q _ => ∃ (r a : Addr) (ns gs : List Int) (n : Int), vs = [.ref r, .ref a, .int n] ∧ SqT K H r (ns.map V.int) ∧ SqT K H a (gs.map V.int) ∧ IsRule ns ∧ IsAbs gs ∧ 1 ≤ n ∧ RepAll ns gs 1 n (stInit (R6 ns)) ∧
  ∀ H' p', Same H H' → StAt H' p' (behindAll ns gs 1 n (stInit (R6 ns))) → Q (.ref p') H'
theorem cal_state_behind (z : Z mg) (c_first_window : Cal P w K mg base 2 "first_window" p_first_window spFirst) (c__behind_person : Cal P w K mg base 2 "_behind_person" p__behind_person (spPerson K)) (c__behind_many : Cal P w K mg base 5 "_behind_many" p__behind_many (spMany K)) (D : Def K mg "state_behind" s_state_behind p_state_behind) :
    Cal P w K mg base 6 "state_behind" p_state_behind (spState K) := by
  refine D.cal sc_state_behind (fun vs H Q E h => by obtain ⟨_, _, _, _, _, rfl, _⟩ := h; rfl) fun f cdv A outer s H vs Q E hr h => ?_
  obtain ⟨r, a, ns, gs, n, rfl, hr1, ha, hR, hA, hn, hrep, q⟩ := h
  have hu := hu_of hr
  obtain ⟨m1, m6⟩ := hR.r
  refine ⟨_, (pss_cons (ps_set (i := 3) sc_state_behind.nd rfl (Or.inl rfl) (pe_tup (pa_cons (pe_cal c_first_window (hr.mono (by decide)) (by rfl) (pa_cons (pe_callB (cr_maxT rfl (hu_of hr)) (by rfl) z.«max» (by decide +kernel) (pa_cons (pv 0) pa_nil)) pa_nil)) (pa_cons pe_int pa_nil))))
        (pss_cons (ps_set (i := 4) sc_state_behind.nd rfl (Or.inl rfl) pe_int)
        (pss_cons (ps_for PassesOwn.never rfl (pi_tup (pv 1)) (pg_name (i := 5) sc_state_behind.nd rfl (Or.inl rfl)) (pss_one (ps_if (pt_cmpR op_lt (pv 5) (pv 2) (nomark _)) (pss_cons (ps_set (i := 3) sc_state_behind.nd rfl (Or.inl rfl) (pe_cal c__behind_person (hr.mono (by decide)) (by rfl) (pa_cons (pe_cal c__behind_many (hr.mono (by decide)) (by rfl) (pa_cons (pv 0) (pa_cons (pv 3) (pa_cons (pe_op op_sub (pv 5) (pv 4)) pa_nil)))) (pa_cons pe_non pa_nil))))
        (pss_one (ps_set (i := 4) sc_state_behind.nd rfl (Or.inl rfl) (pe_op op_add (pv 5) pe_int)))) pss_nil)))
        (pss_one (ps_ret (pe_cal c__behind_many (hr.mono (by decide)) (by rfl) (pa_cons (pv 0) (pa_cons (pv 3) (pa_cons (pe_op op_sub (pv 2) (pv 4)) pa_nil))))))))), ?_⟩
  -- (first_window(max(rule)), 0)
  obtain ⟨n0, nr, rfl⟩ : ∃ n0 nr, ns = n0 :: nr := by
    cases ns with
    | nil => exact absurd hR.pos (by decide)
    | cons n0 nr => exact ⟨n0, nr, rfl⟩
  have eM : nr.foldl max n0 = ((R6 (n0 :: nr) : Nat) : Int) := by
    show maxOf (n0 :: nr) = _
    unfold R6
    omega
  have hR6 : R6 (n0 :: nr) ≤ 6 := by unfold R6; omega
  have hR1 : 1 ≤ R6 (n0 :: nr) := by unfold R6; omega
  refine ⟨.ref r, rfl, r, n0, nr, rfl, hr1, R6 (n0 :: nr), congrArg (fun v => [V.int v]) eM, hR1, by omega, fun H1 d s1 hd => ?_⟩
  refine ⟨(by decide : 2 ≤ sizeLine), fun p np => ?_⟩
  have s3 : Same H1 (upd H1 p (.tup [.ref d, .int 0])) := same_upd np
  have smA : Same H (upd H1 p (.tup [.ref d, .int 0])) := s1.trans s3
  have hst : StAt (upd H1 p (.tup [.ref d, .int 0])) p (stInit (R6 (n0 :: nr))) := ⟨d, upd_same, s3 _ _ hd⟩
  generalize upd H1 p (.tup [.ref d, .int 0]) = H0 at smA hst
  have hg0 : Good (n0 :: nr) (stInit (R6 (n0 :: nr))) := by
    have len : (stInit (R6 (n0 :: nr))).1.length = R6 (n0 :: nr) := by
      show (List.replicate (R6 (n0 :: nr) - 1) none ++ [some 0] : Win).length = _
      rw [List.length_append, List.length_replicate, List.length_singleton]
      omega
    have := hR.fits
    exact ⟨hR.most, fun s hs => by rw [len]; exact this.st s hs, by omega, by omega⟩
  clear hd np s3 s1
  -- person = 1; the loop
  refine ⟨.ref a, rfl, a, rfl, ⟨_, smA.tup ha⟩, ?_⟩
  refine for_it (walk_tup (K := K) (a := a) (xs := gs.map V.int)) (fun i σ H2 => ∃ pi person st y, σ = [some (.ref r), some (.ref a), some (.int n), some (.ref pi), some (.int person), y] ∧ Same H H2 ∧ StAt H2 pi st ∧ Good (n0 :: nr) st ∧
      behindAll (n0 :: nr) gs 1 n (stInit (R6 (n0 :: nr))) = behindAll (n0 :: nr) (gs.drop i) person n st ∧ RepAll (n0 :: nr) (gs.drop i) person n st ∧ ascB (gs.drop i) = true ∧ (∀ k ∈ gs.drop i, person ≤ k) ∧ person ≤ n)
    ⟨p, 1, _, none, rfl, smA, hst, hg0, rfl, hrep, hA.asc, fun k hk => (hA.rng k hk).1, hn⟩ (fun i σ H2 _ hW => ?_) (fun i x σ H2 H3 hi hW y => ?_) (fun σ H2 hW => ?_)
  · obtain ⟨_, _, _, _, _, s2, _⟩ := hW
    exact s2.tup ha
  · obtain ⟨pi, person, st, y5, rfl, s2, hpi, hg, eB, hRep, hAsc, hGe, hle⟩ := hW
    obtain ⟨rfl, g⟩ := y
    rw [List.length_map] at hi
    have eg : gs[i]? = some gs[i] := List.getElem?_eq_getElem hi
    obtain rfl := map_at eg g
    have ed : gs.drop i = gs[i] :: gs.drop (i + 1) := List.drop_eq_getElem_cons hi
    rw [ed] at eB hRep hAsc hGe
    obtain ⟨a1, a2⟩ := asc_cons hAsc
    have hgp := hGe _ List.mem_cons_self
    generalize gs[i] = g0 at *
    refine ⟨.int g0, rfl, .int n, rfl, g0, n, rfl, rfl, _, rfl, ?_⟩
    have eR : RepAll (n0 :: nr) (g0 :: gs.drop (i + 1)) person n st = (if g0 < n then Rep (n0 :: nr) st.1 (g0 - person).toNat ∧ RepAll (n0 :: nr) (gs.drop (i + 1)) (g0 + 1) n (behindP (few (n0 :: nr) (g0 - person).toNat st) none) else RepAll (n0 :: nr) (gs.drop (i + 1)) person n st) := rfl
    have eB2 : behindAll (n0 :: nr) (g0 :: gs.drop (i + 1)) person n st = (if g0 < n then behindAll (n0 :: nr) (gs.drop (i + 1)) (g0 + 1) n (behindP (few (n0 :: nr) (g0 - person).toNat st) none) else behindAll (n0 :: nr) (gs.drop (i + 1)) person n st) := rfl
    rw [eR] at hRep
    rw [eB2] at eB
    by_cases c : g0 < n
    · rw [if_pos c] at hRep eB
      rw [decide_eq_true c]
      refine iteT ?_
      have e3 : g0 - person = ((g0 - person).toNat : Int) := by omega
      refine ⟨.ref r, rfl, .ref pi, rfl, .int g0, rfl, .int person, rfl, g0, person, rfl, rfl, ?_⟩
      refine ⟨r, pi, n0 :: nr, st, (g0 - person).toNat, by rw [← e3]; rfl, s2.tup hr1, hpi, hg, hRep.1, fun H4 p4 s4 h4 => ?_⟩
      have g4 := hg.few (g0 - person).toNat
      refine ⟨p4, _, none, rfl, h4, g4.l2, fun H5 p5 s5 h5 => ?_⟩
      refine ⟨.int g0, rfl, g0, 1, rfl, rfl, ?_⟩
      exact ⟨p5, g0 + 1, _, some (.int g0), rfl, s2.trans (s4.trans s5), h5, g4.step none, eB, hRep.2, a1, fun k hk => by have := a2 k hk; omega, by omega⟩
    · rw [if_neg c] at hRep eB
      rw [decide_eq_false c]
      exact iteF ⟨pi, person, st, some (.int g0), rfl, s2, hpi, hg, eB, hRep, a1, fun k hk => by have := a2 k hk; omega, hle⟩
  · obtain ⟨pi, person, st, y5, rfl, s2, hpi, hg, eB, hRep, hAsc, hGe, hle⟩ := hW
    rw [List.length_map, List.drop_length] at eB hRep
    have e3 : n - person = ((n - person).toNat : Int) := by omega
    refine ⟨.ref r, rfl, .ref pi, rfl, .int n, rfl, .int person, rfl, n, person, rfl, rfl, ?_⟩
    refine ⟨r, pi, n0 :: nr, st, (n - person).toNat, by rw [← e3]; rfl, s2.tup hr1, hpi, hg, hRep, fun H4 p4 s4 h4 => ?_⟩
    refine q H4 p4 (s2.trans s4) ?_
    rw [eB]
    exact h4
end
end LK
namespace LK
open PySem PySem.Spec PyProof.Rows L2 CD
/-! ### far people: the shapes come again -/
theorem rep_far {ns : List Int} {S P D : Nat} (hR : IsRule ns) (B : Best ns S P) {ws : Win} (hw : ws.length = R6 ns) (hD : Spread S P ws D) (hz : D ≤ 1000) (c : Nat) : Rep ns ws c := by
  have r := hR.r
  have f := hR.fits
  have hl : 1 ≤ ws.length ∧ ws.length ≤ 6 := by rw [hw]; unfold R6; omega
  have hs : ∀ s ∈ ns, 1 ≤ s ∧ s ≤ (ws.length : Int) := fun s h => by rw [hw]; exact f.st s h
  have hS : S ≤ ws.length := by
    have m := hs _ (zip_step hR.most B.mem).1
    have m2 : ((S : Int)) ≤ (ws.length : Int) := m.2
    omega
  obtain ⟨i, j, h1, h2, h3⟩ := shapes_again hR.most hl.1 hl.2 hs B hS hD
  exact ⟨36 * (D + 146) + 12, by omega, .inr ⟨i, j, h1, h2, h3⟩⟩
theorem repAll_far {ns : List Int} {S P : Nat} (hR : IsRule ns) (B : Best ns S P) : ∀ (gs : List Int) (person people : Int) (st : LState) (D : Nat), st.1.length = R6 ns → Spread S P st.1 D → D + 144 * gs.length ≤ 1000 → RepAll ns gs person people st
  | [], person, people, st, D, hw, hD, hz => rep_far hR B hw hD (by simpa using hz) _
  | g :: gs, person, people, st, D, hw, hD, hz => by
    rw [List.length_cons] at hz
    have r := hR.r
    have f := hR.fits
    have hl : 1 ≤ st.1.length := by rw [hw]; unfold R6; omega
    have hs : ∀ s ∈ ns, 1 ≤ s ∧ s ≤ (st.1.length : Int) := fun s h => by rw [hw]; exact f.st s h
    have hS : S ≤ st.1.length := by
      have m := hs _ (zip_step hR.most B.mem).1
      have m2 : ((S : Int)) ≤ (st.1.length : Int) := m.2
      omega
    show if g < people then _ else _
    by_cases c : g < people
    · rw [if_pos c]
      refine ⟨rep_far hR B hw hD (by omega) _, repAll_far hR B gs _ _ _ (D + 144) ?_ ?_ (by omega)⟩
      · show ((few ns (g - person).toNat st).1.tail ++ [none]).length = _
        rw [few_eq, List.length_append, List.length_tail, winN_len ns _ _ hl, hw]
        show R6 ns - 1 + 1 = _
        rw [hw] at hl
        omega
      · show Spread S P ((few ns (g - person).toNat st).1.tail ++ [none]) _
        rw [few_eq]
        exact spread_gone (spread_walk hR.most hl hs B hS hD _)
    · rw [if_neg c]
      exact repAll_far hR B gs _ _ _ D hw hD (by omega)
/-- for every rule and absence, however many people -/
theorem repAll_any {ns gs : List Int} (hR : IsRule ns) (hA : gs.length ≤ 4) (person people : Int) : RepAll ns gs person people (stInit (R6 ns)) := by
  obtain ⟨S, P, B⟩ := hR.best
  refine repAll_far hR B gs person people _ 0 ?_ (spread_init S P _) (by omega)
  have r := hR.r
  unfold stInit
  show (List.replicate (R6 ns - 1) (none : Option Int) ++ [some (0 : Int)]).length = R6 ns
  rw [List.length_append, List.length_replicate]
  show R6 ns - 1 + 1 = R6 ns
  unfold R6
  omega
end LK
namespace LK
open PySem PySem.Spec PyProof.Rows L2 CD
section
variable {P : Program} {w : World} {K : PySem.W.Frag} {mg : Str → Option Value} {base : Heap}
/-- what comes in: a rule, an absence, a number of people behind whom the walk stands -/
structure Line (K : PySem.W.Frag) (H : Hp) (r a : Addr) (ns gs : List Int) : Prop where
  tr : SqT K H r (ns.map V.int)
  ta : SqT K H a (gs.map V.int)
  rule : IsRule ns
  abs : IsAbs gs
theorem Line.same {H H' : Hp} {r a : Addr} {ns gs : List Int} (h : Line K H r a ns gs) (s : Same H H') : Line K H' r a ns gs := ⟨s.tup h.tr, s.tup h.ta, h.rule, h.abs⟩
def spTick (K : PySem.W.Frag) : Sp := fun vs H Q _ => ∃ (r a : Addr) (ns gs : List Int) (n : Nat), vs = [.ref r, .ref a, .int n] ∧ Line K H r a ns gs ∧ (n : Int) ≤ 10 ^ 30 ∧ RepAll ns gs 1 n (stInit (R6 ns)) ∧
  ∀ H', Same H H' → Q (oV (tickV ns gs n)) H'
theorem tick_in {ns gs : List Int} (hA : IsAbs gs) {n : Nat} (h : (n : Int) ∈ gs) : tickV ns gs n = none := by
  have h1 := (hA.rng _ h).1
  obtain ⟨k, rfl⟩ : ∃ k, n = k + 1 := ⟨n - 1, by omega⟩
  unfold tickV
  rw [film_last]
  unfold nextF
  rw [film_len, if_pos h]
theorem tick_out {ns gs : List Int} (hR : IsRule ns) {n : Nat} (h : ((n + 1 : Nat) : Int) ∉ gs) : tickV ns gs (n + 1) = calledAt ns (winOf (R6 ns) (film ns gs n)) := by
  unfold tickV
  rw [film_last, called_winOf hR.fits]
  unfold nextF
  rw [film_len, if_neg h]
theorem cal_tick_of (z : Z mg) (c_need_rule : Cal P w K mg base 3 "need_rule" p_need_rule (spNeedRule K)) (c_need_absence : Cal P w K mg base 5 "need_absence" p_need_absence (spNeedAbs K)) (c_need_person : Cal P w K mg base 3 "need_person" p_need_person (spNeedNum 0))
    (c_state_behind : Cal P w K mg base 6 "state_behind" p_state_behind (spState K)) (c_called_at : Cal P w K mg base 2 "called_at" p_called_at (spCalled K)) (D : Def K mg "tick_of" s_tick_of p_tick_of) : Cal P w K mg base 7 "tick_of" p_tick_of (spTick K) := by
  refine D.cal sc_tick_of (fun vs H Q E h => by obtain ⟨_, _, _, _, _, rfl, _⟩ := h; rfl) fun f cdv A outer s H vs Q E hr h => ?_
  obtain ⟨r, a, ns, gs, n, rfl, L, hn, hrep, q⟩ := h
  refine ⟨_, (pss_cons (ps_expr (pe_cal c_need_rule (hr.mono (by decide)) (by rfl) (pa_cons (pv 0) pa_nil)))
        (pss_cons (ps_expr (pe_cal c_need_absence (hr.mono (by decide)) (by rfl) (pa_cons (pv 1) pa_nil)))
        (pss_cons (ps_expr (pe_cal c_need_person (hr.mono (by decide)) (by rfl) (pa_cons (pv 2) pa_nil)))
        (pss_cons (ps_if (pt_cmpR op_in_seq (pv 2) (pv 1) (by rfl)) (pss_one (ps_ret pe_non)) pss_nil)
        (pss_cons (ps_if (pt_cmpR op_eq (pv 2) pe_int (nomark _)) (pss_one (ps_ret pe_int)) pss_nil)
        (pss_cons (ps_asg (pe_cal c_state_behind (hr.mono (by decide)) (by rfl) (pa_cons (pv 0) (pa_cons (pv 1) (pa_cons (pv 2) pa_nil)))) (pg_tup rfl (pgs_cons (pg_name (i := 3) sc_tick_of.nd rfl (Or.inl rfl)) (pgs_cons (pg_name (i := 4) sc_tick_of.nd rfl (Or.inl rfl)) pgs_nil))))
        (pss_one (ps_ret (pe_cal c_called_at (hr.mono (by decide)) (by rfl) (pa_cons (pv 0) (pa_cons (pv 3) pa_nil))))))))))), ?_⟩
  refine ⟨.ref r, rfl, r, ns, rfl, L.tr, L.rule, fun H1 s1 => ?_⟩
  refine ⟨.ref a, rfl, a, gs, rfl, s1.tup L.ta, L.abs, fun H2 s2 => ?_⟩
  refine ⟨.int n, rfl, n, rfl, by omega, hn, ?_⟩
  have sm := s1.trans s2
  refine ⟨.int n, rfl, .ref a, rfl, a, _, rfl, .inr (sm.tup L.ta), rfl, flat_ints gs, _, rfl, ?_⟩
  show if inV (V.int n) (gs.map V.int) = true then _ else _
  rw [in_ints]
  refine ite2 (fun e => ?_) (fun e => ?_)
  · have z2 := q H2 sm
    rw [tick_in L.abs (of_decide_eq_true e)] at z2
    exact z2
  · have e' : (n : Int) ∉ gs := fun x => e (decide_eq_true x)
    refine ⟨.int n, rfl, rfl, _, rfl, ite2 (fun e2 => ?_) (fun e2 => ?_)⟩
    · have e3 : n = 0 := by
        have z3 : V.int (n : Int) = V.int 0 := of_decide_eq_true e2
        injection z3 with z3
        omega
      have z2 := q H2 sm
      rw [e3] at z2
      exact z2
    · obtain ⟨k, rfl⟩ : ∃ k, n = k + 1 := ⟨n - 1, by
        have : n ≠ 0 := fun x => e2 (by rw [x]; exact decide_eq_true rfl)
        omega⟩
      refine ⟨.ref r, rfl, .ref a, rfl, .int ((k + 1 : Nat) : Int), rfl, r, a, ns, gs, _, rfl, sm.tup L.tr, sm.tup L.ta, L.rule, L.abs, by omega, hrep, fun H3 p3 s3 h3 => ?_⟩
      have eS : behindAll ns gs 1 ((k + 1 : Nat) : Int) (stInit (R6 ns)) = stF ns gs (R6 ns) k := behindAll_eq L.rule.fits L.abs.asc (fun k hk => (L.abs.rng k hk).1) k
      rw [eS] at h3
      obtain ⟨wa, h4, h5⟩ := h3
      refine ⟨p3, _, rfl, .inl (.inl h4), rfl, _, _, rfl, _, _, rfl, rfl, ?_⟩
      have hl : (stF ns gs (R6 ns) k).1.length = R6 ns := winOf_len _ _
      refine ⟨.ref r, rfl, .ref wa, rfl, r, wa, ns, (stF ns gs (R6 ns) k).1, rfl, s3.tup (sm.tup L.tr), .inl (.inl h5), by have := L.rule.most; omega, fun x hx => by rw [hl]; exact L.rule.fits.st x hx, fun H4 s4 => ?_⟩
      have z2 := q H4 (sm.trans (s3.trans s4))
      rw [tick_out L.rule e'] at z2
      exact z2
def spLast (K : PySem.W.Frag) : Sp := fun vs H Q _ => ∃ (r a : Addr) (ns gs : List Int) (n : Nat), vs = [.ref r, .ref a, .int ((n : Int) + 1)] ∧ Line K H r a ns gs ∧ (n : Int) + 1 ≤ 10 ^ 30 ∧ RepAll ns gs 1 ((n : Int) + 1) (stInit (R6 ns)) ∧
  ∀ H', Same H H' → Q (.int (lastL 0 (film ns gs n))) H'
/-- who calls person n, by the rule's steps from the greatest on -/
def callersV (ds gs ns : List Int) (n : Nat) : List Int := match n with
  | 0 => []
  | k + 1 => ds.filterMap fun s => (backF (film ns gs k) s).map fun _ => ((k + 1 : Nat) : Int) - s
def spCallers (K : PySem.W.Frag) : Sp := fun vs H Q _ => ∃ (r a : Addr) (ns gs : List Int) (n : Nat), vs = [.ref r, .ref a, .int n] ∧ Line K H r a ns gs ∧ (n : Int) ≤ 10 ^ 30 ∧ RepAll ns gs 1 n (stInit (R6 ns)) ∧
  ∀ H' p ds, ds.Perm ns → ds.Pairwise (· ≥ ·) → Same H H' → H' p = some (.tup ((callersV ds gs ns n).map V.int)) → Q (.ref p) H'
end
end LK
namespace LK
open PySem PySem.Spec PyProof.Rows L2 CD
/-! ### part_line -/
section
variable {P : Program} {w : World} {K : PySem.W.Frag} {mg : Str → Option Value} {base : Heap}
def oK : Option Int → NestedKey
  | none => .none
  | some i => .num i
abbrev wK (ws : Win) : NestedKey := .tup (ws.map oK)
theorem wK_inj : ∀ {a b : Win}, wK a = wK b → a = b
  | [], [], _ => rfl
  | x :: a, y :: b, e => by
    have e1 := NestedKey.tup.inj e
    rw [List.map_cons, List.map_cons] at e1
    have e2 := List.cons.inj e1
    have e3 : x = y := by
      cases x <;> cases y
      · rfl
      · exact nomatch e2.1
      · exact nomatch e2.1
      · rw [NestedKey.num.inj e2.1]
    rw [e3, wK_inj (congrArg NestedKey.tup e2.2)]
  | [], _ :: _, e => by cases NestedKey.tup.inj e
  | _ :: _, [], e => by cases NestedKey.tup.inj e
theorem wK_deep (ws : Win) : (wK ws).depth ≤ 8 := by
  have : ∀ ws : Win, NestedKey.depthAll (ws.map oK) = 0 := fun ws => by
    induction ws with
    | nil => rfl
    | cons x r ih => rw [List.map_cons, NestedKey.depthAll, ih]; cases x <;> rfl
  show NestedKey.depth (.tup _) ≤ 8
  rw [NestedKey.depth, this]
  decide
theorem wK_nk {H : Hp} {c : Addr} {ws : Win} (h : H c = some (.tup (ws.map oV))) : CS.NkV K H (.ref c) (wK ws) := by
  refine .tup (.inl (.inl h)) ?_
  clear h
  induction ws with
  | nil => exact .nil
  | cons x r ih =>
    refine .cons ?_ ih
    cases x
    · exact .non
    · exact .int _
theorem fits_app {ns ms : List Int} (hN : IsRule ns) (hM : IsRule ms) : Fits ns (R6 (ns ++ ms)) ∧ Fits ms (R6 (ns ++ ms)) ∧ R6 (ns ++ ms) ≤ 6 ∧ 1 ≤ R6 (ns ++ ms) := by
  have all : ∀ s ∈ ns ++ ms, 1 ≤ s ∧ s ≤ 6 := fun s hs => (List.mem_append.mp hs).elim (hN.step s) (hM.step s)
  have ne : ns ++ ms ≠ [] := fun e => by
    have := hN.pos
    rw [(List.append_eq_nil_iff.mp e).1] at this
    exact absurd this (by decide)
  have mm := all _ (maxOf_mem ne)
  have r1 : 1 ≤ R6 (ns ++ ms) := by unfold R6; omega
  refine ⟨⟨r1, fun s hs => ⟨(hN.step s hs).1, ?_⟩⟩, ⟨r1, fun s hs => ⟨(hM.step s hs).1, ?_⟩⟩, by unfold R6; omega, r1⟩
  · have := maxOf_ge (List.mem_append_left ms hs)
    unfold R6
    omega
  · have := maxOf_ge (List.mem_append_right ns hs)
    unfold R6
    omega
def spPart (K : PySem.W.Frag) : Sp := fun vs H Q _ => ∃ (r r2 : Addr) (ns ms : List Int), vs = [.ref r, .ref r2] ∧ SqT K H r (ns.map V.int) ∧ SqT K H r2 (ms.map V.int) ∧ IsRule ns ∧ IsRule ms ∧
  (∀ H' (i : Nat), Same H H' → i ≤ 36 → Parts ns ms (R6 (ns ++ ms)) i → (∀ k, k < i → ¬ Parts ns ms (R6 (ns ++ ms)) k) → Q (.int ((i : Int) + 1)) H') ∧ (∀ H', Same H H' → (∀ k, ¬ Parts ns ms (R6 (ns ++ ms)) k) → Q .non H')
structure Seen (w : World) (K : PySem.W.Frag) (ns : List Int) (ws : Win) (j : Nat) (H : Hp) (d : Addr) (L : CS.KL) : Prop where
  obj : H d = some (CS.SO w d L)
  keys : CS.KeysS K H L
  len : L.length = j
  ent : L.map (·.2) = ((List.range j).map fun i => wK (shapeOf (winN ns i ws))).reverse
theorem Seen.same {ns : List Int} {ws : Win} {j : Nat} {H H' : Hp} {d : Addr} {L : CS.KL} (m : Seen w K ns ws j H d L) (s : Same H H') : Seen w K ns ws j H' d L := ⟨s _ _ m.obj, m.keys.same s, m.len, m.ent⟩
theorem Seen.mem {ns : List Int} {ws : Win} {j : Nat} {H : Hp} {d : Addr} {L : CS.KL} (m : Seen w K ns ws j H d L) {s : Win} : wK s ∈ L.map (·.2) ↔ ∃ i, i < j ∧ shapeOf (winN ns i ws) = s := by
  rw [m.ent, List.mem_reverse, List.mem_map]
  constructor
  · rintro ⟨i, hi, e⟩
    exact ⟨i, List.mem_range.mp hi, wK_inj e⟩
  · rintro ⟨i, hi, e⟩
    exact ⟨i, List.mem_range.mpr hi, by rw [e]⟩
theorem cal_part_line (z : Z mg) (c_need_rule : Cal P w K mg base 3 "need_rule" p_need_rule (spNeedRule K)) (c_first_window : Cal P w K mg base 2 "first_window" p_first_window spFirst) (c_low_and_shape : Cal P w K mg base 3 "low_and_shape" p_low_and_shape (spLow K)) (c_called_at : Cal P w K mg base 2 "called_at" p_called_at (spCalled K))
    (D : Def K mg "part_line" s_part_line p_part_line) : Cal P w K mg base 4 "part_line" p_part_line (spPart K) := by
  refine D.cal sc_part_line (fun vs H Q E h => by obtain ⟨_, _, _, _, rfl, _⟩ := h; rfl) fun f cdv A outer s H vs Q E hr h => ?_
  obtain ⟨r, r2, ns, ms, rfl, hr1, hr2, hN, hM, qi, qn⟩ := h
  have hu := hu_of hr
  have hu10 : (A.deeper (envOfC "part_line" (defScope s_part_line) s.heap.objs.size f cdv)).units + 10 < cLine := by have := hr.units; omega
  refine ⟨_, (pss_cons (ps_expr (pe_cal c_need_rule (hr.mono (by decide)) (by rfl) (pa_cons (pv 0) pa_nil)))
        (pss_cons (ps_expr (pe_cal c_need_rule (hr.mono (by decide)) (by rfl) (pa_cons (pv 1) pa_nil)))
        (pss_cons (ps_set (i := 2) sc_part_line.nd rfl (Or.inl rfl) (pe_cal c_first_window (hr.mono (by decide)) (by rfl) (pa_cons (pe_callB (cr_maxT rfl hu) (by rfl) z.«max» (by decide +kernel) (pa_cons (pe_op op_catA (pv 0) (pv 1)) pa_nil)) pa_nil)))
        (pss_cons (ps_set (i := 3) sc_part_line.nd rfl (Or.inl rfl) (pe_callTy0 CS.cr_newS (by rfl) z.«set» (by decide +kernel)))
        (pss_cons (ps_set (i := 4) sc_part_line.nd rfl (Or.inl rfl) pe_int)
        (pss_one (ps_while PassesOwn.never (pt_val pe_bl) (pss_cons (ps_asg (pe_cal c_low_and_shape (hr.mono (by decide)) (by rfl) (pa_cons (pv 2) pa_nil)) (pg_tup rfl (pgs_cons (pg_name (i := 5) sc_part_line.nd rfl (Or.inl rfl)) (pgs_cons (pg_name (i := 6) sc_part_line.nd rfl (Or.inl rfl)) pgs_nil))))
        (pss_cons (ps_if (pt_cmpR (CS.or_inS hu10) (pv 6) (pv 3) (by rfl)) (pss_one (ps_ret pe_non)) pss_nil)
        (pss_cons (ps_expr (CS.pe_addS hu10 (pv 3) (pa_cons (pv 6) pa_nil)))
        (pss_cons (ps_set (i := 7) sc_part_line.nd rfl (Or.inl rfl) (pe_cal c_called_at (hr.mono (by decide)) (by rfl) (pa_cons (pv 0) (pa_cons (pv 2) pa_nil))))
        (pss_cons (ps_if (pt_cmpR op_ne (pv 7) (pe_cal c_called_at (hr.mono (by decide)) (by rfl) (pa_cons (pv 1) (pa_cons (pv 2) pa_nil))) (nomark _)) (pss_one (ps_ret (pv 4))) pss_nil)
        (pss_cons (ps_set (i := 2) sc_part_line.nd rfl (Or.inl rfl) (pe_op op_catA (pe_slice sl_tupA (pv 2) (po_some pe_int) po_none) (pe_tup (pa_cons (pv 7) pa_nil))))
        (pss_one (ps_aug (i := 4) sc_part_line.nd rfl (Or.inl rfl) pe_int ip_add))))))))))))))), ?_⟩
  obtain ⟨F, G, R6', R1⟩ := fits_app hN hM
  generalize hRR : R6 (ns ++ ms) = R at *
  refine ⟨.ref r, rfl, r, ns, rfl, hr1, hN, fun H1 s1 => ?_⟩
  refine ⟨.ref r2, rfl, r2, ms, rfl, s1.tup hr2, hM, fun H2 s2 => ?_⟩
  have sm := s1.trans s2
  -- first_window(max(rule + other))
  obtain ⟨n0, nr, rfl⟩ : ∃ n0 nr, ns = n0 :: nr := by
    cases ns with
    | nil => exact absurd hN.pos (by decide)
    | cons n0 nr => exact ⟨n0, nr, rfl⟩
  have mo1 := hN.most
  have mo2 := hM.most
  have po2 := hM.pos
  refine ⟨.ref r, rfl, .ref r2, rfl, r, r2, _, _, rfl, rfl, sm.tup hr1, s2.tup (s1.tup hr2), Nat.le_of_lt (small1000 (by rw [List.length_map, List.length_map]; omega)), nofun, fun _ e => ?_, fun _ _ p1 np1 => ?_⟩
  · rw [List.map_eq_nil_iff] at e
    rw [e] at po2
    exact absurd po2 (by decide)
  have s3 : Same H2 (upd H2 p1 (.tup ((n0 :: nr).map V.int ++ ms.map V.int))) := same_upd np1
  have hp1 : SqT K (upd H2 p1 (.tup ((n0 :: nr).map V.int ++ ms.map V.int))) p1 ((n0 :: (nr ++ ms)).map V.int) := .inl (.inl (by rw [upd_same, ← List.map_append]; rfl))
  have eM : (nr ++ ms).foldl max n0 = ((R : Nat) : Int) := by
    show maxOf (n0 :: nr ++ ms) = _
    rw [← hRR]
    unfold R6 at hRR ⊢
    omega
  refine ⟨p1, n0, nr ++ ms, rfl, hp1, R, congrArg (fun v => [V.int v]) eM, R1, by omega, fun H3 d3 s4 hd3 => ?_⟩
  have sm3 := sm.trans (s3.trans s4)
  generalize hW0 : (stInit R).1 = W0 at hd3
  have wl : W0.length = R := by
    rw [← hW0]
    show (List.replicate (R - 1) none ++ [some 0] : Win).length = _
    rw [List.length_append, List.length_replicate, List.length_singleton]
    omega
  -- seen = set()
  refine ⟨rfl, fun d nd => ?_⟩
  have s5 : Same H3 (upd H3 d (CS.SO w d [])) := same_upd nd
  have sm5 := sm3.trans s5
  have nd0 : H d = none := Same.free sm3 nd
  have fitW : ∀ j, (∀ s ∈ n0 :: nr, 1 ≤ s ∧ s ≤ ((winN (n0 :: nr) j W0).length : Int)) ∧ (∀ s ∈ ms, 1 ≤ s ∧ s ≤ ((winN (n0 :: nr) j W0).length : Int)) ∧ (winN (n0 :: nr) j W0).length = R := fun j => by
    have e := winN_len (n0 :: nr) j W0 (by omega)
    rw [e, wl]
    exact ⟨F.st, G.st, rfl⟩
  obtain ⟨zz, mm, z1, z6, hag⟩ := again hN (fun s hs => (F.st s hs).2) R6'
  rw [hW0] at hag
  have hP : ∀ k, Parts (n0 :: nr) ms R k ↔ calledAt (n0 :: nr) (winN (n0 :: nr) k W0) ≠ calledAt ms (winN (n0 :: nr) k W0) := fun k => by unfold Parts; rw [hW0]
  refine ⟨fun m σ H2 => ∃ (j : Nat) (wa : Addr) (L : CS.KL) (y5 y6 y7 : Option V), m = 40 - j ∧ σ = [some (.ref r), some (.ref r2), some (.ref wa), some (.ref d), some (.int ((j : Int) + 1)), y5, y6, y7] ∧ Same H H2 ∧ H2 wa = some (.tup ((winN (n0 :: nr) j W0).map oV)) ∧ Seen w K (n0 :: nr) W0 j H2 d L ∧
    (∀ k, k < j → ¬ Parts (n0 :: nr) ms R k) ∧ (∀ i i2, i < i2 → i2 < j → shapeOf (winN (n0 :: nr) i W0) ≠ shapeOf (winN (n0 :: nr) i2 W0)),
    ⟨40, 0, d3, [], none, none, none, rfl, rfl, sm5, s5 _ _ hd3, ⟨upd_same, nofun, rfl, rfl⟩, fun k h => absurd h (Nat.not_lt_zero k), fun i i2 _ h => absurd h (Nat.not_lt_zero i2)⟩, ?_⟩
  intro m σ H6 hW
  obtain ⟨j, wa, L, y5, y6, y7, rfl, rfl, sm6, hwa, M, hno, dis⟩ := hW
  obtain ⟨fa, fb, fl⟩ := fitW j
  have j36 : j ≤ 36 := by
    refine Nat.le_of_not_lt fun c => ?_
    refine dis 30 (30 + zz) (by omega) (by omega) ?_
    rw [hag, shape_later]
  refine ⟨true, rfl, ?_⟩
  refine iteT ⟨fun σ H3 => ∃ (wa : Addr) (L : CS.KL) (y5 y6 y7 : Option V), σ = [some (.ref r), some (.ref r2), some (.ref wa), some (.ref d), some (.int (((j + 1 : Nat) : Int) + 1)), y5, y6, y7] ∧ Same H H3 ∧ H3 wa = some (.tup ((winN (n0 :: nr) (j + 1) W0).map oV)) ∧ Seen w K (n0 :: nr) W0 (j + 1) H3 d L ∧
    (∀ k, k < j + 1 → ¬ Parts (n0 :: nr) ms R k) ∧ (∀ i i2, i < i2 → i2 < j + 1 → shapeOf (winN (n0 :: nr) i W0) ≠ shapeOf (winN (n0 :: nr) i2 W0)), fun σ H3 hN' => ?_, ?_⟩
  · obtain ⟨wa', L', a5, a6, a7, e, rest⟩ := hN'
    exact ⟨40 - (j + 1), by omega, j + 1, wa', L', a5, a6, a7, rfl, e, rest⟩
  -- _, shape = low_and_shape(window)
  refine ⟨.ref wa, rfl, wa, winN (n0 :: nr) j W0, rfl, .inl (.inl hwa), by omega, fun H7 pq c7 s7 hpq h7 => ?_⟩
  refine ⟨pq, _, rfl, .inl (.inl hpq), rfl, _, _, rfl, _, _, rfl, rfl, ?_⟩
  have M7 := M.same s7
  have sm7 := sm6.trans s7
  have hwa7 := s7 _ _ hwa
  have nk7 := wK_nk (K := K) h7
  -- shape in seen
  refine ⟨.ref c7, rfl, .ref d, rfl, c7, wK (shapeOf (winN (n0 :: nr) j W0)), d, L, rfl, rfl, M7.obj, M7.keys, nk7, wK_deep _, _, rfl, ?_⟩
  rw [if_neg (by decide)]
  refine ite2 (fun e => ?_) (fun e => ?_)
  · obtain ⟨i, hi, es⟩ := M7.mem.mp (of_decide_eq_true e)
    refine qn H7 sm7 fun k => ?_
    obtain ⟨k2, rfl⟩ : ∃ k2, j = i + k2 := ⟨j - i, by omega⟩
    have e2 := shape_eq es
    have all := never_part (ms := ms) (z := k2) (by omega) e2 fun k hk => Classical.byContradiction fun c => hno k hk ((hP k).mpr c)
    exact fun c => (hP k).mp c (all k)
  · have hn : wK (shapeOf (winN (n0 :: nr) j W0)) ∉ L.map (·.2) := fun c => e (decide_eq_true c)
    -- seen.add(shape)
    refine ⟨.ref d, rfl, ⟨d, L, rfl, M7.obj⟩, .ref c7, rfl, d, c7, wK (shapeOf (winN (n0 :: nr) j W0)), L, rfl, rfl, M7.obj, M7.keys, nk7, wK_deep _, hn, by rw [M7.len]; omega, ?_⟩
    have nod : ∀ b xs, H7 b = some (.tup xs) → (upd H7 d (CS.SO w d ((c7, wK (shapeOf (winN (n0 :: nr) j W0))) :: L))) b = some (.tup xs) := fun b xs e => by
      rw [upd_ne]
      · exact e
      · rintro rfl
        rw [M7.obj] at e
        exact nomatch e
    have sm8 : Same H (upd H7 d (CS.SO w d ((c7, wK (shapeOf (winN (n0 :: nr) j W0))) :: L))) := fun b o e => by
      have nb : b ≠ d := ne_of_none e nd0
      rw [upd_ne nb]
      exact sm7 _ _ e
    have M8 : Seen w K (n0 :: nr) W0 (j + 1) (upd H7 d (CS.SO w d ((c7, wK (shapeOf (winN (n0 :: nr) j W0))) :: L))) d ((c7, wK (shapeOf (winN (n0 :: nr) j W0))) :: L) := by
      refine ⟨upd_same, fun p hp => ?_, by rw [List.length_cons, M7.len], ?_⟩
      · have key : ∀ (v : V) (k : NestedKey), CS.NkV K H7 v k → CS.NkV K (upd H7 d (CS.SO w d ((c7, wK (shapeOf (winN (n0 :: nr) j W0))) :: L))) v k := fun v k hv => hv.keep fun a xs hx => by
          rcases hx with (hx | ⟨o, hx⟩) | hx
          · exact .inl (.inl (nod a xs hx))
          · refine .inl (.inr ⟨o, ?_⟩)
            rw [upd_ne]
            · exact hx
            · rintro rfl
              rw [M7.obj] at hx
              exact nomatch hx
          · exact .inr hx
        rcases List.mem_cons.mp hp with rfl | hp
        · exact ⟨key _ _ nk7, wK_deep _⟩
        · exact ⟨key _ _ (M7.keys p hp).1, (M7.keys p hp).2⟩
      · rw [List.map_cons, M7.ent, List.range_succ, List.map_append, List.reverse_append]
        rfl
    have hwa8 := nod _ _ hwa7
    have dis8 : ∀ i i2, i < i2 → i2 < j + 1 → shapeOf (winN (n0 :: nr) i W0) ≠ shapeOf (winN (n0 :: nr) i2 W0) := fun i i2 h12 h2 => by
      by_cases c : i2 < j
      · exact dis i i2 h12 c
      · have : i2 = j := by omega
        subst this
        exact fun es => hn (M7.mem.mpr ⟨i, h12, es⟩)
    -- tick = called_at(rule, window)
    refine ⟨.ref r, rfl, .ref wa, rfl, r, wa, n0 :: nr, winN (n0 :: nr) j W0, rfl, sm8.tup hr1, .inl (.inl hwa8), by omega, fa, fun H9 s9 => ?_⟩
    have sm9 := sm8.trans s9
    have hwa9 := s9 _ _ hwa8
    refine ⟨oV (calledAt (n0 :: nr) (winN (n0 :: nr) j W0)), rfl, .ref r2, rfl, .ref wa, rfl, r2, wa, ms, winN (n0 :: nr) j W0, rfl, sm9.tup hr2, .inl (.inl hwa9), by omega, fb, fun H10 s10 => ?_⟩
    have sm10 := sm9.trans s10
    have hwa10 := s10 _ _ hwa9
    refine ⟨by cases calledAt (n0 :: nr) (winN (n0 :: nr) j W0) <;> cases calledAt ms (winN (n0 :: nr) j W0) <;> rfl, _, rfl, ite2 (fun e => ?_) (fun e => ?_)⟩
    · have pj : Parts (n0 :: nr) ms R j := (hP j).mpr fun c => by
        rw [c] at e
        rw [decide_eq_true rfl] at e
        cases e
      exact ⟨_, rfl, qi H10 j sm10 j36 pj hno⟩
    · have pj : ¬ Parts (n0 :: nr) ms R j := fun c => e (by
        have c := (hP j).mp c
        rw [decide_eq_false (fun z => c (oV_inj z))]
        rfl)
      -- window = window[1:] + (tick,)
      refine ⟨.ref wa, rfl, 1, rfl, ?_⟩
      dsimp only [tNoPart]
      refine sl_tail (.inl (.inl hwa10)) fun c Hc sc hc => ?_
      refine ⟨oV (calledAt (n0 :: nr) (winN (n0 :: nr) j W0)), rfl, (by decide : 1 ≤ sizeLine), fun b nb => ?_⟩
      have sb : Same Hc (upd Hc b (.tup [oV (calledAt (n0 :: nr) (winN (n0 :: nr) j W0))])) := same_upd nb
      refine cat_new (sb.tup hc) upd_same (by simp) (by rw [List.length_tail, List.length_map]; simp; omega) fun e2 He se he => ?_
      have sF := s9.trans (s10.trans (sc.trans (sb.trans se)))
      refine ⟨_, rfl, _, 1, rfl, rfl, ?_⟩
      refine ⟨e2, _, some (.int (baseOf (winN (n0 :: nr) j W0))), some (.ref c7), some (oV (calledAt (n0 :: nr) (winN (n0 :: nr) j W0))), ?_, sm8.trans sF, ?_, M8.same sF, fun k hk => ?_, dis8⟩
      · exact congrArg (fun v => [some (V.ref r), some (V.ref r2), some (V.ref e2), some (V.ref d), some (V.int v), some (.int (baseOf (winN (n0 :: nr) j W0))), some (.ref c7), some (oV (calledAt (n0 :: nr) (winN (n0 :: nr) j W0)))]) (show (j : Int) + 1 + 1 = ((j + 1 : Nat) : Int) + 1 by omega)
      · rw [he, winN_succ]
        show some (HO.tup (((winN (n0 :: nr) j W0).map oV).tail ++ [oV _])) = some (HO.tup (((winN (n0 :: nr) j W0).tail ++ [_]).map oV))
        rw [List.map_append, List.map_tail]
        rfl
      · by_cases c : k < j
        · exact hno k c
        · have : k = j := by omega
          subst this
          exact pj
end
end LK
namespace LK
open PySem PySem.Spec PyProof.Rows L2 CD DL
/-! ### old promises as lifted ones -/
def oD : Option Int → D
  | none => .non
  | some i => .int i
abbrev tI (ns : List Int) : D := .tup (ns.map D.int)
structure W_need_rule_n (as : List SV) (Q : QD) : Prop where
  h : ∃ ns, as = [.val (tI ns)] ∧ IsRule ns ∧ Q (tI ns) none
structure W_tick_of_n (as : List SV) (Q : QD) : Prop where
  h : ∃ ns gs, ∃ n : Nat, as = [.val (tI ns), .val (tI gs), .val (.int n)] ∧ IsRule ns ∧ IsAbs gs ∧ (n : Int) ≤ 10 ^ 30 ∧ Q (oD (tickV ns gs n)) none
structure W_part_line_n (as : List SV) (Q : QD) : Prop where
  h : ∃ ns ms, as = [.val (tI ns), .val (tI ms)] ∧ IsRule ns ∧ IsRule ms ∧ (∀ i : Nat, i ≤ 36 → Parts ns ms (R6 (ns ++ ms)) i → (∀ k, k < i → ¬ Parts ns ms (R6 (ns ++ ms)) k) → Q (.int ((i : Int) + 1)) none) ∧ ((∀ k, ¬ Parts ns ms (R6 (ns ++ ms)) k) → Q .non none)
section
variable {P : Program} {w : World} {K : PySem.W.Frag} {mg : Str → Option Value} {base : Heap} {GP : GenP}
theorem oD_ok {F : Hp} (o : Option Int) : Dd K F (oV o) (oD o) := by
  cases o
  · exact .non
  · exact .int _
theorem tI_ok {F H : Hp} {v : V} {ns : List Int} (s : Same F H) (h : Dd K F v (tI ns)) : ∃ a, v = .ref a ∧ SqT K H a (ns.map V.int) := by
  cases h with
  | tup h1 g =>
    rw [g.ints] at h1
    exact ⟨_, rfl, .inl (.inl (s _ _ h1))⟩
theorem gnone {γ : GAt} {as : List SV} (h : hasG as = γ.isSome) (e : hasG as = false) : γ = none := by
  rw [e] at h
  cases γ with
  | none => rfl
  | some _ => cases h
theorem tabs_same {T : List (Addr × Str)} {H H' : Hp} (t : LamX.Tabs T H) (s : Same H H') : LamX.Tabs T H' := tabs_stay t fun a o e _ => s a o e
theorem end_same {F H : Hp} {γ : GAt} {Q : QD} {R : VK} (h1 : Same F H) (g : γ = none) (hT : TabsF GP H F)
    (h8 : ∀ v H' F' γ' d m, LamX.Tabs GP.T H' → (∀ a o, H a = some o → ¬ GA GP γ a → H' a = some o) → (∀ a o, H a = some o → ∃ u, H' a = some u) → Same F F' → Same F' H' → (∀ a o, F' a = some o → F a = some o ∨ H a = none ∨ ∃ xs, o = .tup xs) → Dd K F' v d →
      GenAfter GP H H' F' γ γ' m → Q d m → R v H') {H' : Hp} {v : V} {d : D} (s : Same H H') (dd : Dd K F v d) (q : Q d none) : R v H' :=
  h8 v H' F none d none (tabs_same hT.1 s) (fun a o e _ => s a o e) (fun a o e => ⟨o, s _ _ e⟩) (Same.refl _) (h1.trans s) (fun a o e => .inl e) dd g q
theorem end_new {F H : Hp} {γ : GAt} {Q : QD} {R : VK} (h1 : Same F H) (g : γ = none) (hT : TabsF GP H F)
    (h8 : ∀ v H' F' γ' d m, LamX.Tabs GP.T H' → (∀ a o, H a = some o → ¬ GA GP γ a → H' a = some o) → (∀ a o, H a = some o → ∃ u, H' a = some u) → Same F F' → Same F' H' → (∀ a o, F' a = some o → F a = some o ∨ H a = none ∨ ∃ xs, o = .tup xs) → Dd K F' v d →
      GenAfter GP H H' F' γ γ' m → Q d m → R v H') {H' : Hp} {p : Addr} {o : HO} {d : D} (s : Same H H') (np : H p = none) (hp : H' p = some o) (dd : Dd K (upd F p o) (.ref p) d) (q : Q d none) : R (.ref p) H' := by
  have fp : F p = none := Same.free h1 np
  refine h8 (.ref p) H' (upd F p o) none d none (tabs_same hT.1 s) (fun a o e _ => s a o e) (fun a o e => ⟨o, s _ _ e⟩) (same_upd fp) (fun a u e => ?_) (fun a u e => ?_) dd g q
  · by_cases c : a = p
    · subst c
      rw [upd_same] at e
      cases e
      exact hp
    · rw [upd_ne c] at e
      exact s _ _ (h1 _ _ e)
  · by_cases c : a = p
    · subst c
      exact .inr (.inl np)
    · rw [upd_ne c] at e
      exact .inl e
theorem end_tup {F H : Hp} {γ : GAt} {Q : QD} {R : VK} (h1 : Same F H) (g : γ = none) (hT : TabsF GP H F)
    (h8 : ∀ v H' F' γ' d m, LamX.Tabs GP.T H' → (∀ a o, H a = some o → ¬ GA GP γ a → H' a = some o) → (∀ a o, H a = some o → ∃ u, H' a = some u) → Same F F' → Same F' H' → (∀ a o, F' a = some o → F a = some o ∨ H a = none ∨ ∃ xs, o = .tup xs) → Dd K F' v d →
      GenAfter GP H H' F' γ γ' m → Q d m → R v H') {H' : Hp} {p : Addr} {xs : List V} {d : D} (s : Same H H') (hp : H' p = some (.tup xs)) (dd : Dd K (upd F p (.tup xs)) (.ref p) d) (q : Q d none) : R (.ref p) H' := by
  refine h8 (.ref p) H' (upd F p (.tup xs)) none d none (tabs_same hT.1 s) (fun a o e _ => s a o e) (fun a o e => ⟨o, s _ _ e⟩) (fun a u e => ?_) (fun a u e => ?_) (fun a u e => ?_) dd g q
  · by_cases c : a = p
    · subst c
      rw [upd_same]
      have := s _ _ (h1 _ _ e)
      rw [hp] at this
      exact this
    · rw [upd_ne c]; exact e
  · by_cases c : a = p
    · subst c
      rw [upd_same] at e
      cases e
      exact hp
    · rw [upd_ne c] at e
      exact s _ _ (h1 _ _ e)
  · by_cases c : a = p
    · subst c
      rw [upd_same] at e
      cases e
      exact .inr (.inr ⟨_, rfl⟩)
    · rw [upd_ne c] at e
      exact .inl e
theorem lift_need_rule_n (o_need_rule : Cal P w K mg base 3 "need_rule" p_need_rule (spNeedRule K)) (hD : Def K mg "need_rule" s_need_rule p_need_rule) : CalG P w K mg base 3 "need_rule" p_need_rule (spL GP K 1 W_need_rule_n) := by
  refine toG o_need_rule fun vs H Q E h => ?_
  obtain ⟨F, γ, as, Qd, h1, h2, h3, _, _, h6, hT, ⟨ns, rfl, hR, q⟩, h8⟩ := h
  match vs, h2 with
  | [v1], ⟨d1, _⟩ =>
    obtain ⟨a, rfl, hS⟩ := tI_ok h1 d1
    exact ⟨a, ns, rfl, hS, hR, fun H' s => end_same h1 (gnone h3 rfl) hT h8 s d1 q⟩
theorem lift_tick_of_n (o_tick_of : Cal P w K mg base 7 "tick_of" p_tick_of (spTick K)) (hD : Def K mg "tick_of" s_tick_of p_tick_of) : CalG P w K mg base 7 "tick_of" p_tick_of (spL GP K 3 W_tick_of_n) := by
  refine toG o_tick_of fun vs H Q E h => ?_
  obtain ⟨F, γ, as, Qd, h1, h2, h3, _, _, h6, hT, ⟨ns, gs, n, rfl, hR, hA, hn, q⟩, h8⟩ := h
  match vs, h2 with
  | [v1, v2, v3], ⟨d1, d2, d3, _⟩ =>
    obtain ⟨a, rfl, hS⟩ := tI_ok h1 d1
    obtain ⟨b, rfl, hS2⟩ := tI_ok h1 d2
    cases d3
    exact ⟨a, b, ns, gs, n, rfl, ⟨hS, hS2, hR, hA⟩, hn, repAll_any hR hA.most _ _, fun H' s => end_same h1 (gnone h3 rfl) hT h8 s (oD_ok _) q⟩
theorem lift_part_line_n (o_part_line : Cal P w K mg base 4 "part_line" p_part_line (spPart K)) (hD : Def K mg "part_line" s_part_line p_part_line) : CalG P w K mg base 4 "part_line" p_part_line (spL GP K 2 W_part_line_n) := by
  refine toG o_part_line fun vs H Q E h => ?_
  obtain ⟨F, γ, as, Qd, h1, h2, h3, _, _, h6, hT, ⟨ns, ms, rfl, hR, hM, q1, q2⟩, h8⟩ := h
  match vs, h2 with
  | [v1, v2], ⟨d1, d2, _⟩ =>
    obtain ⟨a, rfl, hS⟩ := tI_ok h1 d1
    obtain ⟨b, rfl, hS2⟩ := tI_ok h1 d2
    exact ⟨a, b, ns, ms, rfl, hS, hS2, hR, hM, fun H' i s hi hp hn => end_same h1 (gnone h3 rfl) hT h8 s (.int _) (q1 i hi hp hn), fun H' s hn => end_same h1 (gnone h3 rfl) hT h8 s .non (q2 hn)⟩
end
end LK

namespace LK
open PySem PySem.Spec PyProof.Rows L2 CD DL


section
variable {P : Program} {w : World} {K : PySem.W.Frag} {mg : Str → Option Value} {base : Heap} {GP : GenP}
def u_growth : US := (uSeq (uDrop (uCall 1 W_need_rule_n (uCons (uVar 0) uNil)))
    (uSeq (uPar 1 2 (uC (.int 1)) (uOp pIxT (uVar 0) (uC (.int 0))))
    (uSeq (uFor (uiEnumT (uCons (uVar 0) uNil) (uCons (uC (.int 1)) uNil)) (ugTup 2 (ugCons (ugName 3) (ugCons (ugName 4) ugNil))) (uIfS (uTest (uOp (pI0 fun i j => D.bl (decide (i < j))) (uOp (pI CMul fun i j => D.int (i * j)) (uVar 3) (uVar 2)) (uOp (pI CMul fun i j => D.int (i * j)) (uVar 1) (uVar 4)))) (uPar 1 2 (uVar 3) (uVar 4)) uNext))
    (uSeq (uSet 5 (uCB pGcd (uCons (uVar 1) (uCons (uVar 2) uNil))))
    (uRet (uTup (uCons (uOp (pI CDivN fun i j => D.int (i.fdiv j)) (uVar 1) (uVar 5)) (uCons (uOp (pI CDivN fun i j => D.int (i.fdiv j)) (uVar 2) (uVar 5)) uNil))))))))
structure W_growth (as : List SV) (Q : QD) : Prop where
  h : Wof 6 u_growth as Q
theorem lift_growth (z : Z mg) (b_gcd : mg "gcd" = some (.builtin "math.gcd")) (c_need_rule_n : CalG P w K mg base 3 "need_rule" p_need_rule (spL GP K 1 W_need_rule_n)) (hD : Def K mg "growth" s_growth p_growth) : CalG P w K mg base 4 "growth" p_growth (spL GP K 1 W_growth) := by
  refine CalG.impD (hD.calD sc_growth u_growth fun f cdv A outer s H E hgd hr => ?_) fun as Q h => h.h
  have hu := hu_of hr
  refine ⟨_, (pss_cons (ps_expr (pe_calG c_need_rule_n hgd (hr.mono (by decide)) (by rfl) (pa_cons (pv 0) pa_nil)))
    (pss_cons (ps_par (i := 1) (j := 2) rfl sc_growth.nd rfl rfl (by decide) rfl rfl (pa_cons pe_int (pa_cons (pe_ix ix_tup (pv 0) pe_int (fun _ _ => rfl)) pa_nil)) (by rfl))
    (pss_cons (ps_for PassesOwn.never rfl (pi_enumT (by rfl) z.«enumerate» (pa_cons (pv 0) pa_nil) (pk_cons pe_int pk_nil)) (pg_tup rfl (pgs_cons (pg_name (i := 3) sc_growth.nd rfl (Or.inl rfl)) (pgs_cons (pg_name (i := 4) sc_growth.nd rfl (Or.inl rfl)) pgs_nil))) (pss_one (ps_if (pt_cmpR op_lt (pe_op op_mul (pv 3) (pv 2)) (pe_op op_mul (pv 1) (pv 4)) (nomark _)) (pss_one (ps_par (i := 1) (j := 2) rfl sc_growth.nd rfl rfl (by decide) rfl rfl (pa_cons (pv 3) (pa_cons (pv 4) pa_nil)) (by rfl))) pss_nil)))
    (pss_cons (ps_set (i := 5) sc_growth.nd rfl (Or.inl rfl) (pe_callBfun cr_gcd (by rfl) b_gcd (pa_cons (pv 1) (pa_cons (pv 2) pa_nil))))
    (pss_one (ps_ret (pe_tup (pa_cons (pe_op op_fdivN (pv 1) (pv 5)) (pa_cons (pe_op op_fdivN (pv 2) (pv 5)) pa_nil))))))))), ?_⟩
  intro B
  exact (ls_seq (ls_drop (le_call (la_cons (le_var 0) la_nil)))
    (ls_seq (ls_par (le_int _) (le_op lr_ixT (le_var 0) (le_int _)))
    (ls_seq (ls_for (li_enumT (la_cons (le_var 0) la_nil) (la_cons (le_int _) la_nil)) (lg_tup (lgs_cons (lg_name 3) (lgs_cons (lg_name 4) lgs_nil))) (ls_if (lt_test (le_op (lr_I0 (g' := fun i j => D.bl (decide (i < j))) fun _ _ => rfl) (le_op (lr_I (C := CMul) (g' := fun i j => D.int (i * j)) fun _ _ => rfl) (le_var 3) (le_var 2)) (le_op (lr_I (C := CMul) (g' := fun i j => D.int (i * j)) fun _ _ => rfl) (le_var 1) (le_var 4)))) (ls_par (le_var 3) (le_var 4)) ls_next))
    (ls_seq (ls_set (le_cb lb_gcd (la_cons (le_var 1) (la_cons (le_var 2) la_nil))))
    (ls_ret (le_tup (la_cons (le_op (lr_I (C := CDivN) (g' := fun i j => D.int (i.fdiv j)) fun _ _ => rfl) (le_var 1) (le_var 5)) (la_cons (le_op (lr_I (C := CDivN) (g' := fun i j => D.int (i.fdiv j)) fun _ _ => rfl) (le_var 2) (le_var 5)) la_nil))))))))
end
end LK
namespace LK
open PySem PySem.Spec PyProof.Rows L2 CD DL
section
variable {P : Program} {w : World} {K : PySem.W.Frag} {mg : Str → Option Value} {base : Heap}
/-! ### draws, by cells and what is left of great ones -/
abbrev kC : Key := .inr "cells"
abbrev kL : Key := .inr "left"
abbrev kS : Key := .inr "spot"
theorem nCL : ¬ kC = kL := by decide
theorem nCS : ¬ kC = kS := by decide
theorem nLS : ¬ kL = kS := by decide
def kvM (c l k : V) : List (Key × V) := [(kC, c), (kL, l), (kS, k)]
theorem getM1 (c l k : V) : valV (kvM c l k) kC = some c := by simp [valV, kvM]
theorem getM2 (c l k : V) : valV (kvM c l k) kL = some l := by
  have h := nCL
  simp [valV, kvM, h]
theorem getM3 (c l k : V) : valV (kvM c l k) kS = some k := by
  have h := nCS
  have h2 := nLS
  simp [valV, kvM, h, h2]
theorem putM3 (c l k v : V) : putK (kvM c l k) kS v = kvM c l v := by
  have h := nCS
  have h2 := nLS
  simp [putK, kvM, h, h2]
theorem gM1 {H : Hp} {d : Addr} {c l k : V} (h : H d = some (.dK (kvM c l k))) : DGet H d (.str "cells") (some c) := getM1 c l k ▸ DGet.k (k := kC) h
theorem gM2 {H : Hp} {d : Addr} {c l k : V} (h : H d = some (.dK (kvM c l k))) : DGet H d (.str "left") (some l) := getM2 c l k ▸ DGet.k (k := kL) h
theorem gM3 {H : Hp} {d : Addr} {c l k : V} (h : H d = some (.dK (kvM c l k))) : DGet H d (.str "spot") (some k) := getM3 c l k ▸ DGet.k (k := kS) h
theorem pM3 {H : Hp} {d : Addr} {c l k v : V} (h : H d = some (.dK (kvM c l k))) : DPut H d (.str "spot") v (upd H d (.dK (kvM c l v))) := putM3 c l k v ▸ DPut.k (k := kS) (v := v) h (by decide : 3 < sizeLine)
/-- the draws at d, their list of what is left at l; at most n drawn -/
structure Draw (H : Hp) (d l c : Addr) (n : Nat) : Prop where
  ex : ∃ (cells lefts : List Int) (spot : Nat), H d = some (.dK (kvM (.ref c) (.ref l) (.int spot))) ∧ H c = some (.lst (cells.map V.int)) ∧ H l = some (.lst (lefts.map V.int)) ∧ c ≠ l ∧ lefts.length = cells.length ∧ 1 ≤ cells.length ∧ cells.length ≤ 1000 ∧ spot ≤ n
theorem Draw.same {H H' : Hp} {d g c : Addr} {n : Nat} (h : Draw H d g c n) (s : Same H H') : Draw H' d g c n := by
  obtain ⟨cells, lefts, spot, h1, h2, h3, r⟩ := h
  exact ⟨cells, lefts, spot, s _ _ h1, s _ _ h2, s _ _ h3, r⟩
theorem Draw.up {H : Hp} {d g c : Addr} {n m : Nat} (h : Draw H d g c n) (k : n ≤ m) : Draw H d g c m := by
  obtain ⟨cells, lefts, spot, h1, h2, h3, h4, h5, h6, h7, h8⟩ := h
  exact ⟨cells, lefts, spot, h1, h2, h3, h4, h5, h6, h7, by omega⟩
/-- all that was tracked stays, but the draws -/
def But (H H' : Hp) (d g : Addr) : Prop := ∀ b o, H b = some o → b ≠ d → b ≠ g → H' b = some o
theorem But.refl (H : Hp) (d g : Addr) : But H H d g := fun _ _ h _ _ => h
theorem But.same {H H1 H2 : Hp} {d g : Addr} (h : But H H1 d g) (s : Same H1 H2) : But H H2 d g := fun b o e n1 n2 => s _ _ (h b o e n1 n2)
theorem But.of {H H2 : Hp} {d g : Addr} (s : Same H H2) : But H H2 d g := fun b o e _ _ => s _ _ e
theorem But.trans {H H1 H2 : Hp} {d g : Addr} (h : But H H1 d g) (k : But H1 H2 d g) : But H H2 d g := fun b o e n1 n2 => k b o (h b o e n1 n2) n1 n2
theorem Draw.nd {H : Hp} {d g c : Addr} {n : Nat} (h : Draw H d g c n) : (∃ kv, H d = some (.dK kv)) ∧ (∃ xs, H g = some (.lst xs)) ∧ ∃ xs, H c = some (.lst xs) := by
  obtain ⟨cells, lefts, spot, h1, h2, h3, _⟩ := h
  exact ⟨⟨_, h1⟩, ⟨_, h3⟩, _, h2⟩
/-- a tuple stays -/
theorem But.tup {H H' : Hp} {d g c a : Addr} {n : Nat} {xs : List V} (h : But H H' d g) (D : Draw H d g c n) (e : H a = some (.tup xs)) : H' a = some (.tup xs) := by
  obtain ⟨⟨kv, h1⟩, ⟨ys, h2⟩, _⟩ := D.nd
  exact h _ _ e (ne_of e h1 (fun z => nomatch z)) (ne_of e h2 (fun z => nomatch z))
theorem fmod_range {a t : Int} (h : 1 ≤ t) : 0 ≤ a.fmod t ∧ a.fmod t < t := by
  rw [Int.fmod_eq_emod_of_nonneg _ (by omega)]
  exact ⟨Int.emod_nonneg _ (by omega), Int.emod_lt_of_pos _ (by omega)⟩
def spMix : Sp := fun vs H Q _ => ∃ (c : Int) (k : Nat), vs = [.int c, .int k] ∧ k < 2 ^ 41 ∧ ∀ v : Int, Q (.int v) H
theorem cal_law_mix (z : Z mg) (D : Def K mg "_law_mix" s__law_mix p__law_mix) : Cal P w K mg base 2 "_law_mix" p__law_mix spMix := by
  refine D.cal sc__law_mix (fun vs H Q E h => by obtain ⟨_, _, rfl, _⟩ := h; rfl) fun f cdv A outer s H vs Q E hr h => ?_
  obtain ⟨c, k, rfl, hk, q⟩ := h
  refine ⟨_, (pss_cons (ps_set (i := 2) sc__law_mix.nd rfl (Or.inl rfl) (pe_op op_modN (pe_callTy (call_int1) (by rfl) z.«int» (by decide +kernel) (pa_cons (pe_op op_add (pe_op op_add (pe_op op_mul (pv 0) pe_int) (pe_op op_mul (pv 1) pe_int)) pe_int) pa_nil)) pe_int))
        (pss_cons (ps_set (i := 3) sc__law_mix.nd rfl (Or.inl rfl) (pe_op op_modN (pe_callTy (call_int1) (by rfl) z.«int» (by decide +kernel) (pa_cons (pe_op op_add (pe_op op_add (pe_op op_mul (pv 2) pe_int) (pv 0)) (pv 1)) pa_nil)) pe_int))
        (pss_one (ps_ret (pe_op op_modN (pe_callTy (call_int1) (by rfl) z.«int» (by decide +kernel) (pa_cons (pe_op op_add (pe_op op_mul (pv 3) pe_int) (pe_op op_mul (pe_op op_mul (pv 1) (pv 1)) pe_int)) pa_nil)) pe_int))))), ?_⟩
  refine ⟨.int c, rfl, c, 40503, rfl, rfl, .inr ⟨by decide, by decide⟩, .int k, rfl, k, 69069, rfl, rfl, .inr ⟨by decide, by decide⟩, _, _, rfl, rfl, _, _, rfl, rfl, .inl ⟨_, rfl, _, 2147483647, rfl, rfl, (by decide : (2147483647 : Int) ≠ 0), ?_⟩⟩
  refine ⟨_, rfl, _, 48271, rfl, rfl, .inr ⟨by decide, by decide⟩, .int c, rfl, _, c, rfl, rfl, .int k, rfl, _, k, rfl, rfl, .inl ⟨_, rfl, _, 2147483647, rfl, rfl, (by decide : (2147483647 : Int) ≠ 0), ?_⟩⟩
  refine ⟨_, rfl, _, 16807, rfl, rfl, .inr ⟨by decide, by decide⟩, .int k, rfl, .int k, rfl, k, k, rfl, rfl, .inl ⟨by omega, by omega⟩, _, 7919, rfl, rfl, .inr ⟨by decide, by decide⟩, _, _, rfl, rfl, .inl ⟨_, rfl, _, 2147483647, rfl, rfl, (by decide : (2147483647 : Int) ≠ 0), q _⟩⟩
def spDraw : Sp := fun vs H Q _ => ∃ (d g c : Addr) (n : Nat) (t : Int), vs = [.ref d, .int t] ∧ Draw H d g c n ∧ n < 2 ^ 40 ∧ 1 ≤ t ∧ t ≤ 10 ^ 30 ∧
  ∀ H' (v : Int), But H H' d g → Draw H' d g c (n + 1) → 0 ≤ v → v < t → Q (.int v) H'
theorem cal_law_draw (z : Z mg) (c__law_mix : Cal P w K mg base 2 "_law_mix" p__law_mix spMix) (D : Def K mg "_law_draw" s__law_draw p__law_draw) : Cal P w K mg base 3 "_law_draw" p__law_draw spDraw := by
  refine D.cal sc__law_draw (fun vs H Q E h => by obtain ⟨_, _, _, _, _, rfl, _⟩ := h; rfl) fun f cdv A outer s H vs Q E hr h => ?_
  obtain ⟨d, l, c, n, t, rfl, ⟨cells, lefts, spot, hd, hc, hl, ncl, el, l1, l2, hs⟩, hn, t1, t2, q⟩ := h
  have hu := hu_of hr
  have ncd : c ≠ d := ne_of hc hd (fun e => nomatch e)
  have nld : l ≠ d := ne_of hl hd (fun e => nomatch e)
  refine ⟨_, (pss_cons (ps_set (i := 2) sc__law_draw.nd rfl (Or.inl rfl) (pe_dget hu (pv 0) pe_str (fun _ _ => rfl)))
        (pss_cons (ps_dput hu (pv 0) pe_str (pe_op op_add (pv 2) pe_int) rfl)
        (pss_cons (ps_set (i := 3) sc__law_draw.nd rfl (Or.inl rfl) (pe_op op_modN (pe_callTy (call_int1) (by rfl) z.«int» (by decide +kernel) (pa_cons (pv 2) pa_nil)) (pe_callB (call_len_seq) (by rfl) z.«len» (by decide +kernel) (pa_cons (pe_dget hu (pv 0) pe_str (fun _ _ => rfl)) pa_nil))))
        (pss_cons (ps_set (i := 4) sc__law_draw.nd rfl (Or.inl rfl) (pe_ix ix_list (pe_dget hu (pv 0) pe_str (fun _ _ => rfl)) (pv 3) (fun _ _ => rfl)))
        (pss_cons (ps_if (pt_cmpR op_gt (pv 4) pe_int (nomark _)) (pss_cons (ps_asg (pe_op op_fdivW (pv 4) (pv 1)) (pg_sub (pe_dget hu (pv 0) pe_str (fun _ _ => rfl)) (pv 3) set_list))
        (pss_one (ps_ret (pe_op op_modN (pe_callTy (call_int1) (by rfl) z.«int» (by decide +kernel) (pa_cons (pv 4) pa_nil)) (pv 1))))) pss_nil)
        (pss_one (ps_ret (pe_op op_modN (pe_callTy (call_int1) (by rfl) z.«int» (by decide +kernel) (pa_cons (pe_op op_fdivN (pe_cal c__law_mix (hr.mono (by decide)) (by rfl) (pa_cons (pe_ix ix_list (pe_dget hu (pv 0) pe_str (fun _ _ => rfl)) (pv 3) (fun _ _ => rfl)) (pa_cons (pv 2) pa_nil))) pe_int) pa_nil)) (pv 1))))))))), ?_⟩
  refine ⟨.ref d, rfl, d, _, rfl, gM3 hd, ?_⟩
  refine ⟨.int spot, rfl, spot, 1, rfl, rfl, .ref d, rfl, d, _, rfl, pM3 hd, ?_⟩
  have hd2 : (upd H d (.dK (kvM (.ref c) (.ref l) (.int ((spot : Int) + 1))))) d = some (.dK (kvM (.ref c) (.ref l) (.int ((spot : Int) + 1)))) := upd_same
  have hc2 : (upd H d (.dK (kvM (.ref c) (.ref l) (.int ((spot : Int) + 1))))) c = some (.lst (cells.map V.int)) := by rw [upd_ne ncd]; exact hc
  have hl2 : (upd H d (.dK (kvM (.ref c) (.ref l) (.int ((spot : Int) + 1))))) l = some (.lst (lefts.map V.int)) := by rw [upd_ne nld]; exact hl
  have but2 : But H (upd H d (.dK (kvM (.ref c) (.ref l) (.int ((spot : Int) + 1))))) d l := fun b o e n1 n2 => by rw [upd_ne n1]; exact e
  show tSeq _ _ _ _ (upd H d (.dK (kvM (.ref c) (.ref l) (.int ((spot : Int) + 1)))))
  generalize upd H d (.dK (kvM (.ref c) (.ref l) (.int ((spot : Int) + 1)))) = H2 at hd2 hc2 hl2 but2
  obtain ⟨r1, r2⟩ := fmod_range (a := (spot : Int)) (t := (cells.length : Int)) (by omega)
  obtain ⟨j, hj⟩ : ∃ j : Nat, (spot : Int).fmod (cells.length : Int) = j := ⟨_, (Int.toNat_of_nonneg r1).symm⟩
  have hjl : j < cells.length := by omega
  have hjl2 : j < lefts.length := by omega
  have hac : atI (cells.map V.int) (j : Int) = some (.int cells[j]) := atI_nat (by rw [List.getElem?_map, List.getElem?_eq_getElem hjl]; rfl)
  have hal : atI (lefts.map V.int) (j : Int) = some (.int lefts[j]) := atI_nat (by rw [List.getElem?_map, List.getElem?_eq_getElem hjl2]; rfl)
  refine ⟨.int spot, rfl, .inl ⟨spot, rfl, .ref d, rfl, d, _, rfl, gM1 hd2, c, _, rfl, .inl (.inl (.inl hc2)), _, _, rfl, rfl, by rw [List.length_map]; omega, ?_⟩⟩
  dsimp only
  rw [List.length_map, hj]
  refine ⟨.ref d, rfl, d, _, rfl, gM2 hd2, .int j, rfl, l, _, _, _, rfl, rfl, .inl (.inl hl2), hal, ?_⟩
  refine ⟨.int lefts[j], rfl, lefts[j], 0, rfl, rfl, _, rfl, ite2 (fun e => ?_) (fun e => ?_)⟩
  · have e' : 0 < lefts[j] := of_decide_eq_true e
    refine ⟨.int lefts[j], rfl, .int t, rfl, _, t, rfl, rfl, ⟨by omega, ?_⟩, .ref d, rfl, d, _, rfl, gM2 hd2, .int j, rfl, l, _, _, j, rfl, rfl, hl2, ?_, ?_⟩
    · have h1 : t.natAbs < 2 ^ 100 := by omega
      have h2 : t.natAbs.log2 < 100 := by
        by_cases h0 : t.natAbs = 0
        · rw [h0]; decide
        · exact (Nat.log2_lt h0).mpr h1
      omega
    · unfold ixN
      rw [if_pos (by omega), if_pos (by rw [List.length_map]; omega)]
      rfl
    · have sw : (lefts.map V.int).set j (.int (lefts[j] / t)) = (lefts.set j (lefts[j] / t)).map V.int := by rw [List.map_set]
      refine ⟨.int lefts[j], rfl, .inl ⟨_, rfl, .int t, rfl, _, t, rfl, rfl, by omega, ?_⟩⟩
      refine q _ _ (fun b o e n1 n2 => ?_) ⟨cells, lefts.set j (lefts[j] / t), spot + 1, ?_, ?_, ?_, ncl, by rw [List.length_set]; exact el, l1, l2, by omega⟩ (fmod_range t1).1 (fmod_range t1).2
      · rw [upd_ne n2]; exact but2 b o e n1 n2
      · rw [upd_ne (Ne.symm nld)]; exact hd2
      · rw [upd_ne ncl]; exact hc2
      · rw [upd_same, sw]
  · refine ⟨.ref d, rfl, d, _, rfl, gM1 hd2, .int j, rfl, c, _, _, _, rfl, rfl, .inl (.inl hc2), hac, .int spot, rfl, cells[j], spot, rfl, by omega, fun v => ?_⟩
    refine ⟨v, 97, rfl, rfl, ⟨by decide, by decide⟩, .inl ⟨_, rfl, .int t, rfl, _, t, rfl, rfl, by omega, ?_⟩⟩
    exact q H2 _ but2 ⟨cells, lefts, spot + 1, hd2, hc2, hl2, ncl, el, l1, l2, by omega⟩ (fmod_range t1).1 (fmod_range t1).2
def spBegun (K : PySem.W.Frag) : Sp := fun vs H Q _ => ∃ (a : Addr) (ns : List Int), vs = [.ref a] ∧ SqL K H a (ns.map V.int) ∧ ns.length ≤ 63 ∧ ∀ H' d g c, Same H H' → H d = none → H g = none → H c = none → Draw H' d g c 0 → Q (.ref d) H'
theorem cal_law_begun (z : Z mg) (D : Def K mg "_law_begun" s__law_begun p__law_begun) : Cal P w K mg base 2 "_law_begun" p__law_begun (spBegun K) := by
  refine D.cal sc__law_begun (fun vs H Q E h => by obtain ⟨_, _, rfl, _⟩ := h; rfl) fun f cdv A outer s H vs Q E hr h => ?_
  obtain ⟨a, ns, rfl, hS, hl, q⟩ := h
  refine ⟨_, (pss_cons (ps_set (i := 1) sc__law_begun.nd rfl (Or.inl rfl) (pe_ifExp (pt_cmpR (op_neD hr.units) (pv 0) (pe_lst pa_nil) (nomark _)) (pe_callTy (call_list_of) (by rfl) z.«list» (by decide +kernel) (pa_cons (pv 0) pa_nil)) (pe_lst (pa_cons pe_int pa_nil))))
        (pss_one (ps_ret (pe_disp (pps_cons pe_str (pv 1) (pps_cons pe_str (pe_lc (own := [("cell", 2)]) (g := (gName 2)) (tt := tYes) rfl sc__law_begun.nd (pi_list (pv 1)) (blkOk_by (N := n__law_begun) (sc := defScope s__law_begun) (by decide +kernel)) (fun _ _ _ _ _ => (pg_name (i := 2) sc__law_begun.nd rfl (Or.inl rfl))) (fun _ _ _ _ _ => pts_nil) (fun _ _ _ _ _ => (pe_ifExp (pt_cmpR op_ge (pv 2) (pe_op op_pow pe_int pe_int) (nomark _)) (pv 2) pe_int))) (pps_cons pe_str pe_int pps_nil))) (by rfl) (by rfl) (fun z => by cases z) (by decide))))), ?_⟩
  refine ⟨.ref a, rfl, by decide, fun p np => ?_⟩
  have s0 : Same H (upd H p (.lst [])) := same_upd np
  refine ne_nil (s0.seq hS) upd_same ⟨_, rfl, ite2 (fun e => ?_) (fun e => ?_)⟩
  · generalize upd H p (.lst []) = H0 at s0
    refine ⟨.ref a, rfl, a, _, rfl, .inl (s0.seq hS), fun b nb => ?_⟩
    have hb1 : (upd H0 b (.lst (ns.map V.int))) b = some (.lst (ns.map V.int)) := upd_same
    have sm1 : Same H (upd H0 b (.lst (ns.map V.int))) := s0.trans (same_upd nb)
    have nb0 : H b = none := Same.free s0 nb
    show tSeq _ _ _ _ (upd H0 b (.lst (ns.map V.int)))
    generalize upd H0 b (.lst (ns.map V.int)) = H1 at hb1 sm1
    have l1 : 1 ≤ ns.length := by
      cases ns with
      | nil => exact absurd e (by decide)
      | cons x r => rw [List.length_cons]; omega
    have l2 : ns.length ≤ 1000 := by omega
    generalize ns = cs at hb1 l1 l2
    intro d nd
    have sd : Same H1 (upd H1 d (.dK [])) := same_upd nd
    have hb2 := sd _ _ hb1
    have sm2 := sm1.trans sd
    have hd2 : (upd H1 d (.dK [])) d = some (.dK []) := upd_same
    have nd0 : H d = none := Same.free sm1 nd
    have nbd : b ≠ d := ne_of_none hb1 nd
    generalize upd H1 d (.dK []) = H2 at sd hb2 sm2 hd2
    refine ⟨.ref b, rfl, .ref b, rfl, b, rfl, ⟨_, .inl (.inl hb2)⟩, fun g ng => ?_⟩
    refine lc_std (walk_list (K := K) (a := b) (xs := cs.map V.int)) cs (fun n => some (.int (if 10 ^ 18 ≤ n then n else 0))) (by rw [List.length_map]) (small1000 (by rw [List.length_map]; omega)) ng (fun H3 s3 => .inl (.inl (s3 _ _ hb2))) (fun i x H3 H4 n R hn s3 y hR => ?_) (fun H3 s3 e => ?_)
    · obtain ⟨rfl, gg⟩ := y
      obtain rfl := map_at hn gg
      refine ⟨rfl, .int n, rfl, 10, 18, rfl, rfl, ⟨by decide, by decide, by decide⟩, n, 10 ^ 18, rfl, rfl, _, rfl, ite2 (fun c => ?_) (fun c => ?_)⟩
      · have c' : (10 : Int) ^ 18 ≤ n := of_decide_eq_true c
        have z2 := hR _ (Same.refl _)
        rw [if_pos c'] at z2
        exact ⟨.int n, rfl, z2⟩
      · have c' : ¬ (10 : Int) ^ 18 ≤ n := fun x => c (decide_eq_true x)
        have z2 := hR _ (Same.refl _)
        rw [if_neg c'] at z2
        exact z2
    rw [filterMap_some] at e
    have e2 : cs.map (fun n => V.int (if 10 ^ 18 ≤ n then n else 0)) = (cs.map fun n => if 10 ^ 18 ≤ n then n else 0).map V.int := by rw [List.map_map]; rfl
    rw [e2] at e
    refine ⟨s3 _ _ hd2, kvM (.ref b) (.ref g) (.int 0), rfl, (by decide : 3 ≤ 15), ?_⟩
    have em : mergeK [] (kvM (.ref b) (.ref g) (.int 0)) = kvM (.ref b) (.ref g) (.int 0) := by
      have h1 := nCL
      have h2 := nCS
      have h3 := nLS
      simp [mergeK, kvM, putK, h1, h2, h3]
    rw [em]
    have gd : g ≠ d := fun x => by rw [x, hd2] at ng; cases ng
    have bg : b ≠ g := ne_of_none hb2 ng
    refine q _ d g b (fun a o ha => ?_) nd0 (Same.free sm2 ng) nb0 ⟨cs, cs.map fun n => if 10 ^ 18 ≤ n then n else 0, 0, upd_same, ?_, ?_, bg, List.length_map .., l1, l2, Nat.le_refl _⟩
    · rw [upd_ne (ne_of_none ha nd0)]
      exact s3 _ _ (sm2 _ _ ha)
    · rw [upd_ne nbd]
      exact s3 _ _ hb2
    · rw [upd_ne gd]
      exact e
  · generalize upd H p (.lst []) = H0 at s0
    refine ⟨(by decide : 1 ≤ sizeLine), fun b nb => ?_⟩
    have hb1 : (upd H0 b (.lst ([0].map V.int))) b = some (.lst ([0].map V.int)) := upd_same
    have sm1 : Same H (upd H0 b (.lst ([0].map V.int))) := s0.trans (same_upd nb)
    have nb0 : H b = none := Same.free s0 nb
    show tSeq _ _ _ _ (upd H0 b (.lst ([0].map V.int)))
    generalize upd H0 b (.lst ([0].map V.int)) = H1 at hb1 sm1
    have l1 : 1 ≤ [(0 : Int)].length := by decide
    have l2 : [(0 : Int)].length ≤ 1000 := by decide
    generalize [(0 : Int)] = cs at hb1 l1 l2
    intro d nd
    have sd : Same H1 (upd H1 d (.dK [])) := same_upd nd
    have hb2 := sd _ _ hb1
    have sm2 := sm1.trans sd
    have hd2 : (upd H1 d (.dK [])) d = some (.dK []) := upd_same
    have nd0 : H d = none := Same.free sm1 nd
    have nbd : b ≠ d := ne_of_none hb1 nd
    generalize upd H1 d (.dK []) = H2 at sd hb2 sm2 hd2
    refine ⟨.ref b, rfl, .ref b, rfl, b, rfl, ⟨_, .inl (.inl hb2)⟩, fun g ng => ?_⟩
    refine lc_std (walk_list (K := K) (a := b) (xs := cs.map V.int)) cs (fun n => some (.int (if 10 ^ 18 ≤ n then n else 0))) (by rw [List.length_map]) (small1000 (by rw [List.length_map]; omega)) ng (fun H3 s3 => .inl (.inl (s3 _ _ hb2))) (fun i x H3 H4 n R hn s3 y hR => ?_) (fun H3 s3 e => ?_)
    · obtain ⟨rfl, gg⟩ := y
      obtain rfl := map_at hn gg
      refine ⟨rfl, .int n, rfl, 10, 18, rfl, rfl, ⟨by decide, by decide, by decide⟩, n, 10 ^ 18, rfl, rfl, _, rfl, ite2 (fun c => ?_) (fun c => ?_)⟩
      · have c' : (10 : Int) ^ 18 ≤ n := of_decide_eq_true c
        have z2 := hR _ (Same.refl _)
        rw [if_pos c'] at z2
        exact ⟨.int n, rfl, z2⟩
      · have c' : ¬ (10 : Int) ^ 18 ≤ n := fun x => c (decide_eq_true x)
        have z2 := hR _ (Same.refl _)
        rw [if_neg c'] at z2
        exact z2
    rw [filterMap_some] at e
    have e2 : cs.map (fun n => V.int (if 10 ^ 18 ≤ n then n else 0)) = (cs.map fun n => if 10 ^ 18 ≤ n then n else 0).map V.int := by rw [List.map_map]; rfl
    rw [e2] at e
    refine ⟨s3 _ _ hd2, kvM (.ref b) (.ref g) (.int 0), rfl, (by decide : 3 ≤ 15), ?_⟩
    have em : mergeK [] (kvM (.ref b) (.ref g) (.int 0)) = kvM (.ref b) (.ref g) (.int 0) := by
      have h1 := nCL
      have h2 := nCS
      have h3 := nLS
      simp [mergeK, kvM, putK, h1, h2, h3]
    rw [em]
    have gd : g ≠ d := fun x => by rw [x, hd2] at ng; cases ng
    have bg : b ≠ g := ne_of_none hb2 ng
    refine q _ d g b (fun a o ha => ?_) nd0 (Same.free sm2 ng) nb0 ⟨cs, cs.map fun n => if 10 ^ 18 ≤ n then n else 0, 0, upd_same, ?_, ?_, bg, List.length_map .., l1, l2, Nat.le_refl _⟩
    · rw [upd_ne (ne_of_none ha nd0)]
      exact s3 _ _ (sm2 _ _ ha)
    · rw [upd_ne nbd]
      exact s3 _ _ hb2
    · rw [upd_ne gd]
      exact e
/-! ### the draws over data -/
/-- the state of the draws: at most n drawn -/
def GD : GenP where
  D := Draw
  stab := fun {H H' d g c n} ⟨cells, greats, spot, h1, h2, h3, r⟩ e1 e2 e3 => ⟨cells, greats, spot, e1.trans h1, e3.trans h2, e2.trans h3, r⟩
  dd := fun {H d g c n} ⟨cells, greats, spot, h1, h2, h3, r⟩ => ⟨by rw [h1]; exact nofun, by rw [h3]; exact nofun, by rw [h2]; exact nofun, fun e => by rw [e, h3] at h1; cases h1⟩
  nt := fun {H d g c n xs} ⟨cells, greats, spot, h1, h2, h3, r⟩ => ⟨by rw [h1]; exact nofun, by rw [h3]; exact nofun⟩
  nx := fun {H d g c n o} ⟨cells, greats, spot, h1, h2, h3, r⟩ e => by
    rcases e with e | e
    · rw [h1] at e; cases e; exact ⟨nofun, nofun⟩
    · rw [h3] at e; cases e; exact ⟨nofun, nofun⟩
structure W__law_draw (as : List SV) (Q : QD) : Prop where
  h : ∃ (n : Nat) (t : Int), as = [.gen n, .val (.int t)] ∧ n < 2 ^ 40 ∧ 1 ≤ t ∧ t ≤ 10 ^ 30 ∧ ∀ v, 0 ≤ v → v < t → Q (.int v) (some (n + 1))
theorem lift__law_draw (z : Z mg) (c__law_mix : Cal P w K mg base 2 "_law_mix" p__law_mix spMix) (hD : Def K mg "_law_draw" s__law_draw p__law_draw) : CalG P w K mg base 3 "_law_draw" p__law_draw (spL GD K 2 W__law_draw) := by
  refine toG (cal_law_draw z c__law_mix hD) fun vs H Q E h => ?_
  obtain ⟨F, γ, as, Qd, h1, h2, h3, _, _, h6, _, ⟨n, t, rfl, hn, t1, t2, q⟩, h8⟩ := h
  match vs, h2 with
  | [v1, v2], ⟨⟨p, hp, e1, dr, fc⟩, e2, _⟩ =>
    subst e1
    cases e2
    obtain ⟨f1, f2⟩ := h6 p hp
    refine ⟨p.1, p.2.1, p.2.2, n, t, rfl, dr, hn, t1, t2, fun H' v but dr' v1 v2 => ?_⟩
    have keep : ∀ a o, H a = some o → ¬ GA GD γ a → H' a = some o := fun a o e na => but a o e (fun x => na (.inl ⟨p, hp, .inl x⟩)) (fun x => na (.inl ⟨p, hp, .inr x⟩))
    have sub : Same F H' := fun a o e => keep a o (h1 _ _ e) fun z => by
      rcases z with ⟨p', hp', x⟩ | ⟨_, z⟩
      case inr => exact nomatch (show (_, _) ∈ ([] : List (Addr × Str)) from z)
      rw [hp] at hp'
      cases hp'
      rcases x with rfl | rfl
      · rw [f1] at e; cases e
      · rw [f2] at e; cases e
    obtain ⟨_, _, _, d1, _, d3, _⟩ := id dr'
    refine h8 (.int v) H' F (some (p.1, p.2.1, p.2.2)) (.int v) (some (n + 1)) (fun _ z => nomatch (show _ ∈ ([] : List (Addr × Str)) from z)) keep (fun a o e => ?_) (Same.refl _) sub (fun a o e => .inl e) (.int v) ⟨p, (p.1, p.2.1, p.2.2), hp, rfl, rfl, rfl, .inl rfl, dr', f1, f2⟩ (q v v1 v2)
    by_cases x1 : a = p.1
    · exact ⟨_, by rw [x1]; exact d1⟩
    · by_cases x2 : a = p.2.1
      · exact ⟨_, by rw [x2]; exact d3⟩
      · exact ⟨o, but a o e x1 x2⟩
/-- m = _law_begun(script) -/
def uBegin (i j : Nat) : US := fun Q ρ => ∃ ns, ρ[i]? = some (some (.val (.scr ns))) ∧ ns.length ≤ 63 ∧ gN ρ = none ∧ Q.nx (ρ.set j (some (.gen 0)))
theorem gN_none : ∀ {ρ : Rho}, gN ρ = none → ∀ (i n : Nat), ρ[i]? ≠ some (some (.gen n))
  | [], _, i, n => by simp
  | none :: r, h, i, n => by
    cases i with
    | zero => exact fun e => by cases e
    | succ i => exact gN_none (ρ := r) h i n
  | some (.val d) :: r, h, i, n => by
    cases i with
    | zero => exact fun e => by cases e
    | succ i => exact gN_none (ρ := r) h i n
  | some (.own d) :: r, h, i, n => by
    cases i with
    | zero => exact fun e => by cases e
    | succ i => exact gN_none (ρ := r) h i n
  | some (.gen _) :: r, h, i, n => by cases h
theorem ls_beginT (T : List (Addr × Str)) {B : Hp × Hp × GAt} (hB : B.2.2 = none) {i j : Nat} : LS (GD.tb T) K B (tAsg (tCall (spBegun K) [] E0 (tCons (tVar i) tNil)) (gName j)) (uBegin i j) := by
  intro H0 F0 γ0 fi γ σ H F ρ E Q r ⟨ns, e, hl, hg, z⟩ n _ _ _
  have g0 : γ0 = none := (FinerC.g (GP := GD.tb T) (K := K) (B := B) H0 F0).trans hB
  obtain ⟨v, e1, e2⟩ := r.val i _ e
  cases e2 with
  | @scr a _ hs =>
    refine ⟨.ref a, e1, a, ns, rfl, r.sub.seq hs, hl, fun H' d g c s nd ng nc dr => ?_⟩
    have r1 := r.same s
    obtain ⟨cells, greats, spot, h1, h2, h3, ncg, h4⟩ := id dr
    have ncd : c ≠ d := fun x => by rw [x, h1] at h2; cases h2
    obtain ⟨c1, c2, c3, c4⟩ := r.newAt nc
    obtain ⟨d1, d2, d3, d4⟩ := r.newAt nd
    obtain ⟨g1, g2, g3, g4⟩ := r.newAt ng
    have sc : Same F (upd F c (.lst (cells.map V.int))) := same_upd c1
    have own4 : ∀ {b l : _}, OwnAt (σ.set j (some (.ref d))) (ρ.set j (some (.gen 0))) b l → OwnAt σ ρ b l := fun {b l} ⟨⟨e, he⟩, h⟩ => by
      by_cases x : l = j
      · subst x; cases (set_at he).1
      · rw [set_none x] at he h; exact ⟨⟨e, he⟩, h⟩
    refine n _ _ (upd F c (.lst (cells.map V.int))) (some (d, g, c)) _ ?_ z
    have nc' : ∀ {b : Addr}, b ≠ c → upd F c (.lst (cells.map V.int)) b = F b := fun h => upd_ne h
    constructor
    · exact r1.f0.trans sc
    · intro b o x
      by_cases y : b = c
      · subst y; rw [upd_same] at x; cases x; exact h2
      · rw [nc' y] at x; exact r1.sub _ _ x
    · exact r1.keep
    · intro b o x
      by_cases y : b = c
      · subst y; exact .inr (.inl c2)
      · rw [nc' y] at x; exact r1.fnew _ _ x
    · exact r1.tr
    · rw [List.length_set, List.length_set]; exact r.len
    · intro l d' x
      by_cases y : l = j
      · subst y; cases (set_at x).1
      · rw [set_none y] at x ⊢
        obtain ⟨w, w1, w2⟩ := r.val l d' x
        exact ⟨w, w1, w2.same sc⟩
    · intro l d' x
      by_cases y : l = j
      · subst y; cases (set_at x).1
      · rw [set_none y] at x
        obtain ⟨b, b1, b2, b3, b4, b5, b6⟩ := r.own l d' x
        obtain ⟨ob, hb⟩ := b2.there
        have off : ∀ {q : Addr}, H q = none → b ≠ q := fun hq e => by rw [e, hq] at hb; cases hb
        refine ⟨b, by rw [set_none y]; exact b1, (b2.move (Same.refl _) ((s _ _ hb).trans hb.symm)).move sc rfl, (nc' (off nc)).trans b3, b4, fun z => ?_, fun l' h => b6 l' (own4 h)⟩
        rcases z with ⟨p, hp, h⟩ | z
        case inr => exact b5 (.inr z)
        cases hp
        rcases h with h | h
        · exact off nd h
        · exact off ng h
    · intro l m x
      by_cases y : l = j
      · subst y
        obtain ⟨e3, e4⟩ := set_at x
        cases e3
        exact ⟨_, rfl, List.getElem?_set_self (by rw [r.len]; exact e4), dr, by show upd F c _ c ≠ none; rw [upd_same]; exact nofun⟩
      · rw [set_none y] at x
        exact absurd x (gN_none hg l m)
    · intro l l' m m' x y
      have at_ : ∀ {l m : Nat}, (ρ.set j (some (.gen 0)))[l]? = some (some (.gen m)) → l = j := fun {l m} h => by
        by_cases q : l = j
        · exact q
        · rw [set_none q] at h; exact absurd h (gN_none hg l m)
      rw [at_ x, at_ y]
    · intro p hp
      rw [g0] at hp; cases hp
    · intro _ p hp
      cases hp
      exact ⟨d2, g2⟩
    · intro p hp
      rw [g0] at hp; cases hp
    · intro p hp
      cases hp
      exact ⟨_, _, h1, h3, fun xs => ⟨nofun, nofun⟩⟩
    · intro p hp
      cases hp
      exact ⟨(nc' (fun e => ncd e.symm)).trans d1, (nc' (fun e => ncg e.symm)).trans g1⟩
    · exact r1.tabs
    · intro b z
      have y : b ≠ c := fun y => c3 (.inr (y ▸ z))
      obtain ⟨z1, z2⟩ := r1.tin b z
      exact ⟨(nc' y).trans z1, z2⟩
    · intro p hp
      cases hp
      exact ⟨fun z => d3 (.inr z), fun z => g3 (.inr z)⟩
theorem ls_begin {B : Hp × Hp × GAt} (hB : B.2.2 = none) {i j : Nat} : LS GD K B (tAsg (tCall (spBegun K) [] E0 (tCons (tVar i) tNil)) (gName j)) (uBegin i j) := ls_beginT [] hB
end
end LK

namespace LK
open PySem PySem.Spec PyProof.Rows L2 CD DL


section
variable {P : Program} {w : World} {K : PySem.W.Frag} {mg : Str → Option Value} {base : Heap}
def u__law_like : US := (uRet (uOp pEq (uCB pRepr (uCons (uVar 0) uNil)) (uCB pRepr (uCons (uVar 1) uNil))))
structure W__law_like (as : List SV) (Q : QD) : Prop where
  h : Wof 2 u__law_like as Q
theorem lift__law_like (z : Z mg) (hD : Def K mg "_law_like" s__law_like p__law_like) : CalG P w K mg base 1 "_law_like" p__law_like (spL GD K 2 W__law_like) := by
  refine CalG.impD (hD.calD sc__law_like u__law_like fun f cdv A outer s H E hgd hr => ?_) fun as Q h => h.h
  have hu := hu_of hr
  refine ⟨_, (pss_one (ps_ret (pe_cmpR op_eq (pe_callB (call_reprD hgd hr.units) (by rfl) z.«repr» (by decide +kernel) (pa_cons (pv 0) pa_nil)) (pe_callB (call_reprD hgd hr.units) (by rfl) z.«repr» (by decide +kernel) (pa_cons (pv 1) pa_nil)) (nomark _)))), ?_⟩
  intro B
  exact (ls_ret (le_op lr_eq (le_cb lb_repr (la_cons (le_var 0) la_nil)) (le_cb lb_repr (la_cons (le_var 1) la_nil))))
abbrev i__law_line_1 : US := (uPar 1 2 (uLst (uCons (uC (.int 1)) (uCons (uC (.int 2)) (uCons (uC (.int 3)) (uCons (uC (.int 4)) (uCons (uC (.int 5)) (uCons (uC (.int 6)) uNil))))))) (uLst uNil))
abbrev i__law_line_2 : US := (uSet 4 (uCall 2 W__law_draw (uCons (uVar 0) (uCons (uCB pLen (uCons (uVar 1) uNil)) uNil))))
abbrev i__law_line_3 : US := (uDrop (uAppend 2 (uOp pIxL (uVar 1) (uVar 4))))
abbrev i__law_line_4 : US := (uSet 1 (uOp pCat (uSl pSlL (uVar 1) uNoPart (uPart (uVar 4))) (uSl pSlL (uVar 1) (uPart (uOp (pI0 fun i j => D.int (i + j)) (uVar 4) (uC (.int 1)))) uNoPart)))
abbrev i__law_line_5 : US := (uFor (uiRng1 (uCons (uOp (pI0 fun i j => D.int (i + j)) (uC (.int 1)) (uCall 2 W__law_draw (uCons (uVar 0) (uCons (uC (.int 4)) uNil)))) uNil)) (ugName 3) (uSeq i__law_line_2
    (uSeq i__law_line_3
    i__law_line_4)))
abbrev i__law_line_6 : US := (uSetL 2 (uCall 2 W__law_draw (uCons (uVar 0) (uCons (uCB pLen (uCons (uVar 2) uNil)) uNil))) (uC (.int 1)))
abbrev i__law_line_7 : US := (uIfS (uAnd (uTest (uOp (pIn true) (uC (.int 1)) (uVar 2))) (uTest (uOp (pI0 fun i j => D.bl (decide (j < i))) (uCall 2 W__law_draw (uCons (uVar 0) (uCons (uC (.int 4)) uNil))) (uC (.int 0))))) i__law_line_6 uNext)
abbrev i__law_line_8 : US := (uRet (uCB pTupOf (uCons (uVar 2) uNil)))
def u__law_line : US := (uSeq i__law_line_1
    (uSeq i__law_line_5
    (uSeq i__law_line_7
    i__law_line_8)))
structure W__law_line (as : List SV) (Q : QD) : Prop where
  h : Wof 5 u__law_line as Q
theorem lift__law_line (z : Z mg) (c__law_draw : CalG P w K mg base 3 "_law_draw" p__law_draw (spL GD K 2 W__law_draw)) (hD : Def K mg "_law_line" s__law_line p__law_line) : CalG P w K mg base 4 "_law_line" p__law_line (spL GD K 1 W__law_line) := by
  refine CalG.impD (hD.calD sc__law_line u__law_line fun f cdv A outer s H E hgd hr => ?_) fun as Q h => h.h
  have hu := hu_of hr
  refine ⟨_, (pss_cons (ps_par (i := 1) (j := 2) rfl sc__law_line.nd rfl rfl (by decide) rfl rfl (pa_cons (pe_lst (pa_cons pe_int (pa_cons pe_int (pa_cons pe_int (pa_cons pe_int (pa_cons pe_int (pa_cons pe_int pa_nil))))))) (pa_cons (pe_lst pa_nil) pa_nil)) (by rfl))
    (pss_cons (ps_for PassesOwn.never rfl (pi_range1 (by rfl) z.«range» (pa_cons (pe_op op_add pe_int (pe_calG c__law_draw hgd (hr.mono (by decide)) (by rfl) (pa_cons (pv 0) (pa_cons pe_int pa_nil)))) pa_nil)) (pg_name (i := 3) sc__law_line.nd rfl (Or.inl rfl)) (pss_cons (ps_set (i := 4) sc__law_line.nd rfl (Or.inl rfl) (pe_calG c__law_draw hgd (hr.mono (by decide)) (by rfl) (pa_cons (pv 0) (pa_cons (pe_callB (call_len_seq) (by rfl) z.«len» (by decide +kernel) (pa_cons (pv 1) pa_nil)) pa_nil))))
    (pss_cons (ps_expr (pe_bm PySem.F.plainAttrs_list PySem.F.slot_list_append PySem.F.type_list_append mt_append (pv 2) (pa_cons (pe_ix ix_list (pv 1) (pv 4) (fun _ _ => rfl)) pa_nil)))
    (pss_one (ps_set (i := 1) sc__law_line.nd rfl (Or.inl rfl) (pe_op op_cat (pe_slice sl_list (pv 1) po_none (po_some (pv 4))) (pe_slice sl_list (pv 1) (po_some (pe_op op_add (pv 4) pe_int)) po_none)))))))
    (pss_cons (ps_if (PW.pt (pw_and (pt_cmpR op_notIn_seq pe_int (pv 2) (by rfl)) (pw_and1 (pt_cmpR op_gt (pe_calG c__law_draw hgd (hr.mono (by decide)) (by rfl) (pa_cons (pv 0) (pa_cons pe_int pa_nil))) pe_int (nomark _))))) (pss_one (ps_asg pe_int (pg_sub (pv 2) (pe_calG c__law_draw hgd (hr.mono (by decide)) (by rfl) (pa_cons (pv 0) (pa_cons (pe_callB (call_len_seq) (by rfl) z.«len» (by decide +kernel) (pa_cons (pv 2) pa_nil)) pa_nil))) set_list))) pss_nil)
    (pss_one (ps_ret (pe_callTy (call_tuple_of) (by rfl) z.«tuple» (by decide +kernel) (pa_cons (pv 2) pa_nil))))))), ?_⟩
  intro B
  exact (ls_seq (ls_par (le_lst (la_cons (le_int _) (la_cons (le_int _) (la_cons (le_int _) (la_cons (le_int _) (la_cons (le_int _) (la_cons (le_int _) la_nil))))))) (le_lst la_nil))
    (ls_seq (ls_for (li_rng1 (la_cons (le_op (lr_I0 (g' := fun i j => D.int (i + j)) fun _ _ => rfl) (le_int _) (le_call (la_cons (le_var 0) (la_cons (le_int _) la_nil)))) la_nil)) (lg_name 3) (ls_seq (ls_set (le_call (la_cons (le_var 0) (la_cons (le_cb lb_len (la_cons (le_var 1) la_nil)) la_nil))))
    (ls_seq (ls_drop (le_append (le_op lr_ixL (le_var 1) (le_var 4))))
    (ls_set (le_op lr_cat (le_sl lsl_L (le_var 1) lo_none (lo_some (le_var 4))) (le_sl lsl_L (le_var 1) (lo_some (le_op (lr_I0 (g' := fun i j => D.int (i + j)) fun _ _ => rfl) (le_var 4) (le_int _))) lo_none))))))
    (ls_seq (ls_if (lt_and (lt_test (le_op (lr_in (neg := true)) (le_int _) (le_var 2))) (lt_test (le_op (lr_I0 (g' := fun i j => D.bl (decide (j < i))) fun _ _ => rfl) (le_call (la_cons (le_var 0) (la_cons (le_int _) la_nil))) (le_int _)))) (ls_setL (le_call (la_cons (le_var 0) (la_cons (le_cb lb_len (la_cons (le_var 2) la_nil)) la_nil))) (le_int _)) ls_next)
    (ls_ret (le_cb lb_tupOf (la_cons (le_var 2) la_nil))))))
abbrev i__law_next_1 : US := (uDrop (uAppend 2 (uOp (pI0 fun i j => D.int (i + j)) (uOp (pI0 fun i j => D.int (i + j)) (uOp pIxL (uVar 1) (uOp (pI0 fun i j => D.int (i - j)) (uCB pLen (uCons (uVar 1) uNil)) (uOp pIxT (uVar 0) (uVar 3)))) (uVar 3)) (uC (.int 1)))))
abbrev i__law_next_2 : US := (uIfS (uAnd (uTest (uOp (pI0 fun i j => D.bl (decide (i ≤ j))) (uOp pIxT (uVar 0) (uVar 3)) (uCB pLen (uCons (uVar 1) uNil)))) (uTest (uOp pNotN (uOp pIxL (uVar 1) (uOp (pI0 fun i j => D.int (i - j)) (uCB pLen (uCons (uVar 1) uNil)) (uOp pIxT (uVar 0) (uVar 3)))) (uC .non)))) i__law_next_1 uNext)
abbrev i__law_next_3 : US := (uFor (uiRng1 (uCons (uCB pLen (uCons (uVar 0) uNil)) uNil)) (ugName 3) i__law_next_2)
abbrev i__law_next_4 : US := (uRet (uIfE (uTest (uOp pNeD (uVar 2) (uLst uNil))) (uCB pMin (uCons (uVar 2) uNil)) (uC .non)))
def u__law_next : US := (uSeq (uSet 2 (uLst uNil))
    (uSeq i__law_next_3
    i__law_next_4))
structure W__law_next (as : List SV) (Q : QD) : Prop where
  h : Wof 4 u__law_next as Q
theorem lift__law_next (z : Z mg) (hD : Def K mg "_law_next" s__law_next p__law_next) : CalG P w K mg base 1 "_law_next" p__law_next (spL GD K 2 W__law_next) := by
  refine CalG.impD (hD.calD sc__law_next u__law_next fun f cdv A outer s H E hgd hr => ?_) fun as Q h => h.h
  have hu := hu_of hr
  refine ⟨_, (pss_cons (ps_set (i := 2) sc__law_next.nd rfl (Or.inl rfl) (pe_lst pa_nil))
    (pss_cons (ps_for PassesOwn.never rfl (pi_range1 (by rfl) z.«range» (pa_cons (pe_callB (call_len_seq) (by rfl) z.«len» (by decide +kernel) (pa_cons (pv 0) pa_nil)) pa_nil)) (pg_name (i := 3) sc__law_next.nd rfl (Or.inl rfl)) (pss_one (ps_if (PW.pt (pw_and (pt_cmpR op_le (pe_ix ix_tup (pv 0) (pv 3) (fun _ _ => rfl)) (pe_callB (call_len_seq) (by rfl) z.«len» (by decide +kernel) (pa_cons (pv 1) pa_nil)) (nomark _)) (pw_and1 (pt_cmpR op_notN (pe_ix ix_list (pv 1) (pe_op op_sub (pe_callB (call_len_seq) (by rfl) z.«len» (by decide +kernel) (pa_cons (pv 1) pa_nil)) (pe_ix ix_tup (pv 0) (pv 3) (fun _ _ => rfl))) (fun _ _ => rfl)) pe_non (nomark _))))) (pss_one (ps_expr (pe_bm PySem.F.plainAttrs_list PySem.F.slot_list_append PySem.F.type_list_append mt_append (pv 2) (pa_cons (pe_op op_add (pe_op op_add (pe_ix ix_list (pv 1) (pe_op op_sub (pe_callB (call_len_seq) (by rfl) z.«len» (by decide +kernel) (pa_cons (pv 1) pa_nil)) (pe_ix ix_tup (pv 0) (pv 3) (fun _ _ => rfl))) (fun _ _ => rfl)) (pv 3)) pe_int) pa_nil)))) pss_nil)))
    (pss_one (ps_ret (pe_ifExp (pt_cmpR (op_neD hr.units) (pv 2) (pe_lst pa_nil) (nomark _)) (pe_callB (cr_min rfl) (by rfl) z.«min» (by decide +kernel) (pa_cons (pv 2) pa_nil)) pe_non))))), ?_⟩
  intro B
  exact (ls_seq (ls_set (le_lst la_nil))
    (ls_seq (ls_for (li_rng1 (la_cons (le_cb lb_len (la_cons (le_var 0) la_nil)) la_nil)) (lg_name 3) (ls_if (lt_and (lt_test (le_op (lr_I0 (g' := fun i j => D.bl (decide (i ≤ j))) fun _ _ => rfl) (le_op lr_ixT (le_var 0) (le_var 3)) (le_cb lb_len (la_cons (le_var 1) la_nil)))) (lt_test (le_op lr_notN (le_op lr_ixL (le_var 1) (le_op (lr_I0 (g' := fun i j => D.int (i - j)) fun _ _ => rfl) (le_cb lb_len (la_cons (le_var 1) la_nil)) (le_op lr_ixT (le_var 0) (le_var 3)))) le_non))) (ls_drop (le_append (le_op (lr_I0 (g' := fun i j => D.int (i + j)) fun _ _ => rfl) (le_op (lr_I0 (g' := fun i j => D.int (i + j)) fun _ _ => rfl) (le_op lr_ixL (le_var 1) (le_op (lr_I0 (g' := fun i j => D.int (i - j)) fun _ _ => rfl) (le_cb lb_len (la_cons (le_var 1) la_nil)) (le_op lr_ixT (le_var 0) (le_var 3)))) (le_var 3)) (le_int _)))) ls_next))
    (ls_ret (le_if (lt_test (le_op lr_neD (le_var 2) (le_lst la_nil))) (le_cb lb_min (la_cons (le_var 2) la_nil)) le_non))))
abbrev i__law_walk_1 : US := (uSet 3 (uLst (uCons (uC (.int 0)) uNil)))
abbrev i__law_walk_2 : US := (uDrop (uAppend 3 (uIfE (uTest (uOp (pIn false) (uVar 4) (uVar 1))) (uC .non) (uCall 2 W__law_next (uCons (uVar 0) (uCons (uVar 3) uNil))))))
abbrev i__law_walk_3 : US := (uFor (uiRng2 (uCons (uC (.int 1)) (uCons (uVar 2) uNil))) (ugName 4) i__law_walk_2)
def u__law_walk : US := (uSeq i__law_walk_1
    (uSeq i__law_walk_3
    (uRet (uVar 3))))
structure W__law_walk (as : List SV) (Q : QD) : Prop where
  h : Wof 5 u__law_walk as Q
theorem lift__law_walk (z : Z mg) (c__law_next : CalG P w K mg base 1 "_law_next" p__law_next (spL GD K 2 W__law_next)) (hD : Def K mg "_law_walk" s__law_walk p__law_walk) : CalG P w K mg base 2 "_law_walk" p__law_walk (spL GD K 3 W__law_walk) := by
  refine CalG.impD (hD.calD sc__law_walk u__law_walk fun f cdv A outer s H E hgd hr => ?_) fun as Q h => h.h
  have hu := hu_of hr
  refine ⟨_, (pss_cons (ps_set (i := 3) sc__law_walk.nd rfl (Or.inl rfl) (pe_lst (pa_cons pe_int pa_nil)))
    (pss_cons (ps_for PassesOwn.never rfl (pi_range2 (by rfl) z.«range» (pa_cons pe_int (pa_cons (pv 2) pa_nil))) (pg_name (i := 4) sc__law_walk.nd rfl (Or.inl rfl)) (pss_one (ps_expr (pe_bm PySem.F.plainAttrs_list PySem.F.slot_list_append PySem.F.type_list_append mt_append (pv 3) (pa_cons (pe_ifExp (pt_cmpR op_in_seq (pv 4) (pv 1) (by rfl)) pe_non (pe_calG c__law_next hgd (hr.mono (by decide)) (by rfl) (pa_cons (pv 0) (pa_cons (pv 3) pa_nil)))) pa_nil)))))
    (pss_one (ps_ret (pv 3))))), ?_⟩
  intro B
  exact (ls_seq (ls_set (le_lst (la_cons (le_int _) la_nil)))
    (ls_seq (ls_for (li_rng2 (la_cons (le_int _) (la_cons (le_var 2) la_nil))) (lg_name 4) (ls_drop (le_append (le_if (lt_test (le_op (lr_in (neg := false)) (le_var 4) (le_var 1))) le_non (le_call (la_cons (le_var 0) (la_cons (le_var 3) la_nil)))))))
    (ls_ret (le_var 3))))
abbrev i__law_far_1 : US := (uSet 2 (uOp (pI CMul fun i j => D.int (i * j)) (uVar 2) (uC (.int 10))))
abbrev i__law_far_2 : US := (uFor (uiRng1 (uCons (uCall 2 W__law_draw (uCons (uVar 0) (uCons (uC (.int 28)) uNil))) uNil)) (ugName 3) i__law_far_1)
abbrev i__law_far_3 : US := (uRet (uOp (pI0 fun i j => D.int (i + j)) (uOp (pI0 fun i j => D.int (i + j)) (uVar 2) (uVar 1)) (uCall 2 W__law_draw (uCons (uVar 0) (uCons (uC (.int 1000000)) uNil)))))
def u__law_far : US := (uSeq (uSet 2 (uC (.int 100)))
    (uSeq i__law_far_2
    i__law_far_3))
structure W__law_far (as : List SV) (Q : QD) : Prop where
  h : Wof 4 u__law_far as Q
theorem lift__law_far (z : Z mg) (c__law_draw : CalG P w K mg base 3 "_law_draw" p__law_draw (spL GD K 2 W__law_draw)) (hD : Def K mg "_law_far" s__law_far p__law_far) : CalG P w K mg base 4 "_law_far" p__law_far (spL GD K 2 W__law_far) := by
  refine CalG.impD (hD.calD sc__law_far u__law_far fun f cdv A outer s H E hgd hr => ?_) fun as Q h => h.h
  have hu := hu_of hr
  refine ⟨_, (pss_cons (ps_set (i := 2) sc__law_far.nd rfl (Or.inl rfl) pe_int)
    (pss_cons (ps_for PassesOwn.never rfl (pi_range1 (by rfl) z.«range» (pa_cons (pe_calG c__law_draw hgd (hr.mono (by decide)) (by rfl) (pa_cons (pv 0) (pa_cons pe_int pa_nil))) pa_nil)) (pg_name (i := 3) sc__law_far.nd rfl (Or.inl rfl)) (pss_one (ps_set (i := 2) sc__law_far.nd rfl (Or.inl rfl) (pe_op op_mul (pv 2) pe_int))))
    (pss_one (ps_ret (pe_op op_add (pe_op op_add (pv 2) (pv 1)) (pe_calG c__law_draw hgd (hr.mono (by decide)) (by rfl) (pa_cons (pv 0) (pa_cons pe_int pa_nil)))))))), ?_⟩
  intro B
  exact (ls_seq (ls_set (le_int _))
    (ls_seq (ls_for (li_rng1 (la_cons (le_call (la_cons (le_var 0) (la_cons (le_int _) la_nil))) la_nil)) (lg_name 3) (ls_set (le_op (lr_I (C := CMul) (g' := fun i j => D.int (i * j)) fun _ _ => rfl) (le_var 2) (le_int _))))
    (ls_ret (le_op (lr_I0 (g' := fun i j => D.int (i + j)) fun _ _ => rfl) (le_op (lr_I0 (g' := fun i j => D.int (i + j)) fun _ _ => rfl) (le_var 2) (le_var 1)) (le_call (la_cons (le_var 0) (la_cons (le_int _) la_nil)))))))
abbrev i__law_near_1 : US := (uPar 2 3 (uCall 2 W__law_draw (uCons (uVar 0) (uCons (uC (.int 4)) uNil))) (uCall 2 W__law_draw (uCons (uVar 0) (uCons (uCB pLen (uCons (uVar 1) uNil)) uNil))))
abbrev i__law_near_2 : US := (uRet (uOpT (fun x y Q => match x, y with | .tup a, .tup b => a.length + b.length ≤ sizeLine ∧ Q (.tup (a ++ b)) | _, _ => False) (uSlT (uVar 1) (uPart (uVar 3)) uNoPart) (uSlT (uVar 1) uNoPart (uPart (uVar 3)))))
abbrev i__law_near_3 : US := (uIfS (uTest (uOp pEq (uVar 2) (uC (.int 0)))) i__law_near_2 uNext)
abbrev i__law_near_4 : US := (uSet 4 (uOp (pI0 fun i j => D.int (i + j)) (uC (.int 1)) (uCall 2 W__law_draw (uCons (uVar 0) (uCons (uC (.int 6)) uNil)))))
abbrev i__law_near_5 : US := (uRet (uOpT (fun x y Q => match x, y with | .tup a, .tup b => a.length + b.length ≤ sizeLine ∧ Q (.tup (a ++ b)) | _, _ => False) (uVar 1) (uTup (uCons (uVar 4) uNil))))
abbrev i__law_near_6 : US := (uIfS (uAnd (uTest (uOp (pI0 fun i j => D.bl (decide (i < j))) (uVar 2) (uC (.int 3)))) (uAnd (uTest (uOp (pI0 fun i j => D.bl (decide (i < j))) (uCB pLen (uCons (uVar 1) uNil)) (uC (.int 4)))) (uTest (uOp (pIn true) (uVar 4) (uVar 1))))) i__law_near_5 uNext)
abbrev i__law_near_7 : US := (uRet (uIfE (uTest (uOp (pI0 fun i j => D.bl (decide (j < i))) (uCB pLen (uCons (uVar 1) uNil)) (uC (.int 1)))) (uOpT (fun x y Q => match x, y with | .tup a, .tup b => a.length + b.length ≤ sizeLine ∧ Q (.tup (a ++ b)) | _, _ => False) (uSlT (uVar 1) uNoPart (uPart (uVar 3))) (uSlT (uVar 1) (uPart (uOp (pI0 fun i j => D.int (i + j)) (uVar 3) (uC (.int 1)))) uNoPart)) (uCall 1 W__law_line (uCons (uVar 0) uNil))))
def u__law_near : US := (uSeq i__law_near_1
    (uSeq i__law_near_3
    (uSeq i__law_near_4
    (uSeq i__law_near_6
    i__law_near_7))))
structure W__law_near (as : List SV) (Q : QD) : Prop where
  h : Wof 5 u__law_near as Q
theorem lift__law_near (z : Z mg) (c__law_draw : CalG P w K mg base 3 "_law_draw" p__law_draw (spL GD K 2 W__law_draw)) (c__law_line : CalG P w K mg base 4 "_law_line" p__law_line (spL GD K 1 W__law_line)) (hD : Def K mg "_law_near" s__law_near p__law_near) : CalG P w K mg base 5 "_law_near" p__law_near (spL GD K 2 W__law_near) := by
  refine CalG.impD (hD.calD sc__law_near u__law_near fun f cdv A outer s H E hgd hr => ?_) fun as Q h => h.h
  have hu := hu_of hr
  refine ⟨_, (pss_cons (ps_par (i := 2) (j := 3) rfl sc__law_near.nd rfl rfl (by decide) rfl rfl (pa_cons (pe_calG c__law_draw hgd (hr.mono (by decide)) (by rfl) (pa_cons (pv 0) (pa_cons pe_int pa_nil))) (pa_cons (pe_calG c__law_draw hgd (hr.mono (by decide)) (by rfl) (pa_cons (pv 0) (pa_cons (pe_callB (call_len_seq) (by rfl) z.«len» (by decide +kernel) (pa_cons (pv 1) pa_nil)) pa_nil))) pa_nil)) (by rfl))
    (pss_cons (ps_if (pt_cmpR op_eq (pv 2) pe_int (nomark _)) (pss_one (ps_ret (pe_op op_catA (pe_slice sl_tupA (pv 1) (po_some (pv 3)) po_none) (pe_slice sl_tupA (pv 1) po_none (po_some (pv 3)))))) pss_nil)
    (pss_cons (ps_set (i := 4) sc__law_near.nd rfl (Or.inl rfl) (pe_op op_add pe_int (pe_calG c__law_draw hgd (hr.mono (by decide)) (by rfl) (pa_cons (pv 0) (pa_cons pe_int pa_nil)))))
    (pss_cons (ps_if (PW.pt (pw_and (pt_cmpR op_lt (pv 2) pe_int (nomark _)) (pw_and (pt_cmpR op_lt (pe_callB (call_len_seq) (by rfl) z.«len» (by decide +kernel) (pa_cons (pv 1) pa_nil)) pe_int (nomark _)) (pw_and1 (pt_cmpR op_notIn_seq (pv 4) (pv 1) (by rfl)))))) (pss_one (ps_ret (pe_op op_catA (pv 1) (pe_tup (pa_cons (pv 4) pa_nil))))) pss_nil)
    (pss_one (ps_ret (pe_ifExp (pt_cmpR op_gt (pe_callB (call_len_seq) (by rfl) z.«len» (by decide +kernel) (pa_cons (pv 1) pa_nil)) pe_int (nomark _)) (pe_op op_catA (pe_slice sl_tupA (pv 1) po_none (po_some (pv 3))) (pe_slice sl_tupA (pv 1) (po_some (pe_op op_add (pv 3) pe_int)) po_none)) (pe_calG c__law_line hgd (hr.mono (by decide)) (by rfl) (pa_cons (pv 0) pa_nil))))))))), ?_⟩
  intro B
  exact (ls_seq (ls_par (le_call (la_cons (le_var 0) (la_cons (le_int _) la_nil))) (le_call (la_cons (le_var 0) (la_cons (le_cb lb_len (la_cons (le_var 1) la_nil)) la_nil))))
    (ls_seq (ls_if (lt_test (le_op lr_eq (le_var 2) (le_int _))) (ls_ret (le_catT (le_slT (le_var 1) (lo_some (le_var 3)) lo_none) (le_slT (le_var 1) lo_none (lo_some (le_var 3))))) ls_next)
    (ls_seq (ls_set (le_op (lr_I0 (g' := fun i j => D.int (i + j)) fun _ _ => rfl) (le_int _) (le_call (la_cons (le_var 0) (la_cons (le_int _) la_nil)))))
    (ls_seq (ls_if (lt_and (lt_test (le_op (lr_I0 (g' := fun i j => D.bl (decide (i < j))) fun _ _ => rfl) (le_var 2) (le_int _))) (lt_and (lt_test (le_op (lr_I0 (g' := fun i j => D.bl (decide (i < j))) fun _ _ => rfl) (le_cb lb_len (la_cons (le_var 1) la_nil)) (le_int _))) (lt_test (le_op (lr_in (neg := true)) (le_var 4) (le_var 1))))) (ls_ret (le_catT (le_var 1) (le_tup (la_cons (le_var 4) la_nil)))) ls_next)
    (ls_ret (le_if (lt_test (le_op (lr_I0 (g' := fun i j => D.bl (decide (j < i))) fun _ _ => rfl) (le_cb lb_len (la_cons (le_var 1) la_nil)) (le_int _))) (le_catT (le_slT (le_var 1) lo_none (lo_some (le_var 3))) (le_slT (le_var 1) (lo_some (le_op (lr_I0 (g' := fun i j => D.int (i + j)) fun _ _ => rfl) (le_var 3) (le_int _))) lo_none)) (le_call (la_cons (le_var 0) la_nil))))))))
abbrev i__law_right_1 : US := (uAsg (uTup (uCons (uCall 3 W__law_walk (uCons (uVar 1) (uCons (uTup uNil) (uCons (uC (.int 60)) uNil)))) (uCons (uCall 3 W__law_walk (uCons (uVar 2) (uCons (uTup uNil) (uCons (uC (.int 60)) uNil)))) uNil))) (ugTup 2 (ugCons (ugName 3) (ugCons (ugName 4) ugNil))))
abbrev i__law_right_2 : US := (uSet 6 (uLc (uiRng1 (uCons (uC (.int 60)) uNil)) (ugName 5) (uTest (uOp pNe (uOp pIxL (uVar 3) (uVar 5)) (uOp pIxL (uVar 4) (uVar 5)))) (uVar 5) [5]))
abbrev i__law_right_3 : US := (uSet 7 (uLst (uCons (uCall 2 W_part_line_n (uCons (uVar 1) (uCons (uVar 2) uNil))) (uCons (uCall 2 W_part_line_n (uCons (uVar 2) (uCons (uVar 1) uNil))) (uCons (uCall 2 W_part_line_n (uCons (uVar 1) (uCons (uVar 2) uNil))) uNil)))))
abbrev i__law_right_4 : US := (uRet (uCall 2 W__law_like (uCons (uVar 7) (uCons (uOp pRep (uLst (uCons (uOp pIxL (uVar 6) (uC (.int 0))) uNil)) (uC (.int 3))) uNil))))
abbrev i__law_right_5 : US := (uIfS (uTest (uOp pNeD (uVar 6) (uLst uNil))) i__law_right_4 uNext)
abbrev i__law_right_6 : US := (uSet 5 (uOp pIxL (uVar 7) (uC (.int 0))))
abbrev i__law_right_7 : US := (uRet (uAndV (uOp pEqD (uVar 7) (uOp pRep (uLst (uCons (uVar 5) uNil)) (uC (.int 3)))) (uAndV (uOp (pI0 fun i j => D.bl (decide (j ≤ i))) (uVar 5) (uC (.int 60))) (uOp pNeD (uCall 3 W_tick_of_n (uCons (uVar 1) (uCons (uTup uNil) (uCons (uVar 5) uNil)))) (uCall 3 W_tick_of_n (uCons (uVar 2) (uCons (uTup uNil) (uCons (uVar 5) uNil))))))))
abbrev i__law_right_8 : US := (uIfS (uTest (uOp pNotN (uOp pIxL (uVar 7) (uC (.int 0))) (uC .non))) (uSeq i__law_right_6
    i__law_right_7) uNext)
abbrev i__law_right_9 : US := (uSet 9 (uCall 2 W__law_far (uCons (uVar 0) (uCons (uC (.int 0)) uNil))))
abbrev i__law_right_10 : US := (uIfS (uNot (uTest (uCall 2 W__law_like (uCons (uCall 3 W_tick_of_n (uCons (uVar 1) (uCons (uTup uNil) (uCons (uVar 9) uNil)))) (uCons (uCall 3 W_tick_of_n (uCons (uVar 2) (uCons (uTup uNil) (uCons (uVar 9) uNil)))) uNil))))) (uRet (uC (.bl false))) uNext)
abbrev i__law_right_11 : US := (uFor (uiRng1 (uCons (uC (.int 4)) uNil)) (ugName 8) (uSeq i__law_right_9
    i__law_right_10))
abbrev i__law_right_12 : US := (uRet (uCall 2 W__law_like (uCons (uVar 7) (uCons (uOp pRep (uLst (uCons (uC .non) uNil)) (uC (.int 3))) uNil))))
def u__law_right : US := (uSeq i__law_right_1
    (uSeq i__law_right_2
    (uSeq i__law_right_3
    (uSeq i__law_right_5
    (uSeq i__law_right_8
    (uSeq i__law_right_11
    i__law_right_12))))))
structure W__law_right (as : List SV) (Q : QD) : Prop where
  h : Wof 10 u__law_right as Q
theorem lift__law_right (z : Z mg) (c__law_walk : CalG P w K mg base 2 "_law_walk" p__law_walk (spL GD K 3 W__law_walk)) (c_part_line_n : CalG P w K mg base 4 "part_line" p_part_line (spL GD K 2 W_part_line_n)) (c__law_like : CalG P w K mg base 1 "_law_like" p__law_like (spL GD K 2 W__law_like)) (c_tick_of_n : CalG P w K mg base 7 "tick_of" p_tick_of (spL GD K 3 W_tick_of_n)) (c__law_far : CalG P w K mg base 4 "_law_far" p__law_far (spL GD K 2 W__law_far)) (hD : Def K mg "_law_right" s__law_right p__law_right) : CalG P w K mg base 8 "_law_right" p__law_right (spL GD K 3 W__law_right) := by
  refine CalG.impD (hD.calD sc__law_right u__law_right fun f cdv A outer s H E hgd hr => ?_) fun as Q h => h.h
  have hu := hu_of hr
  refine ⟨_, (pss_cons (ps_asg (pe_tup (pa_cons (pe_calG c__law_walk hgd (hr.mono (by decide)) (by rfl) (pa_cons (pv 1) (pa_cons (pe_tup pa_nil) (pa_cons pe_int pa_nil)))) (pa_cons (pe_calG c__law_walk hgd (hr.mono (by decide)) (by rfl) (pa_cons (pv 2) (pa_cons (pe_tup pa_nil) (pa_cons pe_int pa_nil)))) pa_nil))) (pg_tup rfl (pgs_cons (pg_name (i := 3) sc__law_right.nd rfl (Or.inr rfl)) (pgs_cons (pg_name (i := 4) sc__law_right.nd rfl (Or.inr rfl)) pgs_nil))))
    (pss_cons (ps_setLc (i := 6) (own := [("who", 5)]) (g := (gName 5)) rfl sc__law_right.nd rfl rfl (sw_true rfl rfl rfl (by decide +kernel)) (pi_range1 (by rfl) z.«range» (pa_cons pe_int pa_nil)) (blkOk_by (N := n__law_right) (sc := defScope s__law_right) (by decide +kernel)) (fun _ _ _ _ _ => (pg_name (i := 5) sc__law_right.nd rfl (Or.inl rfl))) (fun _ _ _ _ _ => (pts_one (pt_cmpR op_ne (pe_ix (ix_listK (K := K) rfl) (pv 3) (pv 5) (fun _ _ => rfl)) (pe_ix (ix_listK (K := K) rfl) (pv 4) (pv 5) (fun _ _ => rfl)) (nomark _)))) (fun _ _ _ _ _ => (pv 5)))
    (pss_cons (ps_set (i := 7) sc__law_right.nd rfl (Or.inl rfl) (pe_lst (pa_cons (pe_calG c_part_line_n hgd (hr.mono (by decide)) (by rfl) (pa_cons (pv 1) (pa_cons (pv 2) pa_nil))) (pa_cons (pe_calG c_part_line_n hgd (hr.mono (by decide)) (by rfl) (pa_cons (pv 2) (pa_cons (pv 1) pa_nil))) (pa_cons (pe_calG c_part_line_n hgd (hr.mono (by decide)) (by rfl) (pa_cons (pv 1) (pa_cons (pv 2) pa_nil))) pa_nil)))))
    (pss_cons (ps_if (pt_cmpR (op_neD hr.units) (pv 6) (pe_lst pa_nil) (nomark _)) (pss_one (ps_ret (pe_calG c__law_like hgd (hr.mono (by decide)) (by rfl) (pa_cons (pv 7) (pa_cons (pe_op op_rep (pe_lst (pa_cons (pe_ix ix_list (pv 6) pe_int (fun _ _ => rfl)) pa_nil)) pe_int) pa_nil))))) pss_nil)
    (pss_cons (ps_if (pt_cmpR op_notN (pe_ix ix_list (pv 7) pe_int (fun _ _ => rfl)) pe_non (nomark _)) (pss_cons (ps_set (i := 5) sc__law_right.nd rfl (Or.inl rfl) (pe_ix ix_list (pv 7) pe_int (fun _ _ => rfl)))
    (pss_one (ps_ret (pe_and (pe_cmpR (op_eqD hr.units) (pv 7) (pe_op op_rep (pe_lst (pa_cons (pv 5) pa_nil)) pe_int) (nomark _)) (pe_and (pe_cmpR op_ge (pv 5) pe_int (nomark _)) (pe_one (pe_cmpR (op_neD hr.units) (pe_calG c_tick_of_n hgd (hr.mono (by decide)) (by rfl) (pa_cons (pv 1) (pa_cons (pe_tup pa_nil) (pa_cons (pv 5) pa_nil)))) (pe_calG c_tick_of_n hgd (hr.mono (by decide)) (by rfl) (pa_cons (pv 2) (pa_cons (pe_tup pa_nil) (pa_cons (pv 5) pa_nil)))) (nomark _)))))))) pss_nil)
    (pss_cons (ps_for PassesOwn.never rfl (pi_range1 (by rfl) z.«range» (pa_cons pe_int pa_nil)) (pg_name (i := 8) sc__law_right.nd rfl (Or.inl rfl)) (pss_cons (ps_set (i := 9) sc__law_right.nd rfl (Or.inl rfl) (pe_calG c__law_far hgd (hr.mono (by decide)) (by rfl) (pa_cons (pv 0) (pa_cons pe_int pa_nil))))
    (pss_one (ps_if (pt_not (pt_val (pe_calG c__law_like hgd (hr.mono (by decide)) (by rfl) (pa_cons (pe_calG c_tick_of_n hgd (hr.mono (by decide)) (by rfl) (pa_cons (pv 1) (pa_cons (pe_tup pa_nil) (pa_cons (pv 9) pa_nil)))) (pa_cons (pe_calG c_tick_of_n hgd (hr.mono (by decide)) (by rfl) (pa_cons (pv 2) (pa_cons (pe_tup pa_nil) (pa_cons (pv 9) pa_nil)))) pa_nil))))) (pss_one (ps_ret pe_bl)) pss_nil))))
    (pss_one (ps_ret (pe_calG c__law_like hgd (hr.mono (by decide)) (by rfl) (pa_cons (pv 7) (pa_cons (pe_op op_rep (pe_lst (pa_cons pe_non pa_nil)) pe_int) pa_nil))))))))))), ?_⟩
  intro B
  exact (ls_seq (ls_asg (le_tup (la_cons (le_call (la_cons (le_var 1) (la_cons (le_tup la_nil) (la_cons (le_int _) la_nil)))) (la_cons (le_call (la_cons (le_var 2) (la_cons (le_tup la_nil) (la_cons (le_int _) la_nil)))) la_nil))) (lg_tup (lgs_cons (lg_name 3) (lgs_cons (lg_name 4) lgs_nil))))
    (ls_seq (ls_set (le_lc (li_rng1 (la_cons (le_int _) la_nil)) (lg_name 5) (gw_name (by decide)) (lt_test (le_op lr_ne (le_op lr_ixL (le_var 3) (le_var 5)) (le_op lr_ixL (le_var 4) (le_var 5)))) (le_var 5)))
    (ls_seq (ls_set (le_lst (la_cons (le_call (la_cons (le_var 1) (la_cons (le_var 2) la_nil))) (la_cons (le_call (la_cons (le_var 2) (la_cons (le_var 1) la_nil))) (la_cons (le_call (la_cons (le_var 1) (la_cons (le_var 2) la_nil))) la_nil)))))
    (ls_seq (ls_if (lt_test (le_op lr_neD (le_var 6) (le_lst la_nil))) (ls_ret (le_call (la_cons (le_var 7) (la_cons (le_op lr_rep (le_lst (la_cons (le_op lr_ixL (le_var 6) (le_int _)) la_nil)) (le_int _)) la_nil)))) ls_next)
    (ls_seq (ls_if (lt_test (le_op lr_notN (le_op lr_ixL (le_var 7) (le_int _)) le_non)) (ls_seq (ls_set (le_op lr_ixL (le_var 7) (le_int _)))
    (ls_ret (le_and (le_op lr_eqD (le_var 7) (le_op lr_rep (le_lst (la_cons (le_var 5) la_nil)) (le_int _))) (le_and (le_op (lr_I0 (g' := fun i j => D.bl (decide (j ≤ i))) fun _ _ => rfl) (le_var 5) (le_int _)) (le_op lr_neD (le_call (la_cons (le_var 1) (la_cons (le_tup la_nil) (la_cons (le_var 5) la_nil)))) (le_call (la_cons (le_var 2) (la_cons (le_tup la_nil) (la_cons (le_var 5) la_nil))))))))) ls_next)
    (ls_seq (ls_for (li_rng1 (la_cons (le_int _) la_nil)) (lg_name 8) (ls_seq (ls_set (le_call (la_cons (le_var 0) (la_cons (le_int _) la_nil))))
    (ls_if (lt_not (lt_B (le_call (la_cons (le_call (la_cons (le_var 1) (la_cons (le_tup la_nil) (la_cons (le_var 9) la_nil)))) (la_cons (le_call (la_cons (le_var 2) (la_cons (le_tup la_nil) (la_cons (le_var 9) la_nil)))) la_nil))))) (ls_ret (le_bl _)) ls_next)))
    (ls_ret (le_call (la_cons (le_var 7) (la_cons (le_op lr_rep (le_lst (la_cons le_non la_nil)) (le_int _)) la_nil))))))))))
abbrev i__law_growth_by_1 : US := (uPar 2 3 (uOp (pI CDivN fun i j => D.int (i.fdiv j)) (uOp pIxT (uVar 0) (uC (.int 0))) (uVar 1)) (uOp (pI CDivN fun i j => D.int (i.fdiv j)) (uOp pIxT (uVar 0) (uC (.int 1))) (uVar 1)))
abbrev i__law_growth_by_2 : US := (uRet (uIfE (uAnd (uTest (uOp pEq (uOp (pI (fun _ j => j ≠ 0) fun i j => D.int (i.fmod j)) (uCB pInt1 (uCons (uVar 2) uNil)) (uC (.int 2))) (uC (.int 0)))) (uTest (uOp pEq (uOp (pI (fun _ j => j ≠ 0) fun i j => D.int (i.fmod j)) (uCB pInt1 (uCons (uVar 3) uNil)) (uC (.int 2))) (uC (.int 0))))) (uTup (uCons (uOp (pI CDivN fun i j => D.int (i.fdiv j)) (uVar 2) (uC (.int 2))) (uCons (uOp (pI CDivN fun i j => D.int (i.fdiv j)) (uVar 3) (uC (.int 2))) uNil))) (uTup (uCons (uVar 2) (uCons (uVar 3) uNil)))))
def u__law_growth_by : US := (uSeq i__law_growth_by_1
    i__law_growth_by_2)
structure W__law_growth_by (as : List SV) (Q : QD) : Prop where
  h : Wof 4 u__law_growth_by as Q
theorem lift__law_growth_by (z : Z mg) (hD : Def K mg "_law_growth_by" s__law_growth_by p__law_growth_by) : CalG P w K mg base 1 "_law_growth_by" p__law_growth_by (spL GD K 2 W__law_growth_by) := by
  refine CalG.impD (hD.calD sc__law_growth_by u__law_growth_by fun f cdv A outer s H E hgd hr => ?_) fun as Q h => h.h
  have hu := hu_of hr
  refine ⟨_, (pss_cons (ps_par (i := 2) (j := 3) rfl sc__law_growth_by.nd rfl rfl (by decide) rfl rfl (pa_cons (pe_op op_fdivN (pe_ix ix_tup (pv 0) pe_int (fun _ _ => rfl)) (pv 1)) (pa_cons (pe_op op_fdivN (pe_ix ix_tup (pv 0) pe_int (fun _ _ => rfl)) (pv 1)) pa_nil)) (by rfl))
    (pss_one (ps_ret (pe_ifExp (PW.pt (pw_and (pt_cmpR op_eq (pe_op op_modN (pe_callTy (call_int1) (by rfl) z.«int» (by decide +kernel) (pa_cons (pv 2) pa_nil)) pe_int) pe_int (nomark _)) (pw_and1 (pt_cmpR op_eq (pe_op op_modN (pe_callTy (call_int1) (by rfl) z.«int» (by decide +kernel) (pa_cons (pv 3) pa_nil)) pe_int) pe_int (nomark _))))) (pe_tup (pa_cons (pe_op op_fdivN (pv 2) pe_int) (pa_cons (pe_op op_fdivN (pv 3) pe_int) pa_nil))) (pe_tup (pa_cons (pv 2) (pa_cons (pv 3) pa_nil))))))), ?_⟩
  intro B
  exact (ls_seq (ls_par (le_op (lr_I (C := CDivN) (g' := fun i j => D.int (i.fdiv j)) fun _ _ => rfl) (le_op lr_ixT (le_var 0) (le_int _)) (le_var 1)) (le_op (lr_I (C := CDivN) (g' := fun i j => D.int (i.fdiv j)) fun _ _ => rfl) (le_op lr_ixT (le_var 0) (le_int _)) (le_var 1)))
    (ls_ret (le_if (lt_and (lt_test (le_op lr_eq (le_op (lr_I (C := (fun _ j => j ≠ 0)) (g' := fun i j => D.int (i.fmod j)) fun _ _ => rfl) (le_cb lb_int1 (la_cons (le_var 2) la_nil)) (le_int _)) (le_int _))) (lt_test (le_op lr_eq (le_op (lr_I (C := (fun _ j => j ≠ 0)) (g' := fun i j => D.int (i.fmod j)) fun _ _ => rfl) (le_cb lb_int1 (la_cons (le_var 3) la_nil)) (le_int _)) (le_int _)))) (le_tup (la_cons (le_op (lr_I (C := CDivN) (g' := fun i j => D.int (i.fdiv j)) fun _ _ => rfl) (le_var 2) (le_int _)) (la_cons (le_op (lr_I (C := CDivN) (g' := fun i j => D.int (i.fdiv j)) fun _ _ => rfl) (le_var 3) (le_int _)) la_nil))) (le_tup (la_cons (le_var 2) (la_cons (le_var 3) la_nil))))))
abbrev i__law_growth_1 : US := (uSet 1 (uTup (uCons (uC (.int 1)) (uCons (uOp pIxT (uVar 0) (uC (.int 0))) uNil))))
abbrev i__law_growth_2 : US := (uSet 1 (uTup (uCons (uOp (pI0 fun i j => D.int (i + j)) (uVar 2) (uC (.int 1))) (uCons (uOp pIxT (uVar 0) (uVar 2)) uNil))))
abbrev i__law_growth_3 : US := (uIfS (uTest (uOp (pI0 fun i j => D.bl (decide (i < j))) (uOp (pI CMul fun i j => D.int (i * j)) (uOp (pI0 fun i j => D.int (i + j)) (uVar 2) (uC (.int 1))) (uOp pIxT (uVar 1) (uC (.int 1)))) (uOp (pI CMul fun i j => D.int (i * j)) (uOp pIxT (uVar 1) (uC (.int 0))) (uOp pIxT (uVar 0) (uVar 2))))) i__law_growth_2 uNext)
abbrev i__law_growth_4 : US := (uFor (uiRng1 (uCons (uCB pLen (uCons (uVar 0) uNil)) uNil)) (ugName 2) i__law_growth_3)
abbrev i__law_growth_5 : US := (uRet (uCall 2 W__law_growth_by (uCons (uVar 1) (uCons (uVar 3) uNil))))
abbrev i__law_growth_6 : US := (uIfS (uAnd (uTest (uOp pEq (uOp (pI (fun _ j => j ≠ 0) fun i j => D.int (i.fmod j)) (uCB pInt1 (uCons (uOp pIxT (uVar 1) (uC (.int 0))) uNil)) (uVar 3)) (uC (.int 0)))) (uTest (uOp pEq (uOp (pI (fun _ j => j ≠ 0) fun i j => D.int (i.fmod j)) (uCB pInt1 (uCons (uOp pIxT (uVar 1) (uC (.int 1))) uNil)) (uVar 3)) (uC (.int 0))))) i__law_growth_5 uNext)
abbrev i__law_growth_7 : US := (uFor (uiSeq (uTup (uCons (uC (.int 2)) (uCons (uC (.int 3)) (uCons (uC (.int 4)) uNil))))) (ugName 3) i__law_growth_6)
def u__law_growth : US := (uSeq i__law_growth_1
    (uSeq i__law_growth_4
    (uSeq i__law_growth_7
    (uRet (uVar 1)))))
structure W__law_growth (as : List SV) (Q : QD) : Prop where
  h : Wof 4 u__law_growth as Q
theorem lift__law_growth (z : Z mg) (c__law_growth_by : CalG P w K mg base 1 "_law_growth_by" p__law_growth_by (spL GD K 2 W__law_growth_by)) (hD : Def K mg "_law_growth" s__law_growth p__law_growth) : CalG P w K mg base 2 "_law_growth" p__law_growth (spL GD K 1 W__law_growth) := by
  refine CalG.impD (hD.calD sc__law_growth u__law_growth fun f cdv A outer s H E hgd hr => ?_) fun as Q h => h.h
  have hu := hu_of hr
  refine ⟨_, (pss_cons (ps_set (i := 1) sc__law_growth.nd rfl (Or.inl rfl) (pe_tup (pa_cons pe_int (pa_cons (pe_ix ix_tup (pv 0) pe_int (fun _ _ => rfl)) pa_nil))))
    (pss_cons (ps_for PassesOwn.never rfl (pi_range1 (by rfl) z.«range» (pa_cons (pe_callB (call_len_seq) (by rfl) z.«len» (by decide +kernel) (pa_cons (pv 0) pa_nil)) pa_nil)) (pg_name (i := 2) sc__law_growth.nd rfl (Or.inl rfl)) (pss_one (ps_if (pt_cmpR op_lt (pe_op op_mul (pe_op op_add (pv 2) pe_int) (pe_ix ix_tup (pv 1) pe_int (fun _ _ => rfl))) (pe_op op_mul (pe_ix ix_tup (pv 1) pe_int (fun _ _ => rfl)) (pe_ix ix_tup (pv 0) (pv 2) (fun _ _ => rfl))) (nomark _)) (pss_one (ps_set (i := 1) sc__law_growth.nd rfl (Or.inl rfl) (pe_tup (pa_cons (pe_op op_add (pv 2) pe_int) (pa_cons (pe_ix ix_tup (pv 0) (pv 2) (fun _ _ => rfl)) pa_nil))))) pss_nil)))
    (pss_cons (ps_for PassesOwn.never rfl (pi_tup (pe_tup (pa_cons pe_int (pa_cons pe_int (pa_cons pe_int pa_nil))))) (pg_name (i := 3) sc__law_growth.nd rfl (Or.inl rfl)) (pss_one (ps_if (PW.pt (pw_and (pt_cmpR op_eq (pe_op op_modN (pe_callTy (call_int1) (by rfl) z.«int» (by decide +kernel) (pa_cons (pe_ix ix_tup (pv 1) pe_int (fun _ _ => rfl)) pa_nil)) (pv 3)) pe_int (nomark _)) (pw_and1 (pt_cmpR op_eq (pe_op op_modN (pe_callTy (call_int1) (by rfl) z.«int» (by decide +kernel) (pa_cons (pe_ix ix_tup (pv 1) pe_int (fun _ _ => rfl)) pa_nil)) (pv 3)) pe_int (nomark _))))) (pss_one (ps_ret (pe_calG c__law_growth_by hgd (hr.mono (by decide)) (by rfl) (pa_cons (pv 1) (pa_cons (pv 3) pa_nil))))) pss_nil)))
    (pss_one (ps_ret (pv 1)))))), ?_⟩
  intro B
  exact (ls_seq (ls_set (le_tup (la_cons (le_int _) (la_cons (le_op lr_ixT (le_var 0) (le_int _)) la_nil))))
    (ls_seq (ls_for (li_rng1 (la_cons (le_cb lb_len (la_cons (le_var 0) la_nil)) la_nil)) (lg_name 2) (ls_if (lt_test (le_op (lr_I0 (g' := fun i j => D.bl (decide (i < j))) fun _ _ => rfl) (le_op (lr_I (C := CMul) (g' := fun i j => D.int (i * j)) fun _ _ => rfl) (le_op (lr_I0 (g' := fun i j => D.int (i + j)) fun _ _ => rfl) (le_var 2) (le_int _)) (le_op lr_ixT (le_var 1) (le_int _))) (le_op (lr_I (C := CMul) (g' := fun i j => D.int (i * j)) fun _ _ => rfl) (le_op lr_ixT (le_var 1) (le_int _)) (le_op lr_ixT (le_var 0) (le_var 2))))) (ls_set (le_tup (la_cons (le_op (lr_I0 (g' := fun i j => D.int (i + j)) fun _ _ => rfl) (le_var 2) (le_int _)) (la_cons (le_op lr_ixT (le_var 0) (le_var 2)) la_nil)))) ls_next))
    (ls_seq (ls_for (li_tup (le_tup (la_cons (le_int _) (la_cons (le_int _) (la_cons (le_int _) la_nil))))) (lg_name 3) (ls_if (lt_and (lt_test (le_op lr_eq (le_op (lr_I (C := (fun _ j => j ≠ 0)) (g' := fun i j => D.int (i.fmod j)) fun _ _ => rfl) (le_cb lb_int1 (la_cons (le_op lr_ixT (le_var 1) (le_int _)) la_nil)) (le_var 3)) (le_int _))) (lt_test (le_op lr_eq (le_op (lr_I (C := (fun _ j => j ≠ 0)) (g' := fun i j => D.int (i.fmod j)) fun _ _ => rfl) (le_cb lb_int1 (la_cons (le_op lr_ixT (le_var 1) (le_int _)) la_nil)) (le_var 3)) (le_int _)))) (ls_ret (le_call (la_cons (le_var 1) (la_cons (le_var 3) la_nil)))) ls_next))
    (ls_ret (le_var 1)))))
abbrev i_law_1 : US := (uSet 3 (uCall 1 W__law_line (uCons (uVar 1) uNil)))
abbrev i_law_2 : US := (uIfS (uNot (uTest (uCall 3 W__law_right (uCons (uVar 1) (uCons (uVar 3) (uCons (uVar 4) uNil)))))) (uRet (uC (.bl false))) uNext)
abbrev i_law_3 : US := (uFor (uiSeq (uTup (uCons (uCall 2 W__law_near (uCons (uVar 1) (uCons (uVar 3) uNil))) (uCons (uCall 1 W__law_line (uCons (uVar 1) uNil)) (uCons (uVar 3) uNil))))) (ugName 4) i_law_2)
abbrev i_law_4 : US := (uIfS (uNot (uTest (uCall 2 W__law_like (uCons (uLst (uCons (uCall 1 W_growth (uCons (uVar 3) uNil)) (uCons (uCall 1 W_growth (uCons (uVar 3) uNil)) uNil))) (uCons (uOp pRep (uLst (uCons (uCall 1 W__law_growth (uCons (uVar 3) uNil)) uNil)) (uC (.int 2))) uNil))))) (uRet (uC (.bl false))) uNext)
abbrev i_law_5 : US := (uFor (uiRng1 (uCons (uOp (pI0 fun i j => D.int (i + j)) (uC (.int 5)) (uCB pMin2 (uCons (uC (.int 7)) (uCons (uCB pLen (uCons (uVar 0) uNil)) uNil)))) uNil)) (ugName 2) (uSeq i_law_1
    (uSeq i_law_3
    i_law_4)))
abbrev i_law_6 : US := (uIfS (uTest (uOp pNeD (uLst (uCons (uCall 1 W_growth (uCons (uTup (uCons (uC (.int 6)) (uCons (uC (.int 4)) (uCons (uC (.int 2)) uNil)))) uNil)) (uCons (uCall 1 W_growth (uCons (uTup (uCons (uC (.int 1)) (uCons (uC (.int 4)) uNil))) uNil)) (uCons (uCall 1 W_growth (uCons (uTup (uCons (uC (.int 2)) (uCons (uC (.int 4)) (uCons (uC (.int 6)) uNil)))) uNil)) uNil)))) (uLst (uCons (uTup (uCons (uC (.int 1)) (uCons (uC (.int 6)) uNil))) (uCons (uTup (uCons (uC (.int 1)) (uCons (uC (.int 2)) uNil))) (uCons (uTup (uCons (uC (.int 1)) (uCons (uC (.int 2)) uNil))) uNil)))))) (uRet (uC (.bl false))) uNext)
abbrev i_law_7 : US := (uRet (uOp pEqD (uLst (uCons (uCall 2 W_part_line_n (uCons (uTup (uCons (uC (.int 1)) (uCons (uC (.int 2)) uNil))) (uCons (uTup (uCons (uC (.int 1)) (uCons (uC (.int 2)) (uCons (uC (.int 3)) uNil)))) uNil))) (uCons (uCall 2 W_part_line_n (uCons (uTup (uCons (uC (.int 1)) (uCons (uC (.int 2)) uNil))) (uCons (uTup (uCons (uC (.int 2)) (uCons (uC (.int 1)) uNil))) uNil))) (uCons (uCall 2 W_part_line_n (uCons (uTup (uCons (uC (.int 2)) uNil)) (uCons (uTup (uCons (uC (.int 4)) (uCons (uC (.int 2)) uNil))) uNil))) uNil)))) (uLst (uCons (uC .non) (uCons (uC (.int 1)) (uCons (uC (.int 2)) uNil))))))
def u_law : US := (uSeq (uBegin 0 1)
    (uSeq i_law_5
    (uSeq i_law_6
    i_law_7)))
def W_law : WD := Wof 5 u_law
theorem lift_law (z : Z mg) (c__law_line : CalG P w K mg base 4 "_law_line" p__law_line (spL GD K 1 W__law_line)) (c__law_near : CalG P w K mg base 5 "_law_near" p__law_near (spL GD K 2 W__law_near)) (c__law_right : CalG P w K mg base 8 "_law_right" p__law_right (spL GD K 3 W__law_right)) (c__law_like : CalG P w K mg base 1 "_law_like" p__law_like (spL GD K 2 W__law_like)) (c_growth : CalG P w K mg base 4 "growth" p_growth (spL GD K 1 W_growth)) (c__law_growth : CalG P w K mg base 2 "_law_growth" p__law_growth (spL GD K 1 W__law_growth)) (c_part_line_n : CalG P w K mg base 4 "part_line" p_part_line (spL GD K 2 W_part_line_n)) (c__law_begun : Cal P w K mg base 2 "_law_begun" p__law_begun (spBegun K)) (hD : Def K mg "law" s_law p_law) : CalG P w K mg base 9 "law" p_law (spL GD K 1 fun as Q => hasG as = false ∧ W_law as Q) := by
  refine hD.calDL sc_law u_law fun f cdv A outer s H E hgd hr => ?_
  have hu := hu_of hr
  refine ⟨_, (pss_cons (ps_set (i := 1) sc_law.nd rfl (Or.inl rfl) (pe_cal c__law_begun (hr.mono (by decide)) (by rfl) (pa_cons (pv 0) pa_nil)))
    (pss_cons (ps_for PassesOwn.never rfl (pi_range1 (by rfl) z.«range» (pa_cons (pe_op op_add pe_int (pe_callB (call_min2 rfl) (by rfl) z.«min» (by decide +kernel) (pa_cons pe_int (pa_cons (pe_callB (call_len_seq) (by rfl) z.«len» (by decide +kernel) (pa_cons (pv 0) pa_nil)) pa_nil)))) pa_nil)) (pg_name (i := 2) sc_law.nd rfl (Or.inl rfl)) (pss_cons (ps_set (i := 3) sc_law.nd rfl (Or.inl rfl) (pe_calG c__law_line hgd (hr.mono (by decide)) (by rfl) (pa_cons (pv 1) pa_nil)))
    (pss_cons (ps_for PassesOwn.never rfl (pi_tup (pe_tup (pa_cons (pe_calG c__law_near hgd (hr.mono (by decide)) (by rfl) (pa_cons (pv 1) (pa_cons (pv 3) pa_nil))) (pa_cons (pe_calG c__law_line hgd (hr.mono (by decide)) (by rfl) (pa_cons (pv 1) pa_nil)) (pa_cons (pv 3) pa_nil))))) (pg_name (i := 4) sc_law.nd rfl (Or.inl rfl)) (pss_one (ps_if (pt_not (pt_val (pe_calG c__law_right hgd (hr.mono (by decide)) (by rfl) (pa_cons (pv 1) (pa_cons (pv 3) (pa_cons (pv 4) pa_nil)))))) (pss_one (ps_ret pe_bl)) pss_nil)))
    (pss_one (ps_if (pt_not (pt_val (pe_calG c__law_like hgd (hr.mono (by decide)) (by rfl) (pa_cons (pe_lst (pa_cons (pe_calG c_growth hgd (hr.mono (by decide)) (by rfl) (pa_cons (pv 3) pa_nil)) (pa_cons (pe_calG c_growth hgd (hr.mono (by decide)) (by rfl) (pa_cons (pv 3) pa_nil)) pa_nil))) (pa_cons (pe_op op_rep (pe_lst (pa_cons (pe_calG c__law_growth hgd (hr.mono (by decide)) (by rfl) (pa_cons (pv 3) pa_nil)) pa_nil)) pe_int) pa_nil))))) (pss_one (ps_ret pe_bl)) pss_nil)))))
    (pss_cons (ps_if (pt_cmpR (op_neD hr.units) (pe_lst (pa_cons (pe_calG c_growth hgd (hr.mono (by decide)) (by rfl) (pa_cons (pe_tup (pa_cons pe_int (pa_cons pe_int (pa_cons pe_int pa_nil)))) pa_nil)) (pa_cons (pe_calG c_growth hgd (hr.mono (by decide)) (by rfl) (pa_cons (pe_tup (pa_cons pe_int (pa_cons pe_int pa_nil))) pa_nil)) (pa_cons (pe_calG c_growth hgd (hr.mono (by decide)) (by rfl) (pa_cons (pe_tup (pa_cons pe_int (pa_cons pe_int (pa_cons pe_int pa_nil)))) pa_nil)) pa_nil)))) (pe_lst (pa_cons (pe_tup (pa_cons pe_int (pa_cons pe_int pa_nil))) (pa_cons (pe_tup (pa_cons pe_int (pa_cons pe_int pa_nil))) (pa_cons (pe_tup (pa_cons pe_int (pa_cons pe_int pa_nil))) pa_nil)))) (nomark _)) (pss_one (ps_ret pe_bl)) pss_nil)
    (pss_one (ps_ret (pe_cmpR (op_eqD hr.units) (pe_lst (pa_cons (pe_calG c_part_line_n hgd (hr.mono (by decide)) (by rfl) (pa_cons (pe_tup (pa_cons pe_int (pa_cons pe_int pa_nil))) (pa_cons (pe_tup (pa_cons pe_int (pa_cons pe_int (pa_cons pe_int pa_nil)))) pa_nil))) (pa_cons (pe_calG c_part_line_n hgd (hr.mono (by decide)) (by rfl) (pa_cons (pe_tup (pa_cons pe_int (pa_cons pe_int pa_nil))) (pa_cons (pe_tup (pa_cons pe_int (pa_cons pe_int pa_nil))) pa_nil))) (pa_cons (pe_calG c_part_line_n hgd (hr.mono (by decide)) (by rfl) (pa_cons (pe_tup (pa_cons pe_int pa_nil)) (pa_cons (pe_tup (pa_cons pe_int (pa_cons pe_int pa_nil))) pa_nil))) pa_nil)))) (pe_lst (pa_cons pe_non (pa_cons pe_int (pa_cons pe_int pa_nil)))) (nomark _))))))), ?_⟩
  intro B hB
  exact (ls_seq (ls_begin hB)
    (ls_seq (ls_for (li_rng1 (la_cons (le_op (lr_I0 (g' := fun i j => D.int (i + j)) fun _ _ => rfl) (le_int _) (le_cb lb_min2 (la_cons (le_int _) (la_cons (le_cb lb_len (la_cons (le_var 0) la_nil)) la_nil)))) la_nil)) (lg_name 2) (ls_seq (ls_set (le_call (la_cons (le_var 1) la_nil)))
    (ls_seq (ls_for (li_tup (le_tup (la_cons (le_call (la_cons (le_var 1) (la_cons (le_var 3) la_nil))) (la_cons (le_call (la_cons (le_var 1) la_nil)) (la_cons (le_var 3) la_nil))))) (lg_name 4) (ls_if (lt_not (lt_B (le_call (la_cons (le_var 1) (la_cons (le_var 3) (la_cons (le_var 4) la_nil)))))) (ls_ret (le_bl _)) ls_next))
    (ls_if (lt_not (lt_B (le_call (la_cons (le_lst (la_cons (le_call (la_cons (le_var 3) la_nil)) (la_cons (le_call (la_cons (le_var 3) la_nil)) la_nil))) (la_cons (le_op lr_rep (le_lst (la_cons (le_call (la_cons (le_var 3) la_nil)) la_nil)) (le_int _)) la_nil))))) (ls_ret (le_bl _)) ls_next))))
    (ls_seq (ls_if (lt_test (le_op lr_neD (le_lst (la_cons (le_call (la_cons (le_tup (la_cons (le_int _) (la_cons (le_int _) (la_cons (le_int _) la_nil)))) la_nil)) (la_cons (le_call (la_cons (le_tup (la_cons (le_int _) (la_cons (le_int _) la_nil))) la_nil)) (la_cons (le_call (la_cons (le_tup (la_cons (le_int _) (la_cons (le_int _) (la_cons (le_int _) la_nil)))) la_nil)) la_nil)))) (le_lst (la_cons (le_tup (la_cons (le_int _) (la_cons (le_int _) la_nil))) (la_cons (le_tup (la_cons (le_int _) (la_cons (le_int _) la_nil))) (la_cons (le_tup (la_cons (le_int _) (la_cons (le_int _) la_nil))) la_nil)))))) (ls_ret (le_bl _)) ls_next)
    (ls_ret (le_op lr_eqD (le_lst (la_cons (le_call (la_cons (le_tup (la_cons (le_int _) (la_cons (le_int _) la_nil))) (la_cons (le_tup (la_cons (le_int _) (la_cons (le_int _) (la_cons (le_int _) la_nil)))) la_nil))) (la_cons (le_call (la_cons (le_tup (la_cons (le_int _) (la_cons (le_int _) la_nil))) (la_cons (le_tup (la_cons (le_int _) (la_cons (le_int _) la_nil))) la_nil))) (la_cons (le_call (la_cons (le_tup (la_cons (le_int _) la_nil)) (la_cons (le_tup (la_cons (le_int _) (la_cons (le_int _) la_nil))) la_nil))) la_nil)))) (le_lst (la_cons le_non (la_cons (le_int _) (la_cons (le_int _) la_nil)))))))))
end
end LK
namespace LK
open PySem PySem.Spec PyProof.Rows L2 CD DL
/-! ### things of many kinds -/
/-- things no deeper, no longer; ints as p tells -/
inductive Bd (p : Int → Prop) (L : Nat) : Nat → D → Prop
  | non {k : Nat} : Bd p L k .non
  | bl {k : Nat} (b : Bool) : Bd p L k (.bl b)
  | int {k : Nat} {i : Int} (h : p i) : Bd p L k (.int i)
  | str {k : Nat} {s : Str} (h : (reprText s).length ≤ 40) : Bd p L k (.str s)
  | emp {k : Nat} : Bd p L k (.dk [])
  | list {k : Nat} {ds : List D} (h : ∀ d ∈ ds, Bd p L k d) (l : ds.length ≤ L) : Bd p L (k + 1) (.list ds)
  | tup {k : Nat} {ds : List D} (h : ∀ d ∈ ds, Bd p L k d) (l : ds.length ≤ L) : Bd p L (k + 1) (.tup ds)
theorem Bd.mono {p p' : Int → Prop} {L L' : Nat} (hp : ∀ i, p i → p' i) (hL : L ≤ L') : ∀ {k k' : Nat} {d : D}, Bd p L k d → k ≤ k' → Bd p' L' k' d
  | _, _, _, .non, _ => .non
  | _, _, _, .bl b, _ => .bl b
  | _, _, _, .int h, _ => .int (hp _ h)
  | _, _, _, .str h, _ => .str h
  | _, _, _, .emp, _ => .emp
  | _, k' + 1, _, .list h l, e => .list (fun d hd => (h d hd).mono hp hL (by omega)) (by omega)
  | _, k' + 1, _, .tup h l, e => .tup (fun d hd => (h d hd).mono hp hL (by omega)) (by omega)
  | _, 0, _, .list h l, e => absurd e (by omega)
  | _, 0, _, .tup h l, e => absurd e (by omega)
/-- small ints; those that come -/
def okS (i : Int) : Prop := -1000 ≤ i ∧ i ≤ 1000
def okB (i : Int) : Prop := -(10 ^ 31) ≤ i ∧ i ≤ 10 ^ 31
theorem ok_SB (i : Int) (h : okS i) : okB i := by
  obtain ⟨a, b⟩ := h
  exact ⟨by omega, by omega⟩
mutual
def szD : D → Nat
  | .list ds => szL ds + 1
  | .tup ds => szL ds + 1
  | _ => 1
def szL : List D → Nat
  | [] => 0
  | d :: r => szD d + szL r
end
theorem szL_app : ∀ (a b : List D), szL (a ++ b) = szL a + szL b
  | [], b => by rw [List.nil_append, szL, Nat.zero_add]
  | x :: a, b => by rw [List.cons_append, szL, szL, szL_app a b, Nat.add_assoc]
theorem szL_rev : ∀ (a : List D), szL a.reverse = szL a
  | [] => rfl
  | x :: a => by rw [List.reverse_cons, szL_app, szL_rev a, szL, szL, szL]; omega
theorem szD_pos (d : D) : 1 ≤ szD d := by cases d <;> simp [szD]
def inB (lo hi : Int) (n : Int) : Bool := decide (lo ≤ n) && decide (n ≤ hi)
theorem inB_iff {lo hi n : Int} : inB lo hi n = true ↔ lo ≤ n ∧ n ≤ hi := by unfold inB; simp
def whole (lo hi : Int) : D → Bool
  | .int i => inB lo hi i
  | _ => false
theorem ite_two {c : Prop} [Decidable c] {A : Prop} (h : A) : if c then A else A := by
  split <;> exact h
/-- data of so many levels, told in so many signs -/
structure Py (d : D) (k M : Nat) (p : PyData) : Prop where
  py : PyE d p
  sh : p.showable = true
  dp : p.depth ≤ k + 1
  len : p.shown.length + 2 ≤ M
theorem bl_40 : (PyData.bool true).shown.length ≤ 40 ∧ (PyData.bool false).shown.length ≤ 40 := by
  constructor <;> (rw [PyData.shown]; decide +kernel)
theorem non_40 : (PyData.none).shown.length ≤ 40 := by rw [PyData.shown]; decide +kernel
theorem emp_40 : (PyData.dict []).shown.length ≤ 40 := by rw [PyData.shown, PyData.shownKv]; decide +kernel
theorem pys {k : Nat} : ∀ {ds : List D}, (∀ d ∈ ds, ∃ p, Py d k (44 * szD d) p) → ∃ ps, PyEL ds ps ∧ PyData.showableAll ps = true ∧ PyData.depthAll ps ≤ k + 1 ∧ ((PyData.shownAll ps).map (·.length)).sum + 2 * ds.length ≤ 44 * szL ds ∧ (PyData.shownAll ps).length = ds.length
  | [], _ => ⟨[], .nil, rfl, Nat.zero_le _, by rw [PyData.shownAll]; simp [szL], rfl⟩
  | d :: r, h => by
    obtain ⟨p, hp⟩ := h d List.mem_cons_self
    obtain ⟨ps, h1, h2, h3, h4, h5⟩ := pys (ds := r) fun x hx => h x (List.mem_cons_of_mem _ hx)
    have := hp.dp
    have := hp.len
    refine ⟨p :: ps, .cons hp.py h1, ?_, ?_, ?_, ?_⟩
    · rw [PyData.showableAll, hp.sh, h2]; rfl
    · rw [PyData.depthAll]; omega
    · rw [PyData.shownAll, List.map_cons, List.sum_cons, List.length_cons, szL, Nat.mul_add]; omega
    · rw [PyData.shownAll, List.length_cons, List.length_cons, h5]
theorem Bd.py {L : Nat} : ∀ {k : Nat} {d : D}, Bd okB L k d → ∃ p, Py d k (44 * szD d) p
  | k, _, .non => ⟨.none, .non, rfl, Nat.zero_le _, by have := non_40; simp only [szD]; omega⟩
  | k, _, .bl true => ⟨.bool true, .bl _, rfl, Nat.zero_le _, by have := bl_40.1; simp only [szD]; omega⟩
  | k, _, .bl false => ⟨.bool false, .bl _, rfl, Nat.zero_le _, by have := bl_40.2; simp only [szD]; omega⟩
  | k, _, .int (i := i) h => by
    have hb : i.natAbs < 10 ^ 32 := by
      obtain ⟨h1, h2⟩ := h
      have : ((i.natAbs : Nat) : Int) ≤ 10 ^ 31 := by omega
      have : i.natAbs ≤ 10 ^ 31 := by omega
      exact Nat.lt_of_le_of_lt this (by decide)
    refine ⟨.int i, .int i, ?_, Nat.zero_le _, ?_⟩
    · rw [PyData.showable]
      refine decide_eq_true ?_
      by_cases z : i.natAbs = 0
      · rw [z]; decide
      · have h100 : (10 : Nat) ^ 32 < 2 ^ 110 := by decide
        have := (Nat.log2_lt z (k := 110)).mpr (by omega)
        omega
    · rw [PyData.shown]
      have q := PySem.int_text_length_le10 (a := i) (k := 32) (by decide) hb
      have e : (toString i : Str).length = (toString i : String).length := PySem.ofString_length _
      rw [e]
      simp only [szD]
      omega
  | k, _, .str (s := s) h => ⟨.str s, .str s, rfl, Nat.zero_le _, by
      rw [PyData.shown]
      simp only [szD]
      omega⟩
  | k, _, .emp => ⟨.dict [], .emp, rfl, by rw [PyData.depth, PyData.depthKv]; omega, by have := emp_40; simp only [szD]; omega⟩
  | k + 1, _, .list (ds := ds) h l => by
    obtain ⟨ps, h1, h2, h3, h4, h5⟩ := pys fun d hd => (h d hd).py
    refine ⟨.list ps, .list h1, by rw [PyData.showable]; exact h2, by rw [PyData.depth]; omega, ?_⟩
    have t := listText_len_le (PyData.shownAll ps)
    rw [PyData.shown, szD]
    rw [h5] at t
    omega
  | k + 1, _, .tup (ds := ds) h l => by
    obtain ⟨ps, h1, h2, h3, h4, h5⟩ := pys fun d hd => (h d hd).py
    refine ⟨.tuple ps, .tup h1, by rw [PyData.showable]; exact h2, by rw [PyData.depth]; omega, ?_⟩
    have t := tupleText_len_le (PyData.shownAll ps)
    rw [PyData.shown, szD]
    rw [h5] at t
    omega
theorem rep_of {L k : Nat} {d : D} (hs : szD d ≤ 1000) (hk : k ≤ 50) (h : Bd okB L k d) : ∃ p, PyE d p ∧ RepE p := by
  obtain ⟨p, hp⟩ := h.py
  have := hp.dp
  have := hp.len
  exact ⟨p, hp.py, hp.sh, by rw [sizeLine_eq]; omega, by omega⟩
def ndD : D → Bool
  | .dk _ => false
  | .list ds => ndL ds
  | .tup ds => ndL ds
  | _ => true
where ndL : List D → Bool
  | [] => true
  | d :: r => ndD d && ndL r
mutual
theorem py_of : ∀ {d : D} {p : PyData}, PyE d p → ndD d = true → PyOf d p ∧ p.hasDict = false
  | _, _, .non, _ => ⟨.non, by simp only [PyData.hasDict]⟩
  | _, _, .bl b, _ => ⟨.bl b, by simp only [PyData.hasDict]⟩
  | _, _, .int i, _ => ⟨.int i, by simp only [PyData.hasDict]⟩
  | _, _, .str x, _ => ⟨.str x, by simp only [PyData.hasDict]⟩
  | _, _, .emp, h => by cases h
  | _, _, .list g, h => ⟨.list (py_ofL g h).1, by rw [PyData.hasDict]; exact (py_ofL g h).2⟩
  | _, _, .tup g, h => ⟨.tup (py_ofL g h).1, by rw [PyData.hasDict]; exact (py_ofL g h).2⟩
theorem py_ofL : ∀ {ds : List D} {ps : List PyData}, PyEL ds ps → ndD.ndL ds = true → PyOfL ds ps ∧ PyData.hasDictAll ps = false
  | _, _, .nil, _ => ⟨.nil, by simp only [PyData.hasDictAll]⟩
  | _, _, .cons g gs, h => by
    have h : (ndD _ && ndD.ndL _) = true := h
    rw [Bool.and_eq_true] at h
    obtain ⟨a1, a2⟩ := py_of g h.1
    obtain ⟨b1, b2⟩ := py_ofL gs h.2
    refine ⟨.cons a1 b1, ?_⟩
    rw [PyData.hasDictAll, a2, b2]
    rfl
end
theorem nd_map {α : Type} {f : α → D} (h : ∀ a, ndD (f a) = true) : ∀ as : List α, ndD.ndL (as.map f) = true
  | [] => rfl
  | a :: r => by
    show (ndD (f a) && ndD.ndL (r.map f)) = true
    rw [h a, nd_map h r]
    rfl
/-- what may be shown -/
structure Shw (d : D) : Prop where
  h : ∃ p, PyOf d p ∧ RepOk p
theorem shw_of {L k : Nat} {d : D} (hs : szD d ≤ 1000) (hk : k ≤ 50) (h : Bd okB L k d) (n : ndD d = true) : Shw d := by
  obtain ⟨p, hp, hr⟩ := rep_of hs hk h
  obtain ⟨a1, a2⟩ := py_of hp n
  exact ⟨p, a1, hr.s, a2, hr.p, hr.z⟩
theorem w_draw {n : Nat} {t : Int} {Q : QD} (h : n < 2 ^ 40) (t1 : 1 ≤ t) (t2 : t ≤ 1000) (q : ∀ v, 0 ≤ v → v < t → Q (.int v) (some (n + 1))) : W__law_draw [.gen n, .val (.int t)] Q := ⟨n, t, rfl, h, t1, by omega, q⟩
theorem w_like {d : D} {Q : QD} (h : Shw d) (q : Q (.bl true) none) : W__law_like [.val d, .val d] Q := by
  obtain ⟨p, hp, hr⟩ := h.h
  refine ⟨p, hp, hr, p, hp, hr, ?_⟩
  show Q (.bl (decide (p.shown = p.shown))) none
  rw [decide_eq_true rfl]
  exact q
theorem rg_mem {lo : Int} {n : Nat} {d : D} (h : d ∈ rgD lo n) : ∃ i : Int, d = .int i ∧ lo ≤ i ∧ i < lo + n := by
  obtain ⟨i, hi, rfl⟩ := List.mem_map.mp h
  have := List.mem_range.mp hi
  exact ⟨_, rfl, by omega, by omega⟩
theorem szL_map {α : Type} {f : α → D} (h : ∀ a, szD (f a) = 1) : ∀ as : List α, szL (as.map f) = as.length
  | [] => rfl
  | a :: r => by rw [List.map_cons, szL, h a, szL_map h r, List.length_cons]; omega
theorem oD_bd {o : Option Int} (h : ∀ i, o = some i → okB i) {k : Nat} : Bd okB 100 k (oD o) := by
  cases o with
  | none => exact .non
  | some i => exact .int (h i rfl)
theorem oD_sz (o : Option Int) : szD (oD o) = 1 := by cases o <;> rfl
theorem oD_nd (o : Option Int) : ndD (oD o) = true := by cases o <;> rfl
theorem oD_fl (o : Option Int) : flatD (oD o) = true := by cases o <;> rfl
theorem shw_os {os : List (Option Int)} (h : ∀ i, some i ∈ os → okB i) (l : os.length ≤ 100) : Shw (.list (os.map oD)) := by
  refine shw_of (L := 100) (k := 1) ?_ (by decide) (.list (fun d hd => ?_) (by rw [List.length_map]; exact l)) (nd_map oD_nd os)
  · show szL (os.map oD) + 1 ≤ 1000
    rw [szL_map oD_sz]
    omega
  · obtain ⟨o, ho, rfl⟩ := List.mem_map.mp hd
    exact oD_bd fun i e => h i (e ▸ ho)
theorem goLc_filt {i : Nat} {t : UT} {k : List D → Rho → Prop} {f : D → Bool} {ρ : Rho} (p : D → Prop) (hl : i < ρ.length) (hi : okW ρ [i] = true) (ht : ∀ d K, p d → K (f d) (ρ.set i (some (.val d))) → t (ρ.set i (some (.val d))) K) : ∀ (ds acc : List D), (∀ d ∈ ds, p d) → acc.length + ds.length ≤ sizeLine → k (acc ++ ds.filter f) ρ → goLc (ugName i) t (uVar i) [i] k ds acc ρ
  | [], acc, _, _, q => by
    rw [List.filter_nil, List.append_nil] at q
    exact q
  | d :: r, acc, hp, hs, q => by
    refine ⟨hi, ?_⟩
    dsimp only [ugName, wipeR]
    rw [List.set_set]
    refine ht d _ (hp d List.mem_cons_self) ?_
    rw [List.length_cons] at hs
    have er : restR ρ (ρ.set i (some (.val d))) [i] = ρ := set_back
    cases e : f d with
    | true =>
      rw [if_pos rfl]
      unfold uVar
      rw [List.getElem?_set_self hl]
      refine ⟨by omega, ?_⟩
      rw [er]
      refine goLc_filt p hl hi ht r _ (fun x hx => hp x (List.mem_cons_of_mem _ hx)) (by rw [List.length_append, List.length_singleton]; omega) ?_
      rw [List.filter_cons, e, if_pos rfl] at q
      rw [List.append_assoc]
      exact q
    | false =>
      rw [if_neg (by decide), er]
      refine goLc_filt p hl hi ht r _ (fun x hx => hp x (List.mem_cons_of_mem _ hx)) (by omega) ?_
      rw [List.filter_cons, e, if_neg (by decide)] at q
      exact q
theorem atI_int {t : List Int} {i : Int} (h0 : 0 ≤ i) (h1 : i < t.length) : atI (t.map D.int) i = some (.int (t.getD i.toNat 0)) := by
  obtain ⟨j, rfl⟩ : ∃ j : Nat, i = (j : Int) := ⟨i.toNat, (Int.toNat_of_nonneg h0).symm⟩
  refine atI_nat ?_
  rw [List.getElem?_map, Int.toNat_natCast, List.getElem?_eq_getElem (by omega), List.getD_eq_getElem?_getD, List.getElem?_eq_getElem (by omega)]
  rfl
theorem goFor_rg {i : Nat} {b : US} {Q : UEnds} {lo : Int} {I : Nat → Rho → Prop} (N : Nat) (hb : ∀ n ρ (Q' : UEnds), n < N → Q'.rt = Q.rt → I n ρ → (∀ ρ', I (n + 1) ρ' → Q'.nx ρ') → b Q' (ρ.set i (some (.val (.int (lo + (n : Int))))))) :
    ∀ (m n : Nat) (ρ : Rho), n + m = N → I n ρ → (∀ ρ', I N ρ' → Q.nx ρ') → goFor (ugName i) b Q ((List.range' n m).map fun k : Nat => D.int (lo + (k : Int))) ρ
  | 0, n, ρ, e, h, q => by
    obtain rfl : n = N := by omega
    exact q ρ h
  | m + 1, n, ρ, e, h, q => by
    rw [List.range'_succ, List.map_cons]
    show b { Q with nx := goFor (ugName i) b Q _, ct := goFor (ugName i) b Q _, bk := Q.nx } (ρ.set i (some (.val (.int (lo + (n : Int))))))
    refine hb n ρ _ (by omega) rfl h fun ρ' h' => ?_
    exact goFor_rg N hb m (n + 1) ρ' (by omega) h' q
theorem goFor_rgD {i : Nat} {b : US} {Q : UEnds} {lo : Int} {I : Nat → Rho → Prop} (N : Nat) (hb : ∀ n ρ (Q' : UEnds), n < N → Q'.rt = Q.rt → I n ρ → (∀ ρ', I (n + 1) ρ' → Q'.nx ρ') → b Q' (ρ.set i (some (.val (.int (lo + (n : Int))))))) (ρ : Rho) (h : I 0 ρ) (q : ∀ ρ', I N ρ' → Q.nx ρ') :
    goFor (ugName i) b Q (rgD lo N) ρ := by
  have z := goFor_rg (lo := lo) N hb N 0 ρ (by omega) h q
  rw [← List.range_eq_range'] at z
  exact z
theorem inF_ints (n : Int) : ∀ ns : List Int, inF (.int n) (ns.map D.int) = some (decide (n ∈ ns))
  | [] => by simp [inF]
  | x :: r => by
    rw [List.map_cons]
    unfold inF
    rw [inF_ints n r]
    show some (decide (x = n) || decide (n ∈ r)) = some (decide (n ∈ x :: r))
    by_cases c : x = n
    · simp [c]
    · have c' : ¬ n = x := fun e => c e.symm
      simp [c, c']
end LK
namespace LK
open PySem PySem.Spec PyProof.Rows L2 CD DL
/-! ### drawn lines, absences, far numbers -/
/-- what is left of the six, what was found of them -/
structure Six (L F : List Int) : Prop where
  nd : (L ++ F).Nodup
  rng : ∀ a ∈ L ++ F, 1 ≤ a ∧ a ≤ 6
section
variable {n : Nat} {Q : UEnds} {L F : List Int}
abbrev RN (n : Nat) (L F : SV) (x3 x4 : Option SV) : Rho := [some (.gen n), some L, some F, x3, x4]
theorem take_drop {α : Type} {l : List α} {v : Nat} {x : α} (h : l[v]? = some x) : l = l.take v ++ x :: l.drop (v + 1) := by
  obtain ⟨hv, e⟩ := List.getElem?_eq_some_iff.mp h
  have := List.drop_eq_getElem_cons hv
  rw [e] at this
  rw [← this, List.take_append_drop]
theorem cutD_to {ds : List D} {s : Nat} : DL.cutD ds none (some (s : Int)) = ds.take s := by
  unfold DL.cutD
  rw [show HT.sIx ds.length ds.length (some (s : Int)) = min s ds.length from HT.sIx_nat ds.length ds.length s, HT.sIx_none]
  show (ds.drop 0).take (min s ds.length - 0) = _
  rw [List.drop_zero, Nat.sub_zero]
  by_cases c : s ≤ ds.length
  · rw [Nat.min_eq_left c]
  · rw [Nat.min_eq_right (by omega), List.take_of_length_le (Nat.le_refl _), List.take_of_length_le (by omega)]
theorem cutD_from {ds : List D} {s : Nat} (h : s ≤ ds.length) : DL.cutD ds (some (s : Int)) none = ds.drop s := by
  unfold DL.cutD
  rw [show HT.sIx ds.length 0 (some (s : Int)) = min s ds.length from HT.sIx_nat ds.length 0 s, HT.sIx_none, Nat.min_eq_left h]
  exact List.take_of_length_le (by rw [List.length_drop]; omega)
theorem Six.turn (s : Six L F) {v : Nat} {x : Int} (h : L[v]? = some x) : Six (L.take v ++ L.drop (v + 1)) (F ++ [x]) := by
  have e := take_drop h
  have p : (L.take v ++ L.drop (v + 1) ++ (F ++ [x])).Perm (L ++ F) := by
    refine List.Perm.trans ?_ (List.Perm.append_right F (e ▸ List.Perm.refl L : L.Perm (L.take v ++ x :: L.drop (v + 1))).symm)
    rw [← List.append_assoc]
    refine List.perm_append_comm.trans ?_
    show (x :: (L.take v ++ L.drop (v + 1) ++ F)).Perm _
    rw [List.append_assoc, List.append_assoc]
    exact List.perm_middle.symm
  exact ⟨p.nodup_iff.mpr s.nd, fun a ha => s.rng a (p.mem_iff.mp ha)⟩
theorem l_turn {k x4 : Option SV} (hn : n < 2 ^ 39) (s : Six L F) (h1 : 1 ≤ L.length) (h6 : L.length ≤ 6) (hf : F.length ≤ 6) (q : ∀ L' F' v, Six L' F' → L'.length + 1 = L.length → F'.length = F.length + 1 → Q.nx (RN (n + 1) (.own (.list (L'.map D.int))) (.own (.list (F'.map D.int))) k (some (.val (.int v))))) (hk : k = none ∨ ∃ d, k = some (.val d)) (h4 : x4 = none ∨ ∃ d, x4 = some (.val d)) :
    uSeq i__law_line_2 (uSeq i__law_line_3 i__law_line_4) Q (RN n (.own (.list (L.map D.int))) (.own (.list (F.map D.int))) k x4) := by
  have el : (L.map D.int).length = L.length := List.length_map _
  have key : ∀ v : Nat, v < L.length → uSeq i__law_line_3 i__law_line_4 Q (RN (n + 1) (.own (.list (L.map D.int))) (.own (.list (F.map D.int))) k (some (.val (.int v)))) := fun v hv => by
    have hx : L[v]? = some L[v] := List.getElem?_eq_getElem hv
    have ha : atI (L.map D.int) (v : Int) = some (.int L[v]) := atI_nat (by rw [List.getElem?_map, hx]; rfl)
    have c1 : DL.cutD (L.map D.int) none (some (v : Int)) = (L.take v).map D.int := by rw [cutD_to, List.map_take]
    have c2 : DL.cutD (L.map D.int) (some ((v : Int) + 1)) none = (L.drop (v + 1)).map D.int := by rw [show (v : Int) + 1 = ((v + 1 : Nat) : Int) by omega, cutD_from (by rw [el]; omega), List.map_drop]
    conv => whnf
    rw [ha]
    refine ⟨by rw [sizeLine_eq, List.length_map]; omega, ?_⟩
    conv => whnf
    rw [c1, c2]
    refine ⟨by rw [sizeLine_eq, List.length_map, List.length_map, List.length_take, List.length_drop]; omega, ?_⟩
    have z := q _ _ v (s.turn hx) (by rw [List.length_append, List.length_take, List.length_drop]; omega) (by rw [List.length_append]; rfl)
    rw [List.map_append, List.map_append] at z
    exact z
  rcases hk with rfl | ⟨d, rfl⟩ <;> rcases h4 with rfl | ⟨d', rfl⟩ <;>
  · refine ⟨rfl, rfl, w_draw (by omega) (by rw [el]; omega) (by rw [el]; omega) fun v v0 v1 => ?_⟩
    obtain ⟨v, rfl⟩ : ∃ w : Nat, v = w := ⟨v.toNat, (Int.toNat_of_nonneg v0).symm⟩
    exact key v (by rw [el] at v1; omega)
theorem l_5 (hn : n + 10 < 2 ^ 39) (q : ∀ c F k v (L : List Int), c ≤ n + 5 → IsRule F → Q.nx (RN c (.own (.list (L.map D.int))) (.own (.list (F.map D.int))) (some (.val k)) (some (.val (.int v))))) :
    i__law_line_5 Q (RN n (.own (.list (([1, 2, 3, 4, 5, 6] : List Int).map D.int))) (.own (.list (([] : List Int).map D.int))) none none) := by
  refine ⟨rfl, rfl, w_draw (by omega) (by decide) (by decide) fun u u0 u1 => ?_⟩
  refine ⟨by omega, by omega, ?_⟩
  show goFor (ugName 3) (uSeq i__law_line_2 (uSeq i__law_line_3 i__law_line_4)) Q (rgD 0 (1 + u).toNat) (RN (n + 1) (.own (.list (([1, 2, 3, 4, 5, 6] : List Int).map D.int))) (.own (.list (([] : List Int).map D.int))) none none)
  refine goFor_rgD (I := fun i ρ => ∃ (L F : List Int) (k x4 : Option SV), ρ = RN (n + 1 + i) (.own (.list (L.map D.int))) (.own (.list (F.map D.int))) k x4 ∧ Six L F ∧ L.length + i = 6 ∧ F.length = i ∧ (i = 0 ∨ ∃ d, k = some (.val d)) ∧ (x4 = none ∨ ∃ d, x4 = some (.val d)) ∧ (i = 0 ∨ ∃ v, x4 = some (.val (.int v)))) (1 + u).toNat (fun i ρ Q' hi hr hI hq => ?_) _ ⟨_, [], none, none, rfl, ⟨by decide, by decide⟩, rfl, rfl, .inl rfl, .inl rfl, .inl rfl⟩ fun ρ hI => ?_
  · obtain ⟨L, F, k, x4, rfl, s, h1, h2, _, h4, _⟩ := hI
    exact l_turn (n := n + 1 + i) (k := some (.val (.int (0 + (i : Int))))) (by omega) s (by omega) (by omega) (by omega) (fun L' F' v s' e1 e2 => hq _ ⟨L', F', _, _, rfl, s', by omega, by omega, .inr ⟨_, rfl⟩, .inr ⟨_, rfl⟩, .inr ⟨v, rfl⟩⟩) (.inr ⟨_, rfl⟩) h4
  · obtain ⟨L, F, k, x4, rfl, s, h1, h2, h3, _, h4⟩ := hI
    rcases h3 with h3 | ⟨d, rfl⟩
    · omega
    rcases h4 with h4 | ⟨v, rfl⟩
    · omega
    refine q _ F d v L (by omega) ⟨by omega, by omega, fun a ha => s.rng a (List.mem_append_right _ ha), (List.nodup_append.mp s.nd).2.1⟩
theorem rule_put {F : List Int} (R : IsRule F) (h : (1 : Int) ∉ F) {v : Nat} (hv : v < F.length) : IsRule (F.set v 1) := by
  refine ⟨by rw [List.length_set]; exact R.pos, by rw [List.length_set]; exact R.most, fun a ha => ?_, ?_⟩
  · rcases List.mem_or_eq_of_mem_set ha with ha | rfl
    · exact R.step a ha
    · decide
  · rw [List.set_eq_take_append_cons_drop, if_pos hv]
    have e := take_drop (List.getElem?_eq_getElem hv)
    have nd := R.nodup
    rw [e] at nd
    have h' : ∀ a ∈ F, a ≠ 1 := fun a ha x => h (x ▸ ha)
    rw [List.nodup_append] at nd ⊢
    obtain ⟨n1, n2, n3⟩ := nd
    have m : ∀ a ∈ F.drop (v + 1), a ∈ F := fun a ha => List.mem_of_mem_drop ha
    have m2 : ∀ a ∈ F.take v, a ∈ F := fun a ha => List.mem_of_mem_take ha
    refine ⟨n1, List.nodup_cons.mpr ⟨fun z => h' 1 (m 1 z) rfl, (List.nodup_cons.mp n2).2⟩, fun a ha b hb => ?_⟩
    rcases List.mem_cons.mp hb with rfl | hb
    · exact h' a (m2 a ha)
    · exact n3 a ha b (List.mem_cons_of_mem _ hb)
theorem l_7 {k : D} {v : Int} {F : List Int} (hn : n < 2 ^ 39) (R : IsRule F) (q : ∀ c F, c ≤ n + 2 → IsRule F → Q.nx (RN c (.own (.list (L.map D.int))) (.own (.list (F.map D.int))) (some (.val k)) (some (.val (.int v))))) :
    i__law_line_7 Q (RN n (.own (.list (L.map D.int))) (.own (.list (F.map D.int))) (some (.val k)) (some (.val (.int v)))) := by
  have el : (F.map D.int).length = F.length := List.length_map _
  have mo := R.most
  have po := R.pos
  refine ⟨rfl, ?_⟩
  conv => whnf
  rw [inF_ints]
  by_cases c : (1 : Int) ∈ F
  · rw [decide_eq_true c]
    exact q n F (by omega) R
  · rw [decide_eq_false c]
    refine ⟨rfl, rfl, w_draw (by omega) (by decide) (by decide) fun u u0 u1 => ?_⟩
    conv => whnf
    refine drec (fun _ => ?_) (fun _ => q (n + 1) F (by omega) R)
    refine ⟨rfl, rfl, w_draw (by omega) (by rw [el]; omega) (by rw [el]; omega) fun w w0 w1 => ?_⟩
    rw [el] at w1
    obtain ⟨w, rfl⟩ : ∃ x : Nat, w = x := ⟨w.toNat, (Int.toNat_of_nonneg w0).symm⟩
    have ix : ixN (F.map D.int).length (w : Int) = some w := by
      rw [List.length_map]
      unfold ixN
      rw [if_pos (by omega), if_pos (by omega)]
      exact congrArg some (Int.toNat_natCast w)
    conv => whnf
    rw [ix]
    have z := q (n + 1 + 1) (F.set w 1) (by omega) (rule_put R c (by omega))
    rw [List.map_set] at z
    exact z
end
theorem w_line {n : Nat} {Q : QD} (hn : n + 20 < 2 ^ 39) (q : ∀ (F : List Int) (c : Nat), IsRule F → c ≤ n + 10 → Q (tI F) (some c)) : W__law_line [.gen n] Q := by
  refine ⟨?_⟩
  refine seq_of ⟨sz rfl, sz rfl, ?_⟩
  show uSeq i__law_line_5 (uSeq i__law_line_7 i__law_line_8) _ (RN n (.own (.list (([1, 2, 3, 4, 5, 6] : List Int).map D.int))) (.own (.list (([] : List Int).map D.int))) none none)
  refine seq_of (l_5 (by omega) fun c F k v L hc R => ?_)
  refine seq_of (l_7 (by omega) R fun c2 F2 hc2 R2 => ?_)
  exact q F2 c2 R2 (by omega)
end LK
namespace LK
open PySem PySem.Spec PyProof.Rows L2 CD DL
/-! ### far numbers -/
theorem pow_le {j : Nat} (h : j ≤ 27) : 100 * (10 : Int) ^ j ≤ 10 ^ 29 := by
  have z : ((List.range 28).all fun j => decide (100 * (10 : Int) ^ j ≤ 10 ^ 29)) = true := by decide +kernel
  exact of_decide_eq_true (List.all_eq_true.mp z j (List.mem_range.mpr (by omega)))
theorem w_far {n : Nat} {Q : QD} (hn : n + 20 < 2 ^ 39) (q : ∀ (f c : Nat), 100 ≤ f → (f : Int) ≤ 10 ^ 29 + 10 ^ 6 → c ≤ n + 5 → Q (.int f) (some c)) : W__law_far [.gen n, .val (.int 0)] Q := by
  refine ⟨?_⟩
  refine seq_of ?_
  show uSeq i__law_far_2 i__law_far_3 _ [some (.gen n), some (.val (.int 0)), some (.val (.int 100)), none]
  refine seq_of ⟨rfl, rfl, w_draw (by omega) (by decide) (by decide) fun u u0 u1 => ?_⟩
  refine ⟨by omega, by omega, ?_⟩
  refine goFor_rgD (I := fun i ρ => ∃ x3, ρ = [some (.gen (n + 1)), some (.val (.int 0)), some (.val (.int (100 * 10 ^ i))), x3]) u.toNat (fun i ρ Q' hi hr hI hq => ?_) _ ⟨none, rfl⟩ fun ρ hI => ?_
  · obtain ⟨x3, rfl⟩ := hI
    refine ⟨.inr ⟨by decide, by decide⟩, ?_⟩
    have z := hq _ ⟨some (.val (.int (0 + (i : Int)))), rfl⟩
    rw [Int.pow_succ, ← Int.mul_assoc] at z
    exact z
  · obtain ⟨x3, rfl⟩ := hI
    have le := pow_le (j := u.toNat) (by omega)
    have ge : (1 : Int) ≤ 10 ^ u.toNat := Int.pow_pos (by decide)
    generalize (10 : Int) ^ u.toNat = t at le ge ⊢
    refine ⟨rfl, rfl, ⟨_, _, rfl, by omega, by decide, by decide, fun v v0 v1 => ?_⟩⟩
    have z := q (100 * t + 0 + v).toNat (n + 1 + 1) (by omega) (by omega) (by omega)
    rw [Int.toNat_of_nonneg (by omega)] at z
    exact z
end LK
namespace LK
open PySem PySem.Spec PyProof.Rows L2 CD DL
/-! ### _law_next -/
theorem shaped_ints (ns : List Int) : SeqAt.shaped (.list (ns.map PyData.int)) = true := by
  have h1 : ∀ ns : List Int, PyData.canLayAll0 (ns.map PyData.int) = true := fun ns => by
    induction ns with
    | nil => rfl
    | cons a r ih => rw [List.map_cons, PyData.canLayAll0, ih]; rfl
  have h2 : ∀ ns : List Int, PyData.depthAll (ns.map PyData.int) = 0 := fun ns => by
    induction ns with
    | nil => rfl
    | cons a r ih => rw [List.map_cons, PyData.depthAll, ih]; rfl
  show (PyData.canLay0 (.list (ns.map PyData.int)) && decide (PyData.depth (.list (ns.map PyData.int)) ≤ 64)) = true
  rw [PyData.canLay0, PyData.depth, h1, h2]
  rfl
theorem eqv_nil (ns : List Int) : PyData.eqv (.list (ns.map PyData.int)) (.list []) = decide (ns = []) := by
  cases ns with
  | nil => rfl
  | cons a r => rw [List.map_cons, PyData.eqv, PyData.eqvAll]; rfl
def nx (row : List Int) (os : List (Option Int)) : Option Int := leastO ((row.zipIdx 1).filterMap (callF os))
def fm (row : List Int) (os : List (Option Int)) (i : Nat) : List Int := ((row.take i).zipIdx 1).filterMap (callF os)
theorem fm_next {row : List Int} {os : List (Option Int)} {i : Nat} {s : Int} (h : row[i]? = some s) : fm row os (i + 1) = fm row os i ++ (callF os (s, 1 + i)).toList := by
  unfold fm
  have hi := (List.getElem?_eq_some_iff.mp h).1
  rw [List.take_add_one, h, List.zipIdx_append, List.filterMap_append, List.length_take, Nat.min_eq_left (by omega)]
  congr 1
theorem fm_len (row : List Int) (os : List (Option Int)) (i : Nat) : (fm row os i).length ≤ i := by
  unfold fm
  refine Nat.le_trans (List.length_filterMap_le _ _) ?_
  rw [List.length_zipIdx, List.length_take]
  omega
section
variable {row : List Int} {os : List (Option Int)} {Q : UEnds}
abbrev RNx (row : List Int) (os : List (Option Int)) (f : List Int) (x3 : Option SV) : Rho := [some (.val (tI row)), some (.val (.list (os.map oD))), some (.own (.list (f.map D.int))), x3]
theorem nx_turn {i : Nat} (R : IsRule row) (hi : i < row.length) (hl : os.length ≤ 100) (q : Q.nx (RNx row os (fm row os (i + 1)) (some (.val (.int i))))) : i__law_next_2 Q (RNx row os (fm row os i) (some (.val (.int i)))) := by
  have mo := R.most
  have el : ((os.map oD).length : Int) = os.length := by rw [List.length_map]
  obtain ⟨s, hs⟩ : ∃ s, row[i]? = some s := ⟨_, List.getElem?_eq_getElem hi⟩
  have rs := R.step s (List.mem_of_getElem? hs)
  have ha : atI (row.map D.int) (i : Int) = some (.int s) := atI_nat (by rw [List.getElem?_map, hs]; rfl)
  have fl := fm_len row os i
  rw [fm_next hs] at q
  conv => whnf
  rw [ha]
  conv => whnf
  rw [el]
  by_cases c : s ≤ (os.length : Int)
  · have hb : backF os s = os.getD (os.length - s.toNat) none := by unfold backF; rw [if_pos (by omega)]
    have hx : atI (os.map oD) ((os.length : Int) - s) = some (oD (backF os s)) := by
      rw [show (os.length : Int) - s = ((os.length - s.toNat : Nat) : Int) by omega]
      refine atI_nat ?_
      rw [hb, List.getElem?_map, List.getD_eq_getElem?_getD, List.getElem?_eq_getElem (show os.length - s.toNat < os.length by omega)]
      rfl
    refine drec (fun _ => ?_) (fun z => absurd (decide_eq_true c) z)
    conv => whnf
    rw [ha]
    conv => whnf
    rw [el, hx]
    cases e : backF os s with
    | none =>
      have e2 : callF os (s, 1 + i) = none := by unfold callF; rw [e]; rfl
      rw [e2] at q
      rw [Option.toList_none, List.append_nil] at q
      exact q
    | some t =>
      have e2 : callF os (s, 1 + i) = some (t + ((1 + i : Nat) : Int)) := by unfold callF; rw [e]; rfl
      rw [e2] at q
      conv => whnf
      rw [ha]
      conv => whnf
      rw [el, hx, e]
      conv => whnf
      refine ⟨by rw [List.length_map, sizeLine_eq]; omega, ?_⟩
      rw [Option.toList_some, RNx, List.map_append, show t + ((1 + i : Nat) : Int) = t + (i : Int) + 1 by omega] at q
      exact q
  · have e : backF os s = none := by unfold backF; rw [if_neg (by omega)]
    have e2 : callF os (s, 1 + i) = none := by unfold callF; rw [e]; rfl
    rw [e2] at q
    rw [Option.toList_none, List.append_nil] at q
    refine drec (fun z => absurd (of_decide_eq_true z) c) (fun _ => q)
theorem w_next {Q : QD} (R : IsRule row) (hl : os.length ≤ 100) (q : Q (oD (nx row os)) none) : W__law_next [.val (tI row), .val (.list (os.map oD))] Q := by
  have mo := R.most
  have el : ((row.map D.int).length : Int) = row.length := by rw [List.length_map]
  refine ⟨?_⟩
  refine seq_of ⟨sz rfl, ?_⟩
  show uSeq i__law_next_3 i__law_next_4 _ (RNx row os [] none)
  refine seq_of ⟨by rw [el]; omega, by rw [el]; omega, ?_⟩
  rw [el, Int.toNat_natCast]
  refine goFor_rgD (I := fun i ρ => ∃ x3, ρ = RNx row os (fm row os i) x3) row.length (fun i ρ Q' hi hr hI hq => ?_) _ ⟨none, rfl⟩ fun ρ hI => ?_
  · obtain ⟨x3, rfl⟩ := hI
    rw [Int.zero_add]
    exact nx_turn R hi hl (hq _ ⟨_, rfl⟩)
  · obtain ⟨x3, rfl⟩ := hI
    have ef : nx row os = leastO (fm row os row.length) := by unfold nx fm; rw [List.take_of_length_le (Nat.le_refl _)]
    rw [ef] at q
    generalize fm row os row.length = f at q ⊢
    refine ⟨sz rfl, _, _, .list (PyOfL.ints f), .list .nil, shaped_ints f, rfl, ?_⟩
    rw [eqv_nil]
    cases f with
    | nil => exact q
    | cons a r =>
      rw [decide_eq_false nofun]
      cases e : leastO (a :: r) with
      | none => cases leastO_none e
      | some m =>
        rw [e] at q
        obtain ⟨m1, m2⟩ := leastO_spec e
        refine ⟨a :: r, rfl, by simp, fun m' h1 h2 => ?_⟩
        rw [Int.le_antisymm (h2 m m1) (m2 m' h1)]
        exact q
end
theorem nx_film (row : List Int) (n : Nat) : film row [] (n + 1) = film row [] n ++ [nx row (film row [] n)] := by
  rw [film_next]
  unfold nextF
  rw [if_neg nofun]
  rfl
theorem w_walk_n {row : List Int} {Q : QD} {N : Nat} (hN : N ≤ 90) (R : IsRule row) (q : Q (.list ((film row [] N).map oD)) none) : W__law_walk [.val (tI row), .val (.tup []), .val (.int ((N : Int) + 1))] Q := by
  refine ⟨?_⟩
  refine seq_of ⟨sz rfl, ?_⟩
  refine seq_of ⟨⟨by omega, by omega, by omega, by omega⟩, ?_⟩
  have eN : ((N : Int) + 1 - 1).toNat = N := by omega
  rw [eN]
  refine goFor_rgD (I := fun i ρ => ∃ x4, ρ = [some (.val (tI row)), some (.val (.tup [])), some (.val (.int ((N : Int) + 1))), some (.own (.list ((film row [] i).map oD))), x4]) N (fun i ρ Q' hi hr hI hq => ?_) _ ⟨none, rfl⟩ fun ρ hI => ?_
  · obtain ⟨x4, rfl⟩ := hI
    refine ⟨rfl, ?_⟩
    refine ⟨rfl, rfl, w_next R (by rw [film_len]; omega) ?_⟩
    rw [if_pos (oD_fl _)]
    refine ⟨by rw [List.length_map, film_len, sizeLine_eq]; omega, ?_⟩
    have z := hq [some (.val (tI row)), some (.val (.tup [])), some (.val (.int ((N : Int) + 1))), some (.own (.list ((film row [] (i + 1)).map oD))), some (.val (.int (1 + (i : Int))))] ⟨_, rfl⟩
    rw [nx_film, List.map_append] at z
    exact z
  · obtain ⟨x4, rfl⟩ := hI
    exact q
end LK
namespace LK
open PySem PySem.Spec PyProof.Rows L2 CD DL
/-! ### growth -/
def Mem (row : List Int) (S P : Int) : Prop := ∃ p ∈ row.zipIdx 1, p.1 = S ∧ (p.2 : Int) = P
/-- place against step: no other pair of those is less -/
structure Least (ps : List (Int × Nat)) (S P : Int) : Prop where
  s1 : 1 ≤ S
  s6 : S ≤ 6
  p1 : 1 ≤ P
  p4 : P ≤ 4
  le : ∀ p ∈ ps, P * p.1 ≤ S * (p.2 : Int)
theorem Least.snoc {ps : List (Int × Nat)} {S P s : Int} {p : Nat} (h : Least ps S P) (s1 : 1 ≤ s) (s6 : s ≤ 6) (p1 : 1 ≤ p) (p4 : p ≤ 4) (hp : ∀ q ∈ ps, 1 ≤ q.1) :
    if (p : Int) * S < P * s then Least (ps ++ [(s, p)]) s p else Least (ps ++ [(s, p)]) S P := by
  have a1 := h.s1
  have b1 := h.p1
  split
  · rename_i c
    refine ⟨s1, s6, by omega, by omega, fun q hq => ?_⟩
    rcases List.mem_append.mp hq with hq | hq
    · have h1 := h.le q hq
      have hq1 := hp q hq
      have m1 : (p : Int) * S * q.1 ≤ P * s * q.1 := Int.mul_le_mul_of_nonneg_right (Int.le_of_lt c) (by omega)
      have m2 : P * q.1 * s ≤ S * (q.2 : Int) * s := Int.mul_le_mul_of_nonneg_right h1 (by omega)
      have m3 : S * ((p : Int) * q.1) ≤ S * (s * (q.2 : Int)) := by
        have e1 : S * ((p : Int) * q.1) = (p : Int) * S * q.1 := by rw [← Int.mul_assoc, Int.mul_comm S]
        have e2 : S * (s * (q.2 : Int)) = S * (q.2 : Int) * s := by rw [Int.mul_assoc, Int.mul_comm s]
        have e3 : P * s * q.1 = P * q.1 * s := by rw [Int.mul_assoc, Int.mul_comm s, ← Int.mul_assoc]
        rw [e1, e2]
        omega
      exact Int.le_of_mul_le_mul_left m3 (by omega)
    · rw [List.mem_singleton.mp hq, Int.mul_comm]
      exact Int.le_refl _
  · rename_i c
    refine ⟨h.s1, h.s6, h.p1, h.p4, fun q hq => ?_⟩
    rcases List.mem_append.mp hq with hq | hq
    · exact h.le q hq
    · rw [List.mem_singleton.mp hq]
      show P * s ≤ S * (p : Int)
      rw [Int.mul_comm S]
      omega
section
variable {row : List Int} {Q : UEnds}
abbrev RGr (row : List Int) (P S : Int) (x3 x4 x5 : Option SV) : Rho := [some (.val (tI row)), some (.val (.int P)), some (.val (.int S)), x3, x4, x5]
theorem gr_loop {x5 : Option SV} (R : IsRule row) : ∀ (suf pre : List Int) (S P : Int) (x3 x4 : Option SV), row = pre ++ suf → Least (pre.zipIdx 1) S P → Mem row S P → (∀ S P x3 x4, Least (row.zipIdx 1) S P → Mem row S P → Q.nx (RGr row P S x3 x4 x5)) →
    goFor (ugTup 2 (ugCons (ugName 3) (ugCons (ugName 4) ugNil))) (uIfS (uTest (uOp (pI0 fun i j => D.bl (decide (i < j))) (uOp (pI CMul fun i j => D.int (i * j)) (uVar 3) (uVar 2)) (uOp (pI CMul fun i j => D.int (i * j)) (uVar 1) (uVar 4)))) (uPar 1 2 (uVar 3) (uVar 4)) uNext) Q (enumD ((pre.length : Int) + 1) (suf.map D.int)) (RGr row P S x3 x4 x5)
  | [], pre, S, P, x3, x4, e, h, hm, q => q S P x3 x4 (by rw [e, List.append_nil]; exact h) hm
  | s :: r, pre, S, P, x3, x4, e, h, hm, q => by
    have mo := R.most
    have rs := R.step s (by rw [e]; simp)
    have pl : pre.length + 1 ≤ row.length := by rw [e, List.length_append, List.length_cons]; omega
    have z := h.snoc (p := pre.length + 1) rs.1 rs.2 (by omega) (by omega) fun q hq => by
      exact (R.step q.1 (by rw [e]; exact List.mem_append_left _ (zip_step (rule := pre) (by omega) hq).1)).1
    have ez : (pre ++ [s]).zipIdx 1 = pre.zipIdx 1 ++ [(s, pre.length + 1)] := by
      rw [List.zipIdx_append]
      congr 1
      show [(s, 1 + pre.length)] = _
      rw [Nat.add_comm]
    rw [← ez] at z
    have ih := fun S P x3 x4 hz hm => gr_loop (x5 := x5) R r (pre ++ [s]) S P x3 x4 (by rw [e, List.append_assoc]; rfl) hz hm q
    have el : (((pre ++ [s]).length : Nat) : Int) + 1 = (pre.length : Int) + 1 + 1 := by rw [List.length_append]; simp
    rw [el] at ih
    have h1 := h.s1
    have h6 := h.s6
    refine ⟨rfl, .inr ⟨by omega, by omega⟩, .inr ⟨by omega, by omega⟩, ?_⟩
    have ec : (((pre.length + 1 : Nat)) : Int) = (pre.length : Int) + 1 := by omega
    rw [ec] at z
    conv => whnf
    refine drec (fun c => ?_) (fun c => ?_)
    · rw [if_pos (of_decide_eq_true c)] at z
      refine ih s _ _ _ z ⟨(s, 1 + pre.length), List.mem_of_getElem? (i := pre.length) ?_, rfl, by show ((1 + pre.length : Nat) : Int) = _; omega⟩
      rw [List.getElem?_zipIdx, e, List.getElem?_append_right (Nat.le_refl _), Nat.sub_self]
      rfl
    · rw [if_neg fun x => c (decide_eq_true x)] at z
      exact ih S P _ _ z hm
theorem div_ex (a g : Nat) (h : g ∣ a) (h1 : 1 ≤ g) : (a : Int) = (g : Int) * (Int.fdiv (a : Int) (g : Int)) := by
  rw [Int.fdiv_eq_ediv_of_nonneg _ (by omega)]
  exact (Int.mul_ediv_cancel' (Int.natCast_dvd_natCast.mpr h)).symm
theorem w_growth {Q : QD} (R : IsRule row) (q : ∀ S P g S' P' : Int, Least (row.zipIdx 1) S P → Mem row S P → 1 ≤ g → P = g * P' → S = g * S' → 1 ≤ P' → P' ≤ 4 → 1 ≤ S' → S' ≤ 6 → g = ((Nat.gcd P.toNat S.toNat : Nat) : Int) → Q (.tup [.int P', .int S']) none) : W_growth [.val (tI row)] Q := by
  obtain ⟨s, r, e⟩ : ∃ s r, row = s :: r := by
    cases row with
    | nil => have := R.pos; simp at this
    | cons s r => exact ⟨s, r, rfl⟩
  have rs := R.step s (by rw [e]; simp)
  refine ⟨?_⟩
  refine seq_of ⟨rfl, rfl, ⟨row, rfl, R, ?_⟩⟩
  refine ite_two ?_
  have ha : atI (row.map D.int) 0 = some (.int s) := atI_nat (j := 0) (by rw [e]; rfl)
  refine seq_of ?_
  conv => whnf
  rw [ha]
  refine ⟨by decide, by decide, ?_⟩
  refine gr_loop R row [] s 1 none none rfl ⟨rs.1, rs.2, by decide, by decide, nofun⟩ ⟨(s, 1), by rw [e]; exact List.mem_cons_self, rfl, rfl⟩ fun S P x3 x4 h hm => ?_
  have s1 := h.s1
  have s6 := h.s6
  have p1 := h.p1
  have p4 := h.p4
  obtain ⟨a, rfl⟩ : ∃ a : Nat, P = a := ⟨P.toNat, by omega⟩
  obtain ⟨b, rfl⟩ : ∃ b : Nat, S = b := ⟨S.toNat, by omega⟩
  have g1 : 1 ≤ Nat.gcd a b := Nat.gcd_pos_of_pos_left _ (by omega)
  have g4 : Nat.gcd a b ≤ a := Nat.gcd_le_left _ (by omega)
  have e1 := div_ex a (Nat.gcd a b) (Nat.gcd_dvd_left a b) g1
  have e2 := div_ex b (Nat.gcd a b) (Nat.gcd_dvd_right a b) g1
  have z := q b a (Nat.gcd a b : Nat) _ _ h hm (by omega) e1 e2
  generalize hA : Int.fdiv (a : Int) ((Nat.gcd a b : Nat) : Int) = A at z e1
  generalize hB : Int.fdiv (b : Int) ((Nat.gcd a b : Nat) : Int) = B at z e2
  have gg : Nat.gcd a b = 1 ∨ Nat.gcd a b = 2 ∨ Nat.gcd a b = 3 ∨ Nat.gcd a b = 4 := by omega
  have bnd : 1 ≤ A ∧ A ≤ 4 ∧ 1 ≤ B ∧ B ≤ 6 := by
    rcases gg with h | h | h | h <;> rw [h] at e1 e2 <;> omega
  have z := z bnd.1 bnd.2.1 bnd.2.2.1 bnd.2.2.2 rfl
  have z1 : 1 ≤ ((Nat.gcd a b : Nat) : Int) := by omega
  have z4 : ((Nat.gcd a b : Nat) : Int) ≤ 4 := by omega
  refine ⟨⟨?_, ?_⟩, ⟨?_, ?_⟩, sz rfl, ?_⟩
  · show ((Nat.gcd a b : Nat) : Int) ≠ 0
    omega
  · show ((Nat.gcd a b : Nat) : Int).natAbs < _
    omega
  · show ((Nat.gcd a b : Nat) : Int) ≠ 0
    omega
  · show ((Nat.gcd a b : Nat) : Int).natAbs < _
    omega
  · rw [← hA, ← hB] at z
    exact z
end
end LK
namespace LK
open PySem PySem.Spec PyProof.Rows L2 CD DL
/-! ### ticks: each one by those ahead; what they grow by -/
section
variable {row gone : List Int}
theorem tick_zero : tickV row gone 0 = some 0 := rfl
theorem tick_next (n : Nat) : tickV row gone (n + 1) = if ((n + 1 : Nat) : Int) ∈ gone then none else leastO ((row.zipIdx 1).filterMap (callF (film row gone n))) := by
  unfold tickV
  rw [film_last]
  unfold nextF
  rw [film_len]
theorem film_tick {n i : Nat} (h : i ≤ n) : (film row gone n).getD i none = tickV row gone i := by
  obtain ⟨k, rfl⟩ : ∃ k, n = i + k := ⟨n - i, by omega⟩
  exact film_pre row gone k i i (Nat.le_refl _)
/-- who may call n + 1, by a step -/
theorem back_tick {n : Nat} {s : Int} (h1 : 1 ≤ s) : backF (film row gone n) s = if s.toNat ≤ n + 1 then tickV row gone (n + 1 - s.toNat) else none := by
  unfold backF
  rw [film_len]
  split
  · rw [film_tick (by omega)]
  · rfl
/-- the film of five nobodies more ahead -/
def fw (row gone : List Int) (i : Nat) : Option Int := if i < 5 then none else tickV row gone (i - 5)
theorem fm_eq {α β : Type} {f g : α → Option β} : ∀ {l : List α}, (∀ x ∈ l, f x = g x) → l.filterMap f = l.filterMap g
  | [], _ => rfl
  | x :: r, h => by rw [List.filterMap_cons, List.filterMap_cons, h x List.mem_cons_self, fm_eq fun y hy => h y (List.mem_cons_of_mem _ hy)]
theorem fw_row (R : IsRule row) : Row (fw row []) row 6 := by
  refine ⟨R.step, fun n hn => ?_⟩
  obtain ⟨m, rfl⟩ : ∃ m, n = m + 6 := ⟨n - 6, by omega⟩
  have e : fw row [] (m + 6) = tickV row [] (m + 1) := by unfold fw; rw [if_neg (by omega)]; congr 1
  rw [e, tick_next, if_neg (by simp)]
  congr 1
  refine fm_eq fun p hp => ?_
  have rs := R.step p.1 (zip_step R.most hp).1
  unfold callF
  rw [back_tick rs.1]
  congr 1
  unfold fw
  by_cases c : p.1.toNat ≤ m + 1
  · rw [if_pos c, if_neg (by omega)]
    congr 1
    omega
  · rw [if_neg c, if_pos (by omega)]
theorem tick_grows (R : IsRule row) {S P : Int} (h : Least (row.zipIdx 1) S P) (hm : Mem row S P) {n : Nat} {t : Int} (ht : tickV row [] n = some t) : 0 ≤ S * t - P * n ∧ S * t - P * n ≤ 144 := by
  obtain ⟨⟨s, p⟩, hp, h1, h2⟩ := hm
  dsimp only at h1 h2
  have s1 := h.s1
  have s6 := h.s6
  have p1 := h.p1
  have p4 := h.p4
  obtain ⟨b, rfl⟩ : ∃ b : Nat, S = b := ⟨S.toNat, by omega⟩
  subst h1 h2
  have B : Best row b p := ⟨hp, by omega, by omega, by omega, h.le⟩
  have W := fw_row R
  have base : ∀ m, m < 6 → ∀ t, fw row [] m = some t → m = 5 ∧ t = 0 := fun m hm t ht => by
    unfold fw at ht
    split at ht
    · cases ht
    · have : m = 5 := by omega
      subst this
      have e : (some 0 : Option Int) = some t := ht
      cases e
      exact ⟨rfl, rfl⟩
  have ef : fw row [] (n + 5) = some t := by
    unfold fw
    rw [if_neg (by omega)]
    exact ht
  have lo := low_stays W B (L := -((p : Int) * 5)) (fun m hm t ht => by obtain ⟨rfl, rfl⟩ := base m hm t ht; simp) (n + 5) t ef
  have hi := high_stays W B R.most (by omega) (M := -((p : Int) * 5)) (fun m hm t ht => by obtain ⟨rfl, rfl⟩ := base m hm t ht; simp) (n + 5) (n + 5) t (by omega) ef
  have e5 : ((n + 5 : Nat) : Int) = (n : Int) + 5 := by omega
  rw [e5, Int.mul_add] at lo hi
  omega
theorem tick_exact (R : IsRule row) {S P : Int} (h : Least (row.zipIdx 1) S P) (hm : Mem row S P) {n : Nat} (hd : S ∣ (n : Int)) : ∃ t, tickV row [] n = some t ∧ S * t = P * n := by
  obtain ⟨⟨s, p⟩, hp, h1, h2⟩ := id hm
  dsimp only at h1 h2
  have s1 := h.s1
  have s6 := h.s6
  have p1 := h.p1
  have p4 := h.p4
  obtain ⟨b, rfl⟩ : ∃ b : Nat, S = b := ⟨S.toNat, by omega⟩
  subst h1 h2
  have B : Best row b p := ⟨hp, by omega, by omega, by omega, h.le⟩
  have W := fw_row R
  have up : ∀ k : Nat, ∃ t, tickV row [] (k * b) = some t ∧ t ≤ (k : Int) * p := fun k => by
    induction k with
    | zero => exact ⟨0, by rw [Nat.zero_mul]; rfl, by simp⟩
    | succ k ih =>
      obtain ⟨t, ht, hle⟩ := ih
      have e1 : fw row [] ((k + 1) * b + 5 - b) = some t := by
        rw [show (k + 1) * b + 5 - b = k * b + 5 by rw [Nat.add_mul, Nat.one_mul]; omega]
        unfold fw
        rw [if_neg (by omega), Nat.add_sub_cancel]
        exact ht
      have m1 : b ≤ (k + 1) * b := Nat.le_mul_of_pos_left b (Nat.succ_pos k)
      obtain ⟨t', h3, h4⟩ := best_le W B (n := (k + 1) * b + 5) (by omega) e1
      unfold fw at h3
      rw [if_neg (by omega), Nat.add_sub_cancel] at h3
      refine ⟨t', h3, ?_⟩
      have e2 : ((k + 1 : Nat) : Int) * (p : Int) = (k : Int) * p + p := by
        rw [show ((k + 1 : Nat) : Int) = (k : Int) + 1 from rfl, Int.add_mul, Int.one_mul]
      rw [e2]
      omega
  obtain ⟨k, hk⟩ := Int.natCast_dvd_natCast.mp hd
  rw [Nat.mul_comm] at hk
  obtain ⟨t, ht, hle⟩ := up k
  rw [← hk] at ht
  refine ⟨t, ht, ?_⟩
  have lo := (tick_grows R h hm ht).1
  have e3 : (p : Int) * (n : Int) = (b : Int) * ((k : Int) * p) := by
    rw [hk, Int.natCast_mul, Int.mul_comm (k : Int) b, Int.mul_left_comm, Int.mul_comm (p : Int) k]
  have e4 : (b : Int) * t ≤ (b : Int) * ((k : Int) * p) := Int.mul_le_mul_of_nonneg_left hle (by omega)
  omega
theorem tick_ones (h1 : (1 : Int) ∈ row) (R : IsRule row) : ∀ n : Nat, tickV row [] n ≠ none
  | 0 => by rw [tick_zero]; exact nofun
  | n + 1 => by
    rw [tick_next, if_neg (by simp)]
    obtain ⟨j, hj⟩ := List.mem_iff_getElem?.mp h1
    have hm : ((1 : Int), 1 + j) ∈ row.zipIdx 1 := List.mem_of_getElem? (i := j) (by rw [List.getElem?_zipIdx, hj]; rfl)
    intro e
    have z := leastO_none e
    have ih := tick_ones h1 R n
    cases et : tickV row [] n with
    | none => exact ih et
    | some t =>
      have c : callF (film row [] n) ((1 : Int), 1 + j) = some (t + ((1 + j : Nat) : Int)) := by
        show (backF (film row [] n) 1).map _ = _
        rw [back_tick (by decide), if_pos (by show 1 ≤ n + 1; omega)]
        show (tickV row [] (n + 1 - 1)).map _ = _
        rw [Nat.add_sub_cancel, et]
        rfl
      have : t + ((1 + j : Nat) : Int) ∈ (row.zipIdx 1).filterMap (callF (film row [] n)) := List.mem_filterMap.mpr ⟨_, hm, c⟩
      rw [z] at this
      cases this
theorem tick_le (R : IsRule row) : ∀ (n : Nat) (t : Int), tickV row gone n = some t → 0 ≤ t ∧ t ≤ 4 * n := by
  intro n
  induction n using Nat.strongRecOn with
  | ind n ih =>
    intro t e
    cases n with
    | zero => rw [tick_zero] at e; cases e; exact ⟨by decide, by decide⟩
    | succ n =>
      rw [tick_next] at e
      split at e
      · cases e
      · obtain ⟨m, _⟩ := leastO_spec e
        obtain ⟨p, hp, he⟩ := List.mem_filterMap.mp m
        obtain ⟨z1, z2, z3⟩ := zip_step R.most hp
        have rs := R.step p.1 z1
        unfold callF at he
        rw [back_tick rs.1] at he
        split at he
        · obtain ⟨t0, h0, h1⟩ := Option.map_eq_some_iff.mp he
          have := ih _ (by omega) t0 h0
          omega
        · cases he
theorem tick_ok (R : IsRule row) {n : Nat} (hn : (n : Int) ≤ 10 ^ 30) {t : Int} (e : tickV row gone n = some t) : okB t := by
  have h := tick_le R n t e
  have z : (4 : Int) * 10 ^ 30 ≤ 10 ^ 31 := by decide
  exact ⟨by omega, by omega⟩
theorem shw_one {o : Option Int} (h : ∀ i, o = some i → okB i) : Shw (oD o) :=
  shw_of (L := 100) (k := 0) (by rw [oD_sz]; decide) (by decide) (oD_bd h) (oD_nd o)
theorem abs_nil : IsAbs [] := ⟨by decide, nofun, rfl⟩
theorem w_tick {n : Nat} {Q : QD} (R : IsRule row) (hn : (n : Int) ≤ 10 ^ 30) (q : Q (oD (tickV row [] n)) none) : W_tick_of_n [.val (tI row), .val (tI []), .val (.int n)] Q := ⟨row, [], n, rfl, R, abs_nil, hn, q⟩
end
end LK
set_option maxHeartbeats 400000
namespace LK
open PySem PySem.Spec PyProof.Rows L2 CD DL
/-! ### _law_growth -/
def halves (p : Nat × Nat) : Nat × Nat := if p.1 % 2 = 0 ∧ p.2 % 2 = 0 then (p.1 / 2, p.2 / 2) else p
def red (a b : Nat) : Nat × Nat := if a % 2 = 0 ∧ b % 2 = 0 then halves (a / 2, b / 2) else if a % 3 = 0 ∧ b % 3 = 0 then halves (a / 3, b / 3) else if a % 4 = 0 ∧ b % 4 = 0 then halves (a / 4, b / 4) else (a, b)
theorem red_eq : ∀ a, a < 5 → ∀ b, b < 7 → 1 ≤ a → 1 ≤ b → red a b = (a / Nat.gcd a b, b / Nat.gcd a b) := by decide +kernel
theorem fmod_nat (a k : Nat) : Int.fmod (a : Int) (k : Int) = ((a % k : Nat) : Int) := by
  rw [Int.fmod_eq_emod_of_nonneg _ (by omega)]
  rfl
theorem fdivN (a k : Nat) : Int.fdiv (a : Int) (k : Int) = ((a / k : Nat) : Int) := by
  rw [Int.fdiv_eq_ediv_of_nonneg _ (by omega)]
  rfl
theorem fm0 {a k : Nat} : (decide (Int.fmod (a : Int) (k : Int) = 0) = true) ↔ a % k = 0 := by
  rw [decide_eq_true_eq, fmod_nat]
  omega
theorem by_2 {t l : Nat} {x0 x1 : Option SV} {Q : UEnds} (q : Q.rt (.tup [.int ((halves (t, l)).1 : Nat), .int ((halves (t, l)).2 : Nat)]) [x0, x1, some (.val (.int (t : Nat))), some (.val (.int (l : Nat)))]) : i__law_growth_by_2 Q [x0, x1, some (.val (.int (t : Nat))), some (.val (.int (l : Nat)))] := by
  have n2 : (2 : Int) ≠ 0 := by decide
  have stop : ¬ (t % 2 = 0 ∧ l % 2 = 0) → Q.rt (.tup [.int (t : Nat), .int (l : Nat)]) [x0, x1, some (.val (.int (t : Nat))), some (.val (.int (l : Nat)))] := fun c => by
    unfold halves at q
    rw [if_neg c] at q
    exact q
  refine ⟨n2, ?_⟩
  conv => whnf
  refine drec (fun e1 => ?_) (fun e1 => ⟨sz rfl, stop fun c => e1 (fm0.mpr c.1)⟩)
  refine ⟨n2, ?_⟩
  conv => whnf
  refine drec (fun e2 => ?_) (fun e2 => ⟨sz rfl, stop fun c => e2 (fm0.mpr c.2)⟩)
  unfold halves at q
  rw [if_pos ⟨fm0.mp e1, fm0.mp e2⟩] at q
  have f1 : (t : Int).fdiv 2 = ((t / 2 : Nat) : Int) := fdivN t 2
  have f2 : (l : Int).fdiv 2 = ((l / 2 : Nat) : Int) := fdivN l 2
  refine ⟨⟨n2, by decide⟩, ⟨n2, by decide⟩, sz rfl, ?_⟩
  rw [← f1, ← f2] at q
  exact q
theorem w_by {a b k : Nat} {Q : QD} (hk : 2 ≤ k) (hk4 : k ≤ 4) (q : Q (.tup [.int ((halves (a / k, b / k)).1 : Nat), .int ((halves (a / k, b / k)).2 : Nat)]) none) : W__law_growth_by [.val (.tup [.int (a : Nat), .int (b : Nat)]), .val (.int (k : Nat))] Q := by
  have kn : (k : Int) ≠ 0 := by omega
  refine ⟨?_⟩
  refine seq_of ⟨⟨kn, by omega⟩, ⟨kn, by omega⟩, ?_⟩
  show i__law_growth_by_2 { nx := fun ρ => outQ false Q D.non ρ, rt := fun d ρ => outQ false Q d ρ } [some (.val (.tup [.int (a : Nat), .int (b : Nat)])), some (.val (.int (k : Nat))), some (.val (.int (Int.fdiv a k))), some (.val (.int (Int.fdiv b k)))]
  rw [fdivN, fdivN]
  exact by_2 q
section
variable {row : List Int} {Q : UEnds}
abbrev RGr3 (row : List Int) (a b : Nat) (x2 x3 : Option SV) : Rho := [some (.val (tI row)), some (.val (.tup [.int (a : Nat), .int (b : Nat)])), x2, x3]
theorem one_k {a b k : Nat} {x2 : Option SV} (hk : 2 ≤ k) (hk4 : k ≤ 4) (q1 : a % k = 0 ∧ b % k = 0 → Q.rt (.tup [.int ((halves (a / k, b / k)).1 : Nat), .int ((halves (a / k, b / k)).2 : Nat)]) (RGr3 row a b x2 (some (.val (.int (k : Nat)))))) (q2 : ¬ (a % k = 0 ∧ b % k = 0) → Q.nx (RGr3 row a b x2 (some (.val (.int (k : Nat)))))) :
    i__law_growth_6 Q (RGr3 row a b x2 (some (.val (.int (k : Nat))))) := by
  have kn : (k : Int) ≠ 0 := by omega
  refine ⟨kn, ?_⟩
  conv => whnf
  refine drec (fun e1 => ?_) (fun e1 => q2 fun c => e1 (fm0.mpr c.1))
  refine ⟨kn, ?_⟩
  conv => whnf
  refine drec (fun e2 => ?_) (fun e2 => q2 fun c => e2 (fm0.mpr c.2))
  refine ⟨rfl, rfl, w_by hk hk4 ?_⟩
  exact q1 ⟨fm0.mp e1, fm0.mp e2⟩
theorem all_k {a b : Nat} {x2 x3 : Option SV} {pq : Nat × Nat} (hp : pq = red a b) (q : ∀ x3, Q.rt (.tup [.int (pq.1 : Nat), .int (pq.2 : Nat)]) (RGr3 row a b x2 x3)) (q2 : pq = (a, b) → ∀ x3, Q.nx (RGr3 row a b x2 x3)) : i__law_growth_7 Q (RGr3 row a b x2 x3) := by
  refine ⟨sz rfl, ?_⟩
  show goFor (ugName 3) i__law_growth_6 Q [D.int 2, D.int 3, D.int 4] _
  unfold red at hp
  refine one_k (k := 2) (by decide) (by decide) (fun c => ?_) (fun c2 => ?_)
  · rw [if_pos c] at hp
    rw [← hp]
    exact q _
  rw [if_neg c2] at hp
  refine one_k (k := 3) (by decide) (by decide) (fun c => ?_) (fun c3 => ?_)
  · rw [if_pos c] at hp
    rw [← hp]
    exact q _
  rw [if_neg c3] at hp
  refine one_k (k := 4) (by decide) (by decide) (fun c => ?_) (fun c4 => ?_)
  · rw [if_pos c] at hp
    rw [← hp]
    exact q _
  rw [if_neg c4] at hp
  exact q2 hp _
abbrev RGq (row : List Int) (P S : Int) (x2 : Option SV) : Rho := [some (.val (tI row)), some (.val (.tup [.int P, .int S])), x2, none]
theorem g_turn {S P : Int} {i : Nat} (R : IsRule row) (hi : i < row.length) (h : Least ((row.take i).zipIdx 1) S P) (hm : Mem row S P) (q : ∀ S P, Least ((row.take (i + 1)).zipIdx 1) S P → Mem row S P → Q.nx (RGq row P S (some (.val (.int (i : Nat)))))) :
    i__law_growth_3 Q (RGq row P S (some (.val (.int (i : Nat))))) := by
  have mo := R.most
  obtain ⟨s, hs⟩ : ∃ s, row[i]? = some s := ⟨_, List.getElem?_eq_getElem hi⟩
  have rs := R.step s (List.mem_of_getElem? hs)
  have ha : atI (row.map D.int) (i : Int) = some (.int s) := atI_nat (by rw [List.getElem?_map, hs]; rfl)
  have tl : (row.take i).length = i := by rw [List.length_take]; omega
  have z := h.snoc (p := i + 1) rs.1 rs.2 (by omega) (by omega) fun q hq => (R.step q.1 (List.mem_of_mem_take (zip_step (rule := row.take i) (by omega) hq).1)).1
  have ez : (row.take (i + 1)).zipIdx 1 = (row.take i).zipIdx 1 ++ [(s, i + 1)] := by
    rw [List.take_add_one, hs, List.zipIdx_append, tl]
    congr 1
    show [(s, 1 + i)] = _
    rw [Nat.add_comm]
  rw [← ez] at z
  have h1 := h.s1
  have h6 := h.s6
  have ec : (((i + 1 : Nat)) : Int) = (i : Int) + 1 := by omega
  rw [ec] at z
  refine ⟨.inr ⟨by omega, by omega⟩, ?_⟩
  conv => whnf
  rw [ha]
  refine ⟨.inr ⟨by omega, by omega⟩, ?_⟩
  conv => whnf
  refine drec (fun c => ?_) (fun c => ?_)
  · rw [if_pos (of_decide_eq_true c)] at z
    conv => whnf
    rw [ha]
    exact ⟨sz rfl, q s _ z ⟨(s, 1 + i), List.mem_of_getElem? (i := i) (by rw [List.getElem?_zipIdx, hs]; rfl), rfl, by show ((1 + i : Nat) : Int) = _; omega⟩⟩
  · rw [if_neg fun x => c (decide_eq_true x)] at z
    exact q S P z hm
theorem g_4 {s : Int} {r : List Int} (R : IsRule row) (e : row = s :: r) (q : ∀ (S P : Nat) x2, Least (row.zipIdx 1) S P → Mem row S P → Q.nx [some (.val (tI row)), some (.val (.tup [.int (P : Nat), .int (S : Nat)])), x2, none]) : i__law_growth_4 Q [some (.val (tI row)), some (.val (.tup [.int 1, .int s])), none, none] := by
  have rs := R.step s (by rw [e]; simp)
  have mo := R.most
  have el : ((row.map D.int).length : Int) = row.length := by rw [List.length_map]
  refine ⟨by rw [el]; omega, by rw [el]; omega, ?_⟩
  rw [el, Int.toNat_natCast]
  refine goFor_rgD (I := fun i ρ => ∃ S P x2, ρ = RGq row P S x2 ∧ Least ((row.take i).zipIdx 1) S P ∧ Mem row S P) row.length (fun i ρ Q' hi hr hI hq => ?_) _ ⟨s, 1, none, rfl, ⟨rs.1, rs.2, by decide, by decide, nofun⟩, ⟨(s, 1), by rw [e]; exact List.mem_cons_self, rfl, rfl⟩⟩ fun ρ hI => ?_
  · obtain ⟨S, P, x2, rfl, h, hm⟩ := hI
    rw [Int.zero_add]
    exact g_turn R hi h hm fun S P h' hm' => hq _ ⟨S, P, _, rfl, h', hm'⟩
  · obtain ⟨S, P, x2, rfl, h, hm⟩ := hI
    rw [List.take_of_length_le (Nat.le_refl _)] at h
    have s1 := h.s1
    have p1 := h.p1
    obtain ⟨a, rfl⟩ : ∃ a : Nat, P = a := ⟨P.toNat, by omega⟩
    obtain ⟨b, rfl⟩ : ∃ b : Nat, S = b := ⟨S.toNat, by omega⟩
    exact q b a x2 h hm
theorem g_1 {s : Int} {r : List Int} (e : row = s :: r) (q : Q.nx [some (.val (tI row)), some (.val (.tup [.int 1, .int s])), none, none]) : i__law_growth_1 Q [some (.val (tI row)), none, none, none] := by
  have ha : atI (row.map D.int) 0 = some (.int s) := atI_nat (j := 0) (by rw [e]; rfl)
  conv => whnf
  rw [ha]
  exact ⟨sz rfl, q⟩
end
theorem w_law_growth {row : List Int} {Q : QD} (R : IsRule row) (q : ∀ S P : Nat, Least (row.zipIdx 1) S P → Mem row S P → Q (.tup [.int ((red P S).1 : Nat), .int ((red P S).2 : Nat)]) none) : W__law_growth [.val (tI row)] Q := by
  obtain ⟨s, r, e⟩ : ∃ s r, row = s :: r := by
    cases row with
    | nil => have := R.pos; simp at this
    | cons s r => exact ⟨s, r, rfl⟩
  refine ⟨?_⟩
  show uSeq i__law_growth_1 (uSeq i__law_growth_4 (uSeq i__law_growth_7 (uRet (uVar 1)))) _ [some (.val (tI row)), none, none, none]
  refine seq_of (g_1 e ?_)
  refine seq_of (g_4 R e fun b a x2 h hm => ?_)
  have z := q b a h hm
  obtain ⟨pq, hp⟩ : ∃ pq, pq = red a b := ⟨_, rfl⟩
  rw [← hp] at z
  show uSeq i__law_growth_7 (uRet (uVar 1)) _ [some (.val (tI row)), some (.val (.tup [.int (a : Nat), .int (b : Nat)])), x2, none]
  refine seq_of (all_k hp (fun x3 => z) fun e2 x3 => ?_)
  rw [e2] at z
  exact z
section
variable {row : List Int} {Q : UEnds}
/-- two least ones are alike -/
theorem least_two {S P S2 P2 : Int} (h : Least (row.zipIdx 1) S P) (hm : Mem row S P) (h2 : Least (row.zipIdx 1) S2 P2) (hm2 : Mem row S2 P2) : P * S2 = P2 * S := by
  obtain ⟨p, hp, e1, e2⟩ := hm
  obtain ⟨p', hp', e1', e2'⟩ := hm2
  have a := h.le p' hp'
  have b := h2.le p hp
  rw [e1', e2'] at a
  rw [e1, e2] at b
  rw [Int.mul_comm S] at a
  rw [Int.mul_comm S2] at b
  omega
def redAll : Bool := (List.range 5).all fun a => (List.range 7).all fun b => (List.range 5).all fun c => (List.range 7).all fun d => !(decide (1 ≤ a) && decide (1 ≤ b) && decide (1 ≤ c) && decide (1 ≤ d) && decide (a * d = c * b)) || (decide (a / Nat.gcd a b = c / Nat.gcd c d) && decide (b / Nat.gcd a b = d / Nat.gcd c d))
theorem red_all : redAll = true := by decide +kernel
theorem red_two {a b c d : Nat} (ha : a < 5) (hb : b < 7) (hc : c < 5) (hd : d < 7) (a1 : 1 ≤ a) (b1 : 1 ≤ b) (c1 : 1 ≤ c) (d1 : 1 ≤ d) (e : a * d = c * b) : a / Nat.gcd a b = c / Nat.gcd c d ∧ b / Nat.gcd a b = d / Nat.gcd c d := by
  have z := List.all_eq_true.mp (List.all_eq_true.mp (List.all_eq_true.mp (List.all_eq_true.mp red_all a (List.mem_range.mpr ha)) b (List.mem_range.mpr hb)) c (List.mem_range.mpr hc)) d (List.mem_range.mpr hd)
  rw [decide_eq_true a1, decide_eq_true b1, decide_eq_true c1, decide_eq_true d1, decide_eq_true e] at z
  simpa using z
end
theorem red_same {row : List Int} {S P g S' P' : Int} {S2 P2 : Nat} (h : Least (row.zipIdx 1) S P) (hm : Mem row S P) (g1 : 1 ≤ g) (eP : P = g * P') (eS : S = g * S') (eg : g = ((Nat.gcd P.toNat S.toNat : Nat) : Int)) (h2 : Least (row.zipIdx 1) S2 P2) (hm2 : Mem row S2 P2) :
    P' = ((red P2 S2).1 : Nat) ∧ S' = ((red P2 S2).2 : Nat) := by
  have e := least_two h hm h2 hm2
  have p1 := h.p1
  have p4 := h.p4
  have s1 := h.s1
  have s6 := h.s6
  have q1 := h2.p1
  have q4 := h2.p4
  have t1 := h2.s1
  have t6 := h2.s6
  obtain ⟨a, rfl⟩ : ∃ a : Nat, P = a := ⟨P.toNat, by omega⟩
  obtain ⟨b, rfl⟩ : ∃ b : Nat, S = b := ⟨S.toNat, by omega⟩
  rw [Int.toNat_natCast, Int.toNat_natCast] at eg
  have e' : a * S2 = P2 * b := by exact_mod_cast e
  rw [red_eq P2 (by omega) S2 (by omega) (by omega) (by omega)]
  obtain ⟨r1, r2⟩ := red_two (a := a) (b := b) (c := P2) (d := S2) (by omega) (by omega) (by omega) (by omega) (by omega) (by omega) (by omega) (by omega) e'
  rw [← r1, ← r2]
  generalize hG : Nat.gcd a b = G at *
  show P' = ((a / G : Nat) : Int) ∧ S' = ((b / G : Nat) : Int)
  have d1 : G ∣ a := hG ▸ Nat.gcd_dvd_left a b
  have d2 : G ∣ b := hG ▸ Nat.gcd_dvd_right a b
  have m1 : ((G : Nat) : Int) * ((a / G : Nat) : Int) = a := by exact_mod_cast Nat.mul_div_cancel' d1
  have m2 : ((G : Nat) : Int) * ((b / G : Nat) : Int) = b := by exact_mod_cast Nat.mul_div_cancel' d2
  rw [eg] at eP eS g1
  have g0 : ((G : Nat) : Int) ≠ 0 := by omega
  exact ⟨Int.eq_of_mul_eq_mul_left g0 (by omega), Int.eq_of_mul_eq_mul_left g0 (by omega)⟩
end LK
namespace LK
open PySem PySem.Spec PyProof.Rows L2 CD DL
/-! ### where two rules part -/
def dif (fl gl : List (Option Int)) : List Nat := (List.range 60).filter fun k => decide (fl.getD k none ≠ gl.getD k none)
theorem dif_comm (fl gl : List (Option Int)) : dif fl gl = dif gl fl := by
  unfold dif
  congr 1
  funext k
  exact decide_eq_decide.mpr ⟨fun h e => h e.symm, fun h e => h e.symm⟩
theorem filter_head {p : Nat → Bool} : ∀ (n j : Nat), j < n → p j = true → (∀ k, k < j → p k = false) → ((List.range n).filter p).head? = some j := by
  intro n
  induction n with
  | zero => intro j h; omega
  | succ n ih =>
    intro j hj hp hb
    rw [List.range_succ, List.filter_append, List.head?_append]
    by_cases c : j < n
    · rw [ih j c hp hb]; rfl
    · have : j = n := by omega
      subst this
      have e : (List.range j).filter p = [] := List.filter_eq_nil_iff.mpr fun k hk => by rw [hb k (List.mem_range.mp hk)]; decide
      rw [e, List.filter_cons, hp]
      rfl
theorem dif_some {fl gl : List (Option Int)} {j : Nat} (hj : j < 60) (h : fl.getD j none ≠ gl.getD j none) (hb : ∀ k, k < j → fl.getD k none = gl.getD k none) : (dif fl gl).head? = some j :=
  filter_head 60 j hj (decide_eq_true h) fun k hk => decide_eq_false fun z => z (hb k hk)
theorem dif_none {fl gl : List (Option Int)} (h : ∀ k, k < 60 → fl.getD k none = gl.getD k none) : dif fl gl = [] :=
  List.filter_eq_nil_iff.mpr fun k hk => by rw [decide_eq_false fun z => z (h k (List.mem_range.mp hk))]; decide
/-- a film of four hundred -/
def film6 (ns : List Int) : List (Option Int) := film ns [] 59
theorem film6_len (ns : List Int) : (film6 ns).length = 60 := film_len ns [] 59
theorem film6_at (ns : List Int) {k : Nat} (h : k < 60) : (film6 ns).getD k none = tickV ns [] k := film_getD ns (by omega)
def due (ns ms : List Int) : Option Nat := (dif (film6 ns) (film6 ms)).head?
theorem due_comm (ns ms : List Int) : due ns ms = due ms ns := by unfold due; rw [dif_comm]
def dueD (ns ms : List Int) : D := oD ((due ns ms).map fun k : Nat => (k : Int))
theorem w_part {ns ms : List Int} {Q : QD} (hN : IsRule ns) (hM : IsRule ms) (q : Q (dueD ns ms) none) : W_part_line_n [.val (tI ns), .val (tI ms)] Q := by
  obtain ⟨F, G, _, R1⟩ := fits_app hN hM
  refine ⟨ns, ms, rfl, hN, hM, fun i hi hp hn => ?_, fun hn => ?_⟩
  · obtain ⟨a, b⟩ := part_first F G R1 hp hn
    have e : due ns ms = some (i + 1) := dif_some (by omega) (by rw [film6_at ns (by omega), film6_at ms (by omega)]; exact a) fun k hk => by
      rw [film6_at ns (by omega), film6_at ms (by omega)]
      exact b k (by omega)
    unfold dueD at q
    rw [e] at q
    exact q
  · have e : due ns ms = none := by
      unfold due
      rw [dif_none fun k hk => by rw [film6_at ns hk, film6_at ms hk]; exact part_never F G R1 hn k]
      rfl
    unfold dueD at q
    rw [e] at q
    exact q
theorem due_tick {ns ms : List Int} {k : Nat} (h : due ns ms = some k) : k < 60 ∧ tickV ns [] k ≠ tickV ms [] k := by
  have hm : k ∈ dif (film6 ns) (film6 ms) := List.mem_of_mem_head? (by unfold due at h; rw [h]; rfl)
  obtain ⟨h1, h2⟩ := List.mem_filter.mp hm
  have hk := List.mem_range.mp h1
  have z := of_decide_eq_true h2
  rw [film6_at ns hk, film6_at ms hk] at z
  exact ⟨hk, z⟩
theorem due_self (ns : List Int) : due ns ns = none := by
  unfold due
  rw [dif_none fun _ _ => rfl]
  rfl
theorem due_small {ns ms : List Int} {k : Nat} (h : due ns ms = some k) : k < 60 := (due_tick h).1
end LK
namespace LK
open PySem PySem.Spec PyProof.Rows L2 CD DL
/-! ### _law_right -/
def difD (fl gl : List (Option Int)) (d : D) : Bool := match d with
  | .int i => decide (fl.getD i.toNat none ≠ gl.getD i.toNat none)
  | _ => false
def difI (fl gl : List (Option Int)) : List Int := (dif fl gl).map fun k : Nat => (k : Int)
theorem dif_map (fl gl : List (Option Int)) : (rgD 0 60).filter (difD fl gl) = (difI fl gl).map D.int := by
  unfold rgD difI dif
  rw [List.map_map]
  rw [List.filter_map]
  have e : (fun i : Nat => D.int (0 + (i : Int))) = fun k : Nat => D.int (k : Int) := funext fun k => by rw [Int.zero_add]
  rw [e]
  congr 1
theorem oD_neq {a b : Option Int} : scD (oD a) (oD b) = some (decide (a = b)) := by
  cases a <;> cases b
  · rfl
  · rfl
  · rfl
  · rename_i x y
    show some (decide (x = y)) = some (decide (some x = some y))
    congr 1
    exact decide_eq_decide.mpr ⟨fun h => h ▸ rfl, fun h => Option.some.inj h⟩
abbrev oN (o : Option Nat) : D := oD (o.map fun k : Nat => (k : Int))
theorem w_walk6 {row : List Int} {Q : QD} (R : IsRule row) (q : Q (.list ((film6 row).map oD)) none) : W__law_walk [.val (tI row), .val (.tup []), .val (.int 60)] Q := by
  unfold film6 at q
  exact w_walk_n (N := 59) (by decide) R q
section
variable {n : Nat} {Q : UEnds} {row other : List Int} {x3 x4 x5 x6 x7 x8 x9 : Option SV}
abbrev RR (n : Nat) (row other : List Int) (x3 x4 x5 x6 x7 x8 x9 : Option SV) : Rho := [some (.gen n), some (.val (tI row)), some (.val (tI other)), x3, x4, x5, x6, x7, x8, x9]
theorem r_1 {fl gl : List (Option Int)} (h1 : fl = film6 row) (h2 : gl = film6 other) (R : IsRule row) (R2 : IsRule other) (q : Q.nx (RR n row other (some (.val (.list (fl.map oD)))) (some (.val (.list (gl.map oD)))) x5 x6 x7 x8 x9)) : i__law_right_1 Q (RR n row other x3 x4 x5 x6 x7 x8 x9) := by
  have w1 : ∀ Q : QD, Q (.list (fl.map oD)) none → W__law_walk [.val (tI row), .val (.tup []), .val (.int 60)] Q := fun Q z => w_walk6 R (by rw [← h1]; exact z)
  have w2 : ∀ Q : QD, Q (.list (gl.map oD)) none → W__law_walk [.val (tI other), .val (.tup []), .val (.int 60)] Q := fun Q z => w_walk6 R2 (by rw [← h2]; exact z)
  clear h1 h2
  refine ⟨sz rfl, rfl, rfl, w1 _ ?_⟩
  refine ite_two ?_
  refine ⟨sz rfl, rfl, rfl, w2 _ ?_⟩
  refine ite_two ?_
  exact ⟨sz rfl, rfl, q⟩
theorem r_2 {fl gl : List (Option Int)} (h1 : fl.length = 60) (h2 : gl.length = 60) (q : Q.nx (RR n row other (some (.val (.list (fl.map oD)))) (some (.val (.list (gl.map oD)))) none (some (.own (.list ((difI fl gl).map D.int)))) x7 x8 x9)) : i__law_right_2 Q (RR n row other (some (.val (.list (fl.map oD)))) (some (.val (.list (gl.map oD)))) none x6 x7 x8 x9) := by
  refine ⟨by omega, by omega, ?_⟩
  refine goLc_filt (f := difD fl gl) (fun d => ∃ k : Nat, d = .int k ∧ k < 60) (by show 5 < 10; decide) rfl (fun d K hd k => ?_) (rgD 0 60) [] (fun d hd => ?_) (by rw [rg_len, sizeLine_eq]; decide) ?_
  · obtain ⟨i, rfl, hi⟩ := hd
    have e1 : atI (fl.map oD) (i : Int) = some (oD (fl.getD i none)) := atI_nat (by rw [List.getElem?_map, List.getD_eq_getElem?_getD, List.getElem?_eq_getElem (show i < fl.length by omega)]; rfl)
    have e2 : atI (gl.map oD) (i : Int) = some (oD (gl.getD i none)) := atI_nat (by rw [List.getElem?_map, List.getD_eq_getElem?_getD, List.getElem?_eq_getElem (show i < gl.length by omega)]; rfl)
    conv => whnf
    rw [e1]
    conv => whnf
    rw [e2]
    have k : K (decide (fl.getD i none ≠ gl.getD i none)) _ := k
    clear e1 e2
    generalize fl.getD i none = a at k ⊢
    generalize gl.getD i none = b at k ⊢
    cases a <;> cases b
    · exact k
    · exact k
    · exact k
    · rename_i x y
      have e : decide ((some x : Option Int) ≠ some y) = !decide (x = y) := by
        by_cases c : x = y
        · subst c; simp
        · simp [c]
      rw [e] at k
      exact k
  · obtain ⟨i, rfl, i0, i1⟩ := rg_mem hd
    exact ⟨i.toNat, by rw [Int.toNat_of_nonneg i0], by omega⟩
  · rw [List.nil_append, dif_map]
    exact q
theorem r_3 {o : Option Nat} (ho : due row other = o) (R : IsRule row) (R2 : IsRule other) (q : Q.nx (RR n row other x3 x4 x5 x6 (some (.own (.list [oN o, oN o, oN o]))) x8 x9)) : i__law_right_3 Q (RR n row other x3 x4 x5 x6 x7 x8 x9) := by
  have w1 : ∀ Q : QD, Q (oN o) none → W_part_line_n [.val (tI row), .val (tI other)] Q := fun Q z => w_part R R2 (by unfold dueD; rw [ho]; exact z)
  have w2 : ∀ Q : QD, Q (oN o) none → W_part_line_n [.val (tI other), .val (tI row)] Q := fun Q z => w_part R2 R (by unfold dueD; rw [due_comm, ho]; exact z)
  clear ho
  refine ⟨rfl, rfl, w1 _ ?_⟩
  rw [if_pos (oD_fl _)]
  refine ⟨rfl, rfl, w2 _ ?_⟩
  rw [if_pos (oD_fl _)]
  refine ⟨rfl, rfl, w1 _ ?_⟩
  rw [if_pos (oD_fl _)]
  exact ⟨sz rfl, q⟩
theorem r_5 {z : Int} {zs : List Int} (hz : okB z) (q : ∀ ρ, gN ρ = some n → Q.rt (.bl true) ρ) : i__law_right_5 Q (RR n row other x3 x4 none (some (.own (.list ((z :: zs).map D.int)))) (some (.own (.list [.int z, .int z, .int z]))) none none) := by
  refine ⟨sz rfl, _, _, .list (PyOfL.ints (z :: zs)), .list .nil, shaped_ints (z :: zs), rfl, ?_⟩
  rw [eqv_nil, decide_eq_false nofun]
  have ha : atI ((z :: zs).map D.int) 0 = some (.int z) := atI_nat (j := 0) rfl
  have sh : Shw (.list [.int z, .int z, .int z]) := shw_os (os := [some z, some z, some z]) (fun i hi => by
    simp only [List.mem_cons, List.not_mem_nil, or_false, or_self, Option.some.injEq] at hi
    exact hi ▸ hz) (by show 3 ≤ 100; decide)
  conv => whnf
  rw [ha]
  refine ⟨sz rfl, by decide, by decide, by rw [sizeLine_eq]; exact Nat.le_of_ble_eq_true rfl, ?_⟩
  exact ⟨rfl, rfl, w_like sh (q _ rfl)⟩
theorem r_8 (q : Q.nx (RR n row other x3 x4 x5 x6 (some (.own (.list [.non, .non, .non]))) x8 x9)) : i__law_right_8 Q (RR n row other x3 x4 x5 x6 (some (.own (.list [.non, .non, .non]))) x8 x9) := by
  exact q
theorem r_12 {x3 x4 x5 x6 x8 x9 : Option SV} (q : ∀ ρ, gN ρ = some n → Q.rt (.bl true) ρ) : i__law_right_12 Q (RR n row other x3 x4 x5 x6 (some (.own (.list [.non, .non, .non]))) x8 x9) := by
  have sh : Shw (.list [.non, .non, .non]) := shw_os (os := [none, none, none]) (fun i hi => by simp at hi) (by decide)
  refine ⟨sz rfl, by decide, by decide, by rw [sizeLine_eq]; exact Nat.le_of_ble_eq_true rfl, ?_⟩
  exact ⟨rfl, rfl, w_like sh (q _ rfl)⟩
theorem r_turn {x3 x4 x6 x7 : D} {x9 : Option SV} {lap : D} (R : IsRule row) (R2 : IsRule other) (hn : n + 30 < 2 ^ 39) (same : ∀ k, tickV row [] k = tickV other [] k) (h9 : x9 = none ∨ ∃ d, x9 = some (.val d)) (q : ∀ m f, m ≤ n + 5 → Q.nx (RR m row other (some (.val x3)) (some (.val x4)) none (some (.own x6)) (some (.own x7)) (some (.val lap)) (some (.val f)))) :
    uSeq i__law_right_9 i__law_right_10 Q (RR n row other (some (.val x3)) (some (.val x4)) none (some (.own x6)) (some (.own x7)) (some (.val lap)) x9) := by
  have ten : ∀ (f c : Nat), (f : Int) ≤ 10 ^ 29 + 10 ^ 6 → c ≤ n + 5 → i__law_right_10 Q (RR c row other (some (.val x3)) (some (.val x4)) none (some (.own x6)) (some (.own x7)) (some (.val lap)) (some (.val (.int (f : Nat))))) := fun f c hf hc => by
    have z29 : (10 : Int) ^ 29 + 10 ^ 6 ≤ 10 ^ 30 := by decide
    have sh : Shw (oD (tickV row [] f)) := shw_one fun i e => tick_ok R (by omega) e
    refine ⟨sz rfl, rfl, rfl, w_tick R (by omega) ?_⟩
    rw [if_pos (oD_fl _)]
    refine ⟨sz rfl, rfl, rfl, w_tick R2 (by omega) ?_⟩
    rw [if_pos (oD_fl _), ← same f]
    exact ⟨rfl, rfl, w_like sh (q c _ (by omega))⟩
  rcases h9 with rfl | ⟨d, rfl⟩
  · exact ⟨rfl, rfl, w_far (by omega) fun f c f1 f2 hc => ite_two (ten f c f2 hc)⟩
  · exact ⟨rfl, rfl, w_far (by omega) fun f c f1 f2 hc => ite_two (ten f c f2 hc)⟩
theorem r_11 {x3 x4 x6 x7 : D} (R : IsRule row) (R2 : IsRule other) (hn : n + 50 < 2 ^ 39) (same : ∀ k, tickV row [] k = tickV other [] k) (q : ∀ m x8 x9, m ≤ n + 20 → Q.nx (RR m row other (some (.val x3)) (some (.val x4)) none (some (.own x6)) (some (.own x7)) x8 x9)) :
    i__law_right_11 Q (RR n row other (some (.val x3)) (some (.val x4)) none (some (.own x6)) (some (.own x7)) none none) := by
  refine ⟨by decide, by decide, ?_⟩
  refine goFor_rgD (I := fun i ρ => ∃ m x8 x9, ρ = RR m row other (some (.val x3)) (some (.val x4)) none (some (.own x6)) (some (.own x7)) x8 x9 ∧ m ≤ n + 5 * i ∧ (x9 = none ∨ ∃ d, x9 = some (.val d))) 4 (fun i ρ Q' hi hr hI hq => ?_) _ ⟨n, none, none, rfl, by omega, .inl rfl⟩ fun ρ hI => ?_
  · obtain ⟨m, x8, x9, rfl, hm, h9⟩ := hI
    exact r_turn R R2 (by omega) same h9 fun m2 f hm2 => hq _ ⟨m2, _, _, rfl, by omega, .inr ⟨_, rfl⟩⟩
  · obtain ⟨m, x8, x9, rfl, hm, h9⟩ := hI
    exact q m x8 x9 (by omega)
end
end LK
namespace LK
open PySem PySem.Spec PyProof.Rows L2 CD DL
/-! ### _law_right, all of it; _law_near -/
section
variable {n : Nat} {Q : UEnds} {row other : List Int} {x3 x4 x5 x6 x7 x8 x9 : Option SV}
theorem s_r_1 {b : US} {fl gl : List (Option Int)} (h1 : fl = film6 row) (h2 : gl = film6 other) (R : IsRule row) (R2 : IsRule other) (q : b Q (RR n row other (some (.val (.list (fl.map oD)))) (some (.val (.list (gl.map oD)))) x5 x6 x7 x8 x9)) : uSeq i__law_right_1 b Q (RR n row other x3 x4 x5 x6 x7 x8 x9) := r_1 (Q := { Q with nx := fun ρ' => b Q ρ' }) h1 h2 R R2 q
theorem s_r_2 {b : US} {fl gl : List (Option Int)} (h1 : fl.length = 60) (h2 : gl.length = 60) (q : b Q (RR n row other (some (.val (.list (fl.map oD)))) (some (.val (.list (gl.map oD)))) none (some (.own (.list ((difI fl gl).map D.int)))) x7 x8 x9)) : uSeq i__law_right_2 b Q (RR n row other (some (.val (.list (fl.map oD)))) (some (.val (.list (gl.map oD)))) none x6 x7 x8 x9) := r_2 (Q := { Q with nx := fun ρ' => b Q ρ' }) h1 h2 q
theorem s_r_3 {b : US} {o : Option Nat} (ho : due row other = o) (R : IsRule row) (R2 : IsRule other) (q : b Q (RR n row other x3 x4 x5 x6 (some (.own (.list [oN o, oN o, oN o]))) x8 x9)) : uSeq i__law_right_3 b Q (RR n row other x3 x4 x5 x6 x7 x8 x9) := r_3 (Q := { Q with nx := fun ρ' => b Q ρ' }) ho R R2 q
theorem s_r_8 {b : US} (q : b Q (RR n row other x3 x4 x5 x6 (some (.own (.list [.non, .non, .non]))) x8 x9)) : uSeq i__law_right_8 b Q (RR n row other x3 x4 x5 x6 (some (.own (.list [.non, .non, .non]))) x8 x9) := r_8 (Q := { Q with nx := fun ρ' => b Q ρ' }) q
theorem s_r_11 {b : US} {x3 x4 x6 x7 : D} (R : IsRule row) (R2 : IsRule other) (hn : n + 50 < 2 ^ 39) (same : ∀ k, tickV row [] k = tickV other [] k) (q : ∀ m x8 x9, m ≤ n + 20 → b Q (RR m row other (some (.val x3)) (some (.val x4)) none (some (.own x6)) (some (.own x7)) x8 x9)) : uSeq i__law_right_11 b Q (RR n row other (some (.val x3)) (some (.val x4)) none (some (.own x6)) (some (.own x7)) none none) := r_11 (Q := { Q with nx := fun ρ' => b Q ρ' }) R R2 hn same q
theorem s_r_5 {b : US} (q : b Q (RR n row other x3 x4 none (some (.own (.list (([] : List Int).map D.int)))) x7 x8 x9)) : uSeq i__law_right_5 b Q (RR n row other x3 x4 none (some (.own (.list (([] : List Int).map D.int)))) x7 x8 x9) := by
  refine ⟨sz rfl, _, _, .list (PyOfL.ints []), .list .nil, shaped_ints [], rfl, ?_⟩
  rw [eqv_nil, decide_eq_true rfl]
  exact q
theorem s_r_5c {b : US} {z : Int} {zs : List Int} (hz : okB z) (q : ∀ ρ, gN ρ = some n → Q.rt (.bl true) ρ) : uSeq i__law_right_5 b Q (RR n row other x3 x4 none (some (.own (.list ((z :: zs).map D.int)))) (some (.own (.list [.int z, .int z, .int z]))) none none) :=
  r_5 (Q := { Q with nx := fun ρ' => b Q ρ' }) hz q
end
theorem difI_head {row other : List Int} {fl gl : List (Option Int)} {o : Option Nat} (h1 : fl = film6 row) (h2 : gl = film6 other) (ho : due row other = o) : (difI fl gl).head? = o.map fun k : Nat => (k : Int) := by
  have e1 : (difI fl gl).head? = ((dif fl gl).head?).map fun k : Nat => (k : Int) := by unfold difI; exact List.head?_map ..
  have e2 : (dif fl gl).head? = o := by
    rw [← ho, h1, h2]
    unfold due
    exact Eq.refl _
  rw [e1, e2]
theorem due_same {row other : List Int} (R : IsRule row) (R2 : IsRule other) (h : due row other = none) : ∀ k, tickV row [] k = tickV other [] k := by
  obtain ⟨F, G, h6, R1⟩ := fits_app R R2
  refine part_never F G R1 fun i hp => ?_
  -- the first place where they part is small
  obtain ⟨j, hj, hpj, hm⟩ := st_least (p := fun i => Parts row other (R6 (row ++ other)) i) i hp
  have small : j ≤ 36 := by
    refine Nat.le_of_not_lt fun c => ?_
    obtain ⟨zz, mm, z1, z6, hag⟩ := again R (fun s hs => (F.st s hs).2) h6
    exact hpj (never_part (ms := other) z1 hag (fun k hk => Classical.byContradiction fun c2 => hm k (by omega) c2) j)
  obtain ⟨a, b⟩ := part_first F G R1 hpj fun k hk => hm k hk
  have e : due row other = some (j + 1) := dif_some (by omega) (by rw [film6_at row (by omega), film6_at other (by omega)]; exact a) fun k hk => by
    rw [film6_at row (by omega), film6_at other (by omega)]
    exact b k (by omega)
  rw [e] at h
  cases h
theorem w_right {n : Nat} {row other : List Int} {Q : QD} (R : IsRule row) (R2 : IsRule other) (hn : n + 60 < 2 ^ 39) (q : ∀ m, m ≤ n + 20 → Q (.bl true) (some m)) : W__law_right [.gen n, .val (tI row), .val (tI other)] Q := by
  have out : ∀ m, m ≤ n + 20 → ∀ ρ, gN ρ = some m → outQ true Q (.bl true) ρ := fun m hm ρ hg => by
    unfold outQ
    rw [if_pos rfl, hg]
    exact q m hm
  obtain ⟨fl, h1⟩ : ∃ fl, fl = film6 row := ⟨_, rfl⟩
  obtain ⟨gl, h2⟩ : ∃ gl, gl = film6 other := ⟨_, rfl⟩
  obtain ⟨o, ho⟩ : ∃ o, due row other = o := ⟨_, rfl⟩
  have l1 : fl.length = 60 := by rw [h1]; exact film6_len row
  have l2 : gl.length = 60 := by rw [h2]; exact film6_len other
  refine ⟨?_⟩
  show uSeq i__law_right_1 (uSeq i__law_right_2 (uSeq i__law_right_3 (uSeq i__law_right_5 (uSeq i__law_right_8 (uSeq i__law_right_11 i__law_right_12))))) { nx := fun ρ => outQ true Q D.non ρ, rt := fun d ρ => outQ true Q d ρ } (RR n row other none none none none none none none)
  refine s_r_1 h1 h2 R R2 ?_
  refine s_r_2 l1 l2 ?_
  refine s_r_3 ho R R2 ?_
  have hd := difI_head h1 h2 ho
  clear h1 h2
  cases o with
  | none =>
    have e : difI fl gl = [] := by
      cases c : difI fl gl with
      | nil => rfl
      | cons a r => rw [c] at hd; cases hd
    rw [e]
    refine s_r_5 ?_
    refine s_r_8 ?_
    refine s_r_11 R R2 (by omega) (due_same R R2 ho) fun m x8 x9 hm => ?_
    exact r_12 (out m hm)
  | some k =>
    obtain ⟨r, e⟩ : ∃ r, difI fl gl = (k : Int) :: r := by
      cases c : difI fl gl with
      | nil => rw [c] at hd; cases hd
      | cons a r => rw [c] at hd; cases hd; exact ⟨r, rfl⟩
    have ks := due_small ho
    rw [e]
    exact s_r_5c (z := (k : Int)) ⟨by omega, by omega⟩ (out n (by omega))
end LK
namespace LK
open PySem PySem.Spec PyProof.Rows L2 CD DL
/-! ### _law_near -/
theorem rule_perm {a b : List Int} (p : b.Perm a) (R : IsRule a) : IsRule b := ⟨by rw [p.length_eq]; exact R.pos, by rw [p.length_eq]; exact R.most, fun s hs => R.step s (p.mem_iff.mp hs), p.nodup_iff.mpr R.nodup⟩
theorem rule_turn {a : List Int} (v : Nat) (R : IsRule a) : IsRule (a.drop v ++ a.take v) := by
  refine rule_perm ?_ R
  refine List.perm_append_comm.trans ?_
  rw [List.take_append_drop]
theorem rule_less {a : List Int} {v : Nat} (hv : v < a.length) (h : 1 < a.length) (R : IsRule a) : IsRule (a.take v ++ a.drop (v + 1)) := by
  have e := take_drop (List.getElem?_eq_getElem hv)
  have sub : (a.take v ++ a.drop (v + 1)).Sublist a := by
    conv => rhs; rw [e]
    exact List.Sublist.append (List.Sublist.refl _) (List.sublist_cons_self _ _)
  have l : (a.take v ++ a.drop (v + 1)).length = a.length - 1 := by rw [List.length_append, List.length_take, List.length_drop]; omega
  have mo := R.most
  exact ⟨by omega, by omega, fun s hs => R.step s (sub.subset hs), R.nodup.sublist sub⟩
theorem rule_one {a : List Int} {m : Int} (h1 : 1 ≤ m) (h6 : m ≤ 6) (n : m ∉ a) (l : a.length < 4) (R : IsRule a) : IsRule (a ++ [m]) := by
  refine ⟨by rw [List.length_append]; simp, by rw [List.length_append, List.length_singleton]; omega, fun s hs => ?_, List.nodup_append.mpr ⟨R.nodup, by simp, fun x hx y hy e => ?_⟩⟩
  · rcases List.mem_append.mp hs with h | h
    · exact R.step s h
    · rw [List.mem_singleton.mp h]; exact ⟨h1, h6⟩
  · rw [List.mem_singleton.mp hy] at e
    exact n (e ▸ hx)
section
variable {n : Nat} {row : List Int} {Q : UEnds}
abbrev RNe (n : Nat) (row : List Int) (x2 x3 x4 : Option SV) : Rho := [some (.gen n), some (.val (tI row)), x2, x3, x4]
theorem ne_2 {w : D} {v : Nat} (R : IsRule row) (hv : v < row.length) (q : ∀ F ρ, IsRule F → gN ρ = some n → Q.rt (tI F) ρ) : i__law_near_2 Q (RNe n row (some (.val w)) (some (.val (.int (v : Nat)))) none) := by
  have mo := R.most
  have c1 : DL.cutD (row.map D.int) (some (v : Int)) none = (row.drop v).map D.int := by rw [cutD_from (by rw [List.length_map]; omega), List.map_drop]
  have c2 : DL.cutD (row.map D.int) none (some (v : Int)) = (row.take v).map D.int := by rw [cutD_to, List.map_take]
  conv => whnf
  rw [c1, c2]
  refine ⟨by rw [List.length_map, List.length_map, List.length_drop, List.length_take, sizeLine_eq]; omega, ?_⟩
  have z := q _ (RNe n row (some (.val w)) (some (.val (.int (v : Nat)))) none) (rule_turn v R) rfl
  unfold tI at z
  rw [List.map_append] at z
  exact z
theorem ne_6 {w m : Int} {x3 : Option SV} (R : IsRule row) (m1 : 1 ≤ m) (m6 : m ≤ 6) (q : ∀ F ρ, IsRule F → gN ρ = some n → Q.rt (tI F) ρ) (q2 : Q.nx (RNe n row (some (.val (.int w))) x3 (some (.val (.int m))))) : i__law_near_6 Q (RNe n row (some (.val (.int w))) x3 (some (.val (.int m)))) := by
  have mo := R.most
  have el : ((row.map D.int).length : Int) = row.length := by rw [List.length_map]
  conv => whnf
  refine drec (fun e1 => ?_) (fun _ => q2)
  conv => whnf
  refine drec (fun e2 => ?_) (fun _ => q2)
  have l4 : row.length < 4 := by
    have := of_decide_eq_true e2
    rw [el] at this
    omega
  refine ⟨rfl, ?_⟩
  conv => whnf
  rw [inF_ints]
  by_cases c : m ∈ row
  · rw [decide_eq_true c]
    exact q2
  · rw [decide_eq_false c]
    refine ⟨sz rfl, ?_⟩
    refine ⟨by rw [List.length_map, sizeLine_eq]; show row.length + 1 ≤ _; omega, ?_⟩
    have z := q _ (RNe n row (some (.val (.int w))) x3 (some (.val (.int m)))) (rule_one m1 m6 c l4 R) rfl
    unfold tI at z
    rw [List.map_append] at z
    exact z
theorem ne_7 {w m : D} {v : Nat} (R : IsRule row) (hv : v < row.length) (hn : n + 60 < 2 ^ 39) (q : ∀ F c ρ, IsRule F → c ≤ n + 10 → gN ρ = some c → Q.rt (tI F) ρ) : i__law_near_7 Q (RNe n row (some (.val w)) (some (.val (.int (v : Nat)))) (some (.val m))) := by
  have mo := R.most
  have el : ((row.map D.int).length : Int) = row.length := by rw [List.length_map]
  have c2 : DL.cutD (row.map D.int) none (some (v : Int)) = (row.take v).map D.int := by rw [cutD_to, List.map_take]
  have c1 : DL.cutD (row.map D.int) (some ((v : Int) + 1)) none = (row.drop (v + 1)).map D.int := by rw [show (v : Int) + 1 = ((v + 1 : Nat) : Int) by omega, cutD_from (by rw [List.length_map]; omega), List.map_drop]
  conv => whnf
  refine drec (fun e1 => ?_) (fun _ => ?_)
  · have l1 : 1 < row.length := by
      have := of_decide_eq_true e1
      rw [el] at this
      omega
    conv => whnf
    rw [c1, c2]
    refine ⟨by rw [List.length_map, List.length_map, List.length_drop, List.length_take, sizeLine_eq]; omega, ?_⟩
    have z := q _ n (RNe n row (some (.val w)) (some (.val (.int (v : Nat)))) (some (.val m))) (rule_less hv l1 R) (by omega) rfl
    unfold tI at z
    rw [List.map_append] at z
    exact z
  · exact ⟨rfl, rfl, w_line (by omega) fun F c R' hc => ite_two (q F c _ R' hc rfl)⟩
end
theorem w_near {n : Nat} {row : List Int} {Q : QD} (R : IsRule row) (hn : n + 90 < 2 ^ 39) (q : ∀ (F : List Int) (c : Nat), IsRule F → c ≤ n + 20 → Q (tI F) (some c)) : W__law_near [.gen n, .val (tI row)] Q := by
  have mo := R.most
  have po := R.pos
  have el : ((row.map D.int).length : Int) = row.length := by rw [List.length_map]
  have out : ∀ F c ρ, IsRule F → c ≤ n + 20 → gN ρ = some c → outQ true Q (tI F) ρ := fun F c ρ R' hc hg => by
    unfold outQ
    rw [if_pos rfl, hg]
    exact q F c R' hc
  have rest : ∀ (w : Int) (v : Nat), v < row.length → uSeq i__law_near_3 (uSeq i__law_near_4 (uSeq i__law_near_6 i__law_near_7)) { nx := fun ρ => outQ true Q D.non ρ, rt := fun d ρ => outQ true Q d ρ } (RNe (n + 2) row (some (.val (.int w))) (some (.val (.int (v : Nat)))) none) := fun w v hv => by
    refine seq_of ?_
    conv => whnf
    refine drec (fun _ => ?_) (fun _ => ?_)
    · exact ne_2 R hv fun F ρ R' hg => out F (n + 2) ρ R' (by omega) hg
    · refine ⟨rfl, rfl, w_draw (by omega) (by decide) (by decide) fun u u0 u1 => ?_⟩
      show uSeq i__law_near_6 i__law_near_7 _ (RNe (n + 3) row (some (.val (.int w))) (some (.val (.int (v : Nat)))) (some (.val (.int (1 + u)))))
      refine seq_of (ne_6 R (by omega) (by omega) (fun F ρ R' hg => out F (n + 3) ρ R' (by omega) hg) ?_)
      exact ne_7 R hv (by omega) fun F c ρ R' hc hg => out F c ρ R' (by omega) hg
  refine ⟨?_⟩
  refine seq_of ⟨rfl, rfl, w_draw (by omega) (by decide) (by decide) fun w w0 w1 => ?_⟩
  refine ⟨rfl, rfl, w_draw (by omega) (by rw [el]; omega) (by rw [el]; omega) fun v v0 v1 => ?_⟩
  rw [el] at v1
  obtain ⟨v, rfl⟩ : ∃ x : Nat, v = x := ⟨v.toNat, (Int.toNat_of_nonneg v0).symm⟩
  exact rest w v (by omega)
end LK
namespace LK
open PySem PySem.Spec PyProof.Rows L2 CD DL
/-! ### the law -/
structure Can (row : List Int) (S P : Nat) : Prop where
  h : Least (row.zipIdx 1) S P
  m : Mem row S P
theorem can_ex {row : List Int} (R : IsRule row) : ∃ S P, Can row S P := by
  obtain ⟨S, P, B⟩ := R.best
  have z := zip_step R.most B.mem
  exact ⟨S, P, ⟨by have := B.s1; omega, by have := B.s6; omega, by omega, by have := B.p4; omega, B.le⟩, ⟨_, B.mem, rfl, rfl⟩⟩
theorem w_growth_c {row : List Int} {S P : Nat} {Q : QD} (R : IsRule row) (C : Can row S P) (q : Q (.tup [.int ((red P S).1 : Nat), .int ((red P S).2 : Nat)]) none) : W_growth [.val (tI row)] Q :=
  w_growth R fun S2 P2 g S' P' h hm g1 eP eS a1 a4 b1 b6 eg => by
    obtain ⟨e1, e2⟩ := red_same h hm g1 eP eS eg C.h C.m
    rw [e1, e2]
    exact q
theorem red_can {row : List Int} {S P S2 P2 : Nat} (C : Can row S P) (C2 : Can row S2 P2) : red P2 S2 = red P S := by
  have e := least_two C2.h C2.m C.h C.m
  have p1 := C.h.p1
  have p4 := C.h.p4
  have s1 := C.h.s1
  have s6 := C.h.s6
  have q1 := C2.h.p1
  have q4 := C2.h.p4
  have t1 := C2.h.s1
  have t6 := C2.h.s6
  have e' : P2 * S = P * S2 := by exact_mod_cast e
  rw [red_eq P2 (by omega) S2 (by omega) (by omega) (by omega), red_eq P (by omega) S (by omega) (by omega) (by omega)]
  obtain ⟨r1, r2⟩ := red_two (a := P2) (b := S2) (c := P) (d := S) (by omega) (by omega) (by omega) (by omega) (by omega) (by omega) (by omega) (by omega) e'
  rw [r1, r2]
theorem w_law_growth_c {row : List Int} {S P : Nat} {Q : QD} (R : IsRule row) (C : Can row S P) (q : Q (.tup [.int ((red P S).1 : Nat), .int ((red P S).2 : Nat)]) none) : W__law_growth [.val (tI row)] Q :=
  w_law_growth R fun S2 P2 h hm => by
    rw [red_can C ⟨h, hm⟩]
    exact q
theorem red_le : ∀ a, a < 5 → ∀ b, b < 7 → (red a b).1 ≤ 10 ∧ (red a b).2 ≤ 10 := by decide +kernel
section
variable {ns : List Int} {n : Nat} {row : List Int} {Q : UEnds}
abbrev RLw (ns : List Int) (n : Nat) (x2 x3 x4 : Option SV) : Rho := [some (.val (.scr ns)), some (.gen n), x2, x3, x4]
theorem z_1 {lap : D} {x3 x4 : Option SV} (h : (x3 = none ∧ x4 = none) ∨ ∃ a b, x3 = some (.val a) ∧ x4 = some (.val b)) (hn : n + 100 < 2 ^ 39) (q : ∀ F c, IsRule F → c ≤ n + 10 → Q.nx (RLw ns c (some (.val lap)) (some (.val (tI F))) x4)) : i_law_1 Q (RLw ns n (some (.val lap)) x3 x4) := by
  rcases h with ⟨rfl, rfl⟩ | ⟨a, b, rfl, rfl⟩
  · exact ⟨rfl, rfl, w_line (by omega) fun F c R hc => ite_two (q F c R hc)⟩
  · exact ⟨rfl, rfl, w_line (by omega) fun F c R hc => ite_two (q F c R hc)⟩
theorem z_2 {lap : D} {other : List Int} (R : IsRule row) (R2 : IsRule other) (hn : n + 100 < 2 ^ 39) (q : ∀ m, m ≤ n + 20 → Q.nx (RLw ns m (some (.val lap)) (some (.val (tI row))) (some (.val (tI other))))) : i_law_2 Q (RLw ns n (some (.val lap)) (some (.val (tI row))) (some (.val (tI other)))) :=
  ⟨rfl, rfl, w_right R R2 (by omega) fun m hm => q m hm⟩
theorem z_3 {lap : D} {x4 : Option SV} (h : x4 = none ∨ ∃ b, x4 = some (.val b)) (R : IsRule row) (hn : n + 300 < 2 ^ 39) (q : ∀ m x4, (∃ b, x4 = some (.val b)) → m ≤ n + 100 → Q.nx (RLw ns m (some (.val lap)) (some (.val (tI row))) x4)) : i_law_3 Q (RLw ns n (some (.val lap)) (some (.val (tI row))) x4) := by
  have fin : ∀ (F G : List Int) (c : Nat), IsRule F → IsRule G → c ≤ n + 40 → goFor (ugName 4) i_law_2 Q [tI F, tI G, tI row] (RLw ns c (some (.val lap)) (some (.val (tI row))) x4) := fun F G c RF RG hc => by
    refine z_2 (Q := { Q with nx := _, ct := _, bk := _ }) R RF (by omega) fun m1 h1 => ?_
    refine z_2 (Q := { Q with nx := _, ct := _, bk := _ }) R RG (by omega) fun m2 h2 => ?_
    refine z_2 (Q := { Q with nx := _, ct := _, bk := _ }) R R (by omega) fun m3 h3 => ?_
    exact q m3 _ ⟨_, rfl⟩ (by omega)
  rcases h with rfl | ⟨b, rfl⟩
  · exact ⟨rfl, rfl, w_near R (by omega) fun F c RF hc => ite_two ⟨rfl, rfl, w_line (by omega) fun G c2 RG hc2 => ite_two ⟨sz rfl, fin F G c2 RF RG (by omega)⟩⟩⟩
  · exact ⟨rfl, rfl, w_near R (by omega) fun F c RF hc => ite_two ⟨rfl, rfl, w_line (by omega) fun G c2 RG hc2 => ite_two ⟨sz rfl, fin F G c2 RF RG (by omega)⟩⟩⟩
theorem z_4 {lap : D} {x4 : Option SV} (R : IsRule row) (q : Q.nx (RLw ns n (some (.val lap)) (some (.val (tI row))) x4)) : i_law_4 Q (RLw ns n (some (.val lap)) (some (.val (tI row))) x4) := by
  obtain ⟨S, P, C⟩ := can_ex R
  obtain ⟨pq, hp⟩ : ∃ pq, pq = red P S := ⟨_, rfl⟩
  have w1 : ∀ Q : QD, Q (.tup [.int (pq.1 : Nat), .int (pq.2 : Nat)]) none → W_growth [.val (tI row)] Q := fun Q z => w_growth_c R C (by rw [← hp]; exact z)
  have w2 : ∀ Q : QD, Q (.tup [.int (pq.1 : Nat), .int (pq.2 : Nat)]) none → W__law_growth [.val (tI row)] Q := fun Q z => w_law_growth_c R C (by rw [← hp]; exact z)
  have bd : pq.1 ≤ 10 ∧ pq.2 ≤ 10 := by
    rw [hp]
    have := C.h.p4
    have := C.h.s6
    exact red_le P (by omega) S (by omega)
  clear hp C
  have sh : Shw (.list [.tup [.int (pq.1 : Nat), .int (pq.2 : Nat)], .tup [.int (pq.1 : Nat), .int (pq.2 : Nat)]]) := by
    have one : Bd okB 100 1 (.tup [.int (pq.1 : Nat), .int (pq.2 : Nat)]) := by
      refine .tup (fun d hd => ?_) (by show 2 ≤ 100; decide)
      simp only [List.mem_cons, List.not_mem_nil, or_false] at hd
      rcases hd with rfl | rfl
      · exact .int ⟨by omega, by omega⟩
      · exact .int ⟨by omega, by omega⟩
    refine shw_of (L := 100) (k := 2) (by show 7 ≤ 1000; decide) (by decide) (.list (fun d hd => ?_) (by show 2 ≤ 100; decide)) rfl
    simp only [List.mem_cons, List.not_mem_nil, or_false, or_self] at hd
    subst hd
    exact one
  refine ⟨rfl, rfl, w1 _ (ite_two ?_)⟩
  refine ⟨rfl, rfl, w1 _ (ite_two ?_)⟩
  refine ⟨sz rfl, ?_⟩
  refine ⟨rfl, rfl, w2 _ (ite_two ?_)⟩
  refine ⟨sz rfl, by decide, by decide, by rw [sizeLine_eq]; exact Nat.le_of_ble_eq_true rfl, ?_⟩
  exact ⟨rfl, rfl, w_like sh q⟩
end
end LK
namespace LK
open PySem PySem.Spec PyProof.Rows L2 CD DL
/-! ### the law, all of it -/
section
variable {ns : List Int} {n : Nat} {Q : UEnds}
theorem turn_law {lap : D} {x3 x4 : Option SV} (h : (x3 = none ∧ x4 = none) ∨ ∃ a b, x3 = some (.val a) ∧ x4 = some (.val b)) (hn : n + 500 < 2 ^ 38) (q : ∀ m a b, m ≤ n + 120 → Q.nx (RLw ns m (some (.val lap)) (some (.val a)) (some (.val b)))) :
    uSeq i_law_1 (uSeq i_law_3 i_law_4) Q (RLw ns n (some (.val lap)) x3 x4) := by
  have h4 : x4 = none ∨ ∃ b, x4 = some (.val b) := by
    rcases h with ⟨_, e⟩ | ⟨a, b, _, e⟩
    · exact .inl e
    · exact .inr ⟨b, e⟩
  refine seq_of (z_1 h (by omega) fun F c R hc => ?_)
  show uSeq i_law_3 i_law_4 Q (RLw ns c (some (.val lap)) (some (.val (tI F))) x4)
  refine seq_of (z_3 h4 R (by omega) fun m x4' h4' hm => ?_)
  obtain ⟨b, rfl⟩ := h4'
  show i_law_4 Q (RLw ns m (some (.val lap)) (some (.val (tI F))) (some (.val b)))
  exact z_4 R (q m _ _ (by omega))
theorem z_5 (hn : ns.length ≤ 63) (q : ∀ m lap a b, Q.nx (RLw ns m (some (.val lap)) (some (.val a)) (some (.val b)))) : i_law_5 Q (RLw ns 0 none none none) := by
  have key : ∀ c : Int, 1 ≤ c → c ≤ 12 → goFor (ugName 2) (uSeq i_law_1 (uSeq i_law_3 i_law_4)) Q (rgD 0 c.toNat) (RLw ns 0 none none none) := fun c c0 c1 => by
    refine goFor_inv (I := fun j ρ => (j = 0 ∧ ρ = RLw ns 0 none none none) ∨ ∃ m lap a b, m ≤ 120 * j ∧ ρ = RLw ns m (some (.val lap)) (some (.val a)) (some (.val b))) (fun _ => True) 12 (fun j x ρ Q' hj _ hI hq => ?_) _ 0 _ (by rw [rg_len]; omega) (fun _ _ => trivial) (.inl ⟨rfl, rfl⟩) (fun ρ' hI => ?_)
    · rcases hI with ⟨rfl, rfl⟩ | ⟨m, lap, a, b, hm, rfl⟩
      · exact turn_law (n := 0) (lap := x) (.inl ⟨rfl, rfl⟩) (by omega) fun m a b hm => hq _ (.inr ⟨m, x, a, b, by omega, rfl⟩)
      · exact turn_law (n := m) (lap := x) (.inr ⟨a, b, rfl, rfl⟩) (by omega) fun m2 a b hm2 => hq _ (.inr ⟨m2, x, a, b, by omega, rfl⟩)
    · rw [rg_len] at hI
      rcases hI with ⟨h, _⟩ | ⟨m, lap, a, b, hm, rfl⟩
      · omega
      · exact q m lap a b
  refine ⟨?_, ?_, ?_⟩
  · split <;> omega
  · split <;> omega
  · exact key _ (by split <;> omega) (by split <;> omega)
end
theorem R_642 : IsRule [6, 4, 2] := ⟨by decide, by decide, by decide, by decide⟩
theorem R_14 : IsRule [1, 4] := ⟨by decide, by decide, by decide, by decide⟩
theorem R_246 : IsRule [2, 4, 6] := ⟨by decide, by decide, by decide, by decide⟩
theorem R_12 : IsRule [1, 2] := ⟨by decide, by decide, by decide, by decide⟩
theorem R_123 : IsRule [1, 2, 3] := ⟨by decide, by decide, by decide, by decide⟩
theorem R_21 : IsRule [2, 1] := ⟨by decide, by decide, by decide, by decide⟩
theorem R_2 : IsRule [2] := ⟨by decide, by decide, by decide, by decide⟩
theorem R_42 : IsRule [4, 2] := ⟨by decide, by decide, by decide, by decide⟩
theorem C_642 : Can [6, 4, 2] 6 1 := ⟨⟨by decide, by decide, by decide, by decide, by decide⟩, ⟨(6, 1), by decide, rfl, rfl⟩⟩
theorem C_14 : Can [1, 4] 4 2 := ⟨⟨by decide, by decide, by decide, by decide, by decide⟩, ⟨(4, 2), by decide, rfl, rfl⟩⟩
theorem C_246 : Can [2, 4, 6] 2 1 := ⟨⟨by decide, by decide, by decide, by decide, by decide⟩, ⟨(2, 1), by decide, rfl, rfl⟩⟩
theorem d_1 : due [1, 2] [1, 2, 3] = none := by decide +kernel
theorem d_2 : due [1, 2] [2, 1] = some 1 := by decide +kernel
theorem d_3 : due [2] [4, 2] = some 2 := by decide +kernel
abbrev pyT (a b : Int) : PyData := .tuple [.int a, .int b]
theorem pyT_of (a b : Int) : PyOf (.tup [.int a, .int b]) (pyT a b) := .tup (.cons (.int a) (.cons (.int b) .nil))
section
variable {ns : List Int} {n : Nat} {Q : UEnds} {x2 x3 x4 : Option SV}
theorem z_6 (q : Q.nx (RLw ns n x2 x3 x4)) : i_law_6 Q (RLw ns n x2 x3 x4) := by
  refine ⟨sz rfl, rfl, rfl, w_growth_c R_642 C_642 (ite_two ?_)⟩
  refine ⟨sz rfl, rfl, rfl, w_growth_c R_14 C_14 (ite_two ?_)⟩
  refine ⟨sz rfl, rfl, rfl, w_growth_c R_246 C_246 (ite_two ?_)⟩
  refine ⟨sz rfl, sz rfl, sz rfl, sz rfl, sz rfl, ?_⟩
  refine ⟨.list [pyT 1 6, pyT 1 2, pyT 1 2], .list [pyT 1 6, pyT 1 2, pyT 1 2], .list (.cons (pyT_of _ _) (.cons (pyT_of _ _) (.cons (pyT_of _ _) .nil))), .list (.cons (pyT_of _ _) (.cons (pyT_of _ _) (.cons (pyT_of _ _) .nil))), rfl, rfl, ?_⟩
  have e : PyData.eqv (.list [pyT 1 6, pyT 1 2, pyT 1 2]) (.list [pyT 1 6, pyT 1 2, pyT 1 2]) = true := by simp [PyData.eqv, PyData.eqvAll]
  rw [e]
  exact q
theorem z_7 (q : ∀ ρ, Q.rt (.bl true) ρ) : i_law_7 Q (RLw ns n x2 x3 x4) := by
  have w1 : ∀ Q : QD, Q .non none → W_part_line_n [.val (tI [1, 2]), .val (tI [1, 2, 3])] Q := fun Q z => w_part R_12 R_123 (by unfold dueD; rw [d_1]; exact z)
  have w2 : ∀ Q : QD, Q (.int 1) none → W_part_line_n [.val (tI [1, 2]), .val (tI [2, 1])] Q := fun Q z => w_part R_12 R_21 (by unfold dueD; rw [d_2]; exact z)
  have w3 : ∀ Q : QD, Q (.int 2) none → W_part_line_n [.val (tI [2]), .val (tI [4, 2])] Q := fun Q z => w_part R_2 R_42 (by unfold dueD; rw [d_3]; exact z)
  refine ⟨sz rfl, sz rfl, rfl, rfl, w1 _ ?_⟩
  refine ⟨sz rfl, sz rfl, rfl, rfl, w2 _ ?_⟩
  refine ⟨sz rfl, sz rfl, rfl, rfl, w3 _ ?_⟩
  refine ⟨sz rfl, sz rfl, ?_⟩
  refine ⟨.list [.none, .int 1, .int 2], .list [.none, .int 1, .int 2], .list (.cons .non (.cons (.int _) (.cons (.int _) .nil))), .list (.cons .non (.cons (.int _) (.cons (.int _) .nil))), rfl, rfl, ?_⟩
  have e : PyData.eqv (.list [.none, .int 1, .int 2]) (.list [.none, .int 1, .int 2]) = true := by simp [PyData.eqv, PyData.eqvAll]
  rw [e]
  exact q _
end
theorem u_law_ok {ns : List Int} {Q : UEnds} (h : ns.length ≤ 63) (q : ∀ ρ', Q.rt (.bl true) ρ') : u_law Q [some (.val (.scr ns)), none, none, none, none] := by
  refine seq_of ?_
  show uBegin 0 1 _ _
  refine ⟨ns, rfl, h, rfl, ?_⟩
  show uSeq i_law_5 (uSeq i_law_6 i_law_7) Q (RLw ns 0 none none none)
  refine seq_of (z_5 h fun m lap a b => ?_)
  show uSeq i_law_6 i_law_7 Q (RLw ns m (some (.val lap)) (some (.val a)) (some (.val b)))
  refine seq_of (z_6 ?_)
  show i_law_7 Q (RLw ns m (some (.val lap)) (some (.val a)) (some (.val b)))
  exact z_7 q
theorem w_law (ns : List Int) (h : ns.length ≤ 63) : W_law [.val (.scr ns)] fun d _ => d = .bl true := by
  unfold W_law Wof
  exact u_law_ok h fun _ => rfl
end LK
namespace LK
open PySem PySem.Spec PyProof.Rows L2 CD DL
set_option maxHeartbeats 1000000
/-! ### what the top has written -/
theorem all_mk {P : Program} {w : World} {K : PySem.W.Frag} {h : Heap} {mg : Str → Option Value} (X : K.In h) (G : h.Ns mainGlobals mg)
    {f0 : Addr} {od0 an0 : Option Addr} {sl0 : Array (Option Value)} {oc0 kV0 dc0 pm0 cd0 ct0 : Value} (a0 : PySem.W.nsIn K mainGlobals "is_integer" = some (some (.ref f0)))
    (l0 : K.lookup f0 = some ⟨oc0, od0, .func (PySem.W.fnOf "is_integer" "is_integer" (defArgs s_is_integer) (defBody s_is_integer) (defScope s_is_integer) .none kV0 dc0 pm0 an0 cd0 ct0), sl0⟩)
    (c0 : PySem.W.codeIn K cd0 "is_integer" = true)
    (k0 : PySem.W.keepIn K (.ref f0) = true)
    {f1 : Addr} {od1 an1 : Option Addr} {sl1 : Array (Option Value)} {oc1 kV1 dc1 pm1 cd1 ct1 : Value} (a1 : PySem.W.nsIn K mainGlobals "is_number" = some (some (.ref f1)))
    (l1 : K.lookup f1 = some ⟨oc1, od1, .func (PySem.W.fnOf "is_number" "is_number" (defArgs s_is_number) (defBody s_is_number) (defScope s_is_number) .none kV1 dc1 pm1 an1 cd1 ct1), sl1⟩)
    (c1 : PySem.W.codeIn K cd1 "is_number" = true)
    (k1 : PySem.W.keepIn K (.ref f1) = true)
    {f2 : Addr} {od2 an2 : Option Addr} {sl2 : Array (Option Value)} {oc2 kV2 dc2 pm2 cd2 ct2 : Value} (a2 : PySem.W.nsIn K mainGlobals "is_ascending" = some (some (.ref f2)))
    (l2 : K.lookup f2 = some ⟨oc2, od2, .func (PySem.W.fnOf "is_ascending" "is_ascending" (defArgs s_is_ascending) (defBody s_is_ascending) (defScope s_is_ascending) .none kV2 dc2 pm2 an2 cd2 ct2), sl2⟩)
    (c2 : PySem.W.codeIn K cd2 "is_ascending" = true)
    (k2 : PySem.W.keepIn K (.ref f2) = true)
    {f3 : Addr} {od3 an3 : Option Addr} {sl3 : Array (Option Value)} {oc3 kV3 dc3 pm3 cd3 ct3 : Value} (a3 : PySem.W.nsIn K mainGlobals "is_row" = some (some (.ref f3)))
    (l3 : K.lookup f3 = some ⟨oc3, od3, .func (PySem.W.fnOf "is_row" "is_row" (defArgs s_is_row) (defBody s_is_row) (defScope s_is_row) .none kV3 dc3 pm3 an3 cd3 ct3), sl3⟩)
    (c3 : PySem.W.codeIn K cd3 "is_row" = true)
    (k3 : PySem.W.keepIn K (.ref f3) = true)
    {f4 : Addr} {od4 an4 : Option Addr} {sl4 : Array (Option Value)} {oc4 kV4 dc4 pm4 cd4 ct4 : Value} (a4 : PySem.W.nsIn K mainGlobals "is_absence" = some (some (.ref f4)))
    (l4 : K.lookup f4 = some ⟨oc4, od4, .func (PySem.W.fnOf "is_absence" "is_absence" (defArgs s_is_absence) (defBody s_is_absence) (defScope s_is_absence) .none kV4 dc4 pm4 an4 cd4 ct4), sl4⟩)
    (c4 : PySem.W.codeIn K cd4 "is_absence" = true)
    (k4 : PySem.W.keepIn K (.ref f4) = true)
    {f5 : Addr} {od5 an5 : Option Addr} {sl5 : Array (Option Value)} {oc5 kV5 dc5 pm5 cd5 ct5 : Value} (a5 : PySem.W.nsIn K mainGlobals "need_absence" = some (some (.ref f5)))
    (l5 : K.lookup f5 = some ⟨oc5, od5, .func (PySem.W.fnOf "need_absence" "need_absence" (defArgs s_need_absence) (defBody s_need_absence) (defScope s_need_absence) .none kV5 dc5 pm5 an5 cd5 ct5), sl5⟩)
    (c5 : PySem.W.codeIn K cd5 "need_absence" = true)
    (k5 : PySem.W.keepIn K (.ref f5) = true)
    {f6 : Addr} {od6 an6 : Option Addr} {sl6 : Array (Option Value)} {oc6 kV6 dc6 pm6 cd6 ct6 : Value} (a6 : PySem.W.nsIn K mainGlobals "need_person" = some (some (.ref f6)))
    (l6 : K.lookup f6 = some ⟨oc6, od6, .func (PySem.W.fnOf "need_person" "need_person" (defArgs s_need_person) (defBody s_need_person) (defScope s_need_person) .none kV6 dc6 pm6 an6 cd6 ct6), sl6⟩)
    (c6 : PySem.W.codeIn K cd6 "need_person" = true)
    (k6 : PySem.W.keepIn K (.ref f6) = true)
    {f7 : Addr} {od7 an7 : Option Addr} {sl7 : Array (Option Value)} {oc7 kV7 dc7 pm7 cd7 ct7 : Value} (a7 : PySem.W.nsIn K mainGlobals "first_window" = some (some (.ref f7)))
    (l7 : K.lookup f7 = some ⟨oc7, od7, .func (PySem.W.fnOf "first_window" "first_window" (defArgs s_first_window) (defBody s_first_window) (defScope s_first_window) .none kV7 dc7 pm7 an7 cd7 ct7), sl7⟩)
    (c7 : PySem.W.codeIn K cd7 "first_window" = true)
    (k7 : PySem.W.keepIn K (.ref f7) = true)
    {f8 : Addr} {od8 an8 : Option Addr} {sl8 : Array (Option Value)} {oc8 kV8 dc8 pm8 cd8 ct8 : Value} (a8 : PySem.W.nsIn K mainGlobals "called_at" = some (some (.ref f8)))
    (l8 : K.lookup f8 = some ⟨oc8, od8, .func (PySem.W.fnOf "called_at" "called_at" (defArgs s_called_at) (defBody s_called_at) (defScope s_called_at) .none kV8 dc8 pm8 an8 cd8 ct8), sl8⟩)
    (c8 : PySem.W.codeIn K cd8 "called_at" = true)
    (k8 : PySem.W.keepIn K (.ref f8) = true)
    {f9 : Addr} {od9 an9 : Option Addr} {sl9 : Array (Option Value)} {oc9 kV9 dc9 pm9 cd9 ct9 : Value} (a9 : PySem.W.nsIn K mainGlobals "state_behind" = some (some (.ref f9)))
    (l9 : K.lookup f9 = some ⟨oc9, od9, .func (PySem.W.fnOf "state_behind" "state_behind" (defArgs s_state_behind) (defBody s_state_behind) (defScope s_state_behind) .none kV9 dc9 pm9 an9 cd9 ct9), sl9⟩)
    (c9 : PySem.W.codeIn K cd9 "state_behind" = true)
    (k9 : PySem.W.keepIn K (.ref f9) = true)
    {f10 : Addr} {od10 an10 : Option Addr} {sl10 : Array (Option Value)} {oc10 kV10 dc10 pm10 cd10 ct10 : Value} (a10 : PySem.W.nsIn K mainGlobals "low_and_shape" = some (some (.ref f10)))
    (l10 : K.lookup f10 = some ⟨oc10, od10, .func (PySem.W.fnOf "low_and_shape" "low_and_shape" (defArgs s_low_and_shape) (defBody s_low_and_shape) (defScope s_low_and_shape) .none kV10 dc10 pm10 an10 cd10 ct10), sl10⟩)
    (c10 : PySem.W.codeIn K cd10 "low_and_shape" = true)
    (k10 : PySem.W.keepIn K (.ref f10) = true)
    {f11 : Addr} {od11 an11 : Option Addr} {sl11 : Array (Option Value)} {oc11 kV11 dc11 pm11 cd11 ct11 : Value} (a11 : PySem.W.nsIn K mainGlobals "_behind_person" = some (some (.ref f11)))
    (l11 : K.lookup f11 = some ⟨oc11, od11, .func (PySem.W.fnOf "_behind_person" "_behind_person" (defArgs s__behind_person) (defBody s__behind_person) (defScope s__behind_person) .none kV11 dc11 pm11 an11 cd11 ct11), sl11⟩)
    (c11 : PySem.W.codeIn K cd11 "_behind_person" = true)
    (k11 : PySem.W.keepIn K (.ref f11) = true)
    {f12 : Addr} {od12 an12 : Option Addr} {sl12 : Array (Option Value)} {oc12 kV12 dc12 pm12 cd12 ct12 : Value} (a12 : PySem.W.nsIn K mainGlobals "_behind_few" = some (some (.ref f12)))
    (l12 : K.lookup f12 = some ⟨oc12, od12, .func (PySem.W.fnOf "_behind_few" "_behind_few" (defArgs s__behind_few) (defBody s__behind_few) (defScope s__behind_few) .none kV12 dc12 pm12 an12 cd12 ct12), sl12⟩)
    (c12 : PySem.W.codeIn K cd12 "_behind_few" = true)
    (k12 : PySem.W.keepIn K (.ref f12) = true)
    {f13 : Addr} {od13 an13 : Option Addr} {sl13 : Array (Option Value)} {oc13 kV13 dc13 pm13 cd13 ct13 : Value} (a13 : PySem.W.nsIn K mainGlobals "_behind_many" = some (some (.ref f13)))
    (l13 : K.lookup f13 = some ⟨oc13, od13, .func (PySem.W.fnOf "_behind_many" "_behind_many" (defArgs s__behind_many) (defBody s__behind_many) (defScope s__behind_many) .none kV13 dc13 pm13 an13 cd13 ct13), sl13⟩)
    (c13 : PySem.W.codeIn K cd13 "_behind_many" = true)
    (k13 : PySem.W.keepIn K (.ref f13) = true)
    {f14 : Addr} {od14 an14 : Option Addr} {sl14 : Array (Option Value)} {oc14 kV14 dc14 pm14 cd14 ct14 : Value} (a14 : PySem.W.nsIn K mainGlobals "_behind_rounds" = some (some (.ref f14)))
    (l14 : K.lookup f14 = some ⟨oc14, od14, .func (PySem.W.fnOf "_behind_rounds" "_behind_rounds" (defArgs s__behind_rounds) (defBody s__behind_rounds) (defScope s__behind_rounds) .none kV14 dc14 pm14 an14 cd14 ct14), sl14⟩)
    (c14 : PySem.W.codeIn K cd14 "_behind_rounds" = true)
    (k14 : PySem.W.keepIn K (.ref f14) = true)
    {f15 : Addr} {od15 an15 : Option Addr} {sl15 : Array (Option Value)} {oc15 kV15 dc15 pm15 cd15 ct15 : Value} (a15 : PySem.W.nsIn K mainGlobals "_later" = some (some (.ref f15)))
    (l15 : K.lookup f15 = some ⟨oc15, od15, .func (PySem.W.fnOf "_later" "_later" (defArgs s__later) (defBody s__later) (defScope s__later) .none kV15 dc15 pm15 an15 cd15 ct15), sl15⟩)
    (c15 : PySem.W.codeIn K cd15 "_later" = true)
    (k15 : PySem.W.keepIn K (.ref f15) = true)
    {f16 : Addr} {od16 an16 : Option Addr} {sl16 : Array (Option Value)} {oc16 kV16 dc16 pm16 cd16 ct16 : Value} (a16 : PySem.W.nsIn K mainGlobals "need_rule" = some (some (.ref f16)))
    (l16 : K.lookup f16 = some ⟨oc16, od16, .func (PySem.W.fnOf "need_rule" "need_rule" (defArgs s_need_rule) (defBody s_need_rule) (defScope s_need_rule) .none kV16 dc16 pm16 an16 cd16 ct16), sl16⟩)
    (c16 : PySem.W.codeIn K cd16 "need_rule" = true)
    (k16 : PySem.W.keepIn K (.ref f16) = true)
    {f17 : Addr} {od17 an17 : Option Addr} {sl17 : Array (Option Value)} {oc17 kV17 dc17 pm17 cd17 ct17 : Value} (a17 : PySem.W.nsIn K mainGlobals "tick_of" = some (some (.ref f17)))
    (l17 : K.lookup f17 = some ⟨oc17, od17, .func (PySem.W.fnOf "tick_of" "tick_of" (defArgs s_tick_of) (defBody s_tick_of) (defScope s_tick_of) .none kV17 dc17 pm17 an17 cd17 ct17), sl17⟩)
    (c17 : PySem.W.codeIn K cd17 "tick_of" = true)
    (k17 : PySem.W.keepIn K (.ref f17) = true)
    {f18 : Addr} {od18 an18 : Option Addr} {sl18 : Array (Option Value)} {oc18 kV18 dc18 pm18 cd18 ct18 : Value} (a18 : PySem.W.nsIn K mainGlobals "part_line" = some (some (.ref f18)))
    (l18 : K.lookup f18 = some ⟨oc18, od18, .func (PySem.W.fnOf "part_line" "part_line" (defArgs s_part_line) (defBody s_part_line) (defScope s_part_line) .none kV18 dc18 pm18 an18 cd18 ct18), sl18⟩)
    (c18 : PySem.W.codeIn K cd18 "part_line" = true)
    (k18 : PySem.W.keepIn K (.ref f18) = true)
    {f19 : Addr} {od19 an19 : Option Addr} {sl19 : Array (Option Value)} {oc19 kV19 dc19 pm19 cd19 ct19 : Value} (a19 : PySem.W.nsIn K mainGlobals "growth" = some (some (.ref f19)))
    (l19 : K.lookup f19 = some ⟨oc19, od19, .func (PySem.W.fnOf "growth" "growth" (defArgs s_growth) (defBody s_growth) (defScope s_growth) .none kV19 dc19 pm19 an19 cd19 ct19), sl19⟩)
    (c19 : PySem.W.codeIn K cd19 "growth" = true)
    (k19 : PySem.W.keepIn K (.ref f19) = true)
    {f20 : Addr} {od20 an20 : Option Addr} {sl20 : Array (Option Value)} {oc20 kV20 dc20 pm20 cd20 ct20 : Value} (a20 : PySem.W.nsIn K mainGlobals "_law_mix" = some (some (.ref f20)))
    (l20 : K.lookup f20 = some ⟨oc20, od20, .func (PySem.W.fnOf "_law_mix" "_law_mix" (defArgs s__law_mix) (defBody s__law_mix) (defScope s__law_mix) .none kV20 dc20 pm20 an20 cd20 ct20), sl20⟩)
    (c20 : PySem.W.codeIn K cd20 "_law_mix" = true)
    (k20 : PySem.W.keepIn K (.ref f20) = true)
    {f21 : Addr} {od21 an21 : Option Addr} {sl21 : Array (Option Value)} {oc21 kV21 dc21 pm21 cd21 ct21 : Value} (a21 : PySem.W.nsIn K mainGlobals "_law_begun" = some (some (.ref f21)))
    (l21 : K.lookup f21 = some ⟨oc21, od21, .func (PySem.W.fnOf "_law_begun" "_law_begun" (defArgs s__law_begun) (defBody s__law_begun) (defScope s__law_begun) .none kV21 dc21 pm21 an21 cd21 ct21), sl21⟩)
    (c21 : PySem.W.codeIn K cd21 "_law_begun" = true)
    (k21 : PySem.W.keepIn K (.ref f21) = true)
    {f22 : Addr} {od22 an22 : Option Addr} {sl22 : Array (Option Value)} {oc22 kV22 dc22 pm22 cd22 ct22 : Value} (a22 : PySem.W.nsIn K mainGlobals "_law_draw" = some (some (.ref f22)))
    (l22 : K.lookup f22 = some ⟨oc22, od22, .func (PySem.W.fnOf "_law_draw" "_law_draw" (defArgs s__law_draw) (defBody s__law_draw) (defScope s__law_draw) .none kV22 dc22 pm22 an22 cd22 ct22), sl22⟩)
    (c22 : PySem.W.codeIn K cd22 "_law_draw" = true)
    (k22 : PySem.W.keepIn K (.ref f22) = true)
    {f23 : Addr} {od23 an23 : Option Addr} {sl23 : Array (Option Value)} {oc23 kV23 dc23 pm23 cd23 ct23 : Value} (a23 : PySem.W.nsIn K mainGlobals "_law_like" = some (some (.ref f23)))
    (l23 : K.lookup f23 = some ⟨oc23, od23, .func (PySem.W.fnOf "_law_like" "_law_like" (defArgs s__law_like) (defBody s__law_like) (defScope s__law_like) .none kV23 dc23 pm23 an23 cd23 ct23), sl23⟩)
    (c23 : PySem.W.codeIn K cd23 "_law_like" = true)
    (k23 : PySem.W.keepIn K (.ref f23) = true)
    {f24 : Addr} {od24 an24 : Option Addr} {sl24 : Array (Option Value)} {oc24 kV24 dc24 pm24 cd24 ct24 : Value} (a24 : PySem.W.nsIn K mainGlobals "_law_line" = some (some (.ref f24)))
    (l24 : K.lookup f24 = some ⟨oc24, od24, .func (PySem.W.fnOf "_law_line" "_law_line" (defArgs s__law_line) (defBody s__law_line) (defScope s__law_line) .none kV24 dc24 pm24 an24 cd24 ct24), sl24⟩)
    (c24 : PySem.W.codeIn K cd24 "_law_line" = true)
    (k24 : PySem.W.keepIn K (.ref f24) = true)
    {f25 : Addr} {od25 an25 : Option Addr} {sl25 : Array (Option Value)} {oc25 kV25 dc25 pm25 cd25 ct25 : Value} (a25 : PySem.W.nsIn K mainGlobals "_law_next" = some (some (.ref f25)))
    (l25 : K.lookup f25 = some ⟨oc25, od25, .func (PySem.W.fnOf "_law_next" "_law_next" (defArgs s__law_next) (defBody s__law_next) (defScope s__law_next) .none kV25 dc25 pm25 an25 cd25 ct25), sl25⟩)
    (c25 : PySem.W.codeIn K cd25 "_law_next" = true)
    (k25 : PySem.W.keepIn K (.ref f25) = true)
    {f26 : Addr} {od26 an26 : Option Addr} {sl26 : Array (Option Value)} {oc26 kV26 dc26 pm26 cd26 ct26 : Value} (a26 : PySem.W.nsIn K mainGlobals "_law_walk" = some (some (.ref f26)))
    (l26 : K.lookup f26 = some ⟨oc26, od26, .func (PySem.W.fnOf "_law_walk" "_law_walk" (defArgs s__law_walk) (defBody s__law_walk) (defScope s__law_walk) .none kV26 dc26 pm26 an26 cd26 ct26), sl26⟩)
    (c26 : PySem.W.codeIn K cd26 "_law_walk" = true)
    (k26 : PySem.W.keepIn K (.ref f26) = true)
    {f27 : Addr} {od27 an27 : Option Addr} {sl27 : Array (Option Value)} {oc27 kV27 dc27 pm27 cd27 ct27 : Value} (a27 : PySem.W.nsIn K mainGlobals "_law_far" = some (some (.ref f27)))
    (l27 : K.lookup f27 = some ⟨oc27, od27, .func (PySem.W.fnOf "_law_far" "_law_far" (defArgs s__law_far) (defBody s__law_far) (defScope s__law_far) .none kV27 dc27 pm27 an27 cd27 ct27), sl27⟩)
    (c27 : PySem.W.codeIn K cd27 "_law_far" = true)
    (k27 : PySem.W.keepIn K (.ref f27) = true)
    {f28 : Addr} {od28 an28 : Option Addr} {sl28 : Array (Option Value)} {oc28 kV28 dc28 pm28 cd28 ct28 : Value} (a28 : PySem.W.nsIn K mainGlobals "_law_near" = some (some (.ref f28)))
    (l28 : K.lookup f28 = some ⟨oc28, od28, .func (PySem.W.fnOf "_law_near" "_law_near" (defArgs s__law_near) (defBody s__law_near) (defScope s__law_near) .none kV28 dc28 pm28 an28 cd28 ct28), sl28⟩)
    (c28 : PySem.W.codeIn K cd28 "_law_near" = true)
    (k28 : PySem.W.keepIn K (.ref f28) = true)
    {f29 : Addr} {od29 an29 : Option Addr} {sl29 : Array (Option Value)} {oc29 kV29 dc29 pm29 cd29 ct29 : Value} (a29 : PySem.W.nsIn K mainGlobals "_law_right" = some (some (.ref f29)))
    (l29 : K.lookup f29 = some ⟨oc29, od29, .func (PySem.W.fnOf "_law_right" "_law_right" (defArgs s__law_right) (defBody s__law_right) (defScope s__law_right) .none kV29 dc29 pm29 an29 cd29 ct29), sl29⟩)
    (c29 : PySem.W.codeIn K cd29 "_law_right" = true)
    (k29 : PySem.W.keepIn K (.ref f29) = true)
    {f30 : Addr} {od30 an30 : Option Addr} {sl30 : Array (Option Value)} {oc30 kV30 dc30 pm30 cd30 ct30 : Value} (a30 : PySem.W.nsIn K mainGlobals "_law_growth" = some (some (.ref f30)))
    (l30 : K.lookup f30 = some ⟨oc30, od30, .func (PySem.W.fnOf "_law_growth" "_law_growth" (defArgs s__law_growth) (defBody s__law_growth) (defScope s__law_growth) .none kV30 dc30 pm30 an30 cd30 ct30), sl30⟩)
    (c30 : PySem.W.codeIn K cd30 "_law_growth" = true)
    (k30 : PySem.W.keepIn K (.ref f30) = true)
    {f31 : Addr} {od31 an31 : Option Addr} {sl31 : Array (Option Value)} {oc31 kV31 dc31 pm31 cd31 ct31 : Value} (a31 : PySem.W.nsIn K mainGlobals "_law_growth_by" = some (some (.ref f31)))
    (l31 : K.lookup f31 = some ⟨oc31, od31, .func (PySem.W.fnOf "_law_growth_by" "_law_growth_by" (defArgs s__law_growth_by) (defBody s__law_growth_by) (defScope s__law_growth_by) .none kV31 dc31 pm31 an31 cd31 ct31), sl31⟩)
    (c31 : PySem.W.codeIn K cd31 "_law_growth_by" = true)
    (k31 : PySem.W.keepIn K (.ref f31) = true)
    {f32 : Addr} {od32 an32 : Option Addr} {sl32 : Array (Option Value)} {oc32 kV32 dc32 pm32 cd32 ct32 : Value} (a32 : PySem.W.nsIn K mainGlobals "law" = some (some (.ref f32)))
    (l32 : K.lookup f32 = some ⟨oc32, od32, .func (PySem.W.fnOf "law" "law" (defArgs s_law) (defBody s_law) (defScope s_law) .none kV32 dc32 pm32 an32 cd32 ct32), sl32⟩)
    (c32 : PySem.W.codeIn K cd32 "law" = true)
    (k32 : PySem.W.keepIn K (.ref f32) = true)
    (z0 : PySem.W.nsIn K mainGlobals "all" = some none)
    (z1 : PySem.W.nsIn K mainGlobals "any" = some none)
    (z2 : PySem.W.nsIn K mainGlobals "bool" = some none)
    (z3 : PySem.W.nsIn K mainGlobals "divmod" = some none)
    (z4 : PySem.W.nsIn K mainGlobals "enumerate" = some none)
    (z5 : PySem.W.nsIn K mainGlobals "int" = some none)
    (z6 : PySem.W.nsIn K mainGlobals "isinstance" = some none)
    (z7 : PySem.W.nsIn K mainGlobals "len" = some none)
    (z8 : PySem.W.nsIn K mainGlobals "list" = some none)
    (z9 : PySem.W.nsIn K mainGlobals "max" = some none)
    (z10 : PySem.W.nsIn K mainGlobals "min" = some none)
    (z11 : PySem.W.nsIn K mainGlobals "range" = some none)
    (z12 : PySem.W.nsIn K mainGlobals "repr" = some none)
    (z13 : PySem.W.nsIn K mainGlobals "reversed" = some none)
    (z14 : PySem.W.nsIn K mainGlobals "set" = some none)
    (z15 : PySem.W.nsIn K mainGlobals "sorted" = some none)
    (z16 : PySem.W.nsIn K mainGlobals "str" = some none)
    (z17 : PySem.W.nsIn K mainGlobals "sum" = some none)
    (z18 : PySem.W.nsIn K mainGlobals "tuple" = some none)
    (z19 : PySem.W.nsIn K mainGlobals "zip" = some none)
    {i0 : Int} {t0 : Tok} (m0 : PySem.W.nsIn K mainGlobals "MOST_NUMBER" = some (some (.int i0 t0)))
    (e0 : i0 = 10 ^ 30)
    {i1 : Int} {t1 : Tok} (m1 : PySem.W.nsIn K mainGlobals "MOST_MISSING" = some (some (.int i1 t1)))
    (e1 : i1 = 4)
    {i2 : Int} {t2 : Tok} (m2 : PySem.W.nsIn K mainGlobals "MOST_STEPS" = some (some (.int i2 t2)))
    (e2 : i2 = 4)
    {i3 : Int} {t3 : Tok} (m3 : PySem.W.nsIn K mainGlobals "GREATEST_STEP" = some (some (.int i3 t3)))
    (e3 : i3 = 6)
    (bf_gcd : PySem.W.nsIn K mainGlobals "gcd" = some (some (.builtin "math.gcd"))) :
    ∀ base : Heap, K.In base → base.Ns mainGlobals mg → CalG P w K mg base 9 "law" ["script"] (spL GD K 1 fun as Q => hasG as = false ∧ W_law as Q) := by
  intro base _ _
  have z : Z mg := ⟨PySem.W.mg_none_of X G z0, PySem.W.mg_none_of X G z1, PySem.W.mg_none_of X G z2, PySem.W.mg_none_of X G z3, PySem.W.mg_none_of X G z4, PySem.W.mg_none_of X G z5, PySem.W.mg_none_of X G z6, PySem.W.mg_none_of X G z7, PySem.W.mg_none_of X G z8, PySem.W.mg_none_of X G z9, PySem.W.mg_none_of X G z10, PySem.W.mg_none_of X G z11, PySem.W.mg_none_of X G z12, PySem.W.mg_none_of X G z13, PySem.W.mg_none_of X G z14, PySem.W.mg_none_of X G z15, PySem.W.mg_none_of X G z16, PySem.W.mg_none_of X G z17, PySem.W.mg_none_of X G z18, PySem.W.mg_none_of X G z19⟩
  have v_MOST_NUMBER := mg_int X G m0 e0
  have v_MOST_MISSING := mg_int X G m1 e1
  have v_MOST_STEPS := mg_int X G m2 e2
  have v_GREATEST_STEP := mg_int X G m3 e3
  have b_gcd := PySem.W.mg_of X G bf_gcd
  have D_is_integer := def_mk (st := s_is_integer) (ps := p_is_integer) X G a0 l0 c0 k0 fun _ _ _ _ _ _ us hl => match us, hl with | [_], _ => rfl
  have D_is_number := def_mk (st := s_is_number) (ps := p_is_number) X G a1 l1 c1 k1 fun _ _ _ _ _ _ us hl => match us, hl with | [_, _, _], _ => rfl
  have D_is_ascending := def_mk (st := s_is_ascending) (ps := p_is_ascending) X G a2 l2 c2 k2 fun _ _ _ _ _ _ us hl => match us, hl with | [_], _ => rfl
  have D_is_row := def_mk (st := s_is_row) (ps := p_is_row) X G a3 l3 c3 k3 fun _ _ _ _ _ _ us hl => match us, hl with | [_, _, _, _], _ => rfl
  have D_is_absence := def_mk (st := s_is_absence) (ps := p_is_absence) X G a4 l4 c4 k4 fun _ _ _ _ _ _ us hl => match us, hl with | [_, _], _ => rfl
  have D_need_absence := def_mk (st := s_need_absence) (ps := p_need_absence) X G a5 l5 c5 k5 fun _ _ _ _ _ _ us hl => match us, hl with | [_], _ => rfl
  have D_need_person := def_mk (st := s_need_person) (ps := p_need_person) X G a6 l6 c6 k6 fun _ _ _ _ _ _ us hl => match us, hl with | [_], _ => rfl
  have D_first_window := def_mk (st := s_first_window) (ps := p_first_window) X G a7 l7 c7 k7 fun _ _ _ _ _ _ us hl => match us, hl with | [_], _ => rfl
  have D_called_at := def_mk (st := s_called_at) (ps := p_called_at) X G a8 l8 c8 k8 fun _ _ _ _ _ _ us hl => match us, hl with | [_, _], _ => rfl
  have D_state_behind := def_mk (st := s_state_behind) (ps := p_state_behind) X G a9 l9 c9 k9 fun _ _ _ _ _ _ us hl => match us, hl with | [_, _, _], _ => rfl
  have D_low_and_shape := def_mk (st := s_low_and_shape) (ps := p_low_and_shape) X G a10 l10 c10 k10 fun _ _ _ _ _ _ us hl => match us, hl with | [_], _ => rfl
  have D__behind_person := def_mk (st := s__behind_person) (ps := p__behind_person) X G a11 l11 c11 k11 fun _ _ _ _ _ _ us hl => match us, hl with | [_, _], _ => rfl
  have D__behind_few := def_mk (st := s__behind_few) (ps := p__behind_few) X G a12 l12 c12 k12 fun _ _ _ _ _ _ us hl => match us, hl with | [_, _, _], _ => rfl
  have D__behind_many := def_mk (st := s__behind_many) (ps := p__behind_many) X G a13 l13 c13 k13 fun _ _ _ _ _ _ us hl => match us, hl with | [_, _, _], _ => rfl
  have D__behind_rounds := def_mk (st := s__behind_rounds) (ps := p__behind_rounds) X G a14 l14 c14 k14 fun _ _ _ _ _ _ us hl => match us, hl with | [_, _, _, _, _], _ => rfl
  have D__later := def_mk (st := s__later) (ps := p__later) X G a15 l15 c15 k15 fun _ _ _ _ _ _ us hl => match us, hl with | [_, _], _ => rfl
  have D_need_rule := def_mk (st := s_need_rule) (ps := p_need_rule) X G a16 l16 c16 k16 fun _ _ _ _ _ _ us hl => match us, hl with | [_], _ => rfl
  have D_tick_of := def_mk (st := s_tick_of) (ps := p_tick_of) X G a17 l17 c17 k17 fun _ _ _ _ _ _ us hl => match us, hl with | [_, _, _], _ => rfl
  have D_part_line := def_mk (st := s_part_line) (ps := p_part_line) X G a18 l18 c18 k18 fun _ _ _ _ _ _ us hl => match us, hl with | [_, _], _ => rfl
  have D_growth := def_mk (st := s_growth) (ps := p_growth) X G a19 l19 c19 k19 fun _ _ _ _ _ _ us hl => match us, hl with | [_], _ => rfl
  have D__law_mix := def_mk (st := s__law_mix) (ps := p__law_mix) X G a20 l20 c20 k20 fun _ _ _ _ _ _ us hl => match us, hl with | [_, _], _ => rfl
  have D__law_begun := def_mk (st := s__law_begun) (ps := p__law_begun) X G a21 l21 c21 k21 fun _ _ _ _ _ _ us hl => match us, hl with | [_], _ => rfl
  have D__law_draw := def_mk (st := s__law_draw) (ps := p__law_draw) X G a22 l22 c22 k22 fun _ _ _ _ _ _ us hl => match us, hl with | [_, _], _ => rfl
  have D__law_like := def_mk (st := s__law_like) (ps := p__law_like) X G a23 l23 c23 k23 fun _ _ _ _ _ _ us hl => match us, hl with | [_, _], _ => rfl
  have D__law_line := def_mk (st := s__law_line) (ps := p__law_line) X G a24 l24 c24 k24 fun _ _ _ _ _ _ us hl => match us, hl with | [_], _ => rfl
  have D__law_next := def_mk (st := s__law_next) (ps := p__law_next) X G a25 l25 c25 k25 fun _ _ _ _ _ _ us hl => match us, hl with | [_, _], _ => rfl
  have D__law_walk := def_mk (st := s__law_walk) (ps := p__law_walk) X G a26 l26 c26 k26 fun _ _ _ _ _ _ us hl => match us, hl with | [_, _, _], _ => rfl
  have D__law_far := def_mk (st := s__law_far) (ps := p__law_far) X G a27 l27 c27 k27 fun _ _ _ _ _ _ us hl => match us, hl with | [_, _], _ => rfl
  have D__law_near := def_mk (st := s__law_near) (ps := p__law_near) X G a28 l28 c28 k28 fun _ _ _ _ _ _ us hl => match us, hl with | [_, _], _ => rfl
  have D__law_right := def_mk (st := s__law_right) (ps := p__law_right) X G a29 l29 c29 k29 fun _ _ _ _ _ _ us hl => match us, hl with | [_, _, _], _ => rfl
  have D__law_growth := def_mk (st := s__law_growth) (ps := p__law_growth) X G a30 l30 c30 k30 fun _ _ _ _ _ _ us hl => match us, hl with | [_], _ => rfl
  have D__law_growth_by := def_mk (st := s__law_growth_by) (ps := p__law_growth_by) X G a31 l31 c31 k31 fun _ _ _ _ _ _ us hl => match us, hl with | [_, _], _ => rfl
  have D_law := def_mk (st := s_law) (ps := p_law) X G a32 l32 c32 k32 fun _ _ _ _ _ _ us hl => match us, hl with | [_], _ => rfl
  have c__law_begun := cal_law_begun (P := P) (w := w) (base := base) z D__law_begun
  have o_is_integer := cal_is_integer (P := P) (w := w) (base := base) z D_is_integer
  have o_is_number := cal_is_number (P := P) (w := w) (base := base) z o_is_integer D_is_number
  have o_is_ascending := cal_is_ascending (P := P) (w := w) (base := base) z D_is_ascending
  have o_is_row := cal_is_row (P := P) (w := w) (base := base) z o_is_number o_is_ascending D_is_row
  have o_is_absence := cal_is_absence (P := P) (w := w) (base := base) z v_MOST_NUMBER o_is_row D_is_absence
  have o_need_absence := cal_need_absence (P := P) (w := w) (base := base) z v_MOST_MISSING o_is_absence D_need_absence
  have o_need_person := cal_need_person (P := P) (w := w) (base := base) z v_MOST_NUMBER o_is_number D_need_person
  have o_need_rule := cal_need_rule (P := P) (w := w) (base := base) z v_MOST_STEPS v_GREATEST_STEP o_is_number D_need_rule
  have o_called_at := cal_called_at (P := P) (w := w) (base := base) z D_called_at
  have o__behind_person := cal_behind_person (P := P) (w := w) (base := base) z D__behind_person
  have o__later := cal_later (P := P) (w := w) (base := base) z D__later
  have o__behind_few := cal_few (P := P) (w := w) (base := base) z o_called_at o__behind_person D__behind_few
  have o__behind_rounds := cal_rounds (P := P) (w := w) (base := base) z o__later o__behind_few D__behind_rounds
  have o_first_window := cal_first (P := P) (w := w) (base := base) z D_first_window
  have o_low_and_shape := cal_low (P := P) (w := w) (base := base) z o__later D_low_and_shape
  have o__behind_many := cal_many (P := P) (w := w) (base := base) z o_low_and_shape o__behind_few o__behind_rounds D__behind_many
  have o_state_behind := cal_state_behind (P := P) (w := w) (base := base) z o_first_window o__behind_person o__behind_many D_state_behind
  have o_tick_of := cal_tick_of (P := P) (w := w) (base := base) z o_need_rule o_need_absence o_need_person o_state_behind o_called_at D_tick_of
  have o_part_line := cal_part_line (P := P) (w := w) (base := base) z o_need_rule o_first_window o_low_and_shape o_called_at D_part_line
  have c__law_mix := cal_law_mix (P := P) (w := w) (base := base) z D__law_mix
  have c_need_rule_n := lift_need_rule_n (P := P) (w := w) (base := base) (GP := GD) o_need_rule D_need_rule
  have c_tick_of_n := lift_tick_of_n (P := P) (w := w) (base := base) (GP := GD) o_tick_of D_tick_of
  have c_part_line_n := lift_part_line_n (P := P) (w := w) (base := base) (GP := GD) o_part_line D_part_line
  have c_growth := lift_growth (P := P) (w := w) (base := base) (GP := GD) z b_gcd c_need_rule_n D_growth
  have c__law_draw := lift__law_draw (P := P) (w := w) (base := base) z c__law_mix D__law_draw
  have c__law_like := lift__law_like (P := P) (w := w) (base := base) z D__law_like
  have c__law_line := lift__law_line (P := P) (w := w) (base := base) z c__law_draw D__law_line
  have c__law_next := lift__law_next (P := P) (w := w) (base := base) z D__law_next
  have c__law_walk := lift__law_walk (P := P) (w := w) (base := base) z c__law_next D__law_walk
  have c__law_far := lift__law_far (P := P) (w := w) (base := base) z c__law_draw D__law_far
  have c__law_near := lift__law_near (P := P) (w := w) (base := base) z c__law_draw c__law_line D__law_near
  have c__law_right := lift__law_right (P := P) (w := w) (base := base) z c__law_walk c_part_line_n c__law_like c_tick_of_n c__law_far D__law_right
  have c__law_growth_by := lift__law_growth_by (P := P) (w := w) (base := base) z D__law_growth_by
  have c__law_growth := lift__law_growth (P := P) (w := w) (base := base) z c__law_growth_by D__law_growth
  exact lift_law (P := P) (w := w) (base := base) z c__law_line c__law_near c__law_right c__law_like c_growth c__law_growth c_part_line_n c__law_begun D_law
end LK
open PySem PySem.W PyProof.Rows
set_option maxHeartbeats 0 in
theorem PySem.Challenge.cw_callsdown_k80_whole_lines_beside_holds : PySem.Challenge.rw_callsdown_k80_whole_lines_beside.Holds := by
  w_on
  o_law
  k_head
  (case hw => w_witness2)
  k_fill
  refine DL.walk_c (l := PySem.Challenge.rw_callsdown_k80_whole_lines_beside) (n := 63) (k := 9) (x := "script") (sp := fun w => DL.spL LK.GD _ 1 fun as Q => DL.hasG as = false ∧ LK.W_law as Q) rfl (by decide) rfl ⟨rfl, by decide, by decide⟩ (fun w h Y => PySem.W.kIn_of Y) ?F (fun w H a ns hl hS => DL.spL_law rfl LK.w_law H a ns hl hS)
  case F =>
    intro w mg fa h KX G hmg
    refine' LK.all_mk KX G ?a0 ?l0 ?c0 ?k0 ?a1 ?l1 ?c1 ?k1 ?a2 ?l2 ?c2 ?k2 ?a3 ?l3 ?c3 ?k3 ?a4 ?l4 ?c4 ?k4 ?a5 ?l5 ?c5 ?k5 ?a6 ?l6 ?c6 ?k6 ?a7 ?l7 ?c7 ?k7 ?a8 ?l8 ?c8 ?k8 ?a9 ?l9 ?c9 ?k9 ?a10 ?l10 ?c10 ?k10 ?a11 ?l11 ?c11 ?k11 ?a12 ?l12 ?c12 ?k12 ?a13 ?l13 ?c13 ?k13 ?a14 ?l14 ?c14 ?k14 ?a15 ?l15 ?c15 ?k15 ?a16 ?l16 ?c16 ?k16 ?a17 ?l17 ?c17 ?k17 ?a18 ?l18 ?c18 ?k18 ?a19 ?l19 ?c19 ?k19 ?a20 ?l20 ?c20 ?k20 ?a21 ?l21 ?c21 ?k21 ?a22 ?l22 ?c22 ?k22 ?a23 ?l23 ?c23 ?k23 ?a24 ?l24 ?c24 ?k24 ?a25 ?l25 ?c25 ?k25 ?a26 ?l26 ?c26 ?k26 ?a27 ?l27 ?c27 ?k27 ?a28 ?l28 ?c28 ?k28 ?a29 ?l29 ?c29 ?k29 ?a30 ?l30 ?c30 ?k30 ?a31 ?l31 ?c31 ?k31 ?a32 ?l32 ?c32 ?k32 ?z0 ?z1 ?z2 ?z3 ?z4 ?z5 ?z6 ?z7 ?z8 ?z9 ?z10 ?z11 ?z12 ?z13 ?z14 ?z15 ?z16 ?z17 ?z18 ?z19 ?m0 ?e0 ?m1 ?e1 ?m2 ?e2 ?m3 ?e3 ?bf_gcd
    (case a0 => k_is)
    (case l0 => k_is)
    (case c0 => k_is)
    (case k0 => k_is)
    (case a1 => k_is)
    (case l1 => k_is)
    (case c1 => k_is)
    (case k1 => k_is)
    (case a2 => k_is)
    (case l2 => k_is)
    (case c2 => k_is)
    (case k2 => k_is)
    (case a3 => k_is)
    (case l3 => k_is)
    (case c3 => k_is)
    (case k3 => k_is)
    (case a4 => k_is)
    (case l4 => k_is)
    (case c4 => k_is)
    (case k4 => k_is)
    (case a5 => k_is)
    (case l5 => k_is)
    (case c5 => k_is)
    (case k5 => k_is)
    (case a6 => k_is)
    (case l6 => k_is)
    (case c6 => k_is)
    (case k6 => k_is)
    (case a7 => k_is)
    (case l7 => k_is)
    (case c7 => k_is)
    (case k7 => k_is)
    (case a8 => k_is)
    (case l8 => k_is)
    (case c8 => k_is)
    (case k8 => k_is)
    (case a9 => k_is)
    (case l9 => k_is)
    (case c9 => k_is)
    (case k9 => k_is)
    (case a10 => k_is)
    (case l10 => k_is)
    (case c10 => k_is)
    (case k10 => k_is)
    (case a11 => k_is)
    (case l11 => k_is)
    (case c11 => k_is)
    (case k11 => k_is)
    (case a12 => k_is)
    (case l12 => k_is)
    (case c12 => k_is)
    (case k12 => k_is)
    (case a13 => k_is)
    (case l13 => k_is)
    (case c13 => k_is)
    (case k13 => k_is)
    (case a14 => k_is)
    (case l14 => k_is)
    (case c14 => k_is)
    (case k14 => k_is)
    (case a15 => k_is)
    (case l15 => k_is)
    (case c15 => k_is)
    (case k15 => k_is)
    (case a16 => k_is)
    (case l16 => k_is)
    (case c16 => k_is)
    (case k16 => k_is)
    (case a17 => k_is)
    (case l17 => k_is)
    (case c17 => k_is)
    (case k17 => k_is)
    (case a18 => k_is)
    (case l18 => k_is)
    (case c18 => k_is)
    (case k18 => k_is)
    (case a19 => k_is)
    (case l19 => k_is)
    (case c19 => k_is)
    (case k19 => k_is)
    (case a20 => k_is)
    (case l20 => k_is)
    (case c20 => k_is)
    (case k20 => k_is)
    (case a21 => k_is)
    (case l21 => k_is)
    (case c21 => k_is)
    (case k21 => k_is)
    (case a22 => k_is)
    (case l22 => k_is)
    (case c22 => k_is)
    (case k22 => k_is)
    (case a23 => k_is)
    (case l23 => k_is)
    (case c23 => k_is)
    (case k23 => k_is)
    (case a24 => k_is)
    (case l24 => k_is)
    (case c24 => k_is)
    (case k24 => k_is)
    (case a25 => k_is)
    (case l25 => k_is)
    (case c25 => k_is)
    (case k25 => k_is)
    (case a26 => k_is)
    (case l26 => k_is)
    (case c26 => k_is)
    (case k26 => k_is)
    (case a27 => k_is)
    (case l27 => k_is)
    (case c27 => k_is)
    (case k27 => k_is)
    (case a28 => k_is)
    (case l28 => k_is)
    (case c28 => k_is)
    (case k28 => k_is)
    (case a29 => k_is)
    (case l29 => k_is)
    (case c29 => k_is)
    (case k29 => k_is)
    (case a30 => k_is)
    (case l30 => k_is)
    (case c30 => k_is)
    (case k30 => k_is)
    (case a31 => k_is)
    (case l31 => k_is)
    (case c31 => k_is)
    (case k31 => k_is)
    (case a32 => k_is)
    (case l32 => k_is)
    (case c32 => k_is)
    (case k32 => k_is)
    (case z0 => k_is)
    (case z1 => k_is)
    (case z2 => k_is)
    (case z3 => k_is)
    (case z4 => k_is)
    (case z5 => k_is)
    (case z6 => k_is)
    (case z7 => k_is)
    (case z8 => k_is)
    (case z9 => k_is)
    (case z10 => k_is)
    (case z11 => k_is)
    (case z12 => k_is)
    (case z13 => k_is)
    (case z14 => k_is)
    (case z15 => k_is)
    (case z16 => k_is)
    (case z17 => k_is)
    (case z18 => k_is)
    (case z19 => k_is)
    (case m0 => k_is)
    (case e0 => decide)
    (case m1 => k_is)
    (case e1 => decide)
    (case m2 => k_is)
    (case e2 => decide)
    (case m3 => k_is)
    (case e3 => decide)
    (case bf_gcd => k_is)
