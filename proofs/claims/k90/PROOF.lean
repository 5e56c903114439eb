import PyProof.Rows.All
import Wide.All
import OpenK.AllK
import Wide.FinOn
import KE.DatumOrd
import KE.GoesEnumKw
import HandS.ForMost
import HandS.Walk
import HandS.Zip
import HandS.SortKw
import HandS.TupAny
import HandS.TupMul
import HandS.IsInst
import HandS.SetFor
import HandS.RaiseMore
import PyProof.ReprRoads
import HandS.Lambda
import HandS.Strs
import PyProof.EnumMake
import HandS.Conv
import HandS.SortInts
import HandS.TupLen
import HandS.Wide
import HandS.Style
import HandS.ExcInit
import HandS.ExcField
import HandS.TryMany
import HandS.WordsExc
import HandS.ExcIs
import HandS.Text
import HandS.StrMore
import HandS.CallLocal
import KE.KDflt
import KE.KExcIs
import KE.KTryMore
import HandS.EndTab
import HandS.Iter
import HandS.Codes
import KE.KRevSl
import PyProof.ReprLen
import PySem.Challenge.RW_callsdown_k90_texts_refused
set_option Elab.async false
set_option linter.all false
set_option maxRecDepth 100000
set_option maxHeartbeats 4000000
/-! own rules: a dict with tuple keys of None and ints -/
namespace CD
open PySem PySem.Spec PyProof.Rows L2

/-! ### keys: None or an int -/
def oIs : Option Int → Value → Bool
  | none, .none => true
  | none, _ => false
  | some i, v => Value.isInt i v
def oH : Option Int → Int
  | none => 0xFCA86420
  | some i => hashInt i
def oV : Option Int → V
  | none => .non
  | some i => .int i
theorem oIs_shape : ∀ {k : Option Int} {v : Value}, oIs k v = true → (k = none ∧ v = Value.none) ∨ (∃ i t, k = some i ∧ v = Value.int i t)
  | none, v, h => by
    cases v <;> first | exact .inl ⟨rfl, rfl⟩ | exact absurd h (by simp [oIs])
  | some i, v, h => by
    obtain ⟨t, e⟩ := Value.isInt_shape (k := i) (v := v) h
    exact .inr ⟨i, t, rfl, e⟩
theorem oIs_none : oIs none .none = true := rfl
theorem oIs_int (i : Int) (t : Tok) : oIs (some i) (.int i t) = true := by simp [oIs, Value.isInt]
theorem wpAny_pyHash_none {prog : Program} {w : World} {A : Around} {E : Value → Shared → Prop} {s : Shared} {Q : Int → Shared → Prop} (h : Q 0xFCA86420 { s with toks := s.toks + 1 }) :
    wpAny (model prog w) A (pyHash .none) Q E s := by
  unfold pyHash
  have hT : s.TypeIs Value.none "NoneType" := rfl
  have hv : [Value.none].any Value.onHeap = false := rfl
  refine wpAny_bind ?_
  rw [cRoomFor, if_neg (by rw [hv]; exact Bool.false_ne_true)]; refine wpAny_pure ?_
  refine wpAny_bind (wpAny_specialOf hT F.slot_NoneType_hash.lookup ?_)
  show wpAny _ _ (if (some (Value.builtin "NoneType.__hash__") == some Value.none) = true then _ else _) Q E s
  rw [if_neg (by rw [beq_builtin_none]; exact Bool.false_ne_true)]
  refine wpAny_bind (wpAny_specialOf hT F.slot_NoneType_hash.lookup ?_)
  show wpAny _ _ (callSpecialIfBoundUnlessNone? .none "__hash__" _ >>= _) Q E s
  refine wpAny_bind (wpAny_callSpecialIfBoundUnlessNone?_slot hT F.slot_NoneType_hash
    (wpAny_call_entry F.slot_NoneType_hash hT F.entry_NoneType_hash
      (show wpAny _ _ (do ret (← mkInt 0xFCA86420)) _ _ s from wpAny_ret_mkInt ?_) (F.args_NoneType_hash_1 _)))
  show wpAny _ _ (if (decide (-(2 : Int) ^ 63 ≤ 0xFCA86420) && decide ((0xFCA86420 : Int) < 2 ^ 63)) = true then _ else _) Q E _
  rw [if_pos (by decide)]
  exact wpAny_pure h
theorem okey_ss (a b : Int) : decide (some a = some b) = (a == b) := by
  by_cases e : a = b
  · subst e; simp
  · have h : ¬ some a = some b := fun q => e (Option.some.inj q)
    rw [decide_eq_false h]
    exact (beq_eq_false_iff_ne.mpr e).symm
theorem wpAny_eqBool_none {prog : Program} {w : World} {A : Around} {E : Value → Shared → Prop} {s : Shared} {Q : Bool → Shared → Prop} (h : Q true s) :
    wpAny (model prog w) A (eqBool .none .none) Q E s := by
  unfold eqBool
  try with_reducible refine wpAny_holding ?_
  show wpAny _ _ (if (Value.none == Value.none) = true then _ else _) Q E s
  rw [if_pos (by rfl)]
  exact wpAny_bind (wpAny_rule (wpAny_pure h))
def optKind (prog : Program) (w : World) : PySem.KeyKind prog w (Option Int) where
  is := oIs
  hash := oH
  inj := fun v a b ha hb => by
    rcases oIs_shape ha with ⟨rfl, rfl⟩ | ⟨i, t, rfl, rfl⟩
    · rcases oIs_shape hb with ⟨rfl, _⟩ | ⟨j, u, rfl, e⟩
      · rfl
      · exact nomatch e
    · rcases oIs_shape hb with ⟨rfl, e⟩ | ⟨j, u, rfl, e⟩
      · exact nomatch e
      · injection e with e1 _; rw [e1]
  byValue := fun k v h => by
    rcases oIs_shape h with ⟨rfl, rfl⟩ | ⟨i, t, rfl, rfl⟩ <;> rfl
  pyHash := fun hv h => by
    rcases oIs_shape hv with ⟨rfl, rfl⟩ | ⟨i, t, rfl, rfl⟩
    · exact wpAny_pyHash_none h
    · exact wpAny_pyHash_int h
  eqBool := fun hu hv h => by
    rcases oIs_shape hu with ⟨rfl, rfl⟩ | ⟨i, t, rfl, rfl⟩
    · rcases oIs_shape hv with ⟨rfl, rfl⟩ | ⟨j, u, rfl, rfl⟩
      · rw [decide_eq_true rfl] at h; exact wpAny_eqBool_none h
      · rw [decide_eq_false (fun q => nomatch q)] at h; exact SeqAt.EqAt.none_int j u _ _ _ _ h
    · rcases oIs_shape hv with ⟨rfl, rfl⟩ | ⟨j, u, rfl, rfl⟩
      · rw [decide_eq_false (fun q => nomatch q)] at h; exact SeqAt.EqAt.int_none i t _ _ _ _ h
      · rw [okey_ss] at h; exact wpAny_eqBool_int h
  «strs» := fun k x t v h => by
    rcases oIs_shape h with ⟨rfl, e⟩ | ⟨i, u, rfl, e⟩ <;> exact nomatch e
theorem oV_is {P : Program} {w : World} {k : Option Int} {u : Value} (r : RelV (oV k) u) : (optKind P w).is k u = true := by
  cases k with
  | none => cases (show u = Value.none from r); rfl
  | some i => obtain ⟨t, e⟩ := (show ∃ t, u = Value.int i t from r); subst e; exact oIs_int i t
theorem oV_inj {a b : Option Int} (e : oV a = oV b) : a = b := by
  cases a <;> cases b
  · rfl
  · exact nomatch (show V.non = V.int _ from e)
  · exact nomatch (show V.int _ = V.non from e)
  · have e' : V.int _ = V.int _ := e; injection e' with e'; rw [e']
theorem oitems_are {P : Program} {w : World} : ∀ {ks : List (Option Int)} {us : List Value}, Vals (ks.map oV) us → ItemsAre (optKind P w) ks us
  | [], _, r => by rw [List.map_nil] at r; cases r; exact .nil
  | k :: ks, _, r => by
    rw [List.map_cons] at r
    cases r with
    | cons h t => exact .cons (oV_is h) (oitems_are t)

/-! ### the dict -/
abbrev OKey := List (Option Int)
/-- the raw dict object at a: xs its entries (key, where the key's tuple lies, value) -/
def RawO (P : Program) (w : World) (a : Addr) (xs : List (OKey × Addr × Value)) (h : Heap) : Prop :=
  ∃ o es ep, h.get? a = some o ∧ o.ExactDict ∧ o.data = .dict es ep ∧ es.toList = xs.map (entryOfKey (tupleKind (optKind P w))) ∧ (xs.map (·.1)).Nodup
/-- a dict with keys of None and ints: its entries, where each key lies -/
def DO (P : Program) (w : World) (a : Addr) (ds : List (OKey × Addr × V)) : HO :=
  .ext fun h => ∃ xs : List (OKey × Addr × Value), Paired (fun (p : OKey × Addr × V) (q : OKey × Addr × Value) => p.1 = q.1 ∧ p.2.1 = q.2.1 ∧ RelV p.2.2 q.2.2) ds xs ∧ (a == sysModules) = false ∧ RawO P w a xs h
/-- the keys lie where they are said to lie -/
def KeysO (H : Hp) (ds : List (OKey × Addr × V)) : Prop := ∀ p ∈ ds, H p.2.1 = some (.tup (p.1.map oV))
def valO (ds : List (OKey × Addr × V)) (k : OKey) : Option V := (ds.find? fun p => decide (p.1 = k)).map (·.2.2)

section
variable {P : Program} {w : World} {H : Hp} {h : Heap} {a : Addr}
theorem okey_of {ks : OKey} (ok : HOk P w H h) (e : H a = some (.tup (ks.map oV))) : (tupleKind (optKind P w)).is h ks a := by
  obtain ⟨_, its, r, o, h1, h2, n, h3⟩ := (show ObjOk P w H h a (.tup (ks.map oV)) from ok a _ e)
  exact ⟨o, its.toArray, n, h1, h2, h3, by simpa using oitems_are r⟩
abbrev OP := Paired (fun (p : OKey × Addr × V) (q : OKey × Addr × Value) => p.1 = q.1 ∧ p.2.1 = q.2.1 ∧ RelV p.2.2 q.2.2)
theorem OP.val {ds : List (OKey × Addr × V)} {xs : List (OKey × Addr × Value)} (r : OP ds xs) (k : OKey) : RelO (valO ds k) ((atKey xs k).map (·.2)) := by
  induction r with
  | nil => exact True.intro
  | @cons p q ps qs h t ih =>
    obtain ⟨h1, _, h2⟩ := h
    by_cases e : p.1 = k
    · have e' : q.1 = k := h1.symm.trans e
      have b : atKey (q :: qs) k = some q.2 := by simp [atKey, List.find?_cons, e']
      have c : valO (p :: ps) k = some p.2.2 := by simp [valO, List.find?_cons, e]
      rw [c, b]; exact h2
    · have e' : ¬ q.1 = k := fun z => e (h1.trans z)
      have b : atKey (q :: qs) k = atKey qs k := by simp [atKey, List.find?_cons, e']
      have c : valO (p :: ps) k = valO ps k := by simp [valO, List.find?_cons, e]
      rw [c, b]; exact ih
theorem do_of {ds : List (OKey × Addr × V)} (ok : HOk P w H h) (e : H a = some (DO P w a ds)) (ks : KeysO H ds) : (a == sysModules) = false ∧ ∃ xs, OP ds xs ∧ h.DictOfH (tupleKind (optKind P w)) a xs := by
  obtain ⟨⟨xs, r, y, o, es, ep, h1, h2, h3, h4, h5⟩, _, _⟩ := (show ObjOk P w H h a (DO P w a ds) from ok a _ e)
  refine ⟨y, xs, r, o, es, ep, h1, h2, h3, h4, fun x hx => ?_, h5⟩
  have all : ∀ {l : List (OKey × Addr × V)} {m : List (OKey × Addr × Value)}, OP l m → KeysO H l → ∀ x ∈ m, (tupleKind (optKind P w)).is h x.1 x.2.1 := by
    intro l m q
    induction q with
    | nil => intro _ x hx; exact nomatch hx
    | @cons p q ps qs hq t ih =>
      intro kk x hx
      rcases List.mem_cons.mp hx with e | hx
      · subst e
        have z := kk p List.mem_cons_self
        rw [hq.2.1] at z
        exact okey_of ok (by rw [← hq.1]; exact z)
      · exact ih (fun p hp => kk p (List.mem_cons_of_mem _ hp)) x hx
  exact all r ks x hx
theorem do_ok {ds : List (OKey × Addr × V)} {xs : List (OKey × Addr × Value)} {H' : Hp} {h' : Heap} (y : (a == sysModules) = false) (r : OP ds xs) (d : h'.DictOfH (tupleKind (optKind P w)) a xs) : ObjOk P w H' h' a (DO P w a ds) := by
  obtain ⟨o, es, ep, h1, h2, h3, h4, h5, h6⟩ := d
  refine ⟨⟨xs, r, y, o, es, ep, h1, h2, h3, h4, h6⟩, ⟨o, h1⟩, fun g1 g2 hg k => ?_⟩
  obtain ⟨xs', r', y', o', es', ep', e1, e2, e3, e4, e5⟩ := hg
  exact ⟨xs', r', y', o', es', ep', k _ e1, e2, e3, e4, e5⟩
end

section
variable {X : Cx} {pins : List (Addr × Obj)} {σ : L2.St} {H : Hp} {s : Shared} {a b : Addr} {v : V} {r : Value} {A : Around} {E : Value → Shared → Prop} {ds : List (OKey × Addr × V)} {k : OKey}
theorem o_getItem {Q : Value → Shared → Prop} (hu : A.units + 1 < cLine) (I : Inv X pins σ H s) (e : H a = some (DO X.prog X.w a ds)) (ks : KeysO H ds) (eb : H b = some (.tup (k.map oV))) (l : valO ds k = some v) (h : ∀ w' s', Inv X pins σ H s' → RelV v w' → Q w' s') :
    wpAny (model X.prog X.w) A (getItem (.ref a) (.ref b)) Q E s := by
  obtain ⟨hd, xs, rel, dd⟩ := do_of I.hok e ks
  obtain ⟨w', hw, rw'⟩ := RelO.some_of (v := v) (o := (atKey xs k).map (·.2)) (by rw [← l]; exact rel.val k)
  obtain ⟨p, hp, hp2⟩ := Option.map_eq_some_iff.mp hw
  refine wpAny_getItem_heap (tupleKind_room_in1 hu) (okey_of I.hok eb) dd hp ?_
  rw [hp2]
  exact h w' _ (I.tok _) rw'
theorem o_in {Q : Value → Shared → Prop} (hu : A.units + 1 < cLine) (I : Inv X pins σ H s) (e : H a = some (DO X.prog X.w a ds)) (ks : KeysO H ds) (eb : H b = some (.tup (k.map oV))) (h : ∀ s', Inv X pins σ H s' → Q (.bool (valO ds k).isSome) s') :
    wpAny (model X.prog X.w) A (compareOp .In (.ref b) (.ref a)) Q E s := by
  obtain ⟨hd, xs, rel, dd⟩ := do_of I.hok e ks
  refine wpAny_in_heap (tupleKind_room_in1 hu) (okey_of I.hok eb) hd dd ?_
  have q := (rel.val k).isSome_eq
  rw [Option.isSome_map] at q
  rw [← q]
  exact h _ (I.tok _)
theorem o_setItem {Q : Unit → Shared → Prop} (hu : A.units + 1 < cLine) (I : Inv X pins σ H s) (e : H a = some (DO X.prog X.w a ds)) (ks : KeysO H ds) (eb : H b = some (.tup (k.map oV))) (hn : valO ds k = none) (hl : ds.length < sizeLine) (rv : RelV v r)
    (h : ∀ s', Inv X pins σ (upd H a (DO X.prog X.w a (ds ++ [(k, b, v)]))) s' → Q () s') :
    wpAny (model X.prog X.w) A (setItem (.ref a) (.ref b) r) Q E s := by
  obtain ⟨hd, xs, rel, dd⟩ := do_of I.hok e ks
  have hz : xs.length ≤ sizeLine := by rw [← Paired.length rel]; exact Nat.le_of_lt hl
  refine wpAny_setItem_heap (hsz := hz) (tupleKind_room_in1 hu) (okey_of I.hok eb) dd fun h' dd' hs => h _ ?_
  have q := (rel.val k).isSome_eq
  rw [Option.isSome_map, hn] at q
  have es : storedH xs k b r = xs ++ [(k, b, r)] := by
    unfold storedH
    rw [← q]
    rfl
  rw [es] at dd'
  have he : ∃ q, h'.get? a = some q := let ⟨q, _, _, hq, _⟩ := dd'; ⟨q, hq⟩
  exact d_write I (by rw [e]; exact True.intro) hs he (do_ok hd (Paired.snoc (b := (k, b, r)) (a := (k, b, v)) rel ⟨rfl, rfl, rv⟩) dd')
end
/-- d[t], t in d, d[t] = v (t new) -/
def tOGet (P : Program) (w : World) (td ty : TE) : TE := fun σ H Q => td σ H fun x H1 => ty σ H1 fun y H2 => ∃ a b ds k v, x = .ref a ∧ y = .ref b ∧ H2 a = some (DO P w a ds) ∧ KeysO H2 ds ∧ H2 b = some (.tup (k.map oV)) ∧ valO ds k = some v ∧ Q v H2
def tOIn (P : Program) (w : World) (ty td : TE) : TE := fun σ H Q => ty σ H fun y H1 => td σ H1 fun x H2 => ∃ a b ds k, x = .ref a ∧ y = .ref b ∧ H2 a = some (DO P w a ds) ∧ KeysO H2 ds ∧ H2 b = some (.tup (k.map oV)) ∧ Q (.bl (valO ds k).isSome) H2
def sOPut (P : Program) (w : World) (td ty tv : TE) : TS := fun D σ H => tv σ H fun v H1 => td σ H1 fun x H2 => ty σ H2 fun y H3 => ∃ a b ds k, x = .ref a ∧ y = .ref b ∧ H3 a = some (DO P w a ds) ∧ KeysO H3 ds ∧ H3 b = some (.tup (k.map oV)) ∧ valO ds k = none ∧ ds.length < sizeLine ∧ D.nx σ (upd H3 a (DO P w a (ds ++ [(k, b, v)])))
section
variable {X : Cx} {o i e value : Expr} {pos pos' tpos : Pos} {td ty tv : TE}
theorem pe_oget (hu : X.A.units + 1 < cLine) (ho : PE X o td) (hi : PE X i ty) (hs : NoSl i) : PE X (.Subscript o i pos) (tOGet X.prog X.w td ty) := by
  refine ⟨fun pins s σ H Q I h => ?_⟩
  refine subD_of PySem.F.slot_dict_getitem.lookup hs (thn (ho.run pins s σ H _ I h) fun u s1 ⟨x, H1, I1, rx, q1⟩ => thn (hi.run pins s1 σ H1 _ I1 q1) fun iv s2 ⟨y, H2, I2, ry, a, b, ds, k, v, ex, ey, e1, e2, e3, e4, q2⟩ => ?_)
  subst ex ey
  obtain rfl : u = Value.ref a := rx
  obtain rfl : iv = Value.ref b := ry
  obtain ⟨_, xs, _, dd⟩ := do_of I2.hok e1 e2
  exact ⟨dd.typeIs, o_getItem hu I2 e1 e2 e3 e4 fun w' s3 I3 rw' => ⟨v, H2, I3, rw', q2⟩⟩
theorem pc_oin (hu : X.A.units + 1 < cLine) (hi : PE X i ty) (ho : PE X o td) : PC X .In i o (tOIn X.prog X.w ty td) := by
  refine ⟨fun pins s σ H Q I h => ?_⟩
  refine thn (hi.run pins s σ H _ I h) fun iv s1 ⟨y, H1, I1, ry, q1⟩ => thn (ho.run pins s1 σ H1 _ I1 q1) fun u s2 ⟨x, H2, I2, rx, a, b, ds, k, ex, ey, e1, e2, e3, q2⟩ => ?_
  subst ex ey
  obtain rfl : u = Value.ref a := rx
  obtain rfl : iv = Value.ref b := ry
  exact o_in hu I2 e1 e2 e3 fun s3 I3 => ⟨.bl _, H2, I3, rfl, q2⟩
theorem ps_oput (hu : X.A.units + 1 < cLine) (ho : PE X o td) (hi : PE X i ty) (hv : PE X value tv) (hs : swapsWith value (some (.Subscript o i pos')) pos.line X.env = pure false) :
    PS X (.Assign [.Subscript o i pos'] value pos) (sOPut X.prog X.w td ty tv) := by
  refine ⟨fun pins s σ H D I h => ?_⟩
  refine wpAny_Assign_Subscript (thn (hv.run pins s σ H _ I h) fun r s1 ⟨v, H1, I1, rv, q1⟩ => thn (ho.run pins s1 σ H1 _ I1 q1) fun u s2 ⟨x, H2, I2, rx, q2⟩ => thn (hi.run pins s2 σ H2 _ I2 q2) fun iv s3 ⟨y, H3, I3, ry, a, b, ds, k, ex, ey, e1, e2, e3, e4, e5, q3⟩ => ?_) hs
  subst ex ey
  obtain rfl : u = Value.ref a := rx
  obtain rfl : iv = Value.ref b := ry
  exact o_setItem hu I3 e1 e2 e3 e4 e5 rv fun s4 I4 => ⟨σ, _, I4, q3⟩
/-- {}: to be such a dict -/
def tDNewO (P : Program) (w : World) : TE := fun _ H Q => ∀ p, H p = none → Q (.ref p) (upd H p (DO P w p []))
theorem do_empty {P : Program} {w : World} {H : Hp} (h : Heap) (hb : sysModules < h.objs.size) : ObjOk P w H (h.push { cls := .type "dict", data := .dict #[] }) h.objs.size (DO P w h.objs.size []) := by
  have e := Heap.get?_push_size h (o := { cls := .type "dict", data := .dict #[] }) rfl
  refine ⟨⟨[], .nil, beq_eq_false_iff_ne.mpr (Ne.symm (Nat.ne_of_lt hb)), _, #[], 0, e, ⟨rfl, rfl, rfl⟩, rfl, rfl, List.nodup_nil⟩, ⟨_, e⟩, fun g1 g2 hg k => ?_⟩
  obtain ⟨xs', r', y', o', es', ep', e1, e2, e3, e4, e5⟩ := hg
  exact ⟨xs', r', y', o', es', ep', k _ e1, e2, e3, e4, e5⟩
theorem pe_dnewO : PE X (.Dict [] [] pos) (tDNewO X.prog X.w) := ⟨fun pins s σ H Q I h =>
  wpAny_Dict_empty ⟨.ref s.heap.objs.size, _, I.laid (a := s.heap.objs.size) (o := DO X.prog X.w s.heap.objs.size []) (t' := s.toks) (fun _ _ q => Heap.get?_push_of_some _ q) (Nat.le_refl _) (do_empty s.heap I.big), rfl, h _ (I.hok.fresh (Nat.le_refl _))⟩⟩
end
end CD
/-! the mathematics of line rules: the walk from person to person, rounds that come again -/
namespace CD
abbrev Win := List (Option Int)
def leastO : List Int → Option Int
  | [] => none
  | n :: ns => some (ns.foldl min n)
/-- window[-step] -/
def back (ws : Win) (s : Int) : Option Int := ws.getD (ws.length - s.toNat) none
def callAt (ws : Win) (p : Int × Nat) : Option Int := (back ws p.1).map (· + (p.2 : Int))
def calls (rule : List Int) (ws : Win) : List Int := (rule.zipIdx 1).filterMap (callAt ws)
def calledAt (rule : List Int) (ws : Win) : Option Int := leastO (calls rule ws)
abbrev LState := Win × Int
def lastOf (tick : Option Int) (last : Int) : Int := match tick with | some t => if last < t then t else last | none => last
def behindP (st : LState) (tick : Option Int) : LState := (st.1.tail ++ [tick], lastOf tick st.2)
def few (rule : List Int) : Nat → LState → LState
  | 0, st => st
  | n + 1, st => few rule n (behindP st (calledAt rule st.1))
def laterW (ws : Win) (m : Int) : Win := ws.map (·.map (· + m))
def told (ws : Win) : List Int := ws.filterMap id
def baseOf (ws : Win) : Int := (leastO (told ws)).getD 0
def shapeOf (ws : Win) : Win := laterW ws (-(baseOf ws))
/-- a LINE RULE -/
structure IsRule (rule : List Int) : Prop where
  pos : 1 ≤ rule.length
  most : rule.length ≤ 4
  step : ∀ s ∈ rule, 1 ≤ s ∧ s ≤ 6
  nodup : rule.Nodup
def reach (rule : List Int) : Nat := (rule.foldl max 0).toNat
def ascB (ns : List Int) : Bool := (ns.zip ns.tail).all fun p => decide (p.1 < p.2)
theorem zip_at {α β : Type} {xs : List α} {ys : List β} {i : Nat} {p : α × β} (h : (xs.zip ys)[i]? = some p) : xs[i]? = some p.1 ∧ ys[i]? = some p.2 := by
  have z := List.getElem?_zip_eq_some.mp h
  exact z
end CD
set_option maxHeartbeats 400000
/-! own rules 2: min(default=), max of a tuple, (x,) * k, enumerate(t, start=), sorted(t, reverse=True), len(set(t)), repr -/
namespace CD
open PySem PySem.Spec PyProof.Rows L2
section
variable {X : Cx}

/-! ### min(xs, default=d), max(t) -/
theorem alike_ints (ns : List Int)   : PySem.W.AlikeAll (ns.map PyData.int) := by
  refine ⟨fun x hx y hy => ?_, fun x hx e => ?_⟩
  · obtain ⟨i, _, rfl⟩ := List.mem_map.mp hx
    obtain ⟨j, _, rfl⟩ := List.mem_map.mp hy
    simp only [PySem.W.alike]
  · obtain ⟨i, _, rfl⟩ := List.mem_map.mp hx
    cases e
theorem reads_ints {h : Heap} : ∀ {us : List Value} {ns : List Int}, IntsAre us ns → ReadsAll h us (ns.map PyData.int) []
  | _, _, .nil => .nil
  | _, _, .cons n t r => ReadsAll.cons (as := []) (bs := []) (.int n t) (reads_ints r)
theorem depth_ints : ∀ ns : List Int, PyData.depthAll (ns.map PyData.int) = 0
  | [] => rfl
  | n :: ns => by
    rw [List.map_cons, PyData.depthAll, depth_ints ns]
    rfl
def orD (d : V) : Option Int → V
  | none => d
  | some m => .int m
def rMinD (K : PySem.W.Frag) : List V → List V → Hp → VK → Prop := fun vs zs H Q => ∃ (a : Addr) (ns : List Int) (d : V), vs = [V.ref a] ∧ zs = [d] ∧ SqL K H a (ns.map V.int) ∧ Q (orD d (leastO ns)) H
theorem cr_minDef (hc : X.calm = true) (hu : X.A.units + 1 < cLine) : CallRK X (.builtin "min") [Str.ofString "default"] (rMinD X.K) := by
  intro pins s σ H vs zs us ws Q I r rz h
  obtain ⟨a, ns, d, rfl, rfl, hs, q⟩ := h
  obtain rfl := Vals.ref1 r
  obtain ⟨w1, rfl, e1⟩ := vals1 rz
  obtain ⟨its, rv, hl, _⟩ := I.list hs
  have hi := rv.ints
  refine PySem.W.min_list_default (I.ok.hd hc) hl.isList (xs := ns.map PyData.int) (as := []) (by simpa using reads_ints hi) (alike_ints ns) (by rw [depth_ints]; exact hu) (fun e h' tk hk => ?_) fun y ys i v h' tk bs e hv hr hk => ?_
  · have e2 : ns = [] := List.map_eq_nil_iff.mp e
    subst e2
    exact ⟨d, H, I.kept hk, e1, q⟩
  · cases ns with
    | nil => cases e
    | cons n ns =>
      rw [List.map_cons] at e
      injection e with e2 e3
      subst e2 e3
      rw [PySem.W.minD_ints] at hr
      cases hr with
      | int i t => exact ⟨.int _, H, I.kept hk, ⟨t, rfl⟩, q⟩
def rMaxT (K : PySem.W.Frag) : List V → Hp → VK → Prop := fun vs H Q => ∃ (a : Addr) (n : Int) (ns : List Int), vs = [V.ref a] ∧ SqT K H a ((n :: ns).map V.int) ∧ Q (.int (ns.foldl max n)) H
theorem cr_maxT (hc : X.calm = true) (hu : X.A.units + 1 < cLine) : CallR X (.builtin "max") (rMaxT X.K) := by
  intro pins s σ H vs us Q I r h
  obtain ⟨a, n, ns, rfl, hs, q⟩ := h
  obtain rfl := Vals.ref1 r
  obtain ⟨its, rv, hl, _⟩ := I.tuple hs
  have hi := rv.ints
  refine PySem.W.max_tuple_data (I.ok.hd hc) (show s.heap.IsTuple a its.toArray from hl) (x := .int n) (xs := ns.map PyData.int) (as := []) (by simpa using reads_ints hi) (alike_ints (n :: ns)) (by
    have := depth_ints (n :: ns)
    rw [List.map_cons] at this
    rw [this]
    exact hu) fun i v h' tk bs hv hr hk => ?_
  rw [PySem.W.maxD_ints] at hr
  cases hr with
  | int i t => exact ⟨.int _, H, I.kept hk, ⟨t, rfl⟩, q⟩

/-! ### t * k, k at most 1 -/
theorem tuple_mul1 (l : Addr) (items : Array Value) (n : Nat) (dd : Option Addr) (sl : Array (Option Value)) (u : Tok) :
    Meets (Builtin.«tuple.__mul__» ⟨[.ref l, .int 1 u], []⟩) (fun _ R s => s.heap.get? l = some { cls := .type "tuple", dict := dd, data := .seq items n, slots := sl } ∧ R (.ok (.ret (Value.ref l))) s) :=
  .of_wp fun prog w A R s h => by
    obtain ⟨hp, g, d, tk, os⟩ := s
    obtain ⟨hl, h⟩ := h
    have f1 := AutoSeq1.idx_int
    wp_walk using wpAny_loadPart' hl
    repeat (first
      | (refine wpAny_ite_false (by decide) ?_; wp_walk using wpAny_loadPart' hl)
      | (refine wpAny_ite_true (by simp) ?_; wp_walk using wpAny_loadPart' hl))
    exact ⟨_, rfl, h⟩
theorem tuple_mul0 (l : Addr) (items : Array Value) (n : Nat) (dd : Option Addr) (sl : Array (Option Value)) (u : Tok) (c1 : items.isEmpty = false) :
    Meets (Builtin.«tuple.__mul__» ⟨[.ref l, .int 0 u], []⟩) (fun _ R s => s.heap.get? l = some { cls := .type "tuple", dict := dd, data := .seq items n, slots := sl } ∧
      R (.ok (.ret (Value.ref s.heap.objs.size))) { s with heap := s.heap.push { cls := Value.type "tuple", data := Data.seq #[] }, toks := s.toks }) :=
  .of_wp fun prog w A R s h => by
    obtain ⟨hp, g, d, tk, os⟩ := s
    obtain ⟨hl, h⟩ := h
    have f1 := AutoSeq1.idx_int
    wp_walk using wpAny_loadPart' hl
    repeat (first
      | (refine wpAny_ite_false (by rw [c1]; decide) ?_; wp_walk using wpAny_loadPart' hl)
      | (refine wpAny_ite_false (by decide) ?_; wp_walk using wpAny_loadPart' hl)
      | (refine wpAny_ite_true (by simp) ?_; wp_walk using wpAny_loadPart' hl))
    exact ⟨_, rfl, h⟩
/-- t * k for k = 0, 1 and more -/
def rRepA (K : PySem.W.Frag) : R2 := fun x y H Q => ∃ l xs, ∃ k : Nat, x = .ref l ∧ y = .int k ∧ SqT K H l xs ∧ xs ≠ [] ∧ k ≤ 1000 ∧ xs.length ≤ 1000 ∧
  (k = 1 → Q (.ref l) H) ∧ (k ≠ 1 → ∀ p, H p = none → Q (.ref p) (upd H p (.tup (List.replicate k xs).flatten)))
theorem op_repA : OpR X (binaryOp .Mult) (rRepA X.K) := by
  intro pins s σ H x y v u Q I rx ry h
  obtain ⟨l, xs, k, rfl, rfl, hT, hne, h2, hz, q1, q2⟩ := h
  by_cases k2 : 2 ≤ k
  · refine op_repT pins s σ H _ _ v u Q I rx ry ⟨l, (k : Int), xs, rfl, rfl, hT, hne, by omega, by omega, hz, ?_⟩
    rw [Int.toNat_natCast]
    exact q2 (by omega)
  · cases rx
    obtain ⟨t, rfl⟩ := ry
    obtain ⟨its, r, ⟨⟨cls, dd, data, sl⟩, ho, hc, n, hd⟩, hs⟩ := I.tuple hT
    simp only at hc hd
    subst hc hd
    have hi : its.toArray.isEmpty = false := by
      cases its with
      | nil =>
        have e := r.length
        cases xs with
        | nil => exact absurd rfl hne
        | cons a b => simp at e
      | cons a b => rfl
    have road : ∀ {Q' : Value → Shared → Prop} (kk : Int), wpAny (model X.prog X.w) X.A (call (.builtin "tuple.__mul__") [.ref l, .int kk t]) Q' X.xe s → wpAny (model X.prog X.w) X.A (binaryOp .Mult (.ref l) (.int kk t)) Q' X.xe s := fun {Q'} kk hq =>
      wpAny_binaryOp_repeat_ref (T := "tuple") (U := "int") (by decide) ⟨_, ho, rfl⟩ (fun s' => typeIs_int s' kk t) noFill_tuple_mul F.fills_int_mul F.slot_int_rmul repeat_tuple F.slot_int_index.lookup
        (call_meets F.slot_int_rmul (typeIs_int s kk t) F.entry_int_rmul (F.args_int_rmul_2 _ _) (int_rmul_tuple kk t l its.toArray n dd sl) ⟨ho, rfl, ⟨_, ho, rfl⟩, hq⟩)
    by_cases k1 : k = 1
    · subst k1
      refine road 1 (call_meets F.slot_tuple_mul ⟨_, ho, rfl⟩ F.entry_tuple_mul (F.args_tuple_mul_2 _ _) (tuple_mul1 l its.toArray n dd sl t) ⟨ho, ?_⟩)
      exact ⟨.ref l, H, I, rfl, q1 rfl⟩
    · obtain rfl : k = 0 := by omega
      refine road 0 (call_meets F.slot_tuple_mul ⟨_, ho, rfl⟩ F.entry_tuple_mul (F.args_tuple_mul_2 _ _) (tuple_mul0 l its.toArray n dd sl t hi) ⟨ho, ?_⟩)
      exact ⟨.ref s.heap.objs.size, _, I.laid (t' := s.toks) (o := .tup []) (fun b ob q => Heap.get?_push_of_some _ q) (Nat.le_refl _) ⟨Nat.zero_le _, [], .nil, IsTup.new _ _⟩, rfl, q2 (by omega) _ (I.hok.fresh (Nat.le_refl _))⟩

/-! ### for i, x in enumerate(t, start=k), t a tuple -/
def IteT (K : PySem.W.Frag) (a : Addr) (k : Int) : It :=
  ⟨fun i H => ∃ (xs : List V) (x : V), SqT K H a xs ∧ xs[i]? = some x,
    fun i H v H' => ∃ T x, v = .ref T ∧ H T = none ∧ H' = upd H T (.tup [.int (k + (i : Nat)), x]) ∧ ∀ xs, SqT K H a xs → xs[i]? = some x,
    fun i H => ∃ xs : List V, SqT K H a xs ∧ xs.length = i⟩
theorem turn_enumT {P : Program} {w : World} {K : PySem.W.Frag} {elts : List Expr} {kk : Nat} {tpos : Pos} (a e it : Addr) (k : Int) :
    Turn P w K (.Tuple elts kk tpos) (IteT K a k) [e, it] e (fun i h => (∃ old, IsEnum h e it (k + (i : Nat)) old) ∧ h.IsTupleIter it a i ∧ e ≠ it) where
  mem := by simp
  obj := fun i h st b hb => by
    obtain ⟨⟨old, he⟩, ⟨o, ho, hc, hd⟩, _⟩ := st
    rcases (by simpa using hb : b = e ∨ b = it) with rfl | rfl
    · exact ⟨_, he, fun v q => nomatch q⟩
    · exact ⟨o, ho, fun v q => by rw [hd] at q; cases q⟩
  keep := fun i h h' st q => ⟨⟨st.1.choose, q e (by simp) _ st.1.choose_spec⟩, st.2.1.at fun o z => q it (by simp) o z, st.2.2⟩
  item := by
    intro X hP hw hK hc i pins s σ H E I hf st hg
    subst hP hw hK
    obtain ⟨⟨old, he⟩, hit, hne⟩ := st
    obtain ⟨xs, x, hq, hx⟩ := hg
    obtain ⟨its, rv, p, hz⟩ := I.tuple hq
    obtain ⟨u, hu, ru⟩ := rv.get hx
    have hel : e < s.heap.objs.size := Heap.lt_size he
    have hil : it < s.heap.objs.size := by obtain ⟨_, q, _⟩ := hit; exact Heap.lt_size q
    have hai : a ≠ it := by
      intro z
      obtain ⟨o1, h1, c1, _⟩ := p
      obtain ⟨o2, h2, c2, _⟩ := hit
      rw [z, h2] at h1
      cases h1
      rw [c1] at c2
      exact absurd c2 (by decide)
    have hae : e ≠ a := by
      intro z
      obtain ⟨o1, h1, c1, _⟩ := p
      rw [← z, he] at h1
      cases h1
      have c2 : Value.type "enumerate" = Value.type "tuple" := c1
      exact absurd c2 (by decide)
    have hlen : its.toArray.size = xs.length := by rw [List.size_toArray]; exact rv.length.symm
    have hi : i < its.toArray.size := by
      rw [hlen]
      exact (List.getElem?_eq_some_iff.mp hx).1
    refine PySem.wpAny_pyNext_enum_itemC (Draws.tuple (A := X.A.in1) (I.ok.hd hc) it a hai its.toArray) he ⟨hit, show s.heap.IsTuple a its.toArray from p⟩ hi hne (by simp [hne, hae]) fun y h' tk hy ho hst' hT hsz hk => ?_
    obtain rfl : u = y := by
      have z : its.toArray[i]? = some u := by simpa using hu
      exact Option.some.inj (z.symm.trans hy)
    refine ⟨_, rfl, wpAny_letOwnedTupleGo_enum (s := { s with heap := h', toks := tk + 1 }) ho fun h'' he' sb => ?_⟩
    have hT2 := (sb.2 _ (Nat.ne_of_gt hel)).trans hT
    have new : ObjOk X.prog X.w (upd H s.heap.objs.size (.tup [.int (k + (i : Nat)), x])) h'' s.heap.objs.size (.tup [.int (k + (i : Nat)), x]) :=
      ⟨(by decide : 2 ≤ sizeLine), _, .cons ⟨tk, rfl⟩ (.cons ru .nil), ⟨_, hT2, rfl, _, rfl⟩⟩
    have ap : ∀ b, b ∉ [e, it] → b ≠ e ∧ b ≠ it := fun b hb => by simpa using hb
    have I1 := I.turnedNew (t' := tk + 1) (ch := [e, it]) (fun b ob hb q => (sb.2 b (ap b hb).1).trans (hk b ob (ap b hb).1 (ap b hb).2 q)) hf (Nat.le_refl _) new
    refine ⟨.ref s.heap.objs.size, _, I1, rfl, ⟨_, x, rfl, I.hok.fresh (Nat.le_refl _), rfl, fun ys hy => by rw [I.tuple_inj hy hq]; exact hx⟩, ⟨⟨u, ?_⟩, hst'.1.at fun o q => (sb.2 it (Ne.symm hne)).trans q, hne⟩, fun b hb => ?_⟩
    · have e1 : k + ((i + 1 : Nat) : Int) = k + (i : Nat) + 1 := by omega
      rw [e1]; exact he'
    · have hb' : b < s.heap.objs.size := by
        rcases (by simpa using hb : b = e ∨ b = it) with rfl | rfl
        · exact hel
        · exact hil
      rw [upd_ne (Nat.ne_of_lt hb')]
      exact (hf b hb).1
  done := by
    intro X hP hw hK hc i pins s σ H E I hf st hg
    subst hP hw hK
    obtain ⟨⟨old, he⟩, hit, hne⟩ := st
    obtain ⟨xs, hq, hx⟩ := hg
    obtain ⟨its, rv, p, hz⟩ := I.tuple hq
    obtain ⟨f0, f1, f2, f3, f4, f5⟩ := hf it (by simp)
    have hl := rv.length
    have hai : a ≠ it := by
      intro z
      obtain ⟨o1, h1, c1, _⟩ := p
      obtain ⟨o2, h2, c2, _⟩ := hit
      rw [z, h2] at h1
      cases h1
      rw [c1] at c2
      exact absurd c2 (by decide)
    have hsz : i = its.toArray.size := by rw [List.size_toArray]; omega
    subst hsz
    refine PySem.wpAny_pyNext_enum_endD (Draws.tuple (A := X.A.in1) (I.ok.hd hc) it a hai its.toArray) he ⟨hit, show s.heap.IsTuple a its.toArray from p⟩ fun h' eb => ?_
    exact ⟨rfl, I.turned (t' := s.toks) (fun b o hb q => eb b o hb q) f0 f1 f3 f4 f5⟩
  self := fun A i s Q E st h => wpAny_pyIter_enum st.1.choose_spec h
theorem walk_enumT {K : PySem.W.Frag} {a : Addr} {k : Int} {xs : List V} : Walk (IteT K a k) xs.length (fun H => SqT K H a xs) (YPair (fun i => some (.int (k + (i : Nat)))) (fun i => xs[i]?)) := by
  refine ⟨fun i _ hi q => ⟨xs, xs[i], q, by simp [hi]⟩, fun _ q => ⟨xs, q, rfl⟩, fun i H v H' _ q y => ?_⟩
  obtain ⟨T, x, h1, h2, h3, h4⟩ := y
  exact ⟨T, .int (k + (i : Nat)), x, h1, h2, h3, rfl, h4 xs q⟩
theorem callWith_tyK {M : Model} {A : Around} {E : Value → Shared → Prop} {s : Shared} {env : Env} {pos : Pos} {T : String} {e : Expr} {kws : List Keyword} {Q : Value → Shared → Prop}
    (h : wpAny M A (spliced (backTo pos (starEach [e] env))) (fun vs s₁ => wpAny M A (evalAll ((backToKw pos (keywordEach kws env)).map (·.2)))
      (fun kvs s₂ => wpAny M A (call (.type T) vs (((backToKw pos (keywordEach kws env)).filterMap (·.1)).zip kvs)) Q E s₂) E s₁) E s)
    (he : backTo pos (starEach [e] env) = [(false, eval e env)])
    (hall : (backToKw pos (keywordEach kws env)).all (·.1.isSome) = true)
    (hkw : (backToKw pos (keywordEach kws env)).any (·.1.isNone) = false) :
    wpAny M A (callWith pos (.type T) [] (backTo pos (starEach [e] env)) (backToKw pos (keywordEach kws env))) Q E s := by
  rw [he] at h ⊢
  have h2 := PyProof.Rows.evalArgs_kwB (f := .type T) (Q := fun a s₁ => wpAny M A (call (.type T) ([] ++ a.pos) a.kw) Q E s₁) hall h
  unfold callWith
  refine wpAny_bind (wpAny_holding (wpAny_mono h2 (fun a s₁ h₁ => wpAny_bind (wpAny_standAt ?_)) fun _ _ z => z))
  simp only [List.any_cons, List.any_nil, hkw, Bool.or_false]
  refine wpAny_bind (wpAny_pure ?_)
  refine wpAny_bind (wpAny_mono h₁ (fun r s₂ hr => ?_) fun _ _ z => z)
  exact wpAny_bind (wpAny_holding (wpAny_point (wpAny_pure hr)))
def iEnumT (K : PySem.W.Frag) (ta tk : TA) : TI := fun σ H R => ta σ H fun vs H1 => tk σ H1 fun zs H2 => ∃ a xs k, vs = [.ref a] ∧ zs = [.int k] ∧ -(2 ^ 63) ≤ k ∧ k < 2 ^ 63 ∧ SqT K H2 a xs ∧ R (IteT K a k) H2
theorem pi_enumT {e e2 : Expr} {ta tk : TA} {p pos tpos kpos : Pos} {elts : List Expr} {kk : Nat} (hg : Gl X "enumerate") (hm : X.mg "enumerate" = none) (ha : PA X [e] ta) (hk : PK X [⟨some (Str.ofString "start"), e2, kpos⟩] tk)
    (hs : backTo pos (starEach [e] X.env) = [(false, eval e X.env)] := by rfl)
    (hall : (backToKw pos (keywordEach [⟨some (Str.ofString "start"), e2, kpos⟩] X.env)).all (·.1.isSome) = true := by rfl) (hnone : (backToKw pos (keywordEach [⟨some (Str.ofString "start"), e2, kpos⟩] X.env)).any (·.1.isNone) = false := by rfl)
    (hks : (backToKw pos (keywordEach [⟨some (Str.ofString "start"), e2, kpos⟩] X.env)).filterMap (·.1) = [Str.ofString "start"] := by rfl) :
    PI X (.Tuple elts kk tpos) (.Call (.Name "enumerate" p) [e] [⟨some (Str.ofString "start"), e2, kpos⟩] pos) (iEnumT X.K ta tk) := by
  refine ⟨fun pins s σ H R I h => ?_⟩
  refine wpAny_Call_Name_kw (ld_blt I hg hm boot_enumerate ?_)
  refine callWith_tyK (thn (ha.run pos pins s σ H _ I h) fun us s1 ⟨vs, H1, I1, r1, q1⟩ => thn (hk.run pos pins s1 σ H1 _ I1 q1) fun ws s2 ⟨zs, H2, I2, r2, q2⟩ => ?_) hs hall hnone
  obtain ⟨a, xs, k, rfl, rfl, k0, k1, hq, q⟩ := q2
  obtain rfl := Vals.ref1 r1
  obtain ⟨w1, rfl, tk1, rfl⟩ := vals1 r2
  rw [hks]
  obtain ⟨its, rv, pt, hz⟩ := I2.tuple hq
  refine PySem.enum_begins_start (PySem.begins_tuple a its.toArray) (show s2.heap.IsTuple a its.toArray from pt) k0 k1 fun h' he hit hsz hkeep => wpAny_pyIter_enum he ?_
  have I3 : Inv X pins σ H2 { s2 with heap := h' } := I2.kept (t' := s2.toks) hkeep
  have he0 : IsEnum h' (s2.heap.objs.size + 1) s2.heap.objs.size (k + ((0 : Nat) : Int)) .none := by
    rw [show k + ((0 : Nat) : Int) = k by omega]
    exact he
  have hit0 : h'.IsTupleIter s2.heap.objs.size a 0 := ⟨_, hit, rfl, rfl⟩
  refine ⟨s2.heap.objs.size + 1, [s2.heap.objs.size + 1, s2.heap.objs.size], _, _, H2, rfl, I3, turn_enumT a (s2.heap.objs.size + 1) s2.heap.objs.size k, ?_, fun b hb => ?_, q⟩
  · exact ⟨⟨.none, he0⟩, hit0, Nat.succ_ne_self _⟩
  · have hle : s2.heap.objs.size ≤ b := by
      rcases (by simpa using hb : b = s2.heap.objs.size + 1 ∨ b = s2.heap.objs.size) with z | z
      · rw [z]; exact Nat.le_succ _
      · rw [z]; exact Nat.le_refl _
    exact I2.fpOk hle (I2.hok.fresh hle)
end
end CD
/-! own rules 3: len(set(t)), repr of data, sorted(t, reverse=True) -/
namespace CD
open PySem PySem.Spec PyProof.Rows L2
section
variable {X : Cx}
/-! ### len(set(t)), t a tuple of unlike ints -/
def tLenSetT (K : PySem.W.Frag) (ta : TE) : TE := fun σ H Q => ta σ H fun x H1 => ∃ (l : Addr) (ns : List Int), x = .ref l ∧ SqT K H1 l (ns.map V.int) ∧ ns.Nodup ∧ ns.length ≤ 1000 ∧ Q (.int (ns.length : Nat)) H1
theorem pe_lenSetT {a : Expr} {ta : TE} {p p2 q pos : Pos} (hg : Gl X "len") (hm : X.mg "len" = none) (hg2 : Gl X "set") (hm2 : X.mg "set" = none) (ha : PE X a ta) (hc : X.calm = true := by rfl)
    (na : starEach [a] X.env = (false, eval a X.env) :: starEach [] X.env := by rfl) : PE X (.Call (.Name "len" p) [.Call (.Name "set" p2) [a] [] q] [] pos) (tLenSetT X.K ta) := by
  refine ⟨fun pins s σ H Q I h => ?_⟩
  refine Call_ (ld_blt I hg hm boot_len (PyProof.Rows.callWith_builtin1 (PyProof.Rows.args_cons ?_ rfl) rfl rfl))
  refine Call_ (ld_blt I hg2 hm2 boot_set (PyProof.Rows.callWith_type1 (PyProof.Rows.args_cons (thn (ha.run pins s σ H _ I h) fun v s1 ⟨x, H1, I1, r1, l, ns, ex, hq, hnd, hl, q1⟩ => PyProof.Rows.args_nil ?_) na) na rfl))
  subst ex
  cases r1
  obtain ⟨its, r, pl, hz⟩ := I1.tuple hq
  refine call_set_tupI ns (I1.ok.hd hc) (show s1.heap.IsTuple l its.toArray from pl) (by simpa using ints_of_vals r) (by unfold scanBound; omega) fun h' tk c hS hcl hk => PyProof.Rows.args_nil ?_
  obtain ⟨o, es, ep, t, ho, hex, hdt, g, nd, hm3, hb, hf, hn, _, _⟩ := hS
  have hlen : es.size = ns.length := by
    have e1 : (es.toList.map keyOf).Perm ns := (List.perm_ext_iff_of_nodup nd hnd).mpr fun j => by
      have z : decide (j ∈ ns) = true ↔ j ∈ es.toList.map keyOf := hm3 j
      rw [decide_eq_true_eq] at z
      exact z.symm
    have := e1.length_eq
    simpa using this
  have I2 : Inv X pins σ H1 { s1 with heap := h', toks := tk } := I1.kept hk
  exact call_len_set ho hex hdt hf (by omega) ⟨.int ns.length, H1, I2.tok _, ⟨_, by rw [hlen]⟩, q1⟩

/-! ### repr of data -/
def rRepr (K : PySem.W.Frag) : List V → Hp → VK → Prop := fun vs H Q => ∃ (x : V) (d : PyData), vs = [x] ∧ Dp K H x d ∧ d.showable = true ∧ d.hasDict = false ∧ d.depth ≤ 60 ∧ d.shown.length ≤ sizeLine ∧ Q (.str d.shown) H
theorem call_reprD (hg : X.A.guards = some []) (hu : X.A.units + 64 < cLine) : CallR X (.builtin "repr") (rRepr X.K) := by
  intro pins s σ H xs us Q I r h
  obtain ⟨x, d, rfl, hd, hs, hn, hp, hz, q⟩ := h
  obtain ⟨u, rfl, ru⟩ := vals1 r
  obtain ⟨as, rd⟩ := Dp.reads I d x u hd ru
  have nd : d.hasDict = true → sysModules ∉ as := fun e => by rw [hn] at e; cases e
  cases rd with
  | list h1 h2 h3 h4 => exact repr_of_reads' (.list h1 h2 h3 h4) hs nd hg (by omega) (fun _ _ e => e) (fun h' u tk hk => ⟨.str _, H, I.kept hk, ⟨_, rfl⟩, q⟩) hz
  | tuple h1 h2 h3 h4 => exact repr_of_reads' (.tuple h1 h2 h3 h4) hs nd hg (by omega) (fun _ _ e => e) (fun h' u tk hk => ⟨.str _, H, I.kept hk, ⟨_, rfl⟩, q⟩) hz
  | dict h1 h2 h3 h4 h5 => exact repr_of_reads' (.dict h1 h2 h3 h4 h5) hs nd hg (by omega) (fun _ _ e => e) (fun h' u tk hk => ⟨.str _, H, I.kept hk, ⟨_, rfl⟩, q⟩) hz
  | int i t => exact PySem.P.repr_of_int (by simpa [PyData.showable] using hs) ⟨.str _, H, I.tok _, ⟨_, rfl⟩, q⟩
  | none => exact PySem.P.repr_of_none ⟨.str _, H, I.tok _, ⟨_, rfl⟩, q⟩
  | bool b => exact PySem.P.repr_of_bool ⟨.str _, H, I.tok _, ⟨_, rfl⟩, q⟩
  | str y t => exact PySem.P.repr_of_str ⟨.str _, H, I.tok _, ⟨_, rfl⟩, q⟩ hz

/-! ### sorted(t, reverse=True), t a tuple of ints -/
theorem collect_tup {prog : Program} {w : World} {A : Around} {E : Value → Shared → Prop} {s : Shared} {l : Addr} {vs : List Value} {Q : List Value → Shared → Prop} (hl : IsTup s.heap l vs.toArray) (hsz : vs.length ≤ sizeLine)
    (h : Q vs { s with heap := (s.heap.push (seqObj "list" #[] 0)).update s.heap.objs.size (Obj.mapSeq (· ++ vs.toArray)) }) : wpAny (model prog w) A (collect (.ref l)) Q E s := by
  obtain ⟨o, ho, hc, n, hd⟩ := id hl
  have e0 : (s.heap.push (seqObj "list" #[] 0)).get? s.heap.objs.size = some (seqObj "list" #[] 0) := Heap.get?_push_size _ rfl
  have e1 : (s.heap.push (seqObj "list" #[] 0)).get? l = some o := Heap.get?_push_of_some _ ho
  unfold collect
  refine wpAny_bind (wpAny_runValue (codeAny_builtin entry_proto_collect' (wpAny_bind (wpAny_newList (wpAny_pure ⟨Code.quiet_builtin _ (by decide +kernel), codeAny_builtin entry_list_iadd' ?_⟩)))))
  show wpAny _ _ (Builtin.List.listExtendWith (.ref s.heap.objs.size) (.ref l) (.ref s.heap.objs.size)) _ _ { s with heap := s.heap.push (seqObj "list" #[] 0) }
  unfold Builtin.List.listExtendWith
  refine wpAny_bind (wpAny_typeOf (T := "tuple") ⟨o, e1, hc⟩ ?_)
  rw [if_pos (by rw [show (Value.type "tuple" == Value.type "tuple") = true by rfl]; simp)]
  refine wpAny_bind (listItems_at e1 hd (wpAny_bind (listItems_at (xs := #[]) (n := 0) e0 rfl ?_)))
  rw [if_neg (by simp)]
  refine wpAny_bind (listUpdate_at (xs := #[]) (n := 0) e0 rfl (wpAny_pure ?_) (Nat.zero_le _) (by show (#[] ++ vs.toArray).size ≤ sizeLine + 1; simp only [Array.size_append, List.size_toArray, List.length_nil]; omega))
  refine wpAny_bind (wpAny_load (get?_update_seq e0 _) ?_)
  show wpAny _ _ (pure ((#[] : Array Value) ++ vs.toArray).toList) Q E _
  have e3 : ((#[] : Array Value) ++ vs.toArray).toList = vs := by simp
  rw [e3]
  exact wpAny_pure h
theorem sorted_tup {prog : Program} {w : World} {A : Around} {E : Value → Shared → Prop} {s : Shared} {l : Addr} {vs : List Value} {ns : List Int} {b : Bool} {Q : Value → Shared → Prop} (hl : IsTup s.heap l vs.toArray) (hz : vs.length ≤ sizeLine) (hi : IntsAre vs ns)
    (h : ∀ (out : Array Value) (ns' : List Int), IntsAre out.toList ns' → ns'.Perm ns → OrdB b ns' → Q (.ref (s.heap.objs.size + 1)) { s with heap := sortedAll s.heap vs out }) :
    wpAny (model prog w) A (call (.builtin "sorted") [.ref l] [(Str.ofString "reverse", .bool b)]) Q E s := by
  refine call_function_entry_kw kind_sorted plain_sorted entry_sorted (PyProof.Rows.args_sorted_rev _ _) ?_
  unfold Builtin.«sorted»
  refine wpAny_bind (m := checkCount "sorted" 1 1 _) (wpAny_pure (wpAny_bind (collect_tup hl hz (wpAny_bind (wpAny_newList ?_ hz)))))
  have z0 : (s.heap.push (seqObj "list" #[] 0)).objs.size = s.heap.objs.size + 1 := Heap.size_push ..
  generalize hg1 : (s.heap.push (seqObj "list" #[] 0)).update s.heap.objs.size (Obj.mapSeq (· ++ vs.toArray)) = h1
  have z1 : h1.objs.size = s.heap.objs.size + 1 := by rw [← hg1, Heap.size_update, z0]
  have k1 : ∀ c u, s.heap.get? c = some u → h1.get? c = some u := fun c u q => by
    have lt := Heap.lt_size q
    rw [← hg1, Heap.get?_update_ne _ _ _ _ (Nat.ne_of_lt lt)]
    exact Heap.get?_push_of_some _ q
  have o1 : (h1.push (seqObj "list" vs.toArray 0)).get? (s.heap.objs.size + 1) = some (seqObj "list" vs.toArray 0) := by
    rw [← z1]; exact Heap.get?_push_size _ rfl
  show wpAny _ _ _ _ _ { s with heap := h1.push (seqObj "list" vs.toArray 0) }
  rw [z1]
  refine wpAny_bind (wpAny_holding (wpAny_call_entry_kw slot_list_sort ⟨_, o1, rfl⟩ entry_list_sort ?_ (PyProof.Rows.args_list_sort_rev _ _)))
  refine SrtR.list_sort_ordR (b := b) SrtO.swo_int o1 hz (fun h2 => SrtO.ints_sortable hi h2) fun out hs hb => ⟨_, rfl, wpAny_pure ⟨_, rfl, ?_⟩⟩
  obtain ⟨ns', k1, k2, k3⟩ := SrtR.ints_outR hi hs hb
  have := h _ ns' k1 k2 k3
  rw [← hg1]
  exact this
/-- sorted(t, reverse=b) -/
def rSortedT (K : PySem.W.Frag) (b : Bool) : List V → List V → Hp → VK → Prop := fun vs zs H Q => ∃ (a : Addr) (ns : List Int), vs = [V.ref a] ∧ zs = [.bl b] ∧ SqT K H a (ns.map V.int) ∧
  ∀ (ns' : List Int) (p : Addr), ns'.Perm ns → OrdB b ns' → H p = none → Q (.ref p) (upd H p (.lst (ns'.map V.int)))
theorem cr_sortedTRev {b : Bool} : CallRK X (.builtin "sorted") [Str.ofString "reverse"] (rSortedT X.K b) := by
  intro pins s σ H vs zs us ws Q I r rz h
  obtain ⟨a, ns, rfl, rfl, hs, q⟩ := h
  obtain rfl := Vals.ref1 r
  obtain ⟨w1, rfl, e1⟩ := vals1 rz
  obtain rfl : w1 = Value.bool b := e1
  obtain ⟨its, rv, hl, hz⟩ := I.tuple hs
  refine sorted_tup hl (by rw [← rv.length]; exact hz) rv.ints fun out ns' k1 k2 k3 => ?_
  obtain ⟨ep, he'⟩ := PyProof.Rows.sortedAll_at s.heap its out
  have hlen : (ns'.map V.int).length ≤ sizeLine := by
    rw [List.length_map, k2.length_eq]
    rw [List.length_map] at hz
    exact hz
  have e0 : out.toList.toArray = out := Array.toArray_toList
  exact ⟨.ref _, upd H (s.heap.objs.size + 1) (.lst (ns'.map V.int)), I.laid (t' := s.toks) (fun _ _ => PyProof.Rows.sortedAll_old) (Nat.le_succ _) ⟨hlen, _, ep, vals_of_ints k1, by rw [e0]; exact he'⟩, rfl, q _ _ k2 k3 (I.hok.fresh (Nat.le_succ _))⟩
end

/-! ### a def that asks that nothing is under repr -/
structure GOk (P : Program) (w : World) (K : PySem.W.Frag) (mg : Str → Option Value) (base : Heap) (k : Nat) (f : Addr) (fd : FuncData) (ps : List Str) (sp : Sp) : Prop where
  len : ∀ vs H Q E, sp vs H Q E → vs.length = ps.length
  run : ∀ (A : Around) (outer : List Env) (s : Shared) (H : Hp) (args : Args) (us : List Value) (vs : List V) (Q : VK) (E : XK), A.guards = some [] → Room k A → Env0 P w K mg base A outer s H → BindsTo s fd args (ps.zip us) → Vals vs us → sp vs H Q E →
    codeAny (model P w) A (.call (.ref f) args) (CR CX0 outer P w H s Q E) s
end CD
/-! own rules 4: defs that call repr, the law's end over such -/
namespace CD
open PySem PySem.Spec PyProof.Rows L2
section
variable {P : Program} {w : World} {K : PySem.W.Frag} {mg : Str → Option Value} {base : Heap}
theorem g_ok {x qual : Str} {st : Stmt} {f : Addr} {fd : FuncData} {N ps : List Str} {k : Nat} {sp : Sp} (F : Fun K x qual st f fd) (S : FnScope N ps (defScope st)) (len : ∀ vs H Q E, sp vs H Q E → vs.length = ps.length)
    (body : ∀ (cdv : Value) (A : Around) (outer : List Env) (s : Shared) (H : Hp) (vs : List V) (Q : VK) (E : XK), A.guards = some [] → Room k (A.deeper (envOfC qual (defScope st) s.heap.objs.size f cdv)) → sp vs H Q E →
      ∃ t, PSs (cxOf CX0 P w K mg base N qual (defScope st) f cdv A outer s H E).nox (defBody st) t ∧ t { nx := fun _ H' => Q .non H', rt := Q } (start N vs) H) : GOk P w K mg base (k + 1) f fd ps sp := by
  obtain ⟨oc, od, kV, doc, pm, an, cdv, ct, osl, rfl, lk, hcd⟩ := F.ex
  refine ⟨len, fun A outer s H args us vs Q E hg hr e0 hb r hsp => ?_⟩
  -- the promise at this one A, as if there were no other
  have one : FnOk P w K mg base CX0 (k + 1) f (PySem.W.fnOf x qual (defArgs st) (defBody st) (defScope st) .none kV doc pm an cdv ct) ps
      (fun vs' H' Q' E' => sp vs' H' Q' E') → codeAny (model P w) A (.call (.ref f) args) (CR CX0 outer P w H s Q E) s := fun G => G.run A outer s H args us vs Q E hr e0 hb r hsp
  have keepB : ∀ b o, base.get? b = some o → s.heap.get? b = some o := fun b o e => (e0.bs b o e).1
  refine codeAny_call_function hr.depth ((e0.mod.kin.keeps keepB) _ _ lk) rfl S.co S.gen rfl (PySem.W.codeRec_of (e0.mod.kin.keeps keepB) hcd) (hb _ _ _ _ ?_)
  refine wpAny_newFunctionEnv_cells S.kind (fun y hy => ?_) fun env he s1 x1 => ?_
  · rcases S.par y.1 (List.of_mem_zip hy).1 with q | q
    · exact .inl q
    · exact .inr ⟨q, PySem.W.cellsFrom_some _ _ _ (.inl q)⟩
  subst he
  refine ⟨(e0.mod.nolimit.keeps keepB).keeps x1.toInCall.keep, codeAny_func ?_⟩
  obtain ⟨t, ht, hq⟩ := body cdv A outer s H vs Q E hg (hr.deeper _) hsp
  refine wpAny_mono (ht.nox.run [] s1 (start N vs) H _ (inv_start S hr.hd e0 (len _ _ _ _ hsp) r x1) hq) (fun fl s' hs => ?_) fun e s' hs => hs
  match fl, hs with
  | .ret u, ⟨v, σ', H', J, rv, q⟩ => exact ⟨v, H', J.os, J.bare, J.base, J.hok, rv, q⟩
  | .next, ⟨σ', H', J, q⟩ => exact ⟨V.non, H', J.os, J.bare, J.base, J.hok, rfl, q⟩
  | .brk, ⟨_, _, _, q⟩ => exact False.elim q
  | .cont, ⟨_, _, _, q⟩ => exact False.elim q
end
section
variable {X : Cx} {k : Nat} {f : Addr} {fd : FuncData} {ps : List Str} {sp : Sp} {x : Str} {p pos : Pos} {e : Expr} {es : List Expr} {t : TA}
theorem pe_callG (G : GOk X.prog X.w X.K X.mg X.base k f fd ps sp) (hgd : X.A.guards = some []) (hr : Room k X.A) (hg : Gl X x) (hm : X.mg x = some (.ref f)) (hk : PySem.W.keepIn X.K (.ref f) = true) (hb : Binds X.K fd ps [])
    (ha : PA X (e :: es) t) (hdb : (x == ("__debug__" : Str)) = false := by decide) (he : starEach (e :: es) X.env = (false, eval e X.env) :: starEach es X.env := by rfl) (hpl : (backTo pos (starEach es X.env)).any (·.1) = false := by rfl) :
    PE X (.Call (.Name x p) (e :: es) [] pos) (tCall sp [] E0 t) := by
  refine ⟨fun pins s σ H Q I h => wpAny_Call_Name_kw (ld_glob I hg hm ?_ hdb)⟩
  refine PySem.W.callWith_K (h₀ := X.base) I.ok.mod.kin hk (thn (ha.run pos pins s σ H _ I h) fun us s1 ⟨vs, H1, I1, r, q⟩ => ⟨I1.kIn, ?_⟩) he hpl
  have q' : sp vs H1 Q E0 := by
    have z : sp (vs ++ []) H1 Q E0 := q
    rwa [List.append_nil] at z
  have hl : (us ++ []).length = ps.length := by rw [List.append_nil, ← r.length]; exact G.len _ _ _ _ q'
  have hbb := hb s1 us I1.kIn hl
  rw [List.append_nil] at hbb
  refine wpAny_call (codeAny_mono (G.run X.A X.stack s1 H1 ⟨us, []⟩ us vs Q E0 hgd hr I1.env0 hbb r q') fun r s' hq => ?_)
  match r, hq with
  | .error _, hq => exact False.elim hq
  | .ok (.ret u), hq => exact I1.after hq
  | .ok .next, hq => exact False.elim hq
  | .ok .brk, hq => exact False.elim hq
  | .ok .cont, hq => exact False.elim hq
end
/-! ### the law's end -/
/-- the abstract heap at the law's entry: the script alone, if it is none of the module's own objects -/
def H00 (K : PySem.W.Frag) (a : Addr) (o : Obj) (ns : List Int) : Hp := fun b => if b = a ∧ K.lookup a = none then some (.frz o (.lst (ns.map V.int))) else none
theorem law_g {P : Program} {w : World} {K : PySem.W.Frag} {mg mb : Str → Option Value} {k : Nat} {fa a : Addr} {fd : FuncData} {x : Str} {sp : Sp} {s₁ : Shared} {vs : List Value} {ns : List Int}
    (KX : K.In s₁.heap) (hns : s₁.heap.Ns mainGlobals mg) (hb : s₁.heap.Ns builtinsNs mb) (hbb : ∀ x : Str, x ≠ "__name__" → mb x = bootBuiltins x) (hlim : s₁.heap.NoLimit) (hg : s₁.gens = #[])
    (ha : s₁.heap.get? a = some { cls := .type "list", data := .seq vs.toArray }) (hi : IntsAre vs ns) (hl : ns.length ≤ sizeLine) (hr : Room k callerA)
    (F : ∀ base : Heap, K.In base → base.Ns mainGlobals mg → GOk P w K mg base k fa fd [x] sp) (hbind : ∀ (s : Shared) (u : Value), BindsTo s fd ⟨[u], []⟩ [(x, u)])
    (hsp : ∀ H : Hp, SqL K H a (ns.map V.int) → sp [.ref a] H (fun v _ => v = .bl true) fun _ _ _ => False) :
    codeAny (model P w) callerA (.call (.ref fa) ⟨[.ref a], []⟩) (fun r s' => r = .ok (.ret (.bool true)) ∧ OldK s₁.heap s'.heap ∧ s'.os = s₁.os ∧ AllBare s'.gens) s₁ := by
  have rv := vals_ints hi
  generalize hO : ({ cls := .type "list", data := .seq vs.toArray } : Obj) = o at ha
  generalize hH : H00 K a o ns = H
  have tr : ∀ b u, H b = some u → b = a ∧ K.lookup a = none ∧ u = .frz o (.lst (ns.map V.int)) := fun b u e => by
    rw [← hH] at e
    unfold H00 at e
    by_cases c : b = a ∧ K.lookup a = none
    · rw [if_pos c] at e; exact ⟨c.1, c.2, (Option.some.inj e).symm⟩
    · rw [if_neg c] at e; cases e
  have own : s₁.heap.get? a = some { cls := .type "list", data := .seq vs.toArray } := by rw [hO]; exact ha
  have okF : HOk P w H s₁.heap := fun b u e => by
    obtain ⟨rfl, _, rfl⟩ := tr b u e
    exact ⟨ha, by rw [List.length_map]; exact hl, vs, _, rv, own⟩
  have free : ∀ {b : Addr} {u : Obj}, s₁.heap.get? b = some u → (∀ es ep, o.data = .dict es ep → False) → (b = a → False) → H b = none := fun {b u} _ _ n => by
    cases q : H b with
    | none => rfl
    | some z => exact absurd (tr b z q).1 n
  have ndata : ∀ es ep, o.data = Data.dict es ep → False := fun es ep e => by rw [← hO] at e; cases e
  have hidn : ∀ {b : Addr} {m : Str → Option Value}, s₁.heap.Ns b m → (hidT s₁.heap H).Ns b m := fun {b m} ⟨u, es, ep, e, d, r⟩ => ⟨u, es, ep, hidT_get e (free e ndata fun z => by
    subst z
    rw [ha] at e
    cases e
    exact ndata _ _ d), d, r⟩
  have kin : K.In (hidT s₁.heap H) := fun b u e => hidT_get (KX b u e) (by
    cases q : H b with
    | none => rfl
    | some z =>
      obtain ⟨rfl, n, _⟩ := tr b z q
      rw [n] at e; cases e)
  have sq : SqL K H a (ns.map V.int) := by
    cases hk : K.lookup a with
    | none => exact .inl (.inr ⟨o, by rw [← hH]; unfold H00; rw [if_pos ⟨rfl, hk⟩]⟩)
    | some u =>
      have e := KX a u hk
      rw [own] at e
      cases e
      exact .inr ⟨_, vs.toArray, _, hk, rfl, rfl, rfl, by rw [List.size_toArray, hi.length]; exact hl, by simpa using rv⟩
  have hM : Mod K mg (hidT s₁.heap H) := ⟨kin, hidn hns, ⟨mb, hidn hb, hbb⟩, let ⟨mc, h1, h2⟩ := hlim; ⟨mc, hidn h1, h2⟩⟩
  have e0 : Env0 P w K mg (hidT s₁.heap H) callerA [] s₁ H := ⟨rfl, hM, fun b u e => of_hidT e, Nat.le_of_eq (hidT_size _ _), trivial, fun b hm => (by cases hm), okF, .of_eq hg⟩
  refine codeAny_mono ((F _ kin (hidn hns)).run callerA [] s₁ H ⟨[.ref a], []⟩ [.ref a] [.ref a] _ _ rfl hr e0 (hbind s₁ (.ref a)) (.cons rfl .nil) (hsp H sq)) fun r s' h => ?_
  match r, h with
  | .error _, h => exact False.elim h
  | .ok .next, h => exact False.elim h
  | .ok .brk, h => exact False.elim h
  | .ok .cont, h => exact False.elim h
  | .ok (.ret u), ⟨v, H', os, bare, un, ok', r', q⟩ =>
    obtain rfl : v = .bl true := q
    obtain rfl : u = Value.bool true := r'
    refine ⟨rfl, OldK.of_keep fun b u e => ?_, os, bare⟩
    cases q : H b with
    | none => exact un.keep b u e q (fun z => by cases z) (fun z => by cases z)
    | some z =>
      obtain ⟨rfl, _, rfl⟩ := tr b z q
      obtain ⟨e1, _⟩ := okF b _ q
      obtain ⟨e2, _⟩ := ok' b _ (un.frzs b o _ q)
      rw [e] at e1; cases e1
      exact e2
theorem walk_g {l : PySem.W.OpenLaw} {n k : Nat} {q : Program} {loose : List Str} {XP : (Str → Option Value) → Heap → Prop} {YP : World → Heap → Prop} {d : DefRec} {K : Params → PySem.W.Frag} {sp : World → Sp} {x : Str}
    (hn : l.most = some n) (hn2 : n ≤ sizeLine) (hdf : d.params.defaults = []) (hr : Room k callerA)
    (hY : ∀ (w : World) (h : Heap), YP w h → (K w.params).In h)
    (F : ∀ (w : World) (mg : Str → Option Value) (fa : Addr) (h : Heap), (K w.params).In h → h.Ns mainGlobals mg → mg d.name = some (.ref fa) →
      ∃ fd : FuncData, (∀ (s : Shared) (u : Value), BindsTo s fd ⟨[u], []⟩ [(x, u)]) ∧
        ∀ base : Heap, (K w.params).In base → base.Ns mainGlobals mg → GOk l.prog w (K w.params) mg base k fa fd [x] (sp w))
    (hsp : ∀ (w : World) (H : Hp) (a : Addr) (ns : List Int), ns.length ≤ n → SqL (K w.params) H a (ns.map V.int) → sp w [.ref a] H (fun v _ => v = .bl true) fun _ _ _ => False) :
    PySem.W.WalkO q loose XP YP l.row.toRowW d [] (fun f vs => PySem.call f vs) := by
  refine Att.attach_call hn hdf fun w s₀ s₁ mg mb fa o pm cd doc a vs ns G Y ho hd hcd hmg hobj hints hlen hg => ?_
  obtain ⟨fd, hb, hF⟩ := F w mg fa _ (hY w _ Y) G.T.g hmg
  exact law_g (hY w _ Y) G.T.g G.T.b G.T.builtins G.T.nolimit hg hobj hints (Nat.le_trans hlen hn2) hr hF hb fun H hS => hsp w H a ns hlen hS
end CD
/-! own words 5: a def of the text and its promise, by name -/
namespace CD
open PySem PySem.Spec PyProof.Rows L2
/-- no built-in's name is the text's own -/
structure Z (mg : Str → Option Value) : Prop where
  «all» : mg "all" = none
  «any» : mg "any" = none
  «bool» : mg "bool" = none
  «divmod» : mg "divmod" = none
  «enumerate» : mg "enumerate" = none
  «int» : mg "int" = none
  «isinstance» : mg "isinstance" = none
  «len» : mg "len" = none
  «list» : mg "list" = none
  «max» : mg "max" = none
  «min» : mg "min" = none
  «range» : mg "range" = none
  «repr» : mg "repr" = none
  «reversed» : mg "reversed" = none
  «set» : mg "set" = none
  «sorted» : mg "sorted" = none
  «str» : mg "str" = none
  «sum» : mg "sum" = none
  «tuple» : mg "tuple" = none
  «zip» : mg "zip" = none
/-- a def of the text, where it stands -/
def Def (K : PySem.W.Frag) (mg : Str → Option Value) (x : Str) (st : Stmt) (ps : List Str) : Prop :=
  ∃ f fd, Fun K x x st f fd ∧ mg x = some (.ref f) ∧ Binds K fd ps []
/-- what is known of a def by its name -/
def Cal (P : Program) (w : World) (K : PySem.W.Frag) (mg : Str → Option Value) (base : Heap) (k : Nat) (x : Str) (ps : List Str) (sp : Sp) : Prop :=
  ∃ f fd, FnOk P w K mg base CX0 k f fd ps sp ∧ mg x = some (.ref f) ∧ PySem.W.keepIn K (.ref f) = true ∧ Binds K fd ps []
def CalG (P : Program) (w : World) (K : PySem.W.Frag) (mg : Str → Option Value) (base : Heap) (k : Nat) (x : Str) (ps : List Str) (sp : Sp) : Prop :=
  ∃ f fd, GOk P w K mg base k f fd ps sp ∧ mg x = some (.ref f) ∧ PySem.W.keepIn K (.ref f) = true ∧ Binds K fd ps []
section
variable {P : Program} {w : World} {K : PySem.W.Frag} {mg : Str → Option Value} {base : Heap} {x : Str} {st : Stmt} {N ps : List Str} {k : Nat} {sp : Sp}
theorem Def.cal (D : Def K mg x st ps) (S : FnScope N ps (defScope st)) (len : ∀ vs H Q E, sp vs H Q E → vs.length = ps.length)
    (body : ∀ (f : Addr) (cdv : Value) (A : Around) (outer : List Env) (s : Shared) (H : Hp) (vs : List V) (Q : VK) (E : XK), Room k (A.deeper (envOfC x (defScope st) s.heap.objs.size f cdv)) → sp vs H Q E →
      ∃ t, PSs (cxOf CX0 P w K mg base N x (defScope st) f cdv A outer s H E).nox (defBody st) t ∧ t { nx := fun _ H' => Q .non H', rt := Q } (start N vs) H) : Cal P w K mg base (k + 1) x ps sp := by
  obtain ⟨f, fd, F, m, b⟩ := D
  exact ⟨f, fd, F.ok S len fun cdv A outer s H vs Q E => body f cdv A outer s H vs Q E, m, F.kp, b⟩
theorem Def.calG (D : Def K mg x st ps) (S : FnScope N ps (defScope st)) (len : ∀ vs H Q E, sp vs H Q E → vs.length = ps.length)
    (body : ∀ (f : Addr) (cdv : Value) (A : Around) (outer : List Env) (s : Shared) (H : Hp) (vs : List V) (Q : VK) (E : XK), A.guards = some [] → Room k (A.deeper (envOfC x (defScope st) s.heap.objs.size f cdv)) → sp vs H Q E →
      ∃ t, PSs (cxOf CX0 P w K mg base N x (defScope st) f cdv A outer s H E).nox (defBody st) t ∧ t { nx := fun _ H' => Q .non H', rt := Q } (start N vs) H) : CalG P w K mg base (k + 1) x ps sp := by
  obtain ⟨f, fd, F, m, b⟩ := D
  exact ⟨f, fd, g_ok F S len fun cdv A outer s H vs Q E => body f cdv A outer s H vs Q E, m, F.kp, b⟩
theorem Cal.mono {j : Nat} (C : Cal P w K mg base j x ps sp) (h : j ≤ k) : Cal P w K mg base k x ps sp := by
  obtain ⟨f, fd, F, r⟩ := C
  exact ⟨f, fd, F.mono h, r⟩
theorem Cal.imp {sp' : Sp} (C : Cal P w K mg base k x ps sp) (h : ∀ vs H Q E, sp' vs H Q E → sp vs H Q E) : Cal P w K mg base k x ps sp' := by
  obtain ⟨f, fd, F, r⟩ := C
  exact ⟨f, fd, F.imp h, r⟩
end
section
variable {X : Cx} {k : Nat} {ps : List Str} {sp : Sp} {x : Str} {p pos : Pos} {e : Expr} {es : List Expr} {t : TA}
theorem pe_cal (C : Cal X.prog X.w X.K X.mg X.base k x ps sp) (hr : Room k X.A) (hg : Gl X x) (ha : PA X (e :: es) t) (hdb : (x == ("__debug__" : Str)) = false := by decide)
    (he : starEach (e :: es) X.env = (false, eval e X.env) :: starEach es X.env := by rfl) (hpl : (backTo pos (starEach es X.env)).any (·.1) = false := by rfl) : PE X (.Call (.Name x p) (e :: es) [] pos) (tCall sp [] E0 t) := by
  obtain ⟨f, fd, F, m, kp, b⟩ := C
  exact pe_call F hr hg m kp b .nil pass0 ha hdb he hpl
theorem pe_cal0 (C : Cal X.prog X.w X.K X.mg X.base k x ps sp) (hr : Room k X.A) (hg : Gl X x) (hdb : (x == ("__debug__" : Str)) = false := by decide) : PE X (.Call (.Name x p) [] [] pos) (tCall sp [] E0 tNil) := by
  obtain ⟨f, fd, F, m, kp, b⟩ := C
  exact pe_call0 F hr hg m kp b .nil pass0 hdb
theorem pe_calG (C : CalG X.prog X.w X.K X.mg X.base k x ps sp) (hgd : X.A.guards = some []) (hr : Room k X.A) (hg : Gl X x) (ha : PA X (e :: es) t) (hdb : (x == ("__debug__" : Str)) = false := by decide)
    (he : starEach (e :: es) X.env = (false, eval e X.env) :: starEach es X.env := by rfl) (hpl : (backTo pos (starEach es X.env)).any (·.1) = false := by rfl) : PE X (.Call (.Name x p) (e :: es) [] pos) (tCall sp [] E0 t) := by
  obtain ⟨f, fd, F, m, kp, b⟩ := C
  exact pe_callG F hgd hr hg m kp b ha hdb he hpl
end
/-- what was tracked stays; a new object besides -/
theorem same_upd {H : Hp} {p : Addr} {o : HO} (h : H p = none) : Same H (upd H p o) := fun b x e => by
  rw [upd_ne (ne_of_none e h)]
  exact e
theorem _root_.L2.Same.tup {K : PySem.W.Frag} {H H' : Hp} {a : Addr} {xs : List V} (e : Same H H') (h : SqT K H a xs) : SqT K H' a xs := by
  rcases h with (h | ⟨o, h⟩) | h
  · exact .inl (.inl (e _ _ h))
  · exact .inl (.inr ⟨o, e _ _ h⟩)
  · exact .inr h
/-- a comprehension in which each turn gives what h says of the item, and changes nothing that was tracked -/
theorem lc_std {J : It} {n : Nat} {G : Hp → Prop} {Y : Nat → Hp → V → Hp → Prop} {α : Type} (w : Walk J n G Y) {g : TG} {tt : TT} {te : TE} {vs : List Nat} {σ : L2.St} {H1 : Hp} {D : Addr} {Qd : Hp → Prop}
    (ys : List α) (h : α → Option V) (hn : ys.length = n) (hz : n < sizeLine) (hD : H1 D = none) (hG : ∀ H, Same H1 H → G H)
    (hs : ∀ i x H H' a (R : Option V → Hp → Prop), ys[i]? = some a → Same H1 H → Y i H x H' → (∀ H4, Same H H4 → R (h a) H4) →
      g x (wipe σ vs) H' fun σ2 H2 => wipe σ2 vs = wipe σ vs ∧ tt σ2 H2 fun b H3 => if b = true then te σ2 H3 fun y H4 => R (some y) H4 else R none H3)
    (hd : ∀ H, Same H1 H → H D = some (.lst (ys.filterMap h)) → Qd H) :
    ∃ W : Nat → Nat → Hp → Prop, (∃ m, W 0 m (upd H1 D (.lst []))) ∧ ∀ i m H, W i m H →
      (J.stop i H ∧ Qd H) ∨ (J.go i H ∧ ∃ Nx : Hp → Prop, (∀ H', Nx H' → ∃ m', m' < m ∧ W (i + 1) m' H') ∧ ∀ x H', J.yld i H x H' → g x (wipe σ vs) H' fun σ2 H2 => wipe σ2 vs = wipe σ vs ∧ tt σ2 H2 fun b H3 =>
        if b = true then te σ2 H3 fun y H4 => ∃ acc, H4 D = some (.lst acc) ∧ acc.length < sizeLine ∧ Nx (upd H4 D (.lst (acc ++ [y]))) else Nx H3) := by
  refine lc_it w (fun i H => Same H1 H ∧ H D = some (.lst ((ys.take i).filterMap h))) ⟨same_upd hD, by rw [upd_same]; rfl⟩ (fun i H _ q => hG H q.1) (fun i x H H' hi q y => ?_) fun H q => hd H q.1 (by rw [q.2, ← hn, List.take_length])
  obtain ⟨sm, eD⟩ := q
  have hi' : i < ys.length := by omega
  have ha : ys[i]? = some ys[i] := List.getElem?_eq_getElem hi'
  have tk : (ys.take (i + 1)).filterMap h = (ys.take i).filterMap h ++ (h ys[i]).toList := by
    rw [List.take_add_one, ha, List.filterMap_append]
    cases e : h ys[i] <;> simp [e]
  have ln : ((ys.take i).filterMap h).length < sizeLine := by
    have z := List.length_filterMap_le h (ys.take i)
    rw [List.length_take] at z
    omega
  have go := hs i x H H' ys[i] (fun o H4 => match o with
    | some y => ∃ acc, H4 D = some (.lst acc) ∧ acc.length < sizeLine ∧ (Same H1 (upd H4 D (.lst (acc ++ [y]))) ∧ (upd H4 D (.lst (acc ++ [y]))) D = some (.lst ((ys.take (i + 1)).filterMap h)))
    | none => Same H1 H4 ∧ H4 D = some (.lst ((ys.take (i + 1)).filterMap h))) ha sm y (fun H4 s4 => by
      have e4 : H4 D = some (.lst ((ys.take i).filterMap h)) := s4 _ _ eD
      cases e : h ys[i] with
      | none =>
        rw [e] at tk
        exact ⟨sm.trans s4, by rw [e4, tk]; simp⟩
      | some y =>
        rw [e] at tk
        refine ⟨_, e4, ln, fun b o eb => ?_, ?_⟩
        · have nb : b ≠ D := ne_of_none eb hD
          rw [upd_ne nb]
          exact s4 _ _ (sm _ _ eb)
        · rw [upd_same, tk]
          simp)
  exact go
/-! ### tuples -/
theorem tyx_tup {K : PySem.W.Frag} {H : Hp} {a : Addr} {xs : List V} (h : SqT K H a xs) : TyX K H (.ref a) (.type "tuple") := by
  rcases h with (h | ⟨o, h⟩) | ⟨o, its, n, h, c, _⟩
  · exact .base (.tup h)
  · exact .fTuple h
  · exact .kTuple h c
theorem cut_tail (xs : List V) : cutV xs (some 1) none = xs.tail := by
  unfold cutV
  rw [show HT.sIx xs.length 0 (some 1) = min 1 xs.length from HT.sIx_nat xs.length 0 1, HT.sIx_none]
  cases xs with
  | nil => rfl
  | cons x r =>
    have e : min 1 (x :: r).length = 1 := by rw [List.length_cons]; omega
    rw [e]
    show List.take ((x :: r).length - 1) r = r
    rw [List.length_cons, Nat.add_sub_cancel, List.take_length]
/-- t[1:] -/
theorem sl_tail {K : PySem.W.Frag} {H : Hp} {a : Addr} {xs : List V} {R : VK} (hS : SqT K H a xs) (h : ∀ c Hc, Same H Hc → SqT K Hc c xs.tail → R (.ref c) Hc) : rSlA K (.ref a) (some 1) none H R := by
  refine ⟨a, xs, rfl, hS, fun e => ?_, fun _ p hp => ?_⟩
  · have e1 : HT.sIx xs.length 0 (some 1) = min 1 xs.length := HT.sIx_nat xs.length 0 1
    have e2 : xs = [] := by
      cases xs with
      | nil => rfl
      | cons x r =>
        have z := e.1
        rw [e1, List.length_cons] at z
        omega
    subst e2
    exact h a H (Same.refl H) hS
  · exact h p _ (same_upd hp) (.inl (.inl (by rw [upd_same, cut_tail])))
/-- t + u, u new -/
theorem cat_new {K : PySem.W.Frag} {H : Hp} {a b : Addr} {xs ys : List V} {R : VK} (hS : SqT K H a xs) (hb : H b = some (.tup ys)) (hy : ys ≠ []) (hz : xs.length + ys.length ≤ 1000)
    (h : ∀ c Hc, Same H Hc → Hc c = some (.tup (xs ++ ys)) → R (.ref c) Hc) : rCatA K (.ref a) (.ref b) H R := by
  refine ⟨a, b, xs, ys, rfl, rfl, hS, .inl (.inl hb), Nat.le_of_lt (small1000 hz), fun e => ?_, fun _ e => absurd e hy, fun _ _ p hp => h p _ (same_upd hp) upd_same⟩
  subst e
  exact h b H (Same.refl H) hb
/-- t[-i], i from 1 to the length -/
theorem at_neg {α : Type} {xs : List α} {i : Nat} {v : α} (h1 : 1 ≤ i) (h2 : i ≤ xs.length) (h : xs[xs.length - i]? = some v) : atI xs (-(i : Int)) = some v := by
  have e : ixN xs.length (-(i : Int)) = some (xs.length - i) := by
    unfold ixN
    rw [if_neg (by omega)]
    rw [if_pos (by omega)]
    congr 1
    omega
  unfold atI
  rw [e]
  exact h
theorem walk_zipT {K : PySem.W.Frag} {a b : Addr} {xs ys : List V} {n : Nat} (hn : n = min xs.length ys.length) : Walk (RZ.ItzT K a b) n (fun H => SqT K H a xs ∧ SqT K H b ys) (YPair (fun i => xs[i]?) (fun i => ys[i]?)) := by
  subst hn
  refine ⟨fun i _ hi q => ?_, fun _ q => ⟨xs, ys, q.1, q.2, by omega⟩, fun i H v H' _ q y => ?_⟩
  · have h1 : i < xs.length := by omega
    have h2 : i < ys.length := by omega
    exact ⟨xs, ys, xs[i], ys[i], q.1, q.2, by simp [h1], by simp [h2]⟩
  · obtain ⟨T, x, y', h1, h2, h3, h4, h5⟩ := y
    exact ⟨T, x, y', h1, h2, h3, h4 _ q.1, h5 _ q.2⟩
theorem map_at {α β : Type} {f : α → β} {xs : List α} {i : Nat} {a : α} {b : β} (h : xs[i]? = some a) (g : (xs.map f)[i]? = some b) : b = f a := by
  rw [List.getElem?_map, h] at g
  exact (Option.some.inj g).symm
theorem filterMap_some {α β : Type} (f : α → β) : ∀ xs : List α, xs.filterMap (fun x => some (f x)) = xs.map f
  | [] => rfl
  | x :: r => by rw [List.filterMap_cons, List.map_cons, filterMap_some f r]
theorem pe_globI {X : Cx} {x : Str} {pos : Pos} {n : Int} {t : Tok} (hg : Gl X x) (hm : X.mg x = some (.int n t)) (hd : (x == ("__debug__" : Str)) = false := by decide) : PE X (.Name x pos) (tC (.int n)) := by
  first
    | exact pe_glob hg hm ⟨t, rfl⟩ hd
    | exact pe_glob hg hm ⟨t, rfl⟩
theorem ix_tupK {X : Cx} {K : PySem.W.Frag} (h : X.K = K) : IxR X (rIxT K) := h ▸ ix_tup
theorem ix_listK {X : Cx} {K : PySem.W.Frag} (h : X.K = K) : IxR X (rIxL K) := h ▸ ix_list
/-- t * k -/
theorem rep_any {K : PySem.W.Frag} {H : Hp} {l : Addr} {xs : List V} {k : Nat} {v : V} {R : VK} (e : v = .int k) (hS : SqT K H l xs) (hx : xs ≠ []) (hk : k ≤ 1000) (hl : xs.length ≤ 1000)
    (h : ∀ c Hc, Same H Hc → SqT K Hc c (List.replicate k xs).flatten → R (.ref c) Hc) : rRepA K (.ref l) v H R := by
  refine ⟨l, xs, k, rfl, e, hS, hx, hk, hl, fun e1 => ?_, fun _ p np => h p _ (same_upd np) (.inl (.inl upd_same))⟩
  subst e1
  refine h l H (Same.refl H) ?_
  have z : (List.replicate 1 xs).flatten = xs := by simp
  rw [z]
  exact hS
theorem flat_one {α : Type} (x : α) : ∀ n : Nat, (List.replicate n [x]).flatten = List.replicate n x
  | 0 => rfl
  | n + 1 => by rw [List.replicate_succ, List.flatten_cons, flat_one x n]; rfl
theorem in_ints (n : Int) : ∀ ns : List Int, inV (.int n) (ns.map V.int) = decide (n ∈ ns)
  | [] => rfl
  | k :: r => by
    have ih := in_ints n r
    unfold inV at ih ⊢
    rw [List.map_cons, List.any_cons, ih]
    show (k == n || decide (n ∈ r)) = _
    by_cases c : n = k
    · subst c; simp
    · have c2 : (k == n) = false := by simpa using fun e => c e.symm
      rw [c2, Bool.false_or]
      exact decide_eq_decide.mpr ⟨fun h => List.mem_cons_of_mem _ h, fun h => (List.mem_cons.mp h).resolve_left c⟩
theorem flat_ints : ∀ ns : List Int, (ns.map V.int).all flatV = true
  | [] => rfl
  | _ :: r => flat_ints r
/-! ### data of ints -/
theorem dp_ints {K : PySem.W.Frag} {H : Hp} : ∀ ns : List Int, DpAll K H (ns.map V.int) (ns.map PyData.int)
  | [] => .nil
  | n :: r => .cons (.int n) (dp_ints r)
theorem can_ints : ∀ ns : List Int, PyData.canLayAll0 (ns.map PyData.int) = true
  | [] => by rw [List.map_nil, PyData.canLayAll0]
  | n :: r => by rw [List.map_cons, PyData.canLayAll0, can_ints r, PyData.canLay0]; rfl
theorem shaped_ints (ns : List Int) : SeqAt.shaped (.list (ns.map PyData.int)) = true := by
  unfold SeqAt.shaped
  rw [PyData.canLay0, can_ints, PyData.depth, depth_ints]
  decide
theorem eqv_nil (ns : List Int) : PyData.eqv (.list (ns.map PyData.int)) (.list []) = ns.isEmpty := by
  cases ns with
  | nil => rw [List.map_nil, PyData.eqv, PyData.eqvAll]; rfl
  | cons n r => rw [List.map_cons, PyData.eqv, PyData.eqvAll]; rfl
/-- xs != [] of a list of ints, the other one new -/
theorem ne_nil {K : PySem.W.Frag} {H : Hp} {g p : Addr} {ns : List Int} {R : VK} (hg : SqL K H g (ns.map V.int)) (hp : H p = some (.lst [])) (h : R (.bl (!ns.isEmpty)) H) : rNeD K (.ref g) (.ref p) H R := by
  refine ⟨.list (ns.map .int), .list [], .lst hg (dp_ints ns), .lst (.inl (.inl hp)) .nil, shaped_ints ns, shaped_ints [], ?_⟩
  rw [eqv_nil]
  exact h
/-! ### a step into a reading -/
theorem seq_go {t u : TS} {D : Ends} {σ : L2.St} {H : Hp} (h : t { D with nx := fun σ1 H1 => u D σ1 H1 } σ H) : tSeq t u D σ H := h
theorem asg_go {te : TE} {g : TG} {D : Ends} {σ : L2.St} {H : Hp} (h : te σ H fun v H1 => g v σ H1 D.nx) : tAsg te g D σ H := h
theorem drop_go {te : TE} {D : Ends} {σ : L2.St} {H : Hp} (h : te σ H fun _ H1 => D.nx σ H1) : tDrop te D σ H := h
theorem ret_go {te : TE} {D : Ends} {σ : L2.St} {H : Hp} (h : te σ H D.rt) : tRet te D σ H := h
theorem lst_go {t : TA} {σ : L2.St} {H : Hp} {Q : VK} (h : t σ H fun xs H1 => xs.length ≤ sizeLine ∧ ∀ p, H1 p = none → Q (.ref p) (upd H1 p (.lst xs))) : tLst t σ H Q := h
theorem tup_go {t : TA} {σ : L2.St} {H : Hp} {Q : VK} (h : t σ H fun xs H1 => xs.length ≤ sizeLine ∧ ∀ p, H1 p = none → Q (.ref p) (upd H1 p (.tup xs))) : tTup t σ H Q := h
theorem cons_go {ta : TE} {tr : TA} {σ : L2.St} {H : Hp} {Q : List V → Hp → Prop} (h : ta σ H fun x H1 => tr σ H1 fun xs H2 => Q (x :: xs) H2) : tCons ta tr σ H Q := h
theorem op_go {r : R2} {ta tb : TE} {σ : L2.St} {H : Hp} {Q : VK} (h : ta σ H fun x H1 => tb σ H1 fun y H2 => r x y H2 Q) : tOp r ta tb σ H Q := h
theorem cb_go {r : List V → Hp → VK → Prop} {t : TA} {σ : L2.St} {H : Hp} {Q : VK} (h : t σ H fun vs H1 => r vs H1 Q) : tCB r t σ H Q := h
theorem call_go {sp : Sp} {dvs : List V} {E : XK} {t : TA} {σ : L2.St} {H : Hp} {Q : VK} (h : t σ H fun vs H1 => sp (vs ++ dvs) H1 Q E) : tCall sp dvs E t σ H Q := h
end CD
/-! lifted readings 1: data over a frozen part of the heap; what the slots hold; how both stay -/
namespace DL
open PySem PySem.Spec PyProof.Rows L2 CD
/-! ### data -/
inductive D where
  | non | bl (b : Bool) | int (i : Int) | str (x : Str) | list (xs : List D) | tup (xs : List D)
  | dk (kvs : List (Key × D)) | dt (kvs : List (List Key × D)) | set (xs : List Int) | scr (ns : List Int) | fn (a : Addr)
mutual
/-- data at a value, over the frozen heap -/
inductive Dd (K : PySem.W.Frag) (F : Hp) : V → D → Prop
  | non : Dd K F .non .non
  | bl (b : Bool) : Dd K F (.bl b) (.bl b)
  | int (i : Int) : Dd K F (.int i) (.int i)
  | str (x : Str) : Dd K F (.str x) (.str x)
  | fn (a : Addr) : Dd K F (.ref a) (.fn a)
  | lst {a : Addr} {xs : List V} {ds : List D} : F a = some (.lst xs) → DdL K F xs ds → Dd K F (.ref a) (.list ds)
  | scr {a : Addr} {ns : List Int} : SqL K F a (ns.map V.int) → Dd K F (.ref a) (.scr ns)
  | tup {a : Addr} {xs : List V} {ds : List D} : F a = some (.tup xs) → DdL K F xs ds → Dd K F (.ref a) (.tup ds)
  | dK {a : Addr} {kvs : List (Key × V)} {ds : List (Key × D)} : F a = some (.dK kvs) → DdK K F kvs ds → Dd K F (.ref a) (.dk ds)
  | dT {a : Addr} {kvs : List (List Key × V)} {ds : List (List Key × D)} : F a = some (.dT kvs) → DdT K F kvs ds → Dd K F (.ref a) (.dt ds)
  | set {a : Addr} {S : Int → Bool} {n : Nat} {xs : List Int} : F a = some (.set S n) → (∀ i, S i = decide (i ∈ xs)) → n = xs.length → xs.Nodup → Dd K F (.ref a) (.set xs)
inductive DdL (K : PySem.W.Frag) (F : Hp) : List V → List D → Prop
  | nil : DdL K F [] []
  | cons {v : V} {vs : List V} {d : D} {ds : List D} : Dd K F v d → DdL K F vs ds → DdL K F (v :: vs) (d :: ds)
inductive DdK (K : PySem.W.Frag) (F : Hp) : List (Key × V) → List (Key × D) → Prop
  | nil : DdK K F [] []
  | cons {k : Key} {v : V} {vs : List (Key × V)} {d : D} {ds : List (Key × D)} : Dd K F v d → DdK K F vs ds → DdK K F ((k, v) :: vs) ((k, d) :: ds)
inductive DdT (K : PySem.W.Frag) (F : Hp) : List (List Key × V) → List (List Key × D) → Prop
  | nil : DdT K F [] []
  | cons {k : List Key} {v : V} {vs : List (List Key × V)} {d : D} {ds : List (List Key × D)} : Dd K F v d → DdT K F vs ds → DdT K F ((k, v) :: vs) ((k, d) :: ds)
end
theorem rd_same {F F' : Hp} {a : Addr} {u : HO} (s : Same F F') (h : Rd F a u) : Rd F' a u := by
  rcases h with h | ⟨o, h⟩
  · exact .inl (s _ _ h)
  · exact .inr ⟨o, s _ _ h⟩
section
variable {K : PySem.W.Frag} {F F' H H' : Hp}
mutual
theorem Dd.same (s : Same F F') : ∀ {v : V} {d : D}, Dd K F v d → Dd K F' v d
  | _, _, .non => .non
  | _, _, .bl b => .bl b
  | _, _, .int i => .int i
  | _, _, .str x => .str x
  | _, _, .fn a => .fn a
  | _, _, .lst h g => .lst (s _ _ h) (DdL.same s g)
  | _, _, .scr h => .scr (s.seq h)
  | _, _, .tup h g => .tup (s _ _ h) (DdL.same s g)
  | _, _, .dK h g => .dK (s _ _ h) (DdK.same s g)
  | _, _, .dT h g => .dT (s _ _ h) (DdT.same s g)
  | _, _, .set h g n m => .set (s _ _ h) g n m
theorem DdL.same (s : Same F F') : ∀ {v : List V} {d : List D}, DdL K F v d → DdL K F' v d
  | _, _, .nil => .nil
  | _, _, .cons h g => .cons (Dd.same s h) (DdL.same s g)
theorem DdK.same (s : Same F F') : ∀ {v : List (Key × V)} {d : List (Key × D)}, DdK K F v d → DdK K F' v d
  | _, _, .nil => .nil
  | _, _, .cons h g => .cons (Dd.same s h) (DdK.same s g)
theorem DdT.same (s : Same F F') : ∀ {v : List (List Key × V)} {d : List (List Key × D)}, DdT K F v d → DdT K F' v d
  | _, _, .nil => .nil
  | _, _, .cons h g => .cons (Dd.same s h) (DdT.same s g)
end
theorem DdL.length : ∀ {xs : List V} {ds : List D}, DdL K F xs ds → xs.length = ds.length
  | _, _, .nil => rfl
  | _, _, .cons _ g => by rw [List.length_cons, List.length_cons, g.length]
theorem DdL.get : ∀ {xs : List V} {ds : List D} {i : Nat} {d : D}, DdL K F xs ds → ds[i]? = some d → ∃ v, xs[i]? = some v ∧ Dd K F v d
  | _, _, _, _, .nil, e => by simp at e
  | _, _, 0, _, .cons h _, e => by simp at e; subst e; exact ⟨_, rfl, h⟩
  | _, _, i + 1, d, .cons _ g, e => by
    obtain ⟨v, h1, h2⟩ := DdL.get (i := i) (d := d) g (by simpa using e)
    exact ⟨v, by simpa using h1, h2⟩
theorem DdL.get' : ∀ {xs : List V} {ds : List D} {i : Nat} {v : V}, DdL K F xs ds → xs[i]? = some v → ∃ d, ds[i]? = some d ∧ Dd K F v d
  | _, _, _, _, .nil, e => by simp at e
  | _, _, 0, _, .cons h _, e => by simp at e; subst e; exact ⟨_, rfl, h⟩
  | _, _, i + 1, v, .cons _ g, e => by
    obtain ⟨d, h1, h2⟩ := DdL.get' (i := i) (v := v) g (by simpa using e)
    exact ⟨d, by simpa using h1, h2⟩
theorem DdL.append : ∀ {xs ys : List V} {ds es : List D}, DdL K F xs ds → DdL K F ys es → DdL K F (xs ++ ys) (ds ++ es)
  | _, _, _, _, .nil, g => g
  | _, _, _, _, .cons h t, g => .cons h (DdL.append t g)
theorem DdL.take : ∀ {xs : List V} {ds : List D} (n : Nat), DdL K F xs ds → DdL K F (xs.take n) (ds.take n)
  | _, _, 0, _ => .nil
  | _, _, _ + 1, .nil => .nil
  | _, _, n + 1, .cons h t => .cons h (DdL.take n t)
theorem DdL.drop : ∀ {xs : List V} {ds : List D} (n : Nat), DdL K F xs ds → DdL K F (xs.drop n) (ds.drop n)
  | _, _, 0, h => h
  | _, _, _ + 1, .nil => .nil
  | _, _, n + 1, .cons _ t => DdL.drop n t
theorem DdL.set {v : V} {d : D} (h : Dd K F v d) : ∀ {xs : List V} {ds : List D} (n : Nat), DdL K F xs ds → DdL K F (xs.set n v) (ds.set n d)
  | _, _, _, .nil => .nil
  | _, _, 0, .cons _ t => .cons h t
  | _, _, n + 1, .cons g t => .cons g (DdL.set h n t)
theorem DdL.reverse : ∀ {xs : List V} {ds : List D}, DdL K F xs ds → DdL K F xs.reverse ds.reverse
  | _, _, .nil => .nil
  | _, _, .cons h t => by
    rw [List.reverse_cons, List.reverse_cons]
    exact (DdL.reverse t).append (.cons h .nil)
theorem DdL.ints : ∀ {xs : List V} {ns : List Int}, DdL K F xs (ns.map D.int) → xs = ns.map V.int
  | _, [], h => by cases h; rfl
  | _, n :: r, h => by
    cases h with
    | cons h g => cases h; rw [DdL.ints g]; rfl
theorem DdL.of_ints : ∀ ns : List Int, DdL K F (ns.map V.int) (ns.map D.int)
  | [] => .nil
  | n :: r => .cons (.int n) (DdL.of_ints r)
/-- an object of ours: its own content lies at a, what it holds is frozen -/
inductive Own (K : PySem.W.Frag) (F H : Hp) (a : Addr) : D → Prop
  | lst {xs : List V} {ds : List D} : H a = some (.lst xs) → DdL K F xs ds → Own K F H a (.list ds)
  | dK {kvs : List (Key × V)} {ds : List (Key × D)} : H a = some (.dK kvs) → DdK K F kvs ds → Own K F H a (.dk ds)
  | dT {kvs : List (List Key × V)} {ds : List (List Key × D)} : H a = some (.dT kvs) → DdT K F kvs ds → Own K F H a (.dt ds)
  | set {S : Int → Bool} {n : Nat} {xs : List Int} : H a = some (.set S n) → (∀ i, S i = decide (i ∈ xs)) → n = xs.length → xs.Nodup → Own K F H a (.set xs)
theorem Own.there {a : Addr} {d : D} (h : Own K F H a d) : ∃ o, H a = some o := by
  cases h <;> exact ⟨_, ‹_›⟩
theorem Own.noTE {a : Addr} {d : D} {o : HO} (h : Own K F H a d) (e : H a = some o) : (∀ ps, o ≠ .tbl ps) ∧ ∀ f, o ≠ .ext f := by
  cases h with
  | lst h _ => rw [h] at e; cases e; exact ⟨nofun, nofun⟩
  | dK h _ => rw [h] at e; cases e; exact ⟨nofun, nofun⟩
  | dT h _ => rw [h] at e; cases e; exact ⟨nofun, nofun⟩
  | set h _ _ _ => rw [h] at e; cases e; exact ⟨nofun, nofun⟩
theorem Own.nt {a : Addr} {d : D} {xs : List V} (h : Own K F H a d) : H a ≠ some (.tup xs) := by
  cases h with
  | lst h _ => rw [h]; exact fun e => by cases e
  | dK h _ => rw [h]; exact fun e => by cases e
  | dT h _ => rw [h]; exact fun e => by cases e
  | set h _ _ _ => rw [h]; exact fun e => by cases e
theorem Own.move {a : Addr} {d : D} (h : Own K F H a d) (s : Same F F') (e : H' a = H a) : Own K F' H' a d := by
  cases h with
  | lst h g => exact .lst (e.trans h) (g.same s)
  | dK h g => exact .dK (e.trans h) (g.same s)
  | dT h g => exact .dT (e.trans h) (g.same s)
  | set h g n m => exact .set (e.trans h) g n m
/-- frozen as it stands -/
theorem Own.frozen {a : Addr} {d : D} {o : HO} (h : Own K F H a d) (n : F a = none) (e : H a = some o) : Dd K (upd F a o) (.ref a) d := by
  have s : Same F (upd F a o) := same_upd n
  cases h with
  | lst h g => rw [h] at e; cases e; exact .lst upd_same (g.same s)
  | dK h g => rw [h] at e; cases e; exact .dK upd_same (g.same s)
  | dT h g => rw [h] at e; cases e; exact .dT upd_same (g.same s)
  | set h g n m => rw [h] at e; cases e; exact .set upd_same g n m
theorem same_none (H : Hp) : Same (fun _ => none) H := fun _ _ h => nomatch h
/-- what may be read at a value: frozen, our own, or written in the text -/
def Cnt (K : PySem.W.Frag) (F H : Hp) (v : V) (d : D) : Prop :=
  Dd K F v d ∨ (∃ a, v = .ref a ∧ Own K F H a d) ∨ ∃ a xs ds, v = .ref a ∧ d = .tup ds ∧ SqT K (fun _ => none) a xs ∧ DdL K (fun _ => none) xs ds
theorem Cnt.list {v : V} {ds : List D} (s : Same F H) (h : Cnt K F H v (.list ds)) : ∃ a xs, v = .ref a ∧ H a = some (.lst xs) ∧ DdL K F xs ds := by
  rcases h with h | ⟨a, rfl, h⟩ | ⟨_, _, _, _, e, _⟩
  · cases h with
    | lst h g => exact ⟨_, _, rfl, s _ _ h, g⟩
  · cases h with
    | lst h g => exact ⟨_, _, rfl, h, g⟩
  · cases e
theorem Cnt.scr {v : V} {ns : List Int} (s : Same F H) (h : Cnt K F H v (.scr ns)) : ∃ a, v = .ref a ∧ SqL K H a (ns.map V.int) := by
  rcases h with h | ⟨a, rfl, h⟩ | ⟨_, _, _, _, e, _⟩
  · cases h with
    | scr h => exact ⟨_, rfl, s.seq h⟩
  · cases h
  · cases e
theorem Cnt.tup {v : V} {ds : List D} (s : Same F H) (h : Cnt K F H v (.tup ds)) : ∃ a xs, v = .ref a ∧ SqT K H a xs ∧ DdL K F xs ds := by
  rcases h with h | ⟨a, rfl, h⟩ | ⟨a, xs, ds', rfl, e, h, g⟩
  · cases h with
    | tup h g => exact ⟨_, _, rfl, .inl (.inl (s _ _ h)), g⟩
  · cases h
  · cases e
    exact ⟨a, xs, rfl, (same_none H).tup h, g.same (same_none F)⟩
theorem Cnt.dk {v : V} {ds : List (Key × D)} (s : Same F H) (h : Cnt K F H v (.dk ds)) : ∃ a kvs, v = .ref a ∧ H a = some (.dK kvs) ∧ DdK K F kvs ds := by
  rcases h with h | ⟨a, rfl, h⟩ | ⟨_, _, _, _, e, _⟩
  · cases h with
    | dK h g => exact ⟨_, _, rfl, s _ _ h, g⟩
  · cases h with
    | dK h g => exact ⟨_, _, rfl, h, g⟩
  · cases e
theorem Cnt.dt {v : V} {ds : List (List Key × D)} (s : Same F H) (h : Cnt K F H v (.dt ds)) : ∃ a kvs, v = .ref a ∧ H a = some (.dT kvs) ∧ DdT K F kvs ds := by
  rcases h with h | ⟨a, rfl, h⟩ | ⟨_, _, _, _, e, _⟩
  · cases h with
    | dT h g => exact ⟨_, _, rfl, s _ _ h, g⟩
  · cases h with
    | dT h g => exact ⟨_, _, rfl, h, g⟩
  · cases e
theorem Cnt.int {v : V} {i : Int} (h : Cnt K F H v (.int i)) : v = .int i := by
  rcases h with h | ⟨a, _, h⟩ | ⟨_, _, _, _, e, _⟩
  · cases h; rfl
  · cases h
  · cases e
theorem Cnt.bl {v : V} {i : Bool} (h : Cnt K F H v (.bl i)) : v = .bl i := by
  rcases h with h | ⟨a, _, h⟩ | ⟨_, _, _, _, e, _⟩
  · cases h; rfl
  · cases h
  · cases e
theorem Cnt.str {v : V} {i : Str} (h : Cnt K F H v (.str i)) : v = .str i := by
  rcases h with h | ⟨a, _, h⟩ | ⟨_, _, _, _, e, _⟩
  · cases h; rfl
  · cases h
  · cases e
theorem Cnt.non {v : V} (h : Cnt K F H v .non) : v = .non := by
  rcases h with h | ⟨a, _, h⟩ | ⟨_, _, _, _, e, _⟩
  · cases h; rfl
  · cases h
  · cases e
theorem Cnt.move {v : V} {d : D} (h : Cnt K F H v d) (s : Same F F') (s2 : Same H H') : Cnt K F' H' v d := by
  rcases h with h | ⟨a, rfl, h⟩ | ⟨a, xs, ds', rfl, e, h, g⟩
  · exact .inl (h.same s)
  · obtain ⟨o, e⟩ := h.there
    exact .inr (.inl ⟨a, rfl, h.move s ((s2 _ _ e).trans e.symm)⟩)
  · exact .inr (.inr ⟨a, xs, ds', rfl, e, h, g⟩)
end
/-! ### what the slots hold -/
/-- no table, no code object -/
def noTE (o : HO) : Prop := (∀ ps, o ≠ .tbl ps) ∧ ∀ f, o ≠ .ext f
structure GenP where
  T : List (Addr × Str) := []
  D : Hp → Addr → Addr → Addr → Nat → Prop
  stab : ∀ {H H' : Hp} {d g c : Addr} {n : Nat}, D H d g c n → H' d = H d → H' g = H g → H' c = H c → D H' d g c n
  dd : ∀ {H : Hp} {d g c : Addr} {n : Nat}, D H d g c n → H d ≠ none ∧ H g ≠ none ∧ H c ≠ none ∧ d ≠ g
  nt : ∀ {H : Hp} {d g c : Addr} {n : Nat} {xs : List V}, D H d g c n → H d ≠ some (.tup xs) ∧ H g ≠ some (.tup xs)
  nx : ∀ {H : Hp} {d g c : Addr} {n : Nat} {o : HO}, D H d g c n → H d = some o ∨ H g = some o → noTE o
/-- the same with tables -/
def GenP.tb (G : GenP) (T : List (Addr × Str)) : GenP := { G with T := T }
inductive SV where
  | val (d : D) | own (d : D) | gen (n : Nat)
abbrev Rho := List (Option SV)
inductive RV where
  | val (d : D) | fr (d : D) | kon (d : D) | sl (i : Nat)
abbrev GAt := Option (Addr × Addr × Addr)
/-- a table of code objects lies at a -/
def TbA (T : List (Addr × Str)) (a : Addr) : Prop := ∃ q, (a, q) ∈ T
/-- what a def may change: the draws' objects, the tables -/
def GA (GP : GenP) (γ : GAt) (a : Addr) : Prop := (∃ p, γ = some p ∧ (a = p.1 ∨ a = p.2.1)) ∨ TbA GP.T a
theorem tabs_there {T : List (Addr × Str)} {H : Hp} {a : Addr} (t : LamX.Tabs T H) (h : TbA T a) : ∃ ps, H a = some (.tbl ps) := by
  obtain ⟨q, hq⟩ := h
  obtain ⟨ps, h1, _⟩ := t _ hq
  exact ⟨ps, h1⟩
/-- the tables stay if tables and code objects do -/
theorem tabs_stay {T : List (Addr × Str)} {H H' : Hp} (t : LamX.Tabs T H) (e : ∀ a o, H a = some o → ¬ noTE o → H' a = some o) : LamX.Tabs T H' := fun p hp => by
  obtain ⟨ps, h1, h2, h3⟩ := t p hp
  refine ⟨ps, e _ _ h1 (fun n => n.1 ps rfl), h2, fun pos cv hc => ?_⟩
  obtain ⟨c, e1, e2⟩ := h3 pos cv hc
  exact ⟨c, e1, e _ _ e2 (fun n => n.2 _ rfl)⟩
theorem tabs_upd {T : List (Addr × Str)} {H : Hp} {a : Addr} {o : HO} (t : LamX.Tabs T H) (n : ∀ u, H a = some u → noTE u) : LamX.Tabs T (upd H a o) := tabs_stay t fun b u h nb => by
  have : b ≠ a := fun x => nb (n u (x ▸ h))
  rw [upd_ne this]; exact h
/-- a belongs to slot j as our own -/
def OwnAt (σ : L2.St) (ρ : Rho) (a : Addr) (j : Nat) : Prop := (∃ e, ρ[j]? = some (some (.own e))) ∧ σ[j]? = some (some (.ref a))
structure Rp (GP : GenP) (K : PySem.W.Frag) (H0 F0 : Hp) (γ0 γ : GAt) (σ : L2.St) (H F : Hp) (ρ : Rho) : Prop where
  f0 : Same F0 F
  sub : Same F H
  keep : ∀ a o, H0 a = some o → ¬ GA GP γ0 a → H a = some o
  fnew : ∀ a o, F a = some o → F0 a = some o ∨ H0 a = none ∨ ∃ xs, o = .tup xs
  tr : ∀ a o, H0 a = some o → ∃ u, H a = some u
  len : σ.length = ρ.length
  val : ∀ (i : Nat) (d : D), ρ[i]? = some (some (.val d)) → ∃ v, σ[i]? = some (some v) ∧ Dd K F v d
  own : ∀ (i : Nat) (d : D), ρ[i]? = some (some (.own d)) → ∃ a, σ[i]? = some (some (.ref a)) ∧ Own K F H a d ∧ F a = none ∧ H0 a = none ∧ (¬ GA GP γ a) ∧ ∀ j, OwnAt σ ρ a j → j = i
  gen : ∀ (i n : Nat), ρ[i]? = some (some (.gen n)) → ∃ p, γ = some p ∧ σ[i]? = some (some (.ref p.1)) ∧ GP.D H p.1 p.2.1 p.2.2 n ∧ F p.2.2 ≠ none
  one : ∀ (i j n m : Nat), ρ[i]? = some (some (.gen n)) → ρ[j]? = some (some (.gen m)) → i = j
  g0 : ∀ p, γ0 = some p → ∃ q, γ = some q ∧ q.1 = p.1 ∧ q.2.2 = p.2.2 ∧ (q.2.1 = p.2.1 ∨ H0 q.2.1 = none)
  g1 : γ0 = none → ∀ p, γ = some p → H0 p.1 = none ∧ H0 p.2.1 = none
  gt0 : ∀ p, γ0 = some p → ∃ o u, H0 p.1 = some o ∧ H0 p.2.1 = some u
  gt : ∀ p, γ = some p → ∃ o u, H p.1 = some o ∧ H p.2.1 = some u ∧ ∀ xs, o ≠ .tup xs ∧ u ≠ .tup xs
  gf : ∀ p, γ = some p → F p.1 = none ∧ F p.2.1 = none
  tabs : LamX.Tabs GP.T H
  tin : ∀ a, TbA GP.T a → F a = none ∧ ∃ o, H0 a = some o
  gn : ∀ p, γ = some p → ¬ TbA GP.T p.1 ∧ ¬ TbA GP.T p.2.1
/-- a result -/
def RVok (GP : GenP) (K : PySem.W.Frag) (H0 : Hp) (γ0 γ : GAt) (σ : L2.St) (H F : Hp) (ρ : Rho) (v : V) : RV → Prop
  | .val d => Dd K F v d
  | .fr d => ∃ a, v = .ref a ∧ Own K F H a d ∧ F a = none ∧ H0 a = none ∧ (¬ GA GP γ a) ∧ ∀ j, ¬ OwnAt σ ρ a j
  | .kon d => ∃ a xs ds, v = .ref a ∧ d = .tup ds ∧ SqT K (fun _ => none) a xs ∧ DdL K (fun _ => none) xs ds
  | .sl i => σ[i]? = some (some v)
def cn (ρ : Rho) : RV → Option D
  | .val d => some d
  | .fr d => some d
  | .kon d => some d
  | .sl i => match ρ[i]? with
    | some (some (.val d)) => some d
    | some (some (.own d)) => some d
    | _ => none
section
variable {GP : GenP} {K : PySem.W.Frag} {H0 F0 H H' F F' : Hp} {γ0 γ : GAt} {σ : L2.St} {ρ : Rho} {v : V} {d : D}
theorem RVok.cnt {x : RV} (r : Rp GP K H0 F0 γ0 γ σ H F ρ) (h : RVok GP K H0 γ0 γ σ H F ρ v x) (e : cn ρ x = some d) : Cnt K F H v d := by
  cases x with
  | val d' => cases e; exact .inl h
  | fr d' => cases e; obtain ⟨a, rfl, o, _⟩ := h; exact .inr (.inl ⟨a, rfl, o⟩)
  | kon d' =>
    cases e
    exact .inr (.inr h)
  | sl i =>
    have h : σ[i]? = some (some v) := h
    dsimp only [cn] at e
    cases q : ρ[i]? with
    | none => rw [q] at e; cases e
    | some s =>
      rw [q] at e
      cases s with
      | none => cases e
      | some s =>
        cases s with
        | val d' =>
          cases e
          obtain ⟨u, e1, e2⟩ := r.val i d q
          rw [h] at e1; cases e1
          exact .inl e2
        | own d' =>
          cases e
          obtain ⟨a, e1, e2, _⟩ := r.own i d q
          rw [h] at e1; cases e1
          exact .inr (.inl ⟨a, rfl, e2⟩)
        | gen n => cases e
/-- nothing but new objects -/
theorem Rp.same (r : Rp GP K H0 F0 γ0 γ σ H F ρ) (s : Same H H') : Rp GP K H0 F0 γ0 γ σ H' F ρ where
  f0 := r.f0
  sub := r.sub.trans s
  keep := fun a o e n => s _ _ (r.keep a o e n)
  fnew := r.fnew
  tr := fun a o e => let ⟨u, h⟩ := r.tr a o e; ⟨u, s _ _ h⟩
  len := r.len
  val := r.val
  own := fun i d e => by
    obtain ⟨a, h1, h2, h3⟩ := r.own i d e
    obtain ⟨o, h4⟩ := h2.there
    exact ⟨a, h1, h2.move (Same.refl _) ((s _ _ h4).trans h4.symm), h3⟩
  gen := fun i n e => by
    obtain ⟨p, h1, h2, h3, h4⟩ := r.gen i n e
    have st : ∀ a, H a ≠ none → H' a = H a := fun a n => by
      cases q : H a with
      | none => exact absurd q n
      | some o => exact s _ _ q
    obtain ⟨n1, n2, n3, _⟩ := GP.dd h3
    exact ⟨p, h1, h2, GP.stab h3 (st _ n1) (st _ n2) (st _ n3), h4⟩
  one := r.one
  g0 := r.g0
  g1 := r.g1
  gt0 := r.gt0
  gt := fun p e => let ⟨o, u, h1, h2, h3⟩ := r.gt p e; ⟨o, u, s _ _ h1, s _ _ h2, h3⟩
  gf := r.gf
  tabs := r.tabs.ext s
  tin := r.tin
  gn := r.gn
/-- an own object, of no slot, is frozen -/
theorem Rp.freeze {a : Addr} {o : HO} (r : Rp GP K H0 F0 γ0 γ σ H F ρ) (e : H a = some o) (n : F a = none) (h0 : H0 a = none) (hg : ¬ GA GP γ a) (ho : ∀ j, ¬ OwnAt σ ρ a j) : Rp GP K H0 F0 γ0 γ σ H (upd F a o) ρ where
  f0 := r.f0.trans (same_upd n)
  sub := fun b u h => by
    by_cases c : b = a
    · subst c; rw [upd_same] at h; cases h; exact e
    · rw [upd_ne c] at h; exact r.sub _ _ h
  keep := r.keep
  fnew := fun b u h => by
    by_cases c : b = a
    · subst c; exact .inr (.inl h0)
    · rw [upd_ne c] at h; exact r.fnew _ _ h
  tr := r.tr
  len := r.len
  val := fun i d q => let ⟨v, h1, h2⟩ := r.val i d q; ⟨v, h1, h2.same (same_upd n)⟩
  own := fun i d q => by
    obtain ⟨b, h1, h2, h3, h4⟩ := r.own i d q
    have nb : b ≠ a := fun x => ho i ⟨⟨d, q⟩, x ▸ h1⟩
    exact ⟨b, h1, h2.move (same_upd n) rfl, by rw [upd_ne nb]; exact h3, h4⟩
  gen := fun i m q => by
    obtain ⟨p, h1, h2, h3, h6⟩ := r.gen i m q
    refine ⟨p, h1, h2, h3, ?_⟩
    by_cases c1 : p.2.2 = a
    · rw [c1, upd_same]; exact fun x => nomatch x
    · rw [upd_ne c1]; exact h6
  one := r.one
  g0 := r.g0
  g1 := r.g1
  gt0 := r.gt0
  gt := r.gt
  gf := fun p q => by
    have n1 : p.1 ≠ a := fun x => hg (.inl ⟨p, q, .inl x.symm⟩)
    have n2 : p.2.1 ≠ a := fun x => hg (.inl ⟨p, q, .inr x.symm⟩)
    rw [upd_ne n1, upd_ne n2]
    exact r.gf p q
  tabs := r.tabs
  tin := fun b hb => by
    have nb : b ≠ a := fun x => hg (.inr (x ▸ hb))
    rw [upd_ne nb]
    exact r.tin b hb
  gn := r.gn
theorem set_none {α : Type} {l : List α} {i j : Nat} {x : α} (h : j ≠ i) : (l.set i x)[j]? = l[j]? := List.getElem?_set_ne (Ne.symm h)
theorem set_at {α : Type} {l : List α} {i : Nat} {x y : α} (h : (l.set i x)[i]? = some y) : x = y ∧ i < l.length := by
  by_cases c : i < l.length
  · rw [List.getElem?_set_self c] at h; exact ⟨Option.some.inj h, c⟩
  · rw [List.getElem?_set, if_pos rfl, if_neg c] at h; cases h
/-- a slot's own object no longer its own -/
theorem Rp.disown (r : Rp GP K H0 F0 γ0 γ σ H F ρ) (i : Nat) : Rp GP K H0 F0 γ0 γ σ H F (ρ.set i none) where
  f0 := r.f0
  sub := r.sub
  keep := r.keep
  fnew := r.fnew
  tr := r.tr
  len := by rw [List.length_set]; exact r.len
  val := fun j d q => by
    by_cases c : j = i
    · subst c; cases (set_at q).1
    · rw [set_none c] at q; exact r.val j d q
  own := fun j d q => by
    by_cases c : j = i
    · subst c; cases (set_at q).1
    · rw [set_none c] at q
      obtain ⟨a, h1, h2, h3, h4, h5, h6⟩ := r.own j d q
      refine ⟨a, h1, h2, h3, h4, h5, fun l hl => h6 l ⟨?_, hl.2⟩⟩
      obtain ⟨⟨e, he⟩, _⟩ := hl
      by_cases c2 : l = i
      · subst c2; cases (set_at he).1
      · rw [set_none c2] at he; exact ⟨e, he⟩
  gen := fun j n q => by
    by_cases c : j = i
    · subst c; cases (set_at q).1
    · rw [set_none c] at q; exact r.gen j n q
  one := fun j l n m q1 q2 => by
    by_cases c : j = i
    · subst c; cases (set_at q1).1
    · by_cases c2 : l = i
      · subst c2; cases (set_at q2).1
      · rw [set_none c] at q1; rw [set_none c2] at q2; exact r.one j l n m q1 q2
  g0 := r.g0
  g1 := r.g1
  gt0 := r.gt0
  gt := r.gt
  gf := r.gf
  tabs := r.tabs
  tin := r.tin
  gn := r.gn
theorem ownAt_disown {a : Addr} {i j : Nat} (h : OwnAt σ (ρ.set i none) a j) : OwnAt σ ρ a j ∧ j ≠ i := by
  obtain ⟨⟨e, he⟩, h2⟩ := h
  by_cases c : j = i
  · subst c; cases (set_at he).1
  · rw [set_none c] at he; exact ⟨⟨⟨e, he⟩, h2⟩, c⟩
/-- a slot takes a frozen value -/
theorem Rp.setVal (r : Rp GP K H0 F0 γ0 γ σ H F ρ) (i : Nat) (h : Dd K F v d) : Rp GP K H0 F0 γ0 γ (σ.set i (some v)) H F (ρ.set i (some (.val d))) where
  f0 := r.f0
  sub := r.sub
  keep := r.keep
  fnew := r.fnew
  tr := r.tr
  len := by rw [List.length_set, List.length_set]; exact r.len
  val := fun j e q => by
    by_cases c : j = i
    · subst c
      obtain ⟨h1, h2⟩ := set_at q
      cases h1
      exact ⟨v, List.getElem?_set_self (by rw [r.len]; exact h2), h⟩
    · rw [set_none c] at q ⊢; exact r.val j e q
  own := fun j e q => by
    by_cases c : j = i
    · subst c; cases (set_at q).1
    · rw [set_none c] at q
      obtain ⟨a, h1, h2, h3, h4, h5, h6⟩ := r.own j e q
      refine ⟨a, by rw [set_none c]; exact h1, h2, h3, h4, h5, fun l hl => ?_⟩
      obtain ⟨⟨e, he⟩, h7⟩ := hl
      by_cases c2 : l = i
      · subst c2; cases (set_at he).1
      · rw [set_none c2] at he h7; exact h6 l ⟨⟨e, he⟩, h7⟩
  gen := fun j n q => by
    by_cases c : j = i
    · subst c; cases (set_at q).1
    · rw [set_none c] at q ⊢; exact r.gen j n q
  one := fun j l n m q1 q2 => by
    by_cases c : j = i
    · subst c; cases (set_at q1).1
    · by_cases c2 : l = i
      · subst c2; cases (set_at q2).1
      · rw [set_none c] at q1; rw [set_none c2] at q2; exact r.one j l n m q1 q2
  g0 := r.g0
  g1 := r.g1
  gt0 := r.gt0
  gt := r.gt
  gf := r.gf
  tabs := r.tabs
  tin := r.tin
  gn := r.gn
/-- the slot holds what it held, now frozen -/
theorem Rp.valAt (r : Rp GP K H0 F0 γ0 γ σ H F ρ) (i : Nat) (e : σ[i]? = some (some v)) (h : Dd K F v d) : Rp GP K H0 F0 γ0 γ σ H F (ρ.set i (some (.val d))) := by
  have q := r.setVal i h
  have es : σ.set i (some v) = σ := by
    obtain ⟨hi, e1⟩ := List.getElem?_eq_some_iff.mp e
    rw [← e1]
    exact List.set_getElem_self hi
  rw [es] at q
  exact q
/-- a slot takes an own object -/
theorem Rp.setOwn {a : Addr} (r : Rp GP K H0 F0 γ0 γ σ H F ρ) (i : Nat) (h : Own K F H a d) (n : F a = none) (h0 : H0 a = none) (hg : ¬ GA GP γ a) (ho : ∀ j, ¬ OwnAt σ ρ a j) :
    Rp GP K H0 F0 γ0 γ (σ.set i (some (.ref a))) H F (ρ.set i (some (.own d))) where
  f0 := r.f0
  sub := r.sub
  keep := r.keep
  fnew := r.fnew
  tr := r.tr
  len := by rw [List.length_set, List.length_set]; exact r.len
  val := fun j e q => by
    by_cases c : j = i
    · subst c; cases (set_at q).1
    · rw [set_none c] at q ⊢; exact r.val j e q
  own := fun j e q => by
    by_cases c : j = i
    · subst c
      obtain ⟨h1, h2⟩ := set_at q
      cases h1
      refine ⟨a, List.getElem?_set_self (by rw [r.len]; exact h2), h, n, h0, hg, fun l hl => ?_⟩
      obtain ⟨⟨e, he⟩, h7⟩ := hl
      by_cases c2 : l = j
      · exact c2
      · rw [set_none c2] at he h7; exact absurd ⟨⟨e, he⟩, h7⟩ (ho l)
    · rw [set_none c] at q
      obtain ⟨b, h1, h2, h3, h4, h5, h6⟩ := r.own j e q
      refine ⟨b, by rw [set_none c]; exact h1, h2, h3, h4, h5, fun l hl => ?_⟩
      obtain ⟨⟨e', he⟩, h7⟩ := hl
      by_cases c2 : l = i
      · subst c2
        have hl : l < σ.length := by rw [r.len]; exact (set_at he).2
        rw [List.getElem?_set_self hl] at h7
        have : a = b := by injection h7 with h7; injection h7 with h7; injection h7
        exact absurd ⟨⟨e, q⟩, this ▸ h1⟩ (ho j)
      · rw [set_none c2] at he h7; exact h6 l ⟨⟨e', he⟩, h7⟩
  gen := fun j n q => by
    by_cases c : j = i
    · subst c; cases (set_at q).1
    · rw [set_none c] at q ⊢; exact r.gen j n q
  one := fun j l n m q1 q2 => by
    by_cases c : j = i
    · subst c; cases (set_at q1).1
    · by_cases c2 : l = i
      · subst c2; cases (set_at q2).1
      · rw [set_none c] at q1; rw [set_none c2] at q2; exact r.one j l n m q1 q2
  g0 := r.g0
  g1 := r.g1
  gt0 := r.gt0
  gt := r.gt
  gf := r.gf
  tabs := r.tabs
  tin := r.tin
  gn := r.gn
/-- an own object is written -/
theorem Rp.write {a : Addr} {o : HO} {e : D} {i : Nat} (r : Rp GP K H0 F0 γ0 γ σ H F ρ) (q : ρ[i]? = some (some (.own e))) (ea : σ[i]? = some (some (.ref a))) (h : Own K F (upd H a o) a d) :
    Rp GP K H0 F0 γ0 γ σ (upd H a o) F (ρ.set i (some (.own d))) := by
  obtain ⟨b, b1, b2, b3, b4, b5, b6⟩ := r.own i e q
  rw [ea] at b1
  cases b1
  have hi : i < ρ.length := (List.getElem?_eq_some_iff.mp q).1
  have sub : Same F (upd H a o) := fun b u hb => by
    have : b ≠ a := fun x => by subst x; rw [b3] at hb; cases hb
    rw [upd_ne this]; exact r.sub _ _ hb
  have nba : ∀ b u, H0 b = some u → b ≠ a := fun b u hb x => by
    subst x
    rw [b4] at hb; cases hb
  refine ⟨r.f0, sub, fun b u hb hn => ?_, r.fnew, fun b u hb => ?_, by rw [List.length_set]; exact r.len, fun j f qj => ?_, fun j f qj => ?_, fun j n qj => ?_, fun j l n m q1 q2 => ?_, r.g0, r.g1, r.gt0, fun p hp => ?_, r.gf, tabs_upd r.tabs (fun u hu => b2.noTE hu), r.tin, r.gn⟩
  · rw [upd_ne (nba b u hb)]; exact r.keep _ _ hb hn
  · rw [upd_ne (nba b u hb)]; exact r.tr b u hb
  · by_cases c : j = i
    · subst c; cases (set_at qj).1
    · rw [set_none c] at qj; exact r.val j f qj
  · by_cases c : j = i
    · subst c
      have := (set_at qj).1
      cases this
      refine ⟨a, ea, h, b3, b4, b5, fun l hl => ?_⟩
      obtain ⟨⟨e', he⟩, h7⟩ := hl
      by_cases c2 : l = j
      · exact c2
      · rw [set_none c2] at he; exact b6 l ⟨⟨e', he⟩, h7⟩
    · rw [set_none c] at qj
      obtain ⟨b, h1, h2, h3, h4, h5, h6⟩ := r.own j f qj
      have nb : b ≠ a := fun x => c (b6 j ⟨⟨f, qj⟩, x ▸ h1⟩)
      refine ⟨b, h1, h2.move (Same.refl _) (upd_ne nb), h3, h4, h5, fun l hl => ?_⟩
      obtain ⟨⟨e', he⟩, h7⟩ := hl
      by_cases c2 : l = i
      · subst c2
        rw [ea] at h7
        injection h7 with h7; injection h7 with h7; injection h7 with h7
        exact absurd h7.symm nb
      · rw [set_none c2] at he; exact h6 l ⟨⟨e', he⟩, h7⟩
  · by_cases c : j = i
    · subst c; cases (set_at qj).1
    · rw [set_none c] at qj
      obtain ⟨p, h1, h2, h3, h6⟩ := r.gen j n qj
      have nd : p.1 ≠ a := fun x => b5 (.inl ⟨p, h1, .inl x.symm⟩)
      have ng : p.2.1 ≠ a := fun x => b5 (.inl ⟨p, h1, .inr x.symm⟩)
      have nc : p.2.2 ≠ a := fun x => h6 (x ▸ b3)
      exact ⟨p, h1, h2, GP.stab h3 (upd_ne nd) (upd_ne ng) (upd_ne nc), h6⟩
  · by_cases c : j = i
    · subst c; cases (set_at q1).1
    · by_cases c2 : l = i
      · subst c2; cases (set_at q2).1
      · rw [set_none c] at q1; rw [set_none c2] at q2; exact r.one j l n m q1 q2
  · obtain ⟨o', u', h1, h2, h3⟩ := r.gt p hp
    have n1 : p.1 ≠ a := fun x => b5 (.inl ⟨p, hp, .inl x.symm⟩)
    have n2 : p.2.1 ≠ a := fun x => b5 (.inl ⟨p, hp, .inr x.symm⟩)
    exact ⟨o', u', by rw [upd_ne n1]; exact h1, by rw [upd_ne n2]; exact h2, h3⟩
/-- a slot's own object is frozen -/
theorem Rp.freezeAt {a : Addr} {i : Nat} (r : Rp GP K H0 F0 γ0 γ σ H F ρ) (q : ρ[i]? = some (some (.own d))) (ea : σ[i]? = some (some (.ref a))) :
    ∃ F', Rp GP K H0 F0 γ0 γ σ H F' (ρ.set i (some (.val d))) ∧ Same F F' ∧ Dd K F' (.ref a) d := by
  obtain ⟨b, b1, b2, b3, b4, b5, b6⟩ := r.own i d q
  rw [ea] at b1
  cases b1
  obtain ⟨o, ho⟩ := b2.there
  have r2 := (r.disown i).freeze ho b3 b4 b5 fun j hj => by
    obtain ⟨h1, h2⟩ := ownAt_disown hj
    exact h2 (b6 j h1)
  have dd := b2.frozen b3 ho
  have r3 := r2.valAt i ea dd
  rw [List.set_set] at r3
  exact ⟨_, r3, same_upd b3, dd⟩
/-- the data of a result, frozen; what it was a slot's own is now frozen there -/
def fz (x : RV) (ρ : Rho) (k : D → Rho → Prop) : Prop := match x with
  | .val d => k d ρ
  | .fr d => k d ρ
  | .kon _ => False
  | .sl i => match ρ[i]? with
    | some (some (.val d)) => k d ρ
    | some (some (.own d)) => k d (ρ.set i (some (.val d)))
    | _ => False
theorem fz_ok {x : RV} {k : D → Rho → Prop} (r : Rp GP K H0 F0 γ0 γ σ H F ρ) (h : RVok GP K H0 γ0 γ σ H F ρ v x) (z : fz x ρ k) :
    ∃ F' ρ' d, Rp GP K H0 F0 γ0 γ σ H F' ρ' ∧ Same F F' ∧ Dd K F' v d ∧ k d ρ' := by
  cases x with
  | val d => exact ⟨F, ρ, d, r, Same.refl _, h, z⟩
  | fr d =>
    obtain ⟨a, rfl, o, h1, h2, h3, h4⟩ := h
    obtain ⟨u, hu⟩ := o.there
    exact ⟨_, ρ, d, r.freeze hu h1 h2 h3 h4, same_upd h1, o.frozen h1 hu, z⟩
  | kon d => exact False.elim z
  | sl i =>
    have h : σ[i]? = some (some v) := h
    dsimp only [fz] at z
    cases q : ρ[i]? with
    | none => rw [q] at z; exact False.elim z
    | some s =>
      rw [q] at z
      cases s with
      | none => exact False.elim z
      | some s =>
        cases s with
        | val d =>
          obtain ⟨u, e1, e2⟩ := r.val i d q
          rw [h] at e1; cases e1
          exact ⟨F, ρ, d, r, Same.refl _, e2, z⟩
        | own d =>
          obtain ⟨a, e1, _⟩ := r.own i d q
          rw [h] at e1; cases e1
          obtain ⟨F', r', s', d'⟩ := r.freezeAt q h
          exact ⟨F', _, d, r', s', d', z⟩
        | gen n => exact False.elim z
/-- no new address is the draws' of the entry -/
theorem Rp.nga {a : Addr} (r : Rp GP K H0 F0 γ0 γ σ H F ρ) (h : H0 a = none) : ¬ GA GP γ0 a := fun z => by
  rcases z with ⟨p, hp, e⟩ | z
  · obtain ⟨o, u, h1, h2⟩ := r.gt0 p hp
    rcases e with rfl | rfl
    · rw [h1] at h; cases h
    · rw [h2] at h; cases h
  · obtain ⟨_, o, h1⟩ := r.tin a z
    rw [h1] at h; cases h
/-- what is tracked no more is new to the entry -/
theorem Rp.new0 {a : Addr} (r : Rp GP K H0 F0 γ0 γ σ H F ρ) (h : H a = none) : H0 a = none := by
  cases q : H0 a with
  | none => rfl
  | some o =>
    obtain ⟨u, hu⟩ := r.tr a o q
    rw [hu] at h; cases h
/-- an own object of no slot is held: it counts as the entry's -/
theorem Rp.hold {a : Addr} {o : HO} (r : Rp GP K H0 F0 γ0 γ σ H F ρ) (e : H a = some o) (n : F a = none) (h0 : H0 a = none) (hg : ¬ GA GP γ a) (ho : ∀ j, ¬ OwnAt σ ρ a j) : Rp GP K (upd H0 a o) F0 γ0 γ σ H F ρ where
  f0 := r.f0
  sub := r.sub
  keep := fun b u h nb => by
    by_cases c : b = a
    · subst c; rw [upd_same] at h; cases h; exact e
    · rw [upd_ne c] at h; exact r.keep b u h nb
  fnew := fun b u h => by
    rcases r.fnew b u h with z | z | z
    · exact .inl z
    · have c : b ≠ a := fun x => by rw [x, n] at h; cases h
      exact .inr (.inl (by rw [upd_ne c]; exact z))
    · exact .inr (.inr z)
  tr := fun b u h => by
    by_cases c : b = a
    · subst c; exact ⟨o, e⟩
    · rw [upd_ne c] at h; exact r.tr b u h
  len := r.len
  val := r.val
  own := fun i d q => by
    obtain ⟨b, h1, h2, h3, h4, h5⟩ := r.own i d q
    have c : b ≠ a := fun x => ho i ⟨⟨d, q⟩, x ▸ h1⟩
    exact ⟨b, h1, h2, h3, by rw [upd_ne c]; exact h4, h5⟩
  gen := r.gen
  one := r.one
  g0 := fun p hp => by
    obtain ⟨q, hq, e1, e3, e2⟩ := r.g0 p hp
    refine ⟨q, hq, e1, e3, ?_⟩
    rcases e2 with z | z
    · exact .inl z
    · have c : q.2.1 ≠ a := fun x => hg (.inl ⟨q, hq, .inr x.symm⟩)
      exact .inr (by rw [upd_ne c]; exact z)
  g1 := fun h p hp => by
    have c1 : p.1 ≠ a := fun x => hg (.inl ⟨p, hp, .inl x.symm⟩)
    have c2 : p.2.1 ≠ a := fun x => hg (.inl ⟨p, hp, .inr x.symm⟩)
    rw [upd_ne c1, upd_ne c2]
    exact r.g1 h p hp
  gt0 := fun p hp => by
    obtain ⟨o', u', h1, h2⟩ := r.gt0 p hp
    have c1 : p.1 ≠ a := fun x => by rw [x, h0] at h1; cases h1
    have c2 : p.2.1 ≠ a := fun x => by rw [x, h0] at h2; cases h2
    exact ⟨o', u', by rw [upd_ne c1]; exact h1, by rw [upd_ne c2]; exact h2⟩
  gt := r.gt
  gf := r.gf
  tabs := r.tabs
  tin := fun b hb => by
    obtain ⟨h1, u, h2⟩ := r.tin b hb
    have c : b ≠ a := fun x => by rw [x, h0] at h2; cases h2
    exact ⟨h1, u, by rw [upd_ne c]; exact h2⟩
  gn := r.gn
/-- .. and let go -/
theorem Rp.letgo {a : Addr} {o : HO} (r : Rp GP K (upd H0 a o) F0 γ0 γ σ H F ρ) (h0 : H0 a = none) (f0 : F0 a = none) (ng : ¬ GA GP γ0 a) (nt : ∀ xs, o ≠ .tup xs) : Rp GP K H0 F0 γ0 γ σ H F ρ ∧ H a = some o ∧ F a = none ∧ (¬ GA GP γ a) ∧ ∀ j, ¬ OwnAt σ ρ a j := by
  have ne0 : ∀ b u, H0 b = some u → b ≠ a := fun b u h x => by rw [x, h0] at h; cases h
  have nn : ∀ b, upd H0 a o b = none → b ≠ a ∧ H0 b = none := fun b h => by
    by_cases c : b = a
    · subst c; rw [upd_same] at h; cases h
    · rw [upd_ne c] at h; exact ⟨c, h⟩
  refine ⟨⟨r.f0, r.sub, fun b u h nb => r.keep b u (by rw [upd_ne (ne0 b u h)]; exact h) nb, fun b u h => ?_, fun b u h => r.tr b u (by rw [upd_ne (ne0 b u h)]; exact h), r.len, r.val, fun i d q => ?_, r.gen, r.one, fun p hp => ?_, fun h p hp => ?_, fun p hp => ?_, r.gt, r.gf, r.tabs, fun b hb => ?_, r.gn⟩, ?_, ?_, ?_, ?_⟩
  · rcases r.fnew b u h with z | z | z
    · exact .inl z
    · exact .inr (.inl (nn b z).2)
    · exact .inr (.inr z)
  · obtain ⟨b, h1, h2, h3, h4, h5⟩ := r.own i d q
    exact ⟨b, h1, h2, h3, (nn b h4).2, h5⟩
  · obtain ⟨q, hq, e1, e3, e2⟩ := r.g0 p hp
    refine ⟨q, hq, e1, e3, ?_⟩
    rcases e2 with z | z
    · exact .inl z
    · exact .inr (nn _ z).2
  · obtain ⟨z1, z2⟩ := r.g1 h p hp
    exact ⟨(nn _ z1).2, (nn _ z2).2⟩
  · obtain ⟨o', u', h1, h2⟩ := r.gt0 p hp
    have c1 : p.1 ≠ a := fun x => ng (.inl ⟨p, hp, .inl x.symm⟩)
    have c2 : p.2.1 ≠ a := fun x => ng (.inl ⟨p, hp, .inr x.symm⟩)
    rw [upd_ne c1] at h1
    rw [upd_ne c2] at h2
    exact ⟨o', u', h1, h2⟩
  · obtain ⟨h1, u, h2⟩ := r.tin b hb
    have c : b ≠ a := fun x => ng (.inr (x ▸ hb))
    rw [upd_ne c] at h2
    exact ⟨h1, u, h2⟩
  · exact r.keep a o upd_same ng
  · cases q : F a with
    | none => rfl
    | some u =>
      rcases r.fnew a u q with z | z | ⟨xs, z⟩
      · rw [z] at f0; cases f0
      · exact absurd rfl (nn a z).1
      · have h1 := r.sub _ _ q
        rw [r.keep a o upd_same ng] at h1
        cases h1
        exact absurd z (nt xs)
  · intro z
    rcases z with ⟨p, hp, e⟩ | z
    case inr => exact ng (.inr z)
    cases hg : γ0 with
    | none =>
      obtain ⟨z1, z2⟩ := r.g1 hg p hp
      rcases e with e | e
      · exact (nn _ z1).1 e.symm
      · exact (nn _ z2).1 e.symm
    | some p0 =>
      obtain ⟨q, hq, e1, _, e2⟩ := r.g0 p0 hg
      rw [hp] at hq
      cases hq
      rcases e with e | e
      · exact ng (.inl ⟨p0, hg, .inl (e.trans e1)⟩)
      · rcases e2 with z | z
        · exact ng (.inl ⟨p0, hg, .inr (e.trans z)⟩)
        · exact (nn _ z).1 e.symm
  · rintro j ⟨⟨e, he⟩, h2⟩
    obtain ⟨b, h1, _, _, h4, _⟩ := r.own j e he
    rw [h2] at h1
    cases h1
    exact (nn _ h4).1 rfl
end
end DL
/-! lifted readings 2: the judgements; expressions -/
namespace DL
open PySem PySem.Spec PyProof.Rows L2 CD
abbrev UE := Rho → (RV → Rho → Prop) → Prop
abbrev UT := Rho → (Bool → Rho → Prop) → Prop
abbrev UA := Rho → (List RV → Rho → Prop) → Prop
structure UEnds where
  nx : Rho → Prop
  rt : D → Rho → Prop
  bk : Rho → Prop := fun _ => False
  ct : Rho → Prop := fun _ => False
abbrev US := UEnds → Rho → Prop
variable {GP : GenP} {K : PySem.W.Frag}
/-- what a finer base tells, the base tells too -/
class FinerC (GP : GenP) (K : PySem.W.Frag) (B : Hp × Hp × GAt) (H0 F0 : Hp) (γ0 : GAt) : Prop where
  fin : ∀ {γ : GAt} {σ : L2.St} {H F : Hp} {ρ : Rho}, Rp GP K H0 F0 γ0 γ σ H F ρ → Rp GP K B.1 B.2.1 B.2.2 γ σ H F ρ
  g : γ0 = B.2.2
variable {B : Hp × Hp × GAt}
variable (GP K) in
def LE (B : Hp × Hp × GAt) (t : TE) (u : UE) : Prop := ∀ ⦃H0 F0 : Hp⦄ ⦃γ0 : GAt⦄ [FinerC GP K B H0 F0 γ0] ⦃γ : GAt⦄ ⦃σ : L2.St⦄ ⦃H F : Hp⦄ ⦃ρ : Rho⦄ (R : VK) (Q : RV → Rho → Prop), Rp GP K H0 F0 γ0 γ σ H F ρ → u ρ Q →
  (∀ H' F' γ' ρ' v x, Rp GP K H0 F0 γ0 γ' σ H' F' ρ' → Same F F' → RVok GP K H0 γ0 γ' σ H' F' ρ' v x → Q x ρ' → R v H') → t σ H R
variable (GP K) in
def LT (B : Hp × Hp × GAt) (t : TT) (u : UT) : Prop := ∀ ⦃H0 F0 : Hp⦄ ⦃γ0 : GAt⦄ [FinerC GP K B H0 F0 γ0] ⦃γ : GAt⦄ ⦃σ : L2.St⦄ ⦃H F : Hp⦄ ⦃ρ : Rho⦄ (R : Bool → Hp → Prop) (Q : Bool → Rho → Prop), Rp GP K H0 F0 γ0 γ σ H F ρ → u ρ Q →
  (∀ H' F' γ' ρ' b, Rp GP K H0 F0 γ0 γ' σ H' F' ρ' → Same F F' → Q b ρ' → R b H') → t σ H R
/-- results that stay through what comes behind: none of them is new and of no slot -/
def RVs (K : PySem.W.Frag) (σ : L2.St) (F : Hp) : List V → List RV → Prop
  | [], [] => True
  | v :: vs, x :: xs => (match x with
    | .val d => Dd K F v d
    | .fr _ => False
    | .kon d => ∃ a xs ds, v = .ref a ∧ d = .tup ds ∧ SqT K (fun _ => none) a xs ∧ DdL K (fun _ => none) xs ds
    | .sl i => σ[i]? = some (some v)) ∧ RVs K σ F vs xs
  | _, _ => False
variable (GP K) in
def LA (B : Hp × Hp × GAt) (t : TA) (u : UA) : Prop := ∀ ⦃H0 F0 : Hp⦄ ⦃γ0 : GAt⦄ [FinerC GP K B H0 F0 γ0] ⦃γ : GAt⦄ ⦃σ : L2.St⦄ ⦃H F : Hp⦄ ⦃ρ : Rho⦄ (R : List V → Hp → Prop) (Q : List RV → Rho → Prop), Rp GP K H0 F0 γ0 γ σ H F ρ → u ρ Q →
  (∀ H' F' γ' ρ' vs xs, Rp GP K H0 F0 γ0 γ' σ H' F' ρ' → Same F F' → RVs K σ F' vs xs → Q xs ρ' → R vs H') → t σ H R
section
variable {H0 F0 H H' F F' : Hp} {γ0 γ : GAt} {σ : L2.St} {ρ : Rho} {v : V} {d : D}
/-- a new object of no slot is frozen, the rest is as it is -/
def sf : RV → RV
  | .fr d => .val d
  | x => x
theorem sf_ok {x : RV} (r : Rp GP K H0 F0 γ0 γ σ H F ρ) (h : RVok GP K H0 γ0 γ σ H F ρ v x) : ∃ F', Rp GP K H0 F0 γ0 γ σ H F' ρ ∧ Same F F' ∧ RVs K σ F' [v] [sf x] := by
  cases x with
  | val d => exact ⟨F, r, Same.refl _, h, trivial⟩
  | fr d =>
    obtain ⟨a, rfl, o, h1, h2, h3, h4⟩ := h
    obtain ⟨u, hu⟩ := o.there
    exact ⟨_, r.freeze hu h1 h2 h3 h4, same_upd h1, o.frozen h1 hu, trivial⟩
  | kon d => exact ⟨F, r, Same.refl _, h, trivial⟩
  | sl i => exact ⟨F, r, Same.refl _, h, trivial⟩
theorem RVs.one {x : RV} (h : RVs K σ F [v] [x]) : RVok GP K H0 γ0 γ σ H F ρ v x := by
  obtain ⟨h, _⟩ := h
  cases x with
  | val d => exact h
  | fr d => exact False.elim h
  | kon d => exact h
  | sl i => exact h
theorem RVs.cons {vs : List V} {x : RV} {xs : List RV} (h : RVs K σ F [v] [x]) (g : RVs K σ F vs xs) : RVs K σ F (v :: vs) (x :: xs) := ⟨h.1, g⟩
theorem RVs.same : ∀ {vs : List V} {xs : List RV}, Same F F' → RVs K σ F vs xs → RVs K σ F' vs xs
  | [], [], _, _ => trivial
  | v :: vs, x :: xs, s, h => by
    obtain ⟨h, g⟩ := h
    refine ⟨?_, RVs.same s g⟩
    cases x with
    | val d => exact h.same s
    | fr d => exact h
    | kon d => exact h
    | sl i => exact h
  | [], _ :: _, _, h => h.elim
  | _ :: _, [], _, h => h.elim
theorem RVs.nil_of {vs : List V} (h : RVs K σ F vs []) : vs = [] := by
  cases vs with
  | nil => rfl
  | cons _ _ => exact h.elim
theorem RVs.cons_of {vs : List V} {x : RV} {xs : List RV} (h : RVs K σ F vs (x :: xs)) : ∃ v ws, vs = v :: ws ∧ RVs K σ F [v] [x] ∧ RVs K σ F ws xs := by
  cases vs with
  | nil => exact h.elim
  | cons v ws => exact ⟨v, ws, rfl, ⟨h.1, trivial⟩, h.2⟩
end
/-! ### names, constants -/
def uVar (i : Nat) : UE := fun ρ Q => match ρ[i]? with
  | some (some (.val d)) => Q (.val d) ρ
  | some (some _) => Q (.sl i) ρ
  | _ => False
theorem le_var (i : Nat) : LE GP K B (tVar i) (uVar i) := fun H0 F0 γ0 _ γ σ H F ρ R Q r u h => by
  dsimp only [uVar] at u
  cases q : ρ[i]? with
  | none => rw [q] at u; exact False.elim u
  | some s =>
    rw [q] at u
    cases s with
    | none => exact False.elim u
    | some s =>
      cases s with
      | val d =>
        obtain ⟨v, h1, h2⟩ := r.val i d q
        exact ⟨v, h1, h _ _ _ _ _ (.val d) r (Same.refl _) h2 u⟩
      | own d =>
        obtain ⟨a, h1, _⟩ := r.own i d q
        exact ⟨_, h1, h _ _ _ _ _ (.sl i) r (Same.refl _) h1 u⟩
      | gen n =>
        obtain ⟨p, _, h1, _⟩ := r.gen i n q
        exact ⟨_, h1, h _ _ _ _ _ (.sl i) r (Same.refl _) h1 u⟩
/-- a flat value -/
def fD : V → Option D
  | .non => some .non
  | .bl b => some (.bl b)
  | .int i => some (.int i)
  | .str s => some (.str s)
  | _ => none
def uC (d : D) : UE := fun ρ Q => Q (.val d) ρ
theorem le_int (i : Int) : LE GP K B (tC (.int i)) (uC (.int i)) := fun H0 F0 γ0 _ γ σ H F ρ R Q r u h => h _ _ _ _ _ (.val _) r (Same.refl _) (Dd.int i) u
theorem le_bl (i : Bool) : LE GP K B (tC (.bl i)) (uC (.bl i)) := fun H0 F0 γ0 _ γ σ H F ρ R Q r u h => h _ _ _ _ _ (.val _) r (Same.refl _) (Dd.bl i) u
theorem le_str (i : Str) : LE GP K B (tC (.str i)) (uC (.str i)) := fun H0 F0 γ0 _ γ σ H F ρ R Q r u h => h _ _ _ _ _ (.val _) r (Same.refl _) (Dd.str i) u
theorem le_non : LE GP K B (tC .non) (uC .non) := fun H0 F0 γ0 _ γ σ H F ρ R Q r u h => h _ _ _ _ _ (.val _) r (Same.refl _) Dd.non u
/-- a tuple that is written in the text -/
def uK (d : D) : UE := fun ρ Q => Q (.kon d) ρ
theorem le_kon {a : Addr} {xs : List V} {ds : List D} (h1 : SqT K (fun _ => none) a xs) (h2 : DdL K (fun _ => none) xs ds) : LE GP K B (tC (.ref a)) (uK (.tup ds)) :=
  fun H0 F0 γ0 _ γ σ H F ρ R Q r u h => h _ _ _ _ _ (.kon _) r (Same.refl _) ⟨a, xs, ds, rfl, rfl, h1, h2⟩ u
/-! ### operators -/
/-- what an operation gives: flat or frozen data, or a new object -/
def Opk (K : PySem.W.Frag) (F H H' : Hp) (v : V) : RV → Prop
  | .val d => Dd K F v d
  | .fr (.tup ds) => ∃ a xs, v = .ref a ∧ H a = none ∧ H' a = some (.tup xs) ∧ DdL K F xs ds
  | .fr d => ∃ a, v = .ref a ∧ H a = none ∧ Own K F H' a d
  | _ => False
/-- a new tuple counts as frozen -/
def nrm : RV → RV
  | .fr (.tup ds) => .val (.tup ds)
  | x => x
theorem fr_ok {H0 F0 H H' F : Hp} {γ0 γ : GAt} {σ : L2.St} {ρ : Rho} {a : Addr} {d : D} (r : Rp GP K H0 F0 γ0 γ σ H F ρ) (s : Same H H') (n : H a = none) (o : Own K F H' a d) : RVok GP K H0 γ0 γ σ H' F ρ (.ref a) (.fr d) := by
  refine ⟨a, rfl, o, Same.free r.sub n, r.new0 n, fun hg => ?_, fun j hj => ?_⟩
  · rcases hg with ⟨p, hp, e⟩ | z
    · obtain ⟨o', u', h1, h2, _⟩ := r.gt p hp
      rcases e with rfl | rfl
      · rw [h1] at n; cases n
      · rw [h2] at n; cases n
    · obtain ⟨ps, h1⟩ := tabs_there r.tabs z
      rw [h1] at n; cases n
  · obtain ⟨⟨e, he⟩, hs⟩ := hj
    obtain ⟨b, b1, b2, _⟩ := r.own j e he
    rw [hs] at b1; cases b1
    obtain ⟨o', ho⟩ := b2.there
    rw [ho] at n; cases n
/-- a tuple that is tracked is frozen -/
theorem tup_frz {H0 F0 H F : Hp} {γ0 γ : GAt} {σ : L2.St} {ρ : Rho} {a : Addr} {xs : List V} {ds : List D} (r : Rp GP K H0 F0 γ0 γ σ H F ρ) (h : H a = some (.tup xs)) (g : DdL K F xs ds) :
    ∃ F', Rp GP K H0 F0 γ0 γ σ H F' ρ ∧ Same F F' ∧ Dd K F' (.ref a) (.tup ds) := by
  cases q : F a with
  | some o =>
    have := r.sub _ _ q
    rw [h] at this
    cases this
    exact ⟨F, r, Same.refl _, .tup q g⟩
  | none =>
    have s := same_upd (o := .tup xs) q
    have own : ∀ (i : Nat) (d : D), ρ[i]? = some (some (.own d)) → σ[i]? ≠ some (some (.ref a)) := fun i d q e => by
      obtain ⟨b, b1, b2, _⟩ := r.own i d q
      rw [e] at b1; cases b1
      exact b2.nt h
    have ga : ¬ GA GP γ a := fun z => by
      rcases z with ⟨p, hp, e⟩ | z
      · obtain ⟨o, u, h1, h2, h3⟩ := r.gt p hp
        rcases e with rfl | rfl
        · rw [h] at h1; cases h1; exact (h3 xs).1 rfl
        · rw [h] at h2; cases h2; exact (h3 xs).2 rfl
      · obtain ⟨ps, h1⟩ := tabs_there r.tabs z
        rw [h] at h1; cases h1
    refine ⟨upd F a (.tup xs), ⟨r.f0.trans s, fun b u hb => ?_, r.keep, fun b u hb => ?_, r.tr, r.len, fun i d q => ?_, fun i d q => ?_, fun i n q => ?_, r.one, r.g0, r.g1, r.gt0, r.gt, fun p hp => ?_, r.tabs, fun b hb => ?_, r.gn⟩, s, .tup upd_same (g.same s)⟩
    · by_cases c : b = a
      · subst c; rw [upd_same] at hb; cases hb; exact h
      · rw [upd_ne c] at hb; exact r.sub _ _ hb
    · by_cases c : b = a
      · subst c; rw [upd_same] at hb; cases hb; exact .inr (.inr ⟨xs, rfl⟩)
      · rw [upd_ne c] at hb; exact r.fnew _ _ hb
    · obtain ⟨v, h1, h2⟩ := r.val i d q
      exact ⟨v, h1, h2.same s⟩
    · obtain ⟨b, h1, h2, h3, h4⟩ := r.own i d q
      have nb : b ≠ a := fun x => own i d q (x ▸ h1)
      exact ⟨b, h1, h2.move s rfl, by rw [upd_ne nb]; exact h3, h4⟩
    · obtain ⟨p, h1, h2, h3, h4⟩ := r.gen i n q
      refine ⟨p, h1, h2, h3, ?_⟩
      by_cases c : p.2.2 = a
      · rw [c, upd_same]; exact fun x => nomatch x
      · rw [upd_ne c]; exact h4
    · obtain ⟨f1, f2⟩ := r.gf p hp
      have n1 : p.1 ≠ a := fun x => ga (.inl ⟨p, hp, .inl x.symm⟩)
      have n2 : p.2.1 ≠ a := fun x => ga (.inl ⟨p, hp, .inr x.symm⟩)
      rw [upd_ne n1, upd_ne n2]
      exact ⟨f1, f2⟩
    · have nb : b ≠ a := fun x => ga (.inr (x ▸ hb))
      rw [upd_ne nb]
      exact r.tin b hb
/-- .. all of them -/
theorem opk_ok {H0 F0 H H' F : Hp} {γ0 γ : GAt} {σ : L2.St} {ρ : Rho} {v : V} {x : RV} (r : Rp GP K H0 F0 γ0 γ σ H F ρ) (s : Same H H') (h : Opk K F H H' v x) :
    ∃ F', Rp GP K H0 F0 γ0 γ σ H' F' ρ ∧ Same F F' ∧ RVok GP K H0 γ0 γ σ H' F' ρ v (nrm x) := by
  have r' := r.same s
  cases x with
  | val d => exact ⟨F, r', Same.refl _, h⟩
  | fr d =>
    cases d with
    | tup ds =>
      obtain ⟨a, xs, rfl, n, e, g⟩ := h
      obtain ⟨F', r2, s2, d2⟩ := tup_frz r' e g
      exact ⟨F', r2, s2, d2⟩
    | _ =>
      obtain ⟨a, rfl, n, o⟩ := h
      exact ⟨F, r', Same.refl _, fr_ok r s n o⟩
  | kon d => exact False.elim h
  | sl i => exact False.elim h
abbrev P1 := D → (RV → Prop) → Prop
abbrev P2 := D → D → (RV → Prop) → Prop
abbrev PN := List D → (RV → Prop) → Prop
variable (K) in
def LR (r : R2) (p : P2) : Prop := ∀ ⦃F H : Hp⦄ ⦃x y : V⦄ ⦃dx dy : D⦄ (R : VK) (Q : RV → Prop), Same F H → Cnt K F H x dx → Cnt K F H y dy → p dx dy Q →
  (∀ v H' rv, Same H H' → Opk K F H H' v rv → Q rv → R v H') → r x y H R
variable (K) in
def LU (r : V → Hp → VK → Prop) (p : P1) : Prop := ∀ ⦃F H : Hp⦄ ⦃x : V⦄ ⦃dx : D⦄ (R : VK) (Q : RV → Prop), Same F H → Cnt K F H x dx → p dx Q →
  (∀ v H' rv, Same H H' → Opk K F H H' v rv → Q rv → R v H') → r x H R
def uOp (p : P2) (ua ub : UE) : UE := fun ρ Q => ua ρ fun x ρ1 => ub ρ1 fun y ρ2 => match cn ρ2 (sf x), cn ρ2 y with
  | some dx, some dy => p dx dy fun z => Q (nrm z) ρ2
  | _, _ => False
theorem le_op {r : R2} {p : P2} {ta tb : TE} {ua ub : UE} (hr : LR K r p) (ha : LE GP K B ta ua) (hb : LE GP K B tb ub) : LE GP K B (tOp r ta tb) (uOp p ua ub) := by
  intro H0 F0 γ0 _ γ σ H F ρ R Q r0 u h
  refine ha _ _ r0 u fun H1 F1 γ1 ρ1 v x r1 s1 k1 u1 => ?_
  obtain ⟨F2, r2, s2, k2⟩ := sf_ok r1 k1
  refine hb _ _ r2 u1 fun H3 F3 γ3 ρ3 w y r3 s3 k3 u3 => ?_
  split at u3
  · rename_i dx dy e1 e2
    have c1 := RVok.cnt r3 ((k2.same s3).one) e1
    have c2 := RVok.cnt r3 k3 e2
    exact hr _ _ r3.sub c1 c2 u3 fun v' H' rv sH ok q => let ⟨_, r9, s9, k9⟩ := opk_ok r3 sH ok; h _ _ _ _ _ (nrm rv) r9 (s1.trans (s2.trans (s3.trans s9))) k9 q
  · exact False.elim u3
def uUn (p : P1) (ua : UE) : UE := fun ρ Q => ua ρ fun x ρ1 => match cn ρ1 x with
  | some dx => p dx fun z => Q (nrm z) ρ1
  | _ => False
theorem le_un {r : V → Hp → VK → Prop} {p : P1} {ta : TE} {ua : UE} (hr : LU K r p) (ha : LE GP K B ta ua) : LE GP K B (tUn r ta) (uUn p ua) := by
  intro H0 F0 γ0 _ γ σ H F ρ R Q r0 u h
  refine ha _ _ r0 u fun H1 F1 γ1 ρ1 v x r1 s1 k1 u1 => ?_
  split at u1
  · rename_i dx e1
    exact hr _ _ r1.sub (RVok.cnt r1 k1 e1) u1 fun v' H' rv sH ok q => let ⟨_, r9, s9, k9⟩ := opk_ok r1 sH ok; h _ _ _ _ _ (nrm rv) r9 (s1.trans s9) k9 q
  · exact False.elim u1
/-- ints -/
def pI (C : Int → Int → Prop) (g : Int → Int → D) : P2 := fun x y Q => match x, y with
  | .int i, .int j => C i j ∧ Q (.val (g i j))
  | _, _ => False
def pI0 (g : Int → Int → D) : P2 := fun x y Q => match x, y with
  | .int i, .int j => Q (.val (g i j))
  | _, _ => False
theorem flat_dd {F : Hp} : ∀ {v : V} {d : D}, fD v = some d → Dd K F v d
  | .non, _, h => by cases h; exact .non
  | .bl b, _, h => by cases h; exact .bl b
  | .int i, _, h => by cases h; exact .int i
  | .str s, _, h => by cases h; exact .str s
theorem lr_I {C : Int → Int → Prop} {g : Int → Int → V} {g' : Int → Int → D} (e : ∀ i j, fD (g i j) = some (g' i j)) : LR K (rI C g) (pI C g') := by
  intro F H x y dx dy R Q s c1 c2 p h
  unfold pI at p
  split at p
  · rename_i i j
    exact ⟨i, j, c1.int, c2.int, p.1, h _ _ (.val _) (Same.refl _) (flat_dd (e i j)) p.2⟩
  · exact False.elim p
theorem lr_I0 {g : Int → Int → V} {g' : Int → Int → D} (e : ∀ i j, fD (g i j) = some (g' i j)) : LR K (rI0 g) (pI0 g') := by
  intro F H x y dx dy R Q s c1 c2 p h
  unfold pI0 at p
  split at p
  · rename_i i j
    exact ⟨i, j, c1.int, c2.int, h _ _ (.val _) (Same.refl _) (flat_dd (e i j)) p⟩
  · exact False.elim p
/-! ### tests -/
def uTest (u : UE) : UT := fun ρ Q => u ρ fun x ρ' => match cn ρ' x with
  | some (.bl b) => Q b ρ'
  | _ => False
theorem lt_test {t : TE} {u : UE} (h : LE GP K B t u) : LT GP K B (tTest t) (uTest u) := by
  intro H0 F0 γ0 _ γ σ H F ρ R Q r0 u0 k
  refine h _ _ r0 u0 fun H1 F1 γ1 ρ1 v x r1 s1 k1 u1 => ?_
  split at u1
  · rename_i b e
    exact ⟨b, (RVok.cnt r1 k1 e).bl, k _ _ _ _ _ r1 s1 u1⟩
  · exact False.elim u1
theorem lt_B {t : TE} {u : UE} (h : LE GP K B t u) : LT GP K B (tB t) (uTest u) := lt_test h
def uAnd (a b : UT) : UT := fun ρ Q => a ρ fun c ρ1 => if c = true then b ρ1 Q else Q false ρ1
def uOr (a b : UT) : UT := fun ρ Q => a ρ fun c ρ1 => if c = true then Q true ρ1 else b ρ1 Q
def uNot (a : UT) : UT := fun ρ Q => a ρ fun c ρ1 => Q (!c) ρ1
theorem lt_and {t t' : TT} {u u' : UT} (h : LT GP K B t u) (h' : LT GP K B t' u') : LT GP K B (tAnd t t') (uAnd u u') := by
  intro H0 F0 γ0 _ γ σ H F ρ R Q r0 u0 k
  refine h _ _ r0 u0 fun H1 F1 γ1 ρ1 b r1 s1 u1 => ?_
  split
  · rename_i c
    rw [if_pos c] at u1
    exact h' _ _ r1 u1 fun H2 F2 γ2 ρ2 b r2 s2 u2 => k _ _ _ _ _ r2 (s1.trans s2) u2
  · rename_i c
    rw [if_neg c] at u1
    exact k _ _ _ _ _ r1 s1 u1
theorem lt_or {t t' : TT} {u u' : UT} (h : LT GP K B t u) (h' : LT GP K B t' u') : LT GP K B (tOr t t') (uOr u u') := by
  intro H0 F0 γ0 _ γ σ H F ρ R Q r0 u0 k
  refine h _ _ r0 u0 fun H1 F1 γ1 ρ1 b r1 s1 u1 => ?_
  split
  · rename_i c
    rw [if_pos c] at u1
    exact k _ _ _ _ _ r1 s1 u1
  · rename_i c
    rw [if_neg c] at u1
    exact h' _ _ r1 u1 fun H2 F2 γ2 ρ2 b r2 s2 u2 => k _ _ _ _ _ r2 (s1.trans s2) u2
theorem lt_not {t : TT} {u : UT} (h : LT GP K B t u) : LT GP K B (tNot t) (uNot u) := by
  intro H0 F0 γ0 _ γ σ H F ρ R Q r0 u0 k
  exact h _ _ r0 u0 fun H1 F1 γ1 ρ1 b r1 s1 u1 => k _ _ _ _ _ r1 s1 u1
def uYes : UT := fun ρ Q => Q true ρ
theorem lt_yes : LT GP K B tYes uYes := fun H0 F0 γ0 _ γ σ H F ρ R Q r0 u0 k => k _ _ _ _ _ r0 (Same.refl _) u0
def uAndV (a b : UE) : UE := fun ρ Q => a ρ fun x ρ1 => match cn ρ1 x with
  | some (.bl c) => if c = true then b ρ1 Q else Q (.val (.bl false)) ρ1
  | _ => False
def uOrV (a b : UE) : UE := fun ρ Q => a ρ fun x ρ1 => match cn ρ1 x with
  | some (.bl c) => if c = true then Q (.val (.bl true)) ρ1 else b ρ1 Q
  | _ => False
def uNotV (a : UE) : UE := fun ρ Q => a ρ fun x ρ1 => match cn ρ1 x with
  | some (.bl c) => Q (.val (.bl (!c))) ρ1
  | _ => False
theorem le_and {t t' : TE} {u u' : UE} (h : LE GP K B t u) (h' : LE GP K B t' u') : LE GP K B (tAndV t t') (uAndV u u') := by
  intro H0 F0 γ0 _ γ σ H F ρ R Q r0 u0 k
  refine h _ _ r0 u0 fun H1 F1 γ1 ρ1 v x r1 s1 k1 u1 => ?_
  split at u1
  · rename_i b e
    refine ⟨b, (RVok.cnt r1 k1 e).bl, ?_⟩
    split
    · rename_i c
      rw [if_pos c] at u1
      exact h' _ _ r1 u1 fun H2 F2 γ2 ρ2 v x r2 s2 k2 u2 => k _ _ _ _ _ _ r2 (s1.trans s2) k2 u2
    · rename_i c
      rw [if_neg c] at u1
      exact k _ _ _ _ _ (.val _) r1 s1 (Dd.bl _) u1
  · exact False.elim u1
theorem le_or {t t' : TE} {u u' : UE} (h : LE GP K B t u) (h' : LE GP K B t' u') : LE GP K B (tOrV t t') (uOrV u u') := by
  intro H0 F0 γ0 _ γ σ H F ρ R Q r0 u0 k
  refine h _ _ r0 u0 fun H1 F1 γ1 ρ1 v x r1 s1 k1 u1 => ?_
  split at u1
  · rename_i b e
    refine ⟨b, (RVok.cnt r1 k1 e).bl, ?_⟩
    split
    · rename_i c
      rw [if_pos c] at u1
      exact k _ _ _ _ _ (.val _) r1 s1 (Dd.bl _) u1
    · rename_i c
      rw [if_neg c] at u1
      exact h' _ _ r1 u1 fun H2 F2 γ2 ρ2 v x r2 s2 k2 u2 => k _ _ _ _ _ _ r2 (s1.trans s2) k2 u2
  · exact False.elim u1
theorem le_not {t : TE} {u : UE} (h : LE GP K B t u) : LE GP K B (tNotV t) (uNotV u) := by
  intro H0 F0 γ0 _ γ σ H F ρ R Q r0 u0 k
  refine h _ _ r0 u0 fun H1 F1 γ1 ρ1 v x r1 s1 k1 u1 => ?_
  split at u1
  · rename_i b e
    exact ⟨b, (RVok.cnt r1 k1 e).bl, k _ _ _ _ _ (.val _) r1 s1 (Dd.bl _) u1⟩
  · exact False.elim u1
def uIfE (c : UT) (a b : UE) : UE := fun ρ Q => c ρ fun z ρ1 => if z = true then a ρ1 Q else b ρ1 Q
theorem le_if {t : TT} {u : UT} {ta tb : TE} {ua ub : UE} (h : LT GP K B t u) (ha : LE GP K B ta ua) (hb : LE GP K B tb ub) : LE GP K B (tIf t ta tb) (uIfE u ua ub) := by
  intro H0 F0 γ0 _ γ σ H F ρ R Q r0 u0 k
  refine h _ _ r0 u0 fun H1 F1 γ1 ρ1 b r1 s1 u1 => ?_
  split
  · rename_i c
    rw [if_pos c] at u1
    exact ha _ _ r1 u1 fun H2 F2 γ2 ρ2 v x r2 s2 k2 u2 => k _ _ _ _ _ _ r2 (s1.trans s2) k2 u2
  · rename_i c
    rw [if_neg c] at u1
    exact hb _ _ r1 u1 fun H2 F2 γ2 ρ2 v x r2 s2 k2 u2 => k _ _ _ _ _ _ r2 (s1.trans s2) k2 u2
/-- a op b op' c -/
def uChain (p p' : P2) (ua ub uc : UE) : UE := fun ρ Q => ua ρ fun x ρ1 => ub ρ1 fun y ρ2 => match cn ρ2 (sf x), cn ρ2 (sf y) with
  | some dx, some dy => p dx dy fun z => match z with
    | .val (.bl k) => if k = true then uc ρ2 (fun w ρ3 => match cn ρ3 (sf y), cn ρ3 w with
        | some dy, some dw => p' dy dw fun z => Q (nrm z) ρ3
        | _, _ => False) else Q (.val (.bl false)) ρ2
    | _ => False
  | _, _ => False
theorem le_chain {r r' : R2} {p p' : P2} {ta tb tc : TE} {ua ub uc : UE} (hr : LR K r p) (hr' : LR K r' p') (ha : LE GP K B ta ua) (hb : LE GP K B tb ub) (hc : LE GP K B tc uc) : LE GP K B (tChain r r' ta tb tc) (uChain p p' ua ub uc) := by
  intro H0 F0 γ0 _ γ σ H F ρ R Q r0 u h
  refine ha _ _ r0 u fun H1 F1 γ1 ρ1 v x r1 s1 k1 u1 => ?_
  obtain ⟨F2, r2, s2, k2⟩ := sf_ok r1 k1
  refine hb _ _ r2 u1 fun H3 F3 γ3 ρ3 w y r3 s3 k3 u3 => ?_
  obtain ⟨F4, r4, s4, k4⟩ := sf_ok r3 k3
  split at u3
  · rename_i dx dy e1 e2
    have c1 := RVok.cnt r4 (((k2.same s3).same s4).one) e1
    have c2 := RVok.cnt r4 k4.one e2
    refine hr _ _ r4.sub c1 c2 u3 fun v' H' rv sH ok q => ?_
    split at q
    · rename_i k
      cases ok
      refine ⟨k, rfl, ?_⟩
      split
      · rename_i c
        rw [if_pos c] at q
        refine hc _ _ (r4.same sH) q fun H5 F5 γ5 ρ5 v5 x5 r5 s5 k5 u5 => ?_
        split at u5
        · rename_i dy' dw e3 e4
          have c3 := RVok.cnt r5 ((k4.same s5).one) e3
          have c4 := RVok.cnt r5 k5 e4
          exact hr' _ _ r5.sub c3 c4 u5 fun v' H' rv sH ok q => let ⟨_, r9, s9, k9⟩ := opk_ok r5 sH ok; h _ _ _ _ _ (nrm rv) r9 (s1.trans (s2.trans (s3.trans (s4.trans (s5.trans s9))))) k9 q
        · exact False.elim u5
      · rename_i c
        rw [if_neg c] at q
        exact h _ _ _ _ _ (.val _) (r4.same sH) (s1.trans (s2.trans (s3.trans s4))) (Dd.bl _) q
    · exact False.elim q
  · exact False.elim u3
/-! ### argument lists, displays -/
def uNil : UA := fun ρ Q => Q [] ρ
def uCons (a : UE) (b : UA) : UA := fun ρ Q => a ρ fun x ρ1 => b ρ1 fun xs ρ2 => Q (sf x :: xs) ρ2
theorem la_nil : LA GP K B tNil uNil := fun H0 F0 γ0 _ γ σ H F ρ R Q r0 u0 k => k _ _ _ _ _ [] r0 (Same.refl _) trivial u0
theorem la_cons {ta : TE} {tr : TA} {ua : UE} {ur : UA} (ha : LE GP K B ta ua) (hr : LA GP K B tr ur) : LA GP K B (tCons ta tr) (uCons ua ur) := by
  intro H0 F0 γ0 _ γ σ H F ρ R Q r0 u h
  refine ha _ _ r0 u fun H1 F1 γ1 ρ1 v x r1 s1 k1 u1 => ?_
  obtain ⟨F2, r2, s2, k2⟩ := sf_ok r1 k1
  exact hr _ _ r2 u1 fun H3 F3 γ3 ρ3 vs xs r3 s3 k3 u3 => h _ _ _ _ _ _ r3 (s1.trans (s2.trans s3)) ((k2.same s3).cons k3) u3
/-- all of them frozen -/
def fzs : List RV → Rho → (List D → Rho → Prop) → Prop
  | [], ρ, k => k [] ρ
  | x :: xs, ρ, k => fz x ρ fun d ρ1 => fzs xs ρ1 fun ds ρ2 => k (d :: ds) ρ2
theorem fzs_ok {H0 F0 H : Hp} {γ0 γ : GAt} {σ : L2.St} : ∀ {xs : List RV} {vs : List V} {F : Hp} {ρ : Rho} {k : List D → Rho → Prop}, Rp GP K H0 F0 γ0 γ σ H F ρ → RVs K σ F vs xs → fzs xs ρ k →
    ∃ F' ρ' ds, Rp GP K H0 F0 γ0 γ σ H F' ρ' ∧ Same F F' ∧ DdL K F' vs ds ∧ k ds ρ'
  | [], vs, F, ρ, k, r, h, z => by
    obtain rfl := h.nil_of
    exact ⟨F, ρ, [], r, Same.refl _, .nil, z⟩
  | x :: xs, vs, F, ρ, k, r, h, z => by
    obtain ⟨v, ws, rfl, h1, h2⟩ := h.cons_of
    obtain ⟨F1, ρ1, d, r1, s1, d1, z1⟩ := fz_ok r h1.one z
    obtain ⟨F2, ρ2, ds, r2, s2, d2, z2⟩ := fzs_ok r1 (h2.same s1) z1
    exact ⟨F2, ρ2, d :: ds, r2, s1.trans s2, .cons (d1.same s2) d2, z2⟩
def uTup (a : UA) : UE := fun ρ Q => a ρ fun xs ρ1 => fzs xs ρ1 fun ds ρ2 => ds.length ≤ sizeLine ∧ Q (.val (.tup ds)) ρ2
def uLst (a : UA) : UE := fun ρ Q => a ρ fun xs ρ1 => fzs xs ρ1 fun ds ρ2 => ds.length ≤ sizeLine ∧ Q (.fr (.list ds)) ρ2
theorem fr_new {H0 F0 H F : Hp} {γ0 γ : GAt} {σ : L2.St} {ρ : Rho} {p : Addr} {o : HO} {d : D} (r : Rp GP K H0 F0 γ0 γ σ H F ρ) (n : H p = none) (h : Own K F (upd H p o) p d) :
    RVok GP K H0 γ0 γ σ (upd H p o) F ρ (.ref p) (.fr d) := fr_ok r (same_upd n) n h
/-- a new tuple frozen at once -/
theorem new_tup {H0 F0 H F : Hp} {γ0 γ : GAt} {σ : L2.St} {ρ : Rho} {p : Addr} {xs : List V} {ds : List D} (r : Rp GP K H0 F0 γ0 γ σ H F ρ) (n : H p = none) (h : DdL K F xs ds) :
    ∃ F', Rp GP K H0 F0 γ0 γ σ (upd H p (.tup xs)) F' ρ ∧ Same F F' ∧ Dd K F' (.ref p) (.tup ds) := tup_frz (r.same (same_upd n)) upd_same h
theorem le_tup {t : TA} {u : UA} (ha : LA GP K B t u) : LE GP K B (tTup t) (uTup u) := by
  intro H0 F0 γ0 _ γ σ H F ρ R Q r0 u0 h
  refine ha _ _ r0 u0 fun H1 F1 γ1 ρ1 vs xs r1 s1 k1 u1 => ?_
  obtain ⟨F2, ρ2, ds, r2, s2, d2, z1, z2⟩ := fzs_ok r1 k1 u1
  refine ⟨by rw [d2.length]; exact z1, fun p np => ?_⟩
  obtain ⟨F3, r3, s3, d3⟩ := new_tup r2 np d2
  exact h _ _ _ _ _ (.val _) r3 (s1.trans (s2.trans s3)) d3 z2
theorem le_lst {t : TA} {u : UA} (ha : LA GP K B t u) : LE GP K B (tLst t) (uLst u) := by
  intro H0 F0 γ0 _ γ σ H F ρ R Q r0 u0 h
  refine ha _ _ r0 u0 fun H1 F1 γ1 ρ1 vs xs r1 s1 k1 u1 => ?_
  obtain ⟨F2, ρ2, ds, r2, s2, d2, z1, z2⟩ := fzs_ok r1 k1 u1
  exact ⟨by rw [d2.length]; exact z1, fun p np => h _ _ _ _ _ (.fr _) (r2.same (same_upd np)) (s1.trans s2) (fr_new r2 np (.lst upd_same d2)) z2⟩
/-! ### built-ins of values -/
def CntL (K : PySem.W.Frag) (F H : Hp) : List V → List D → Prop
  | [], [] => True
  | v :: vs, d :: ds => Cnt K F H v d ∧ CntL K F H vs ds
  | _, _ => False
variable (K) in
def LB (r : List V → Hp → VK → Prop) (p : PN) : Prop := ∀ ⦃F H : Hp⦄ ⦃vs : List V⦄ ⦃ds : List D⦄ (R : VK) (Q : RV → Prop), Same F H → CntL K F H vs ds → p ds Q →
  (∀ v H' rv, Same H H' → Opk K F H H' v rv → Q rv → R v H') → r vs H R
def cns (ρ : Rho) : List RV → Option (List D)
  | [] => some []
  | x :: xs => match cn ρ x, cns ρ xs with
    | some d, some ds => some (d :: ds)
    | _, _ => none
theorem cns_ok {H0 F0 H F : Hp} {γ0 γ : GAt} {σ : L2.St} {ρ : Rho} (r : Rp GP K H0 F0 γ0 γ σ H F ρ) : ∀ {xs : List RV} {vs : List V} {ds : List D}, RVs K σ F vs xs → cns ρ xs = some ds → CntL K F H vs ds
  | [], vs, ds, h, e => by
    obtain rfl := h.nil_of
    cases e
    trivial
  | x :: xs, vs, ds, h, e => by
    obtain ⟨v, ws, rfl, h1, h2⟩ := h.cons_of
    dsimp only [cns] at e
    split at e
    · rename_i d ds' e1 e2
      cases e
      exact ⟨RVok.cnt r h1.one e1, cns_ok r h2 e2⟩
    · cases e
def uCB (p : PN) (a : UA) : UE := fun ρ Q => a ρ fun xs ρ1 => match cns ρ1 xs with
  | some ds => p ds fun z => Q (nrm z) ρ1
  | none => False
theorem le_cb {r : List V → Hp → VK → Prop} {p : PN} {t : TA} {u : UA} (hr : LB K r p) (ha : LA GP K B t u) : LE GP K B (tCB r t) (uCB p u) := by
  intro H0 F0 γ0 _ γ σ H F ρ R Q r0 u0 h
  refine ha _ _ r0 u0 fun H1 F1 γ1 ρ1 vs xs r1 s1 k1 u1 => ?_
  split at u1
  · rename_i ds e
    exact hr _ _ r1.sub (cns_ok r1 k1 e) u1 fun v' H' rv sH ok q => let ⟨_, r9, s9, k9⟩ := opk_ok r1 sH ok; h _ _ _ _ _ (nrm rv) r9 (s1.trans s9) k9 q
  · exact False.elim u1
/-! ### slices -/
abbrev UO := Rho → (Option Int → Rho → Prop) → Prop
variable (GP K) in
def LO (B : Hp × Hp × GAt) (t : TO) (u : UO) : Prop := ∀ ⦃H0 F0 : Hp⦄ ⦃γ0 : GAt⦄ [FinerC GP K B H0 F0 γ0] ⦃γ : GAt⦄ ⦃σ : L2.St⦄ ⦃H F : Hp⦄ ⦃ρ : Rho⦄ (R : Option Int → Hp → Prop) (Q : Option Int → Rho → Prop), Rp GP K H0 F0 γ0 γ σ H F ρ → u ρ Q →
  (∀ H' F' γ' ρ' b, Rp GP K H0 F0 γ0 γ' σ H' F' ρ' → Same F F' → Q b ρ' → R b H') → t σ H R
def uNoPart : UO := fun ρ Q => Q none ρ
def uPart (u : UE) : UO := fun ρ Q => u ρ fun x ρ1 => match cn ρ1 x with
  | some (.int i) => Q (some i) ρ1
  | _ => False
theorem lo_none : LO GP K B tNoPart uNoPart := fun H0 F0 γ0 _ γ σ H F ρ R Q r0 u0 k => k _ _ _ _ _ r0 (Same.refl _) u0
theorem lo_some {t : TE} {u : UE} (h : LE GP K B t u) : LO GP K B (tPart t) (uPart u) := by
  intro H0 F0 γ0 _ γ σ H F ρ R Q r0 u0 k
  refine h _ _ r0 u0 fun H1 F1 γ1 ρ1 v x r1 s1 k1 u1 => ?_
  split at u1
  · rename_i b e
    exact ⟨b, (RVok.cnt r1 k1 e).int, k _ _ _ _ _ r1 s1 u1⟩
  · exact False.elim u1
abbrev PS3 := D → Option Int → Option Int → (RV → Prop) → Prop
variable (K) in
def LSl (r : V → Option Int → Option Int → Hp → VK → Prop) (p : PS3) : Prop := ∀ ⦃F H : Hp⦄ ⦃x : V⦄ ⦃dx : D⦄ (l h : Option Int) (R : VK) (Q : RV → Prop), Same F H → Cnt K F H x dx → p dx l h Q →
  (∀ v H' rv, Same H H' → Opk K F H H' v rv → Q rv → R v H') → r x l h H R
def uSl (p : PS3) (a : UE) (l h : UO) : UE := fun ρ Q => a ρ fun x ρ1 => l ρ1 fun i ρ2 => h ρ2 fun j ρ3 => match cn ρ3 (sf x) with
  | some d => p d i j fun z => Q (nrm z) ρ3
  | none => False
theorem le_sl {r : V → Option Int → Option Int → Hp → VK → Prop} {p : PS3} {te : TE} {tl th : TO} {ue : UE} {ul uh : UO} (hr : LSl K r p) (he : LE GP K B te ue) (hl : LO GP K B tl ul) (hh : LO GP K B th uh) : LE GP K B (tSl r te tl th) (uSl p ue ul uh) := by
  intro H0 F0 γ0 _ γ σ H F ρ R Q r0 u0 h
  refine he _ _ r0 u0 fun H1 F1 γ1 ρ1 v x r1 s1 k1 u1 => ?_
  obtain ⟨F2, r2, s2, k2⟩ := sf_ok r1 k1
  refine hl _ _ r2 u1 fun H3 F3 γ3 ρ3 i r3 s3 u3 => ?_
  refine hh _ _ r3 u3 fun H4 F4 γ4 ρ4 j r4 s4 u4 => ?_
  split at u4
  · rename_i d e
    exact hr _ _ _ _ r4.sub (RVok.cnt r4 ((k2.same s3).same s4).one e) u4 fun v' H' rv sH ok q => let ⟨_, r9, s9, k9⟩ := opk_ok r4 sH ok; h _ _ _ _ _ (nrm rv) r9 (s1.trans (s2.trans (s3.trans (s4.trans s9)))) k9 q
  · exact False.elim u4
end DL
/-! lifted readings 3: calls; statements; loops -/
namespace DL
open PySem PySem.Spec PyProof.Rows L2 CD
variable {GP : GenP} {K : PySem.W.Frag}
variable {B : Hp × Hp × GAt}
/-! ### a def's promise over data -/
def hasG : List SV → Bool
  | [] => false
  | .gen _ :: _ => true
  | _ :: r => hasG r
def noG : List SV → Bool
  | [] => true
  | .gen _ :: _ => false
  | _ :: r => noG r
def oneG : List SV → Bool
  | [] => true
  | .gen _ :: r => noG r
  | _ :: r => oneG r
def ArgsOk (GP : GenP) (K : PySem.W.Frag) (F H : Hp) (γ : GAt) : List V → List SV → Prop
  | [], [] => True
  | v :: vs, s :: as => (match s with
    | .val d => Dd K F v d
    | .gen n => ∃ p, γ = some p ∧ v = .ref p.1 ∧ GP.D H p.1 p.2.1 p.2.2 n ∧ F p.2.2 ≠ none
    | .own _ => False) ∧ ArgsOk GP K F H γ vs as
  | _, _ => False
abbrev QD := D → Option Nat → Prop
abbrev WD := List SV → QD → Prop
def GenAfter (GP : GenP) (H H' F' : Hp) (γ γ' : GAt) : Option Nat → Prop
  | none => γ = none
  | some k => ∃ p q, γ = some p ∧ γ' = some q ∧ q.1 = p.1 ∧ q.2.2 = p.2.2 ∧ (q.2.1 = p.2.1 ∨ H q.2.1 = none) ∧ GP.D H' q.1 q.2.1 q.2.2 k ∧ F' q.1 = none ∧ F' q.2.1 = none
/-- the tables at the entry -/
def TabsF (GP : GenP) (H F : Hp) : Prop := LamX.Tabs GP.T H ∧ ∀ a, TbA GP.T a → F a = none
def spL (GP : GenP) (K : PySem.W.Frag) (n : Nat) (W : WD) : Sp := fun vs H R _ => ∃ (F : Hp) (γ : GAt) (as : List SV) (Q : QD), Same F H ∧ ArgsOk GP K F H γ vs as ∧ (hasG as = γ.isSome) ∧ oneG as = true ∧ as.length = n ∧
  (∀ p, γ = some p → F p.1 = none ∧ F p.2.1 = none) ∧ TabsF GP H F ∧ W as Q ∧
  ∀ v H' F' γ' d m, LamX.Tabs GP.T H' → (∀ a o, H a = some o → ¬ GA GP γ a → H' a = some o) → (∀ a o, H a = some o → ∃ u, H' a = some u) → Same F F' → Same F' H' → (∀ a o, F' a = some o → F a = some o ∨ H a = none ∨ ∃ xs, o = .tup xs) → Dd K F' v d →
    GenAfter GP H H' F' γ γ' m → Q d m → R v H'
theorem Rp.tabsF {H0 F0 H F : Hp} {γ0 γ : GAt} {σ : L2.St} {ρ : Rho} (r : Rp GP K H0 F0 γ0 γ σ H F ρ) : TabsF GP H F := ⟨r.tabs, fun a h => (r.tin a h).1⟩
theorem ArgsOk.length {F H : Hp} {γ : GAt} : ∀ {vs : List V} {as : List SV}, ArgsOk GP K F H γ vs as → vs.length = as.length
  | [], [], _ => rfl
  | v :: vs, s :: as, h => by rw [List.length_cons, List.length_cons, ArgsOk.length h.2]
  | [], _ :: _, h => h.elim
  | _ :: _, [], h => h.elim
theorem spL_len {n : Nat} {W : WD} {vs : List V} {H : Hp} {Q : VK} {E : XK} (h : spL GP K n W vs H Q E) : vs.length = n := by
  obtain ⟨F, γ, as, Q, _, h2, _, _, h5, _⟩ := h
  rw [h2.length, h5]
def gN : Rho → Option Nat
  | [] => none
  | some (.gen n) :: _ => some n
  | _ :: r => gN r
def outQ (b : Bool) (Q : QD) (d : D) (ρ : Rho) : Prop := if b = true then (match gN ρ with
  | some k => Q d (some k)
  | none => False) else Q d none
/-- the slots at the entry -/
def start0 (n : Nat) (as : List SV) : Rho := as.map some ++ List.replicate (n - as.length) none
theorem gN_at : ∀ {ρ : Rho} {k : Nat}, gN ρ = some k → ∃ i : Nat, ρ[i]? = some (some (.gen k))
  | [], _, h => by cases h
  | none :: r, k, h => by
    obtain ⟨i, hi⟩ := gN_at (ρ := r) (k := k) h
    exact ⟨i + 1, by simpa using hi⟩
  | some (.val d) :: r, k, h => by
    obtain ⟨i, hi⟩ := gN_at (ρ := r) (k := k) h
    exact ⟨i + 1, by simpa using hi⟩
  | some (.own d) :: r, k, h => by
    obtain ⟨i, hi⟩ := gN_at (ρ := r) (k := k) h
    exact ⟨i + 1, by simpa using hi⟩
  | some (.gen n) :: r, k, h => by
    cases h
    exact ⟨0, rfl⟩
theorem gt_of {H : Hp} {d g c : Addr} {n : Nat} (h : GP.D H d g c n) : ∃ o u, H d = some o ∧ H g = some u ∧ ∀ xs, o ≠ .tup xs ∧ u ≠ .tup xs := by
  obtain ⟨n1, n2, _⟩ := GP.dd h
  obtain ⟨o, ho⟩ := Option.ne_none_iff_exists'.mp n1
  obtain ⟨u, hu⟩ := Option.ne_none_iff_exists'.mp n2
  refine ⟨o, u, ho, hu, fun xs => ⟨fun e => (GP.nt (xs := xs) h).1 (by rw [ho, e]), fun e => (GP.nt (xs := xs) h).2 (by rw [hu, e])⟩⟩
/-- the entry -/
theorem start_rp {N : List Str} {vs : List V} {as : List SV} {H F : Hp} {γ : GAt} (s : Same F H) (a : ArgsOk GP K F H γ vs as) (hg : hasG as = γ.isSome) (h1 : oneG as = true) (gf : ∀ p, γ = some p → F p.1 = none ∧ F p.2.1 = none) (hT : TabsF GP H F) (hn : vs.length ≤ N.length) :
    Rp GP K H F γ γ (L2.start N vs) H F (start0 N.length as) := by
  have el := a.length
  have at_ : ∀ (i : Nat) (x : SV), (start0 N.length as)[i]? = some (some x) → as[i]? = some x ∧ i < vs.length := fun i x h => by
    unfold start0 at h
    by_cases c : i < as.length
    · rw [List.getElem?_append_left (by simpa using c), List.getElem?_map] at h
      cases q : as[i]? with
      | none => rw [q] at h; cases h
      | some y => rw [q] at h; cases h; exact ⟨rfl, by omega⟩
    · rw [List.getElem?_append_right (by simpa using c), List.getElem?_replicate] at h
      split at h <;> cases h
  have st : ∀ (i : Nat) (v : V), vs[i]? = some v → (L2.start N vs)[i]? = some (some v) := fun i v h => by
    have hi := (List.getElem?_eq_some_iff.mp h).1
    unfold L2.start
    rw [List.getElem?_append_left (by simpa using hi), List.getElem?_map, h]
    rfl
  have arg : ∀ {vs : List V} {as : List SV}, ArgsOk GP K F H γ vs as → ∀ (i : Nat) (x : SV), as[i]? = some x → ∃ v, vs[i]? = some v ∧ (match x with
    | .val d => Dd K F v d
    | .gen n => ∃ p, γ = some p ∧ v = .ref p.1 ∧ GP.D H p.1 p.2.1 p.2.2 n ∧ F p.2.2 ≠ none
    | .own _ => False) := by
    intro vs as
    induction vs generalizing as with
    | nil =>
      intro h i x e
      cases as with
      | nil => simp at e
      | cons _ _ => exact h.elim
    | cons v vs ih =>
      intro h i x e
      cases as with
      | nil => exact h.elim
      | cons a as =>
        cases i with
        | zero => simp at e; subst e; exact ⟨v, rfl, h.1⟩
        | succ i =>
          obtain ⟨w, h1, h2⟩ := ih h.2 i x (by simpa using e)
          exact ⟨w, by simpa using h1, h2⟩
  have none_ : ∀ as : List SV, noG as = true → ∀ (i n : Nat), as[i]? ≠ some (.gen n) := by
    intro as
    induction as with
    | nil => intro _ i n h; simp at h
    | cons a as ih =>
      intro h i n e
      cases a with
      | val d => cases i with
        | zero => simp at e
        | succ i => exact ih h i n (by simpa using e)
      | own d => cases i with
        | zero => simp at e
        | succ i => exact ih h i n (by simpa using e)
      | gen m => cases h
  have one_ : ∀ as : List SV, oneG as = true → ∀ (i j n m : Nat), as[i]? = some (.gen n) → as[j]? = some (.gen m) → i = j := by
    intro as
    induction as with
    | nil => intro _ i j n m h; simp at h
    | cons a as ih =>
      intro h i j n m e1 e2
      cases a with
      | val d =>
        cases i with
        | zero => simp at e1
        | succ i => cases j with
          | zero => simp at e2
          | succ j => exact congrArg _ (ih h i j n m (by simpa using e1) (by simpa using e2))
      | own d =>
        cases i with
        | zero => simp at e1
        | succ i => cases j with
          | zero => simp at e2
          | succ j => exact congrArg _ (ih h i j n m (by simpa using e1) (by simpa using e2))
      | gen k =>
        cases i with
        | zero => cases j with
          | zero => rfl
          | succ j => exact absurd (by simpa using e2) (none_ as h j m)
        | succ i => exact absurd (by simpa using e1) (none_ as h i n)
  have gex : ∀ p, γ = some p → ∃ n, GP.D H p.1 p.2.1 p.2.2 n := by
    intro p hp
    rw [hp] at hg
    have : ∀ as : List SV, hasG as = true → ∃ (i n : Nat), as[i]? = some (.gen n) := by
      intro as
      induction as with
      | nil => intro h; cases h
      | cons a as ih =>
        intro h
        cases a with
        | val d => obtain ⟨i, n, e⟩ := ih h; exact ⟨i + 1, n, by simpa using e⟩
        | own d => obtain ⟨i, n, e⟩ := ih h; exact ⟨i + 1, n, by simpa using e⟩
        | gen n => exact ⟨0, n, rfl⟩
    obtain ⟨i, n, e⟩ := this as hg
    obtain ⟨v, _, q, h1, _, h2, _⟩ := arg a i _ e
    rw [hp] at h1
    cases h1
    exact ⟨n, h2⟩
  have gt : ∀ p, γ = some p → ∃ o u, H p.1 = some o ∧ H p.2.1 = some u ∧ ∀ xs, o ≠ .tup xs ∧ u ≠ .tup xs := fun p hp => by
    obtain ⟨n, h⟩ := gex p hp
    exact gt_of h
  refine ⟨Same.refl _, s, fun _ _ h _ => h, fun _ _ h => .inl h, fun _ o h => ⟨o, h⟩, ?_, fun i d h => ?_, fun i d h => ?_, fun i n h => ?_, fun i j n m k1 k2 => ?_, fun p hp => ⟨p, hp, rfl, rfl, .inl rfl⟩, fun h p hp => ?_, fun p hp => let ⟨o, u, h1, h2, _⟩ := gt p hp; ⟨o, u, h1, h2⟩, gt, gf, hT.1, fun a z => ⟨hT.2 a z, let ⟨_, e⟩ := tabs_there hT.1 z; ⟨_, e⟩⟩, fun p hp => ?_⟩
  · unfold L2.start start0
    rw [List.length_append, List.length_append, List.length_map, List.length_map, List.length_replicate, List.length_replicate, el]
  · obtain ⟨e1, _⟩ := at_ i _ h
    obtain ⟨v, e2, e3⟩ := arg a i _ e1
    exact ⟨v, st i v e2, e3⟩
  · obtain ⟨e1, _⟩ := at_ i _ h
    obtain ⟨v, e2, e3⟩ := arg a i _ e1
    exact e3.elim
  · obtain ⟨e1, _⟩ := at_ i _ h
    obtain ⟨v, e2, p, h1, h2, h3, h4⟩ := arg a i _ e1
    exact ⟨p, h1, by rw [st i v e2, h2], h3, h4⟩
  · exact one_ as h1 i j n m (at_ i _ k1).1 (at_ j _ k2).1
  · rw [h] at hp; cases hp
  · obtain ⟨n, hD⟩ := gex p hp
    exact ⟨fun z => by
      obtain ⟨ps, e⟩ := tabs_there hT.1 z
      exact (GP.nx hD (.inl e)).1 ps rfl, fun z => by
      obtain ⟨ps, e⟩ := tabs_there hT.1 z
      exact (GP.nx hD (.inr e)).1 ps rfl⟩
/-! ### calls -/
def argsK : List RV → Rho → (List SV → Rho → Prop) → Prop
  | [], ρ, k => k [] ρ
  | .val d :: xs, ρ, k => argsK xs ρ fun as ρ' => k (.val d :: as) ρ'
  | .sl i :: xs, ρ, k => match ρ[i]? with
    | some (some (.val d)) => argsK xs ρ fun as ρ' => k (.val d :: as) ρ'
    | some (some (.own d)) => argsK xs (ρ.set i (some (.val d))) fun as ρ' => k (.val d :: as) ρ'
    | some (some (.gen n)) => argsK xs ρ fun as ρ' => k (.gen n :: as) ρ'
    | _ => False
  | _ :: _, _, _ => False
theorem argsK_ok {H0 F0 H : Hp} {γ0 γ : GAt} {σ : L2.St} : ∀ {xs : List RV} {vs : List V} {F : Hp} {ρ : Rho} {k : List SV → Rho → Prop}, Rp GP K H0 F0 γ0 γ σ H F ρ → RVs K σ F vs xs → argsK xs ρ k →
    ∃ F' ρ' as, Rp GP K H0 F0 γ0 γ σ H F' ρ' ∧ Same F F' ∧ ArgsOk GP K F' H γ vs as ∧ k as ρ' ∧ (∀ (i n : Nat), ρ'[i]? = some (some (.gen n)) ↔ ρ[i]? = some (some (.gen n)))
  | [], vs, F, ρ, k, r, h, z => by
    obtain rfl := h.nil_of
    exact ⟨F, ρ, [], r, Same.refl _, trivial, z, fun _ _ => Iff.rfl⟩
  | .val d :: xs, vs, F, ρ, k, r, h, z => by
    obtain ⟨v, ws, rfl, h1, h2⟩ := h.cons_of
    obtain ⟨F2, ρ2, as, r2, s2, a2, z2, g2⟩ := argsK_ok r h2 z
    exact ⟨F2, ρ2, .val d :: as, r2, s2, ⟨h1.1.same s2, a2⟩, z2, g2⟩
  | .fr d :: xs, vs, F, ρ, k, r, h, z => z.elim
  | .kon d :: xs, vs, F, ρ, k, r, h, z => z.elim
  | .sl i :: xs, vs, F, ρ, k, r, h, z => by
    obtain ⟨v, ws, rfl, h1, h2⟩ := h.cons_of
    have hv : σ[i]? = some (some v) := h1.1
    dsimp only [argsK] at z
    cases q : ρ[i]? with
    | none => rw [q] at z; exact z.elim
    | some s =>
      rw [q] at z
      cases s with
      | none => exact z.elim
      | some s =>
        cases s with
        | val d =>
          obtain ⟨F2, ρ2, as, r2, s2, a2, z2, g2⟩ := argsK_ok r h2 z
          obtain ⟨u, e1, e2⟩ := r.val i d q
          rw [hv] at e1; cases e1
          exact ⟨F2, ρ2, .val d :: as, r2, s2, ⟨e2.same s2, a2⟩, z2, g2⟩
        | own d =>
          obtain ⟨a, e1, _⟩ := r.own i d q
          rw [hv] at e1; cases e1
          obtain ⟨F1, r1, s1, d1⟩ := r.freezeAt q hv
          obtain ⟨F2, ρ2, as, r2, s2, a2, z2, g2⟩ := argsK_ok r1 (h2.same s1) z
          refine ⟨F2, ρ2, .val d :: as, r2, s1.trans s2, ⟨d1.same s2, a2⟩, z2, fun j n => (g2 j n).trans ?_⟩
          by_cases c : j = i
          · subst c
            rw [q, List.getElem?_set_self (List.getElem?_eq_some_iff.mp q).1]
            exact ⟨fun e => (by cases e), fun e => (by cases e)⟩
          · rw [set_none c]
        | gen n =>
          obtain ⟨F2, ρ2, as, r2, s2, a2, z2, g2⟩ := argsK_ok r h2 z
          obtain ⟨p', f1, f2, f3, f4⟩ := r2.gen i n ((g2 i n).mpr q)
          rw [hv] at f2
          injection f2 with f2
          injection f2 with f2
          exact ⟨F2, ρ2, .gen n :: as, r2, s2, ⟨⟨p', f1, f2, f3, f4⟩, a2⟩, z2, g2⟩
def flatD : D → Bool
  | .non => true
  | .bl _ => true
  | .int _ => true
  | .str _ => true
  | _ => false
theorem Dd.flat {F F' : Hp} {v : V} {d : D} (h : Dd K F v d) (f : flatD d = true) : Dd K F' v d := by
  cases h with
  | non => exact .non
  | bl b => exact .bl b
  | int i => exact .int i
  | str x => exact .str x
  | fn _ => cases f
  | lst _ _ => cases f
  | scr _ => cases f
  | tup _ _ => cases f
  | dK _ _ => cases f
  | dT _ _ => cases f
  | set _ _ _ _ => cases f
def setG (m : Option Nat) (ρ : Rho) : Rho := match m with
  | none => ρ
  | some k => ρ.map fun s => match s with
    | some (.gen _) => some (.gen k)
    | s => s
theorem setG_val {m : Option Nat} {ρ : Rho} {i : Nat} {d : D} : (setG m ρ)[i]? = some (some (.val d)) ↔ ρ[i]? = some (some (.val d)) := by
  cases m with
  | none => exact Iff.rfl
  | some k =>
    show (ρ.map _)[i]? = _ ↔ _
    rw [List.getElem?_map]
    cases q : ρ[i]? with
    | none => simp
    | some s => cases s with
      | none => simp
      | some s => cases s <;> simp
theorem setG_own {m : Option Nat} {ρ : Rho} {i : Nat} {d : D} : (setG m ρ)[i]? = some (some (.own d)) ↔ ρ[i]? = some (some (.own d)) := by
  cases m with
  | none => exact Iff.rfl
  | some k =>
    show (ρ.map _)[i]? = _ ↔ _
    rw [List.getElem?_map]
    cases q : ρ[i]? with
    | none => simp
    | some s => cases s with
      | none => simp
      | some s => cases s <;> simp
theorem setG_gen {k n : Nat} {ρ : Rho} {i : Nat} (h : (setG (some k) ρ)[i]? = some (some (.gen n))) : n = k ∧ ∃ j, ρ[i]? = some (some (.gen j)) := by
  have h : (ρ.map _)[i]? = _ := h
  rw [List.getElem?_map] at h
  cases q : ρ[i]? with
  | none => rw [q] at h; simp at h
  | some s => cases s with
    | none => rw [q] at h; simp at h
    | some s => cases s with
      | val d => rw [q] at h; simp at h
      | own d => rw [q] at h; simp at h
      | gen j => rw [q] at h; simp at h; exact ⟨h.symm, j, rfl⟩
theorem setG_len {m : Option Nat} {ρ : Rho} : (setG m ρ).length = ρ.length := by
  cases m with
  | none => rfl
  | some k => exact List.length_map _
/-- behind a call -/
theorem Rp.after {H0 F0 H H' F F' Fc : Hp} {γ0 γ γc γ' : GAt} {σ : L2.St} {ρ : Rho} {m : Option Nat} (r : Rp GP K H0 F0 γ0 γ σ H F ρ) (hc : γc = none ∨ γc = γ) (tb : LamX.Tabs GP.T H') (kp : ∀ a o, H a = some o → ¬ GA GP γc a → H' a = some o) (tr : ∀ a o, H a = some o → ∃ u, H' a = some u)
    (s : Same F F') (sub : Same F' H') (fnew : ∀ a o, F' a = some o → F a = some o ∨ H a = none ∨ ∃ xs, o = .tup xs) (g : GenAfter GP H H' Fc γc γ' m) (hF : F' = F ∨ F' = Fc) : ∃ γ2, Rp GP K H0 F0 γ0 γ2 σ H' F' (setG m ρ) := by
  have nf : ∀ a o, H a = some o → (∀ xs, H' a ≠ some (.tup xs)) → F a = none → F' a = none := fun a o h nt n => by
    cases q : F' a with
    | none => rfl
    | some u =>
      rcases fnew a u q with z | z | ⟨xs, z⟩
      · rw [n] at z; cases z
      · rw [h] at z; cases z
      · exact absurd (by rw [sub _ _ q, z]) (nt xs)
  have gsub : ∀ a, GA GP γc a → GA GP γ a := fun a h => by
    rcases hc with e | e
    · rw [e] at h
      rcases h with ⟨p, hp, _⟩ | z
      · cases hp
      · exact .inr z
    · rw [← e]; exact h
  have g0sub : ∀ a o, H0 a = some o → ¬ GA GP γ0 a → ¬ GA GP γ a := fun a o h n z => by
    rcases z with ⟨p, hp, e⟩ | z
    case inr => exact n (.inr z)
    cases q : γ0 with
    | none =>
      obtain ⟨z1, z2⟩ := r.g1 q p hp
      rcases e with rfl | rfl
      · rw [z1] at h; cases h
      · rw [z2] at h; cases h
    | some p0 =>
      obtain ⟨p', hp', e1, _, e2⟩ := r.g0 p0 q
      rw [hp] at hp'
      cases hp'
      rcases e with e | e
      · exact n (.inl ⟨p0, q, .inl (e.trans e1)⟩)
      · rcases e2 with z | z
        · exact n (.inl ⟨p0, q, .inr (e.trans z)⟩)
        · rw [e, z] at h; cases h
  have keep : ∀ a o, H0 a = some o → ¬ GA GP γ0 a → H' a = some o := fun a o h n => kp a o (r.keep a o h n) fun z => g0sub a o h n (gsub a z)
  have fn : ∀ a o, F' a = some o → F0 a = some o ∨ H0 a = none ∨ ∃ xs, o = .tup xs := fun a o h => by
    rcases fnew a o h with z | z | z
    · exact r.fnew a o z
    · exact .inr (.inl (r.new0 z))
    · exact .inr (.inr z)
  have tin : ∀ a, TbA GP.T a → F' a = none ∧ ∃ o, H0 a = some o := fun a z => by
    obtain ⟨z1, z2⟩ := r.tin a z
    obtain ⟨ps, hh⟩ := tabs_there r.tabs z
    obtain ⟨ps', hh'⟩ := tabs_there tb z
    exact ⟨nf a _ hh (fun xs e => by rw [hh'] at e; cases e) z1, z2⟩
  have tr2 : ∀ a o, H0 a = some o → ∃ u, H' a = some u := fun a o h => let ⟨u, hu⟩ := r.tr a o h; tr a u hu
  have own : ∀ (γ2 : GAt), (∀ a o, H a = some o → ¬ GA GP γ a → ¬ GA GP γ2 a) → ∀ (i : Nat) (d : D), (setG m ρ)[i]? = some (some (.own d)) → ∃ a, σ[i]? = some (some (.ref a)) ∧ Own K F' H' a d ∧ F' a = none ∧ H0 a = none ∧ (¬ GA GP γ2 a) ∧ ∀ j, OwnAt σ (setG m ρ) a j → j = i := fun γ2 h2 i d q => by
    obtain ⟨a, b1, b2, b3, b4, b5, b6⟩ := r.own i d (setG_own.mp q)
    obtain ⟨o, ho⟩ := b2.there
    have eH : H' a = H a := by rw [ho]; exact kp a o ho fun z => b5 (gsub a z)
    refine ⟨a, b1, b2.move s eH, nf a o ho (fun xs => by rw [eH]; exact b2.nt) b3, b4, h2 a o ho b5, fun j ⟨⟨e, he⟩, hs⟩ => b6 j ⟨⟨e, setG_own.mp he⟩, hs⟩⟩
  have val : ∀ (i : Nat) (d : D), (setG m ρ)[i]? = some (some (.val d)) → ∃ v, σ[i]? = some (some v) ∧ Dd K F' v d := fun i d q => let ⟨v, h1, h2⟩ := r.val i d (setG_val.mp q); ⟨v, h1, h2.same s⟩
  have len : σ.length = (setG m ρ).length := by rw [setG_len]; exact r.len
  cases m with
  | none =>
    have gc : γc = none := g
    have same : ∀ a o, H a = some o → ¬ TbA GP.T a → H' a = some o := fun a o h n => kp a o h fun z => by
      rcases z with ⟨p, hp, _⟩ | z
      · rw [gc] at hp; cases hp
      · exact n z
    refine ⟨γ, r.f0.trans s, sub, keep, fn, tr2, len, val, own γ fun _ _ _ n => n, fun i n q => ?_, r.one, r.g0, r.g1, r.gt0, fun p hp => ?_, fun p hp => ?_, tb, tin, r.gn⟩
    · obtain ⟨p, h1, h2, h3, h4⟩ := r.gen i n q
      obtain ⟨n1, n2, n3, _⟩ := GP.dd h3
      have st : ∀ a, H a ≠ none → ¬ TbA GP.T a → H' a = H a := fun a n nt => by
        cases q : H a with
        | none => exact absurd q n
        | some o => exact same _ _ q nt
      refine ⟨p, h1, h2, GP.stab h3 (st _ n1 (r.gn p h1).1) (st _ n2 (r.gn p h1).2) (st _ n3 fun z => h4 (r.tin _ z).1), ?_⟩
      cases q2 : F p.2.2 with
      | none => exact absurd q2 h4
      | some o => rw [s _ _ q2]; exact fun x => nomatch x
    · obtain ⟨o, u, h1, h2, h3⟩ := r.gt p hp
      exact ⟨o, u, same _ _ h1 (r.gn p hp).1, same _ _ h2 (r.gn p hp).2, h3⟩
    · obtain ⟨o, u, h1, h2, h5⟩ := r.gt p hp
      obtain ⟨h3, h4⟩ := r.gf p hp
      exact ⟨nf _ o h1 (fun xs e => by rw [same _ _ h1 (r.gn p hp).1] at e; exact (h5 xs).1 (Option.some.inj e)) h3, nf _ u h2 (fun xs e => by rw [same _ _ h2 (r.gn p hp).2] at e; exact (h5 xs).2 (Option.some.inj e)) h4⟩
  | some k =>
    obtain ⟨p, q, hp, hq, e1, e2, e3, hD, f1, f2⟩ := g
    have hγ : γ = some p := by
      rcases hc with e | e
      · rw [e] at hp; cases hp
      · rw [← e]; exact hp
    obtain ⟨o, u, h1, h2, _⟩ := r.gt p hγ
    obtain ⟨h3, h4⟩ := r.gf p hγ
    have nq : F' q.1 = none ∧ F' q.2.1 = none := by
      rcases hF with e | e
      · rw [e, e1]
        refine ⟨h3, ?_⟩
        rcases e3 with z | z
        · rw [z]; exact h4
        · exact Same.free r.sub z
      · rw [e]; exact ⟨f1, f2⟩
    have q0 : ∀ a o, H a = some o → ¬ GA GP γ a → ¬ GA GP (some q) a := fun a o' h n z => by
      rcases z with ⟨q', hq', e⟩ | z
      case inr => exact n (.inr z)
      cases hq'
      rcases e with e | e
      · exact n (.inl ⟨p, hγ, .inl (e.trans e1)⟩)
      · rcases e3 with z | z
        · exact n (.inl ⟨p, hγ, .inr (e.trans z)⟩)
        · rw [e, z] at h; cases h
    refine ⟨some q, r.f0.trans s, sub, keep, fn, tr2, len, val, own _ q0, fun i n h => ?_, fun i j n n' a1 a2 => ?_, fun p0 h0 => ?_, fun h0 p' hp' => ?_, r.gt0, fun p' hp' => ?_, fun p' hp' => ?_, tb, tin, fun p' hp' => ?_⟩
    · obtain ⟨rfl, j, hj⟩ := setG_gen h
      obtain ⟨p', b1, b2, b3, b4⟩ := r.gen i j hj
      rw [hγ] at b1
      cases b1
      refine ⟨q, rfl, by rw [e1]; exact b2, hD, ?_⟩
      rw [e2]
      cases q2 : F p.2.2 with
      | none => exact absurd q2 b4
      | some o => rw [s _ _ q2]; exact fun x => nomatch x
    · obtain ⟨_, j1, c1⟩ := setG_gen a1
      obtain ⟨_, j2, c2⟩ := setG_gen a2
      exact r.one i j _ _ c1 c2
    · obtain ⟨p', hp', c1, c2, c3⟩ := r.g0 p0 h0
      rw [hγ] at hp'
      cases hp'
      refine ⟨q, rfl, e1.trans c1, e2.trans c2, ?_⟩
      rcases e3 with z | z
      · rw [z]; exact c3
      · exact .inr (r.new0 z)
    · cases hp'
      obtain ⟨c1, c2⟩ := r.g1 h0 p hγ
      refine ⟨by rw [e1]; exact c1, ?_⟩
      rcases e3 with z | z
      · rw [z]; exact c2
      · exact r.new0 z
    · cases hp'
      exact gt_of hD
    · cases hp'
      exact nq
    · cases hp'
      obtain ⟨z1, z2⟩ := r.gn p hγ
      refine ⟨by rw [e1]; exact z1, fun z => ?_⟩
      rcases e3 with y | y
      · rw [y] at z; exact z2 z
      · obtain ⟨ps, hh⟩ := tabs_there r.tabs z
        rw [hh] at y; cases y
def uCall (n : Nat) (W : WD) (ua : UA) : UE := fun ρ Q => ua ρ fun xs ρ1 => argsK xs ρ1 fun as ρb => as.length = n ∧ oneG as = true ∧ W as fun d m => if flatD d = true then Q (.val d) (setG m ρ1) else Q (.val d) (setG m ρb)
theorem hasG_gen {F H : Hp} {γ : GAt} : ∀ {vs : List V} {as : List SV}, ArgsOk GP K F H γ vs as → hasG as = true → ∃ p, γ = some p
  | [], [], _, h => by cases h
  | v :: vs, .val d :: as, a, h => hasG_gen a.2 h
  | v :: vs, .own d :: as, a, h => a.1.elim
  | v :: vs, .gen n :: as, a, h => let ⟨p, hp, _⟩ := a.1; ⟨p, hp⟩
  | [], _ :: _, a, _ => a.elim
  | _ :: _, [], a, _ => a.elim
theorem noGen_args {F H : Hp} {γ γ' : GAt} : ∀ {vs : List V} {as : List SV}, ArgsOk GP K F H γ vs as → hasG as = false → ArgsOk GP K F H γ' vs as
  | [], [], _, h => trivial
  | v :: vs, .val d :: as, a, h => ⟨a.1, noGen_args a.2 h⟩
  | v :: vs, .own d :: as, a, h => a.1.elim
  | v :: vs, .gen n :: as, a, h => by cases h
  | [], _ :: _, a, _ => a.elim
  | _ :: _, [], a, _ => a.elim
theorem le_call {n : Nat} {W : WD} {E : XK} {t : TA} {u : UA} (ha : LA GP K B t u) : LE GP K B (tCall (spL GP K n W) [] E t) (uCall n W u) := by
  intro H0 F0 γ0 _ γ σ H F ρ R Q r0 u0 h
  refine ha _ _ r0 u0 fun H1 F1 γ1 ρ1 vs xs r1 s1 k1 u1 => ?_
  obtain ⟨F2, ρb, as, r2, s2, a2, ⟨hl, ho, hW⟩, gg⟩ := argsK_ok r1 k1 u1
  show spL GP K n W (vs ++ []) H1 R E
  rw [List.append_nil]
  have fin : ∀ (γc : GAt), (γc = none ∨ γc = γ1) → ∀ v H' F' γ' d m, LamX.Tabs GP.T H' → (∀ a o, H1 a = some o → ¬ GA GP γc a → H' a = some o) → (∀ a o, H1 a = some o → ∃ u, H' a = some u) → Same F2 F' → Same F' H' → (∀ a o, F' a = some o → F2 a = some o ∨ H1 a = none ∨ ∃ xs, o = .tup xs) → Dd K F' v d →
      GenAfter GP H1 H' F' γc γ' m → (if flatD d = true then Q (.val d) (setG m ρ1) else Q (.val d) (setG m ρb)) → R v H' := by
    intro γc hc v H' F' γ' d m tb kp tr s3 sub fnew dd ga q
    by_cases f : flatD d = true
    · rw [if_pos f] at q
      have subF : Same F1 H' := (s2.trans s3).trans sub
      obtain ⟨γ2, r3⟩ := r1.after (F' := F1) hc tb kp tr (Same.refl _) subF (fun a o h => .inl h) ga (.inl rfl)
      exact h _ _ _ _ _ (.val _) r3 s1 (dd.flat f) q
    · rw [if_neg f] at q
      obtain ⟨γ2, r3⟩ := r2.after (F' := F') hc tb kp tr s3 sub fnew ga (.inr rfl)
      exact h _ _ _ _ _ (.val _) r3 (s1.trans (s2.trans s3)) dd q
  by_cases c : hasG as = true
  · obtain ⟨p, hp⟩ := hasG_gen a2 c
    exact ⟨F2, γ1, as, _, r2.sub, a2, by rw [c, hp]; rfl, ho, hl, r2.gf, r2.tabsF, hW, fin γ1 (.inr rfl)⟩
  · have c' : hasG as = false := by simpa using c
    exact ⟨F2, none, as, _, r2.sub, noGen_args a2 c', by rw [c']; rfl, ho, hl, fun p hp => (by cases hp), r2.tabsF, hW, fin none (.inl rfl)⟩
/-! ### statements -/
variable (GP K) in
def LS (B : Hp × Hp × GAt) (t : TS) (u : US) : Prop := ∀ ⦃H0 F0 : Hp⦄ ⦃γ0 : GAt⦄ [FinerC GP K B H0 F0 γ0] ⦃γ : GAt⦄ ⦃σ : L2.St⦄ ⦃H F : Hp⦄ ⦃ρ : Rho⦄ (E : Ends) (Q : UEnds), Rp GP K H0 F0 γ0 γ σ H F ρ → u Q ρ →
  (∀ σ' H' F' γ' ρ', Rp GP K H0 F0 γ0 γ' σ' H' F' ρ' → Q.nx ρ' → E.nx σ' H') → (∀ σ' H' F' γ' ρ', Rp GP K H0 F0 γ0 γ' σ' H' F' ρ' → Q.bk ρ' → E.bk σ' H') → (∀ σ' H' F' γ' ρ', Rp GP K H0 F0 γ0 γ' σ' H' F' ρ' → Q.ct ρ' → E.ct σ' H') →
  (∀ σ' v H' F' γ' ρ' d, Rp GP K H0 F0 γ0 γ' σ' H' F' ρ' → Dd K F' v d → Q.rt d ρ' → E.rt v H') → t E σ H
def uNext : US := fun Q ρ => Q.nx ρ
def uSeq (a b : US) : US := fun Q ρ => a { Q with nx := fun ρ' => b Q ρ' } ρ
def uBreak : US := fun Q ρ => Q.bk ρ
def uCont : US := fun Q ρ => Q.ct ρ
def uDrop (a : UE) : US := fun Q ρ => a ρ fun _ ρ' => Q.nx ρ'
def uRet (a : UE) : US := fun Q ρ => a ρ fun x ρ' => fz x ρ' fun d ρ2 => Q.rt d ρ2
def uRetN : US := fun Q ρ => Q.rt .non ρ
def uIfS (c : UT) (a b : US) : US := fun Q ρ => c ρ fun z ρ' => if z = true then a Q ρ' else b Q ρ'
def uNever : US := fun _ _ => False
theorem ls_next : LS GP K B tNext uNext := fun H0 F0 γ0 _ γ σ H F ρ E Q r u n b c t => n _ _ _ _ _ r u
theorem ls_seq {t t' : TS} {u u' : US} (h : LS GP K B t u) (h' : LS GP K B t' u') : LS GP K B (tSeq t t') (uSeq u u') := fun H0 F0 γ0 _ γ σ H F ρ E Q r z n b c t =>
  h _ _ r z (fun σ' H' F' γ' ρ' r' z' => h' _ _ r' z' n b c t) b c t
theorem ls_break : LS GP K B tBreak uBreak := fun H0 F0 γ0 _ γ σ H F ρ E Q r u n b c t => b _ _ _ _ _ r u
theorem ls_cont : LS GP K B tCont uCont := fun H0 F0 γ0 _ γ σ H F ρ E Q r u n b c t => c _ _ _ _ _ r u
theorem ls_drop {t : TE} {u : UE} (h : LE GP K B t u) : LS GP K B (tDrop t) (uDrop u) := fun H0 F0 γ0 _ γ σ H F ρ E Q r z n b c t => h _ _ r z fun H' F' γ' ρ' v x r' s k q => n _ _ _ _ _ r' q
theorem ls_ret {t : TE} {u : UE} (h : LE GP K B t u) : LS GP K B (tRet t) (uRet u) := fun H0 F0 γ0 _ γ σ H F ρ E Q r z n b c t => h _ _ r z fun H' F' γ' ρ' v x r' s k q => by
  obtain ⟨F2, ρ2, d, r2, s2, d2, q2⟩ := fz_ok r' k q
  exact t _ _ _ _ _ _ _ r2 d2 q2
theorem ls_retN : LS GP K B tRetN uRetN := fun H0 F0 γ0 _ γ σ H F ρ E Q r z n b c t => t _ _ _ _ _ _ _ r Dd.non z
theorem ls_if {c : TT} {t t' : TS} {uc : UT} {u u' : US} (hc : LT GP K B c uc) (h : LS GP K B t u) (h' : LS GP K B t' u') : LS GP K B (tIfS c t t') (uIfS uc u u') := by
  intro H0 F0 γ0 _ γ σ H F ρ E Q r z n b c' t
  refine hc _ _ r z fun H1 F1 γ1 ρ1 k r1 s1 u1 => ?_
  split
  · rename_i c
    rw [if_pos c] at u1
    exact h _ _ r1 u1 n b c' t
  · rename_i c
    rw [if_neg c] at u1
    exact h' _ _ r1 u1 n b c' t
theorem ls_never : LS GP K B tNever uNever := fun H0 F0 γ0 _ γ σ H F ρ E Q r z n b c t => z.elim
/-! ### targets -/
abbrev UG := D → Rho → (Rho → Prop) → Prop
variable (GP K) in
def LG (B : Hp × Hp × GAt) (g : TG) (u : UG) : Prop := ∀ ⦃H0 F0 : Hp⦄ ⦃γ0 : GAt⦄ [FinerC GP K B H0 F0 γ0] ⦃γ : GAt⦄ ⦃σ : L2.St⦄ ⦃H F : Hp⦄ ⦃ρ : Rho⦄ ⦃v : V⦄ ⦃d : D⦄ (R : L2.St → Hp → Prop) (Q : Rho → Prop), Rp GP K H0 F0 γ0 γ σ H F ρ → Dd K F v d → u d ρ Q →
  (∀ σ' H' F' γ' ρ', Rp GP K H0 F0 γ0 γ' σ' H' F' ρ' → Same F F' → Q ρ' → R σ' H') → g v σ H R
abbrev UGs := List D → Rho → (Rho → Prop) → Prop
variable (GP K) in
def LGs (B : Hp × Hp × GAt) (g : TGs) (u : UGs) : Prop := ∀ ⦃H0 F0 : Hp⦄ ⦃γ0 : GAt⦄ [FinerC GP K B H0 F0 γ0] ⦃γ : GAt⦄ ⦃σ : L2.St⦄ ⦃H F : Hp⦄ ⦃ρ : Rho⦄ ⦃vs : List V⦄ ⦃ds : List D⦄ (R : L2.St → Hp → Prop) (Q : Rho → Prop), Rp GP K H0 F0 γ0 γ σ H F ρ → DdL K F vs ds → u ds ρ Q →
  (∀ σ' H' F' γ' ρ', Rp GP K H0 F0 γ0 γ' σ' H' F' ρ' → Same F F' → Q ρ' → R σ' H') → g vs σ H R
def ugName (i : Nat) : UG := fun d ρ Q => Q (ρ.set i (some (.val d)))
theorem lg_name (i : Nat) : LG GP K B (gName i) (ugName i) := fun H0 F0 γ0 _ γ σ H F ρ v d R Q r h u k => k _ _ _ _ _ (r.setVal i h) (Same.refl _) u
def ugNil : UGs := fun ds ρ Q => match ds with
  | [] => Q ρ
  | _ => False
def ugCons (a : UG) (b : UGs) : UGs := fun ds ρ Q => match ds with
  | d :: ds => a d ρ fun ρ' => b ds ρ' Q
  | _ => False
def ugTup (n : Nat) (b : UGs) : UG := fun d ρ Q => match d with
  | .tup ds => ds.length = n ∧ b ds ρ Q
  | _ => False
theorem lgs_nil : LGs GP K B gNil ugNil := fun H0 F0 γ0 _ γ σ H F ρ vs ds R Q r h u k => by
  cases h with
  | nil => exact ⟨rfl, k _ _ _ _ _ r (Same.refl _) u⟩
  | cons _ _ => exact u.elim
theorem lgs_cons {g : TG} {gs : TGs} {u : UG} {us : UGs} (h1 : LG GP K B g u) (h2 : LGs GP K B gs us) : LGs GP K B (gCons g gs) (ugCons u us) := fun H0 F0 γ0 _ γ σ H F ρ vs ds R Q r h z k => by
  cases h with
  | nil => exact z.elim
  | cons a b => exact ⟨_, _, rfl, h1 _ _ r a z fun σ1 H1 F1 γ1 ρ1 r1 s1 z1 => h2 _ _ r1 (b.same s1) z1 fun σ2 H2 F2 γ2 ρ2 r2 s2 z2 => k _ _ _ _ _ r2 (s1.trans s2) z2⟩
theorem lg_tup {n : Nat} {gs : TGs} {us : UGs} (h2 : LGs GP K B gs us) : LG GP K B (gTup K n gs) (ugTup n us) := fun H0 F0 γ0 _ γ σ H F ρ v d R Q r h z k => by
  cases h with
  | tup e g => exact ⟨_, _, rfl, .inl (.inl (r.sub _ _ e)), by rw [g.length]; exact z.1, h2 _ _ r g z.2 k⟩
  | _ => exact z.elim
/-- x = e -/
def uSet (i : Nat) (a : UE) : US := fun Q ρ => a ρ fun x ρ' => match x with
  | .fr d => Q.nx (ρ'.set i (some (.own d)))
  | x => fz x ρ' fun d ρ2 => Q.nx (ρ2.set i (some (.val d)))
theorem ls_set {i : Nat} {t : TE} {u : UE} (h : LE GP K B t u) : LS GP K B (tAsg t (gName i)) (uSet i u) := fun H0 F0 γ0 _ γ σ H F ρ E Q r z n b c t => h _ _ r z fun H' F' γ' ρ' v x r' s k q => by
  have viaFz : ∀ {x : RV}, RVok GP K H0 γ0 γ' σ H' F' ρ' v x → (fz x ρ' fun d ρ2 => Q.nx (ρ2.set i (some (.val d)))) → gName i v σ H' E.nx := fun {x} k q => by
    obtain ⟨F2, ρ2, d, r2, s2, d2, q2⟩ := fz_ok r' k q
    exact n _ _ _ _ _ (r2.setVal i d2) q2
  have own : ∀ {d : D}, RVok GP K H0 γ0 γ' σ H' F' ρ' v (.fr d) → Q.nx (ρ'.set i (some (.own d))) → gName i v σ H' E.nx := fun {d} k q => by
    obtain ⟨a, rfl, o, h1, h2, h3, h4⟩ := k
    exact n _ _ _ _ _ (r'.setOwn i o h1 h2 h3 h4) q
  cases x with
  | val d => exact viaFz k q
  | kon d => exact viaFz k q
  | sl j => exact viaFz k q
  | fr d => exact own k q
/-- a, b = e -/
def uAsg (a : UE) (g : UG) : US := fun Q ρ => a ρ fun x ρ' => fz x ρ' fun d ρ2 => g d ρ2 Q.nx
theorem ls_asg {t : TE} {u : UE} {g : TG} {ug : UG} (h : LE GP K B t u) (hg : LG GP K B g ug) : LS GP K B (tAsg t g) (uAsg u ug) := fun H0 F0 γ0 _ γ σ H F ρ E Q r z n b c t => h _ _ r z fun H' F' γ' ρ' v x r' s k q => by
  obtain ⟨F2, ρ2, d, r2, s2, d2, q2⟩ := fz_ok r' k q
  exact hg _ _ r2 d2 q2 fun σ' H' F' γ' ρ' r s q => n _ _ _ _ _ r q
/-- x += e of ints -/
def uAug (g : Int → Int → Int) (i : Nat) (a : UE) : US := fun Q ρ => match ρ[i]? with
  | some (some (.val (.int k))) => a ρ fun y ρ' => match cn ρ' y with
    | some (.int j) => Q.nx (ρ'.set i (some (.val (.int (g k j)))))
    | _ => False
  | _ => False
theorem ls_aug {g : Int → Int → Int} {i : Nat} {t : TE} {u : UE} (h : LE GP K B t u) : LS GP K B (tAug i t (ipI g)) (uAug g i u) := fun H0 F0 γ0 _ γ σ H F ρ E Q r z n b c t => by
  dsimp only [uAug] at z
  split at z
  · rename_i k e
    obtain ⟨v, h1, h2⟩ := r.val i _ e
    cases h2
    refine ⟨_, h1, h _ _ r z fun H' F' γ' ρ' v x r' s k' q => ?_⟩
    split at q
    · rename_i j e2
      have := (RVok.cnt r' k' e2).int
      subst this
      exact ⟨k, j, rfl, rfl, n _ _ _ _ _ (r'.setVal i (Dd.int _)) q⟩
    · exact q.elim
  · exact z.elim
/-! ### loops -/
def goWhile (c : UT) (tb : US) (Q : UEnds) : Nat → Rho → Prop
  | 0, _ => False
  | m + 1, ρ => c ρ fun z ρ' => if z = true then tb { Q with nx := goWhile c tb Q m, ct := goWhile c tb Q m, bk := Q.nx } ρ' else Q.nx ρ'
def uWhile (c : UT) (tb : US) : US := fun Q ρ => ∃ m, goWhile c tb Q m ρ
theorem ls_while {c : TT} {t : TS} {uc : UT} {u : US} (hc : LT GP K B c uc) (h : LS GP K B t u) : LS GP K B (tWhile c t) (uWhile uc u) := fun H0 F0 γ0 _ γ σ H F ρ E Q r z n b ct t => by
  obtain ⟨m, z⟩ := z
  refine ⟨fun m σ H => ∃ F γ ρ, Rp GP K H0 F0 γ0 γ σ H F ρ ∧ goWhile uc u Q m ρ, ⟨m, F, γ, ρ, r, z⟩, ?_⟩
  rintro m σ1 H1 ⟨F1, γ1, ρ1, r1, z1⟩
  cases m with
  | zero => exact z1.elim
  | succ m =>
    refine hc _ _ r1 z1 fun H2 F2 γ2 ρ2 k r2 s2 q2 => ?_
    split
    · rename_i e
      rw [if_pos e] at q2
      refine ⟨fun σ H => ∃ F γ ρ, Rp GP K H0 F0 γ0 γ σ H F ρ ∧ goWhile uc u Q m ρ, fun σ' H' h => ⟨m, Nat.lt_succ_self _, h⟩, ?_⟩
      exact h _ _ r2 q2 (fun σ' H' F' γ' ρ' r' q' => ⟨F', γ', ρ', r', q'⟩) (fun σ' H' F' γ' ρ' r' q' => n _ _ _ _ _ r' q') (fun σ' H' F' γ' ρ' r' q' => ⟨F', γ', ρ', r', q'⟩) t
    · rename_i e
      rw [if_neg e] at q2
      exact n _ _ _ _ _ r2 q2
end DL
/-! lifted readings 4: for, comprehensions, a def's body -/
namespace DL
open PySem PySem.Spec PyProof.Rows L2 CD
variable {GP : GenP} {K : PySem.W.Frag}
variable {B : Hp × Hp × GAt}
section
variable {H0 F0 H H' F F' : Hp} {γ0 γ : GAt} {σ : L2.St} {ρ : Rho} {v : V} {d : D}
theorem Rp.rebase (r : Rp GP K H0 F0 γ0 γ σ H F ρ) : Rp GP K H0 F γ0 γ σ H F ρ := { r with f0 := Same.refl _, fnew := fun a o h => .inl h }
theorem Rp.unbase {F1 : Hp} (r : Rp GP K H0 F1 γ0 γ σ H F ρ) (s : Same F0 F1) (h : ∀ a o, F1 a = some o → F0 a = some o ∨ H0 a = none ∨ ∃ xs, o = .tup xs) : Rp GP K H0 F0 γ0 γ σ H F ρ :=
  { r with f0 := s.trans r.f0, fnew := fun a o e => (r.fnew a o e).elim (h a o) .inr }
/-- an object of no slot is written -/
theorem Rp.poke {a : Addr} {o : HO} (r : Rp GP K H0 F0 γ0 γ σ H F ρ) (n : F a = none) (h0 : H0 a = none) (hg : ¬ GA GP γ a) (ho : ∀ j, ¬ OwnAt σ ρ a j) (hx : ∀ u, H a = some u → ¬¬ noTE u) : Rp GP K H0 F0 γ0 γ σ (upd H a o) F ρ where
  f0 := r.f0
  sub := fun b u h => by
    have : b ≠ a := fun x => by rw [x, n] at h; cases h
    rw [upd_ne this]; exact r.sub b u h
  keep := fun b u h nb => by
    have : b ≠ a := fun x => by rw [x, h0] at h; cases h
    rw [upd_ne this]; exact r.keep b u h nb
  fnew := r.fnew
  tr := fun b u h => by
    have : b ≠ a := fun x => by rw [x, h0] at h; cases h
    rw [upd_ne this]; exact r.tr b u h
  len := r.len
  val := r.val
  own := fun i d q => by
    obtain ⟨b, h1, h2, h3⟩ := r.own i d q
    have c : b ≠ a := fun x => ho i ⟨⟨d, q⟩, x ▸ h1⟩
    exact ⟨b, h1, h2.move (Same.refl _) (upd_ne c), h3⟩
  gen := fun i m q => by
    obtain ⟨p, h1, h2, h3, h4⟩ := r.gen i m q
    have c1 : p.1 ≠ a := fun x => hg (.inl ⟨p, h1, .inl x.symm⟩)
    have c2 : p.2.1 ≠ a := fun x => hg (.inl ⟨p, h1, .inr x.symm⟩)
    have c3 : p.2.2 ≠ a := fun x => h4 (x ▸ n)
    exact ⟨p, h1, h2, GP.stab h3 (upd_ne c1) (upd_ne c2) (upd_ne c3), h4⟩
  one := r.one
  g0 := r.g0
  g1 := r.g1
  gt0 := r.gt0
  gt := fun p hp => by
    obtain ⟨o', u', h1, h2, h3⟩ := r.gt p hp
    have c1 : p.1 ≠ a := fun x => hg (.inl ⟨p, hp, .inl x.symm⟩)
    have c2 : p.2.1 ≠ a := fun x => hg (.inl ⟨p, hp, .inr x.symm⟩)
    exact ⟨o', u', by rw [upd_ne c1]; exact h1, by rw [upd_ne c2]; exact h2, h3⟩
  gf := r.gf
  tabs := tabs_stay r.tabs fun b u h nb => by
    have : b ≠ a := fun x => hx u (x ▸ h) nb
    rw [upd_ne this]; exact h
  tin := r.tin
  gn := r.gn
/-- slots seen otherwise: those outside vs as they are, those within frozen or none -/
theorem Rp.back {σ2 : L2.St} {ρ2 : Rho} {vs : List Nat} (r : Rp GP K H0 F0 γ0 γ σ2 H F ρ2) (len : σ.length = ρ.length) (hs : ∀ i, i ∉ vs → σ2[i]? = σ[i]?) (hr : ∀ i, i ∉ vs → ρ[i]? = ρ2[i]?)
    (hv : ∀ i, i ∈ vs → ∀ x, ρ[i]? = some (some x) → ∃ d v, x = .val d ∧ σ[i]? = some (some v) ∧ Dd K F v d) : Rp GP K H0 F0 γ0 γ σ H F ρ where
  f0 := r.f0
  sub := r.sub
  keep := r.keep
  fnew := r.fnew
  tr := r.tr
  len := len
  val := fun i d q => by
    by_cases c : i ∈ vs
    · obtain ⟨d', v, e, h1, h2⟩ := hv i c _ q
      cases e
      exact ⟨v, h1, h2⟩
    · rw [hr i c] at q
      rw [← hs i c]
      exact r.val i d q
  own := fun i d q => by
    by_cases c : i ∈ vs
    · obtain ⟨d', v, e, h1, h2⟩ := hv i c _ q
      cases e
    · rw [hr i c] at q
      obtain ⟨a, h1, h2, h3, h4, h5, h6⟩ := r.own i d q
      refine ⟨a, by rw [← hs i c]; exact h1, h2, h3, h4, h5, fun j hj => ?_⟩
      obtain ⟨⟨e, he⟩, hj2⟩ := hj
      by_cases cj : j ∈ vs
      · obtain ⟨d', v, e', _⟩ := hv j cj _ he
        cases e'
      · rw [hr j cj] at he
        rw [← hs j cj] at hj2
        exact h6 j ⟨⟨e, he⟩, hj2⟩
  gen := fun i n q => by
    by_cases c : i ∈ vs
    · obtain ⟨d', v, e, h1, h2⟩ := hv i c _ q
      cases e
    · rw [hr i c] at q
      rw [← hs i c]
      exact r.gen i n q
  one := fun i j n m q1 q2 => by
    by_cases c : i ∈ vs
    · obtain ⟨d', v, e, h1, h2⟩ := hv i c _ q1
      cases e
    · by_cases cj : j ∈ vs
      · obtain ⟨d', v, e, h1, h2⟩ := hv j cj _ q2
        cases e
      · rw [hr i c] at q1
        rw [hr j cj] at q2
        exact r.one i j n m q1 q2
  g0 := r.g0
  g1 := r.g1
  gt0 := r.gt0
  gt := r.gt
  gf := r.gf
  tabs := r.tabs
  tin := r.tin
  gn := r.gn
end
/-! ### what is walked -/
def YD (K : PySem.W.Frag) (F H H' : Hp) (v : V) (d : D) : Prop :=
  (H' = H ∧ Dd K F v d) ∨ ∃ T xs ds, v = .ref T ∧ H T = none ∧ H' = upd H T (.tup xs) ∧ d = .tup ds ∧ DdL K F xs ds
theorem yd_ok {H0 F0 H H' F : Hp} {γ0 γ : GAt} {σ : L2.St} {ρ : Rho} {v : V} {d : D} (r : Rp GP K H0 F0 γ0 γ σ H F ρ) (y : YD K F H H' v d) : ∃ F', Rp GP K H0 F0 γ0 γ σ H' F' ρ ∧ Same F F' ∧ Dd K F' v d := by
  rcases y with ⟨rfl, h⟩ | ⟨T, xs, ds, rfl, n, rfl, rfl, h⟩
  · exact ⟨F, r, Same.refl _, h⟩
  · obtain ⟨F', r', s', d'⟩ := new_tup r n h
    exact ⟨F', r', s', d'⟩
abbrev UI := Rho → (List D → Rho → Prop) → Prop
variable (GP K) in
def LI (B : Hp × Hp × GAt) (t : TI) (u : UI) : Prop := ∀ ⦃H0 F0 : Hp⦄ ⦃γ0 : GAt⦄ [FinerC GP K B H0 F0 γ0] ⦃γ : GAt⦄ ⦃σ : L2.St⦄ ⦃H F : Hp⦄ ⦃ρ : Rho⦄ (R : It → Hp → Prop) (Q : List D → Rho → Prop), Rp GP K H0 F0 γ0 γ σ H F ρ → u ρ Q →
  (∀ H1 F1 γ1 ρ1 J n G Y (items : List D), Rp GP K H0 F0 γ0 γ1 σ H1 F1 ρ1 → Same F F1 → Walk J n G Y → items.length = n → (∀ H'', Same F1 H'' → G H'') →
    (∀ i H v H' F, i < n → Same F1 F → Same F H → Y i H v H' → ∃ d, items[i]? = some d ∧ YD K F H H' v d) → Q items ρ1 → R J H1) → t σ H R
def goFor (g : UG) (b : US) (Q : UEnds) : List D → Rho → Prop
  | [], ρ => Q.nx ρ
  | d :: ds, ρ => g d ρ fun ρ' => b { Q with nx := goFor g b Q ds, ct := goFor g b Q ds, bk := Q.nx } ρ'
def uFor (i : UI) (g : UG) (b : US) : US := fun Q ρ => i ρ fun items ρ' => goFor g b Q items ρ'
theorem ls_for {wi : TI} {g : TG} {tb : TS} {ui : UI} {ug : UG} {ub : US} (hi : LI GP K B wi ui) (hg : LG GP K B g ug) (hb : LS GP K B tb ub) : LS GP K B (tFor wi g tb) (uFor ui ug ub) := fun H0 F0 γ0 _ γ σ H F ρ E Q r z nx bk ct rt => by
  refine hi _ _ r z fun H1 F1 γ1 ρ1 J n G Y items r1 s1 wk hn hG hY q => ?_
  have un : ∀ {γ σ H F ρ}, Rp GP K H0 F1 γ0 γ σ H F ρ → Rp GP K H0 F0 γ0 γ σ H F ρ := fun r => r.unbase r1.f0 r1.fnew
  haveI : FinerC GP K B H0 F1 γ0 := ⟨fun r => FinerC.fin (un r), FinerC.g (GP := GP) (K := K) H0 F0⟩
  refine for_it wk (fun i σ H => ∃ γ F ρ, Rp GP K H0 F1 γ0 γ σ H F ρ ∧ goFor ug ub Q (items.drop i) ρ) ⟨γ1, F1, ρ1, r1.rebase, by rw [List.drop_zero]; exact q⟩ (fun i σ H _ h => ?_) (fun i x σ H H' hi' h y => ?_) (fun σ H h => ?_)
  · obtain ⟨γ, F, ρ, r, _⟩ := h
    exact hG H (r.f0.trans r.sub)
  · obtain ⟨γ, F, ρ, r, q⟩ := h
    obtain ⟨d, hd, yd⟩ := hY i H x H' F hi' r.f0 r.sub y
    obtain ⟨F2, r2, s2, d2⟩ := yd_ok r yd
    have e : items.drop i = d :: items.drop (i + 1) := by
      obtain ⟨h1, h2⟩ := List.getElem?_eq_some_iff.mp hd
      rw [← h2]
      exact List.drop_eq_getElem_cons h1
    rw [e] at q
    refine hg _ _ r2 d2 q fun σ3 H3 F3 γ3 ρ3 r3 s3 q3 => ?_
    exact hb _ _ r3 q3 (fun _ _ _ _ _ r q => ⟨_, _, _, r, q⟩) (fun _ _ _ _ _ r q => nx _ _ _ _ _ (un r) q) (fun _ _ _ _ _ r q => ⟨_, _, _, r, q⟩) (fun _ _ _ _ _ _ _ r d q => rt _ _ _ _ _ _ _ (un r) d q)
  · obtain ⟨γ, F, ρ, r, q⟩ := h
    rw [← hn, List.drop_length] at q
    exact nx _ _ _ _ _ (un r) q
/-! ### comprehensions -/
def wipeR (ρ : Rho) : List Nat → Rho
  | [] => ρ
  | v :: vs => (wipeR ρ vs).set v none
def restR (ρ0 ρ : Rho) : List Nat → Rho
  | [] => ρ
  | v :: vs => (restR ρ0 ρ vs).set v (ρ0[v]?.getD none)
/-- the block's own names hold nothing of ours outside -/
def okW (ρ : Rho) : List Nat → Bool
  | [] => true
  | v :: vs => (match ρ[v]? with
    | some (some (.own _)) => false
    | some (some (.gen _)) => false
    | _ => true) && okW ρ vs
def goLc (g : UG) (t : UT) (e : UE) (vs : List Nat) (k : List D → Rho → Prop) : List D → List D → Rho → Prop
  | [], acc, ρ => k acc ρ
  | d :: ds, acc, ρ => okW ρ vs = true ∧ g d (wipeR ρ vs) fun ρ1 => t ρ1 fun b ρ2 => if b = true then e ρ2 fun x ρ3 => fz x ρ3 fun y ρ4 => acc.length < sizeLine ∧ goLc g t e vs k ds (acc ++ [y]) (restR ρ ρ4 vs)
    else goLc g t e vs k ds acc (restR ρ ρ2 vs)
def uLc (i : UI) (g : UG) (t : UT) (e : UE) (vs : List Nat) : UE := fun ρ Q => i ρ fun items ρ1 => goLc g t e vs (fun acc ρ2 => Q (.fr (.list acc)) ρ2) items [] ρ1
/-- the target stores to these slots alone -/
def Ons (vs : List Nat) (σ σ' : L2.St) : Prop := σ'.length = σ.length ∧ ∀ i, i ∉ vs → σ'[i]? = σ[i]?
def GW (g : TG) (vs : List Nat) : Prop := ∀ v σ H (R S : L2.St → Hp → Prop), (∀ σ' H', R σ' H' → Ons vs σ σ' → S σ' H') → g v σ H R → g v σ H S
def GWs (g : TGs) (vs : List Nat) : Prop := ∀ v σ H (R S : L2.St → Hp → Prop), (∀ σ' H', R σ' H' → Ons vs σ σ' → S σ' H') → g v σ H R → g v σ H S
theorem gw_name {i : Nat} {vs : List Nat} (h : i ∈ vs) : GW (gName i) vs := fun v σ H R S k r => k _ _ r ⟨List.length_set, fun j hj => set_none fun e => hj (by rw [e]; exact h)⟩
theorem gws_nil {vs : List Nat} : GWs gNil vs := fun v σ H R S k ⟨e, r⟩ => ⟨e, k _ _ r ⟨rfl, fun _ _ => rfl⟩⟩
theorem gw_tup {K : PySem.W.Frag} {n : Nat} {g : TGs} {vs : List Nat} (h : GWs g vs) : GW (gTup K n g) vs := fun v σ H R S k ⟨a, xs, e, s, l, r⟩ => ⟨a, xs, e, s, l, h _ _ _ R S k r⟩
theorem gws_cons {g : TG} {gs : TGs} {vs : List Nat} (h : GW g vs) (hs : GWs gs vs) : GWs (gCons g gs) vs := fun v σ H R S k ⟨x, r, e, q⟩ =>
  ⟨x, r, e, h _ _ _ _ _ (fun σ1 H1 q1 p1 => hs _ _ _ R S (fun σ2 H2 q2 p2 => k _ _ q2 ⟨p2.1.trans p1.1, fun i hi => (p2.2 i hi).trans (p1.2 i hi)⟩) q1) q⟩
theorem wipe_get : ∀ (vs : List Nat) (σ : L2.St) (i : Nat), (wipe σ vs)[i]? = if i ∈ vs ∧ i < σ.length then some none else σ[i]? := by
  intro vs
  induction vs with
  | nil => intro σ i; simp [wipe]
  | cons v vs ih =>
    intro σ i
    unfold wipe
    by_cases c : i = v
    · subst c
      by_cases l : i < σ.length
      · rw [List.getElem?_set_self (by rw [wipe_length]; exact l), if_pos ⟨List.mem_cons_self, l⟩]
      · rw [List.getElem?_eq_none (by rw [List.length_set, wipe_length]; omega), if_neg (fun x => l x.2), List.getElem?_eq_none (by omega)]
    · rw [List.getElem?_set_ne (Ne.symm c), ih]
      simp [c]
theorem wipe_eq {σ σ' : L2.St} {vs : List Nat} (h : Ons vs (wipe σ vs) σ') : wipe σ' vs = wipe σ vs := by
  obtain ⟨hl, h⟩ := h
  rw [wipe_length] at hl
  apply List.ext_getElem?
  intro i
  rw [wipe_get, wipe_get, hl]
  by_cases c : i ∈ vs
  · by_cases l : i < σ.length
    · rw [if_pos ⟨c, l⟩, if_pos ⟨c, l⟩]
    · rw [if_neg (fun x => l x.2), if_neg (fun x => l x.2), List.getElem?_eq_none (by omega), List.getElem?_eq_none (by omega)]
  · have z := h i c
    rw [wipe_get, if_neg (fun x => c x.1)] at z
    rw [if_neg (fun x => c x.1), if_neg (fun x => c x.1), z]
theorem wipe_at {σ : L2.St} {i : Nat} : ∀ {vs : List Nat}, i ∉ vs → (wipe σ vs)[i]? = σ[i]?
  | [], _ => rfl
  | v :: vs, h => by
    unfold wipe
    rw [set_none fun e => h (by rw [e]; exact List.mem_cons_self)]
    exact wipe_at fun m => h (List.mem_cons_of_mem _ m)
theorem wipeR_len {ρ : Rho} : ∀ {vs : List Nat}, (wipeR ρ vs).length = ρ.length
  | [] => rfl
  | v :: vs => by unfold wipeR; rw [List.length_set]; exact wipeR_len
theorem wipeR_at {ρ : Rho} {i : Nat} : ∀ {vs : List Nat}, i ∉ vs → (wipeR ρ vs)[i]? = ρ[i]?
  | [], _ => rfl
  | v :: vs, h => by
    unfold wipeR
    rw [set_none fun e => h (by rw [e]; exact List.mem_cons_self)]
    exact wipeR_at fun m => h (List.mem_cons_of_mem _ m)
theorem wipeR_in {ρ : Rho} {i : Nat} {x : SV} : ∀ {vs : List Nat}, i ∈ vs → (wipeR ρ vs)[i]? ≠ some (some x)
  | v :: vs, h => fun e => by
    unfold wipeR at e
    by_cases c : i = v
    · subst c; cases (set_at e).1
    · rw [set_none c] at e
      exact wipeR_in ((List.mem_cons.mp h).resolve_left c) e
theorem restR_len {ρ0 ρ : Rho} : ∀ {vs : List Nat}, (restR ρ0 ρ vs).length = ρ.length
  | [] => rfl
  | v :: vs => by unfold restR; rw [List.length_set]; exact restR_len
theorem restR_at {ρ0 ρ : Rho} {i : Nat} : ∀ {vs : List Nat}, i ∉ vs → (restR ρ0 ρ vs)[i]? = ρ[i]?
  | [], _ => rfl
  | v :: vs, h => by
    unfold restR
    rw [set_none fun e => h (by rw [e]; exact List.mem_cons_self)]
    exact restR_at fun m => h (List.mem_cons_of_mem _ m)
theorem restR_in {ρ0 ρ : Rho} {i : Nat} {x : SV} : ∀ {vs : List Nat}, i ∈ vs → (restR ρ0 ρ vs)[i]? = some (some x) → ρ0[i]? = some (some x)
  | v :: vs, h, e => by
    unfold restR at e
    by_cases c : i = v
    · subst c
      have := (set_at e).1
      cases q : ρ0[i]? with
      | none => rw [q] at this; cases this
      | some y => rw [q] at this; exact congrArg some this
    · rw [set_none c] at e
      exact restR_in ((List.mem_cons.mp h).resolve_left c) e
theorem okW_in {ρ : Rho} {i : Nat} {x : SV} : ∀ {vs : List Nat}, okW ρ vs = true → i ∈ vs → ρ[i]? = some (some x) → ∃ d, x = .val d
  | v :: vs, h, hi, e => by
    unfold okW at h
    rw [Bool.and_eq_true] at h
    by_cases c : i = v
    · subst c
      rw [e] at h
      cases x with
      | val d => exact ⟨d, rfl⟩
      | own d => cases h.1
      | gen n => cases h.1
    · exact okW_in h.2 ((List.mem_cons.mp hi).resolve_left c) e
theorem le_lc {wi : TI} {g : TG} {tt : TT} {te : TE} {vs : List Nat} {ui : UI} {ug : UG} {ut : UT} {ue : UE} (hi : LI GP K B wi ui) (hg : LG GP K B g ug) (hw : GW g vs) (ht : LT GP K B tt ut) (he : LE GP K B te ue) : LE GP K B (tLc wi g tt te vs) (uLc ui ug ut ue vs) := by
  intro H0 F0 γ0 _ γ σ H F ρ R Q r0 u0 h
  refine hi _ _ r0 u0 fun H1 F1 γ1 ρ1 J n G Y items r1 s1 wk hn hG hY q Dd1 nD => ?_
  have h0D : H0 Dd1 = none := r1.new0 nD
  have f1D : F1 Dd1 = none := Same.free r1.sub nD
  have ngD : ¬ GA GP γ0 Dd1 := r1.nga h0D
  obtain ⟨a, ea, o1, o2, o3, o4, o5⟩ := fr_new (o := .lst []) (d := .list []) r1 nD (.lst upd_same .nil)
  cases ea
  have rS := (r1.same (same_upd (o := .lst []) nD)).rebase.hold upd_same o2 o3 o4 o5
  obtain ⟨Pv, hPv⟩ : ∃ Pv : Nat → Hp → Prop, Pv = fun i H => ∃ γ F ρ accv acc, Rp GP K (upd H0 Dd1 (.lst accv)) F1 γ0 γ σ H F ρ ∧ DdL K F accv acc ∧ goLc ug ut ue vs (fun acc ρ2 => Q (.fr (.list acc)) ρ2) (items.drop i) acc ρ := ⟨_, rfl⟩
  refine lc_it wk Pv (by rw [hPv]; exact ⟨γ1, F1, ρ1, [], [], rS, .nil, by rw [List.drop_zero]; exact q⟩) (fun i H _ h => ?_) (fun i x H2 H3 hi' h2 y => ?_) (fun H2 h2 => ?_)
  all_goals (try rw [hPv] at h); (try rw [hPv] at h2)
  · obtain ⟨γ, F, ρ, _, _, r, _⟩ := h
    exact hG H (r.f0.trans r.sub)
  · obtain ⟨γ2, F2, ρ2, accv, acc, r2, da, q2⟩ := h2
    obtain ⟨d, hd, yd⟩ := hY i H2 x H3 F2 hi' r2.f0 r2.sub y
    haveI : FinerC GP K B (upd H0 Dd1 (.lst accv)) F1 γ0 := ⟨fun r => FinerC.fin ((r.letgo h0D f1D ngD (fun _ e => nomatch e)).1.unbase r1.f0 r1.fnew), FinerC.g (GP := GP) (K := K) H0 F0⟩
    have ei : items.drop i = d :: items.drop (i + 1) := by
      obtain ⟨a1, a2⟩ := List.getElem?_eq_some_iff.mp hd
      rw [← a2]
      exact List.drop_eq_getElem_cons a1
    rw [ei] at q2
    obtain ⟨okw, q2⟩ := q2
    obtain ⟨F3, r3, s3, d3⟩ := yd_ok r2 yd
    -- the block's own slots forgotten
    have rw3 : Rp GP K (upd H0 Dd1 (.lst accv)) F1 γ0 γ2 (wipe σ vs) H3 F3 (wipeR ρ2 vs) :=
      r3.back (vs := vs) (by rw [wipe_length, wipeR_len]; exact r3.len) (fun i hi => (wipe_at hi).symm) (fun i hi => wipeR_at hi) (fun i hi x e => absurd e (wipeR_in hi))
    -- behind a turn: the slots as they were
    have ret : ∀ {γ4 σ4 H4 F4 ρ4}, Rp GP K (upd H0 Dd1 (.lst accv)) F1 γ0 γ4 σ4 H4 F4 ρ4 → Same F3 F4 → Ons vs (wipe σ vs) σ4 → Rp GP K (upd H0 Dd1 (.lst accv)) F1 γ0 γ4 σ H4 F4 (restR ρ2 ρ4 vs) := by
      intro γ4 σ4 H4 F4 ρ4 r4 s4 hs
      refine r4.back (vs := vs) ?_ (fun i hi => by rw [hs.2 i hi, wipe_at hi]) (fun i hi => restR_at hi) (fun i hi x e => ?_)
      · rw [restR_len, ← r4.len, hs.1, wipe_length]
      · have e0 := restR_in hi e
        obtain ⟨d', rfl⟩ := okW_in okw hi e0
        obtain ⟨w, w1, w2⟩ := r3.val i d' e0
        exact ⟨d', w, rfl, w1, w2.same s4⟩
    refine hw _ _ _ (fun σ2 H2 => Ons vs (wipe σ vs) σ2 → tt σ2 H2 fun b H3 => if b = true then te σ2 H3 fun y H4 => ∃ acc, H4 Dd1 = some (.lst acc) ∧ acc.length < sizeLine ∧ Pv (i + 1) (upd H4 Dd1 (.lst (acc ++ [y]))) else Pv (i + 1) H3) _ (fun σ4 H4 q4 on4 => ⟨wipe_eq on4, q4 on4⟩) ?_
    refine hg _ _ rw3 d3 q2 fun σ4 H4 F4 γ4 ρ4 r4 s4 q4 on4 => ?_
    refine ht _ _ r4 q4 fun H5 F5 γ5 ρ5 b r5 s5 q5 => ?_
    split
    · rename_i c
      rw [if_pos c] at q5
      refine he _ _ r5 q5 fun H6 F6 γ6 ρ6 y x6 r6 s6 k6 q6 => ?_
      obtain ⟨F7, ρ7, d7, r7, s7, dd7, l7, q7⟩ := fz_ok r6 k6 q6
      have rr := ret r7 (s4.trans (s5.trans (s6.trans s7))) on4
      obtain ⟨rg, e1, e2, e3, e4⟩ := rr.letgo h0D f1D ngD (fun _ e => nomatch e)
      have da7 := da.same (s3.trans (s4.trans (s5.trans (s6.trans s7))))
      refine ⟨accv, e1, by rw [da.length]; exact l7, ?_⟩
      rw [hPv]
      refine ⟨γ6, F7, restR ρ2 ρ7 vs, accv ++ [y], acc ++ [d7], ?_, da7.append (.cons dd7 .nil), q7⟩
      exact (rg.poke (o := .lst (accv ++ [y])) e2 h0D e3 e4 (fun u hu => by rw [e1] at hu; cases hu; exact fun z => z ⟨nofun, nofun⟩)).hold upd_same e2 h0D e3 e4
    · rename_i c
      rw [if_neg c] at q5
      rw [hPv]
      exact ⟨γ5, F5, restR ρ2 ρ5 vs, accv, acc, ret r5 (s4.trans s5) on4, da.same (s3.trans (s4.trans s5)), q5⟩
  · obtain ⟨γ2, F2, ρ2, accv, acc, r2, da, q2⟩ := h2
    rw [← hn, List.drop_length] at q2
    obtain ⟨rg, e1, e2, e3, e4⟩ := r2.letgo h0D f1D ngD (fun _ e => nomatch e)
    exact h _ _ _ _ _ (.fr (.list acc)) (rg.unbase r1.f0 r1.fnew) (s1.trans rg.f0) ⟨Dd1, rfl, .lst e1 da, e2, h0D, e3, e4⟩ q2
/-! ### a def's body -/
def Wof (n : Nat) (u : US) : WD := fun as Q => u { nx := fun ρ => outQ (hasG as) Q .non ρ, rt := fun d ρ => outQ (hasG as) Q d ρ } (start0 n as)
section
variable {P : Program} {w : World} {mg : Str → Option Value} {base : Heap} {x : Str} {st : Stmt} {N ps : List Str} {k : Nat}
theorem out_ok {H H' F F' : Hp} {γ γ' : GAt} {σ' : L2.St} {ρ' : Rho} {as : List SV} {Q : QD} {d : D} {v : V} {R : VK} (hg : hasG as = γ.isSome) (r : Rp GP K H F γ γ' σ' H' F' ρ') (dd : Dd K F' v d) (o : outQ (hasG as) Q d ρ')
    (q : ∀ v H' F' γ' d m, LamX.Tabs GP.T H' → (∀ a o, H a = some o → ¬ GA GP γ a → H' a = some o) → (∀ a o, H a = some o → ∃ u, H' a = some u) → Same F F' → Same F' H' → (∀ a o, F' a = some o → F a = some o ∨ H a = none ∨ ∃ xs, o = .tup xs) → Dd K F' v d →
      GenAfter GP H H' F' γ γ' m → Q d m → R v H') : R v H' := by
  unfold outQ at o
  cases e : γ with
  | none =>
    rw [e] at hg
    rw [hg] at o
    exact q v H' F' γ' d none r.tabs r.keep r.tr r.f0 r.sub r.fnew dd e o
  | some p =>
    rw [e] at hg
    have hg' : hasG as = true := hg
    rw [hg', if_pos rfl] at o
    cases g : gN ρ' with
    | none => rw [g] at o; exact o.elim
    | some m =>
      rw [g] at o
      obtain ⟨i, hi⟩ := gN_at g
      obtain ⟨p', h1, h2, h3, h4⟩ := r.gen i m hi
      obtain ⟨q', g1, g2, g3, g4⟩ := r.g0 p e
      rw [h1] at g1
      cases g1
      obtain ⟨f1, f2⟩ := r.gf p' h1
      exact q v H' F' γ' d (some m) r.tabs r.keep r.tr r.f0 r.sub r.fnew dd ⟨p, p', e, h1, g2, g3, g4, h3, f1, f2⟩ o
theorem _root_.CD.Def.calD (D : Def K mg x st ps) (S : FnScope N ps (defScope st)) (u : US)
    (body : ∀ (f : Addr) (cdv : Value) (A : Around) (outer : List PySem.Env) (s : Shared) (H : Hp) (E : XK), A.guards = some [] → Room k (A.deeper (envOfC x (defScope st) s.heap.objs.size f cdv)) →
      ∃ t, PSs (cxOf CX0 P w K mg base N x (defScope st) f cdv A outer s H E).nox (defBody st) t ∧ ∀ B, LS GP K B t u) : CalG P w K mg base (k + 1) x ps (spL GP K ps.length (Wof N.length u)) := by
  refine D.calG S (fun vs H Q E h => spL_len h) fun f cdv A outer s H vs Q E hgd hr h => ?_
  obtain ⟨t, ht, hl⟩ := body f cdv A outer s H E hgd hr
  refine ⟨t, ht, ?_⟩
  obtain ⟨F, γ, as, Qd, h1, h2, h3, h4, h5, h6, hT, h7, h8⟩ := h
  have hn : vs.length ≤ N.length := by
    have := congrArg List.length S.pre
    rw [List.length_take] at this
    rw [h2.length, h5]
    omega
  have r := start_rp (N := N) h1 h2 h3 h4 h6 hT hn
  haveI : FinerC GP K (H, F, γ) H F γ := ⟨id, rfl⟩
  refine hl (H, F, γ) _ _ r h7 (fun σ' H' F' γ' ρ' r' q' => ?_) (fun _ _ _ _ _ _ q' => q'.elim) (fun _ _ _ _ _ _ q' => q'.elim) (fun σ' v H' F' γ' ρ' d r' dd q' => ?_)
  · exact out_ok h3 r' Dd.non q' fun v H' F' γ' d m a0 a1 a2 a3 a4 a5 a6 a7 a8 => h8 v H' F' _ d m a0 a1 a2 a3 a4 a5 a6 a7 a8
  · exact out_ok h3 r' dd q' fun v H' F' γ' d m a0 a1 a2 a3 a4 a5 a6 a7 a8 => h8 v H' F' _ d m a0 a1 a2 a3 a4 a5 a6 a7 a8
/-- the law's: no draws ahead of it -/
theorem _root_.CD.Def.calDL (D : Def K mg x st ps) (S : FnScope N ps (defScope st)) (u : US)
    (body : ∀ (f : Addr) (cdv : Value) (A : Around) (outer : List PySem.Env) (s : Shared) (H : Hp) (E : XK), A.guards = some [] → Room k (A.deeper (envOfC x (defScope st) s.heap.objs.size f cdv)) →
      ∃ t, PSs (cxOf CX0 P w K mg base N x (defScope st) f cdv A outer s H E).nox (defBody st) t ∧ ∀ B, B.2.2 = none → LS GP K B t u) : CalG P w K mg base (k + 1) x ps (spL GP K ps.length fun as Q => hasG as = false ∧ Wof N.length u as Q) := by
  refine D.calG S (fun vs H Q E h => spL_len h) fun f cdv A outer s H vs Q E hgd hr h => ?_
  obtain ⟨t, ht, hl⟩ := body f cdv A outer s H E hgd hr
  refine ⟨t, ht, ?_⟩
  obtain ⟨F, γ, as, Qd, h1, h2, h3, h4, h5, h6, hT, ⟨h0, h7⟩, h8⟩ := h
  have hn : vs.length ≤ N.length := by
    have := congrArg List.length S.pre
    rw [List.length_take] at this
    rw [h2.length, h5]
    omega
  have r := start_rp (N := N) h1 h2 h3 h4 h6 hT hn
  have g0 : γ = none := by
    rw [h0] at h3
    cases γ with
    | none => rfl
    | some _ => cases h3
  haveI : FinerC GP K (H, F, γ) H F γ := ⟨id, rfl⟩
  refine hl (H, F, γ) g0 _ _ r h7 (fun σ' H' F' γ' ρ' r' q' => ?_) (fun _ _ _ _ _ _ q' => q'.elim) (fun _ _ _ _ _ _ q' => q'.elim) (fun σ' v H' F' γ' ρ' d r' dd q' => ?_)
  · exact out_ok h3 r' Dd.non q' fun v H' F' γ' d m a0 a1 a2 a3 a4 a5 a6 a7 a8 => h8 v H' F' _ d m a0 a1 a2 a3 a4 a5 a6 a7 a8
  · exact out_ok h3 r' dd q' fun v H' F' γ' d m a0 a1 a2 a3 a4 a5 a6 a7 a8 => h8 v H' F' _ d m a0 a1 a2 a3 a4 a5 a6 a7 a8
/-- less asked -/
theorem CalG.impD {n : Nat} {W W' : WD} (C : CalG P w K mg base k x ps (spL GP K n W)) (h : ∀ as Q, W' as Q → W as Q) : CalG P w K mg base k x ps (spL GP K n W') := by
  obtain ⟨f, fd, G, r⟩ := C
  refine ⟨f, fd, ⟨fun vs H Q E q => ?_, fun A outer s H args us vs Q E hg hr e0 hb r q => ?_⟩, r⟩
  · obtain ⟨F, γ, as, Qd, h1, h2, h3, h4, h5, h6, hT, h7, h8⟩ := q
    exact G.len vs H Q E ⟨F, γ, as, Qd, h1, h2, h3, h4, h5, h6, hT, h _ _ h7, h8⟩
  · obtain ⟨F, γ, as, Qd, h1, h2, h3, h4, h5, h6, hT, h7, h8⟩ := q
    exact G.run A outer s H args us vs Q E hg hr e0 hb r ⟨F, γ, as, Qd, h1, h2, h3, h4, h5, h6, hT, h _ _ h7, h8⟩
end
end DL
set_option maxHeartbeats 3200000
/-! own rules 6: set(l), l a list of ints, with its ledger; sorted(set(l)) -/
namespace CD
open PySem PySem.Spec PyProof.Rows L2
def newSet (w : World) : Obj := { cls := .type "set", dict := none, data := .set #[] 0 (.fresh 0 0 (!w.params.followText "set-order")) }
section
variable {P : Program} {w : World} {A : Around} {E : Value → Shared → Prop} {s : Shared}
theorem new_set (a : Value) {Q : Value → Shared → Prop} (h : Q (.ref s.heap.objs.size) { s with heap := s.heap.push (newSet w) }) : codeAny (model P w) A (.call (.builtin "set.__new__") ⟨[.type "set", a], []⟩) (wants Q E) s := code_set_led1 a h
/-- the loop of set(l), over the new iterator -/
theorem fill_set {l : Addr} {its : Array Value} (ns : List Int) {h0 : Heap} {R : Result → Shared → Prop} (hh : A.handled = none) (hl : h0.IsList l its) (hi : IntsAre its.toList ns) (hb : ns.length + 1 < scanBound) (hs : s.heap = ((h0.push (newSet w)).push { cls := .type "list_iterator", data := .fields #[.ref l, .int 0 0] }))
    (h : ∀ s' c, (∀ b o, h0.get? b = some o → s'.heap.get? b = some o) → s'.gens = s.gens → s'.drawn = s.drawn → s'.os = s.os → c ≤ ns.length → SetR w s'.heap h0.objs.size (fun j => decide (j ∈ ns)) c → R (.ok (.ret .none)) s') :
    codeAny (model P w) A (.builtin "set.update.loop" ⟨[.ref h0.objs.size, .ref (h0.push (newSet w)).objs.size], []⟩) R s := by
  rw [show (h0.push (newSet w)).objs.size = h0.objs.size + 1 from Heap.size_push ..]
  have hsz : its.size = ns.length := by
    have q := IntsAre.length hi
    rwa [Array.length_toList] at q
  have z1 : (h0.push (newSet w)).objs.size = h0.objs.size + 1 := Heap.size_push ..
  have hll : l < h0.objs.size := by
    obtain ⟨o, ho, _⟩ := hl
    exact Heap.lt_size ho
  have n1 : l ≠ h0.objs.size + 1 := Nat.ne_of_lt (Nat.lt_succ_of_lt hll)
  have n2 : h0.objs.size ∉ [h0.objs.size + 1, l] := by
    intro m
    rcases List.mem_cons.mp m with e | e
    · exact absurd e (Nat.ne_of_lt (Nat.lt_succ_self _))
    · exact absurd (List.mem_singleton.mp e) (Nat.ne_of_gt hll)
  have g0 : s.heap.get? h0.objs.size = some (newSet w) := by
    rw [hs]
    exact Heap.get?_push_of_some _ (Heap.get?_push_size _ rfl)
  have g1 : s.heap.get? (h0.objs.size + 1) = some { cls := .type "list_iterator", data := .fields #[.ref l, .int 0 0] } := by
    rw [hs, ← z1]
    exact Heap.get?_push_size _ rfl
  have val : ∀ (i : Nat) (v : Value), its[i]? = some v → ∃ k t, ns[i]? = some k ∧ v = .int k t := fun i v hv => by
    have b : i < ns.length := by
      rw [← hsz]
      exact (Array.getElem?_eq_some_iff.mp hv).1
    have q := IntsAre.int_at hi i v (by rw [Array.getElem?_toList]; exact hv)
    obtain ⟨t, e⟩ := q
    rw [List.getD_eq_getElem?_getD, List.getElem?_eq_getElem b] at e
    exact ⟨ns[i], t, List.getElem?_eq_getElem b, e⟩
  have hl2 : s.heap.IsList l its := by
    rw [hs]
    exact (hl.push _).push _
  refine set_update_ints ((Walks.list (by simp [hh]) (h0.objs.size + 1) l n1 its).toS) h0.objs.size n2 ns hsz hb val its.size 0 s (by omega) (Nat.zero_le _) ⟨⟨_, g1, rfl, rfl⟩, hl2⟩ ⟨0, Nat.le_refl 0, setR_new_at g0⟩ fun s' c hm hc hS => ?_
  refine h s' c (fun b o e => ?_) hm.gens hm.drawn hm.os (by omega) hS
  have bl := Heap.lt_size e
  refine hm.heap b o (fun m => ?_) (by rw [hs]; exact Heap.get?_push_of_some _ (Heap.get?_push_of_some _ e))
  rcases List.mem_cons.mp m with x | x
  · exact absurd x (Nat.ne_of_lt bl)
  · rcases List.mem_cons.mp x with y | y
    · exact absurd y (Nat.ne_of_lt (Nat.lt_succ_of_lt bl))
    · cases y
theorem call_set_lst {l : Addr} {its : Array Value} (ns : List Int) {Q : Value → Shared → Prop} (hh : A.handled = none) (hl : s.heap.IsList l its) (hi : IntsAre its.toList ns) (hb : ns.length + 1 < scanBound)
    (h : ∀ (h' : Heap) (tk c : Nat), SetR w h' s.heap.objs.size (fun j => decide (j ∈ ns)) c → c ≤ ns.length → (∀ b o, s.heap.get? b = some o → h'.get? b = some o) → Q (.ref s.heap.objs.size) { s with heap := h', toks := tk }) :
    wpAny (model P w) A (call (.type "set") [.ref l]) Q E s := by
  have f1 := PySem.F.called_set.made
  have f2 := PySem.F.called_set.sub
  obtain ⟨f3, f4, f5⟩ := PySem.F.called_set.mro
  have f6 := PySem.F.called_set.notType
  have f7 := PySem.F.called_set.canCreate
  have f8 := PySem.F.typeCall_set_1 (.ref l)
  refine wpAny_call (codeAny_of_tree ?_)
  show wpAny _ _ (callAny (.type "set") _) _ _ _
  refine wpAny_pure ⟨Code.quiet_builtin _ (by decide +kernel), codeAny_builtin PySem.F.entry_type_call ?_⟩
  rw [Around.under_plain (weight_type_call_type "set" [.ref l] []) rfl]
  repeat any_goals first | assumption | wp_step
  refine codeAny_mono (new_set (.ref l) (E := E) (Q := fun obj t => obj = .ref s.heap.objs.size ∧ t = { s with heap := s.heap.push (newSet w) }) ⟨rfl, rfl⟩) fun r t hr => ?_
  match r, hr with
  | .error _, hr => exact hr
  | .ok .next, hr => exact hr.elim
  | .ok .brk, hr => exact hr.elim
  | .ok .cont, hr => exact hr.elim
  | .ok (.ret obj), hr =>
    obtain ⟨rfl, rfl⟩ := hr
    have gS : (s.heap.push (newSet w)).get? s.heap.objs.size = some (newSet w) := Heap.get?_push_size _ rfl
    have tS : Shared.TypeIs { s with heap := s.heap.push (newSet w) } (.ref s.heap.objs.size) "set" := ⟨_, gS, rfl⟩
    have f9 := PySem.F.called_set.init.lookup
    have f10 := PySem.F.called_set.init.bind (.ref s.heap.objs.size)
    repeat any_goals first | assumption | wp_step
    refine codeAny_mono (codeAny_call_builtin (R := wants (fun u t => u = .none ∧ ∃ h' tk c, t = { s with heap := h', toks := tk } ∧ SetR w h' s.heap.objs.size (fun j => decide (j ∈ ns)) c ∧ c ≤ ns.length ∧ ∀ b o, s.heap.get? b = some o → h'.get? b = some o) E)
      PySem.F.called_set.init.plain PySem.F.entry_set_init (check_set_init_1 tS ?_)) fun r2 t2 hr2 => ?_
    · have g1 := PySem.F.sub_list_set
      have g2 := PySem.F.sub_list_frozenset
      have g3 : (Value.type "list" == Value.type "dict") = false := by decide
      have hl2 : (s.heap.push (newSet w)).IsList l its := hl.push _
      obtain ⟨ob, hob, hcl, en, hda⟩ := id hl2
      obtain ⟨oc, odi, oda, osl⟩ := ob
      dsimp only at hcl hda
      subst hcl hda
      unfold Builtin.«set.__init__» noKeywords Builtin.Frozenset.updateFrom
      generalize hpi : pyIter = pi
      wp_walk
      subst hpi
      refine wpAny_pyIter_list hl2 (wpAny_bind (wpAny_runValue ?_))
      refine fill_set ns (h0 := s.heap) (by simp [hh]) hl hi hb rfl fun t c k e1 e2 e3 hc hS => ?_
      obtain ⟨th, tg, td, tt, tos⟩ := t
      dsimp only at e1 e2 e3 hS k
      subst e1 e2 e3
      show wpAny _ _ _ _ _ _
      refine wpAny_pure ?_
      show wpAny _ _ (ret Value.none) _ _ _
      exact wpAny_pure ⟨rfl, th, tt, c, rfl, hS, hc, k⟩
    · match r2, hr2 with
      | .error _, hr2 => exact hr2
      | .ok .next, hr2 => exact hr2.elim
      | .ok .brk, hr2 => exact hr2.elim
      | .ok .cont, hr2 => exact hr2.elim
      | .ok (.ret u), hr2 =>
        obtain ⟨rfl, h', tk, c, rfl, hS, hc, hk⟩ := hr2
        repeat any_goals first | assumption | wp_step
        exact h _ _ _ hS hc hk
end
section
variable {X : Cx}
/-- set(l), l a list of ints -/
def rSetLs (K : PySem.W.Frag) (w : World) : List V → Hp → VK → Prop := fun vs H Q => ∃ (a : Addr) (ns : List Int), vs = [V.ref a] ∧ SqL K H a (ns.map V.int) ∧ ns.length ≤ 1000 ∧ ∀ p c, H p = none → c ≤ ns.length → Q (.ref p) (upd H p (SetO w p (fun j => decide (j ∈ ns)) c))
theorem cr_setLs (hc : X.calm = true) : CallR X (.type "set") (rSetLs X.K X.w) := by
  intro pins s σ H vs us Q I r h
  obtain ⟨a, ns, rfl, hs, hz, q⟩ := h
  obtain ⟨its, rv, hl, _⟩ := I.list hs
  rw [Vals.ref1 r]
  exact call_set_lst ns (I.ok.hd hc) hl.isList rv.ints (by unfold scanBound; omega) fun h' tk c hS hcl hk => ⟨.ref _, upd H s.heap.objs.size (SetO X.w s.heap.objs.size (fun j => decide (j ∈ ns)) c), I.laid (t' := tk) hk (Nat.le_refl _) (setO_new hS), rfl, q _ c (I.hok.fresh (Nat.le_refl _)) hcl⟩
end
end CD
set_option maxHeartbeats 1000000
/-! own rules 7: enumerate(t), t a tuple -/
namespace CD
open PySem PySem.Spec PyProof.Rows L2
theorem new_enum {v : Value} {o : Obj} {H0 : Heap → Prop} (B : Begins v o H0) :
    Meets (Builtin.«enumerate.__new__» ⟨[.type "enumerate", v], []⟩) (fun _ R s => H0 s.heap ∧ R (.ok (.ret (.ref (s.heap.push o).objs.size)))
      { s with heap := (s.heap.push o).push { cls := .type "enumerate", data := .fields #[.none, .bool false, .ref s.heap.objs.size, rawInt 0, .none, .none] } }) :=
  .of_wp fun prog w A R s hh => by
    obtain ⟨hp, g, d, tk, os⟩ := s
    obtain ⟨h0, hR⟩ := hh
    have sub := sub_enumerate
    have it : ∀ {A' : Around} {E Q : Value → Shared → Prop}, Q (.ref hp.objs.size) ⟨hp.push o, g, d, tk, os⟩ → wpAny (model prog w) A' (pyIter v) Q E ⟨hp, g, d, tk, os⟩ := fun q => B.iter prog w _ _ ⟨hp, g, d, tk, os⟩ _ h0 q
    wp_walk using it
    refine wpAny_stack_any fun below => wpAny_pure ?_
    split
    · rename_i cl _ _ _ _ _
      cases (cl == Value.type "enumerate") <;>
      · wp_walk using it
        exact ⟨_, rfl, hR⟩
    · wp_walk using it
      exact ⟨_, rfl, hR⟩
section
variable {prog : Program} {w : World} {A : Around} {E : Value → Shared → Prop} {s : Shared}
theorem enum_of {v : Value} {o : Obj} {H0 : Heap → Prop} {Q : Value → Shared → Prop} (B : Begins v o H0) (h0 : H0 s.heap)
    (h : ∀ h', IsEnum h' (s.heap.objs.size + 1) s.heap.objs.size 0 .none → h'.get? s.heap.objs.size = some o → (∀ b u, s.heap.get? b = some u → h'.get? b = some u) → Q (.ref (s.heap.objs.size + 1)) { s with heap := h' }) :
    wpAny (model prog w) A (call (.type "enumerate") [v]) Q E s := by
  have sz : (s.heap.push o).objs.size = s.heap.objs.size + 1 := Heap.size_push ..
  refine callType_new F.called_enumerate (by decide) (F.typeCall_enumerate_1 _) (F.newCall_enumerate_1 _) (fun x => F.args_object_init_2 x _) F.entry_enumerate_new (new_enum B) ⟨h0, ?_⟩
  show _ ∧ _
  rw [sz]
  have ie : IsEnum ((s.heap.push o).push { cls := .type "enumerate", data := .fields #[.none, .bool false, .ref s.heap.objs.size, rawInt 0, .none, .none] }) (s.heap.objs.size + 1) s.heap.objs.size 0 .none := by
    have z := Heap.get?_push_size (s.heap.push o) (o := { cls := .type "enumerate", data := .fields #[.none, .bool false, .ref s.heap.objs.size, rawInt 0, .none, .none] }) rfl
    rwa [sz] at z
  exact ⟨⟨_, ie, rfl⟩, h _ ie (Heap.get?_push_of_some _ (Heap.get?_push_size _ B.free)) fun b u x => Heap.get?_push_of_some _ (Heap.get?_push_of_some _ x)⟩
end
def iEnum1 (K : PySem.W.Frag) (ta : TA) : TI := fun σ H R => ta σ H fun vs H1 => ∃ a xs, vs = [.ref a] ∧ SqT K H1 a xs ∧ R (IteT K a 0) H1
theorem pi_enum1 {X : Cx} {e : Expr} {ta : TA} {p pos tpos : Pos} {elts : List Expr} {kk : Nat} (hg : Gl X "enumerate") (hm : X.mg "enumerate" = none) (ha : PA X [e] ta) (hs : starEach [e] X.env = [(false, eval e X.env)] := by rfl) :
    PI X (.Tuple elts kk tpos) (.Call (.Name "enumerate" p) [e] [] pos) (iEnum1 X.K ta) := by
  refine ⟨fun pins s σ H R I h => ?_⟩
  refine Call_ (ld_blt I hg hm boot_enumerate (PyProof.Rows.callWith_type1 (thn (ha.run pos pins s σ H _ I h) fun us s2 ⟨vs, H2, I2, r1, q1⟩ => ?_) hs rfl))
  obtain ⟨a, xs, rfl, hq, q⟩ := q1
  obtain rfl := Vals.ref1 r1
  obtain ⟨its, rv, pt, hz⟩ := I2.tuple hq
  refine enum_of (PySem.begins_tuple a its.toArray) (show s2.heap.IsTuple a its.toArray from pt) fun h' he hit hkeep => wpAny_pyIter_enum he ?_
  have I3 : Inv X pins σ H2 { s2 with heap := h' } := I2.kept (t' := s2.toks) hkeep
  have hit0 : h'.IsTupleIter s2.heap.objs.size a 0 := ⟨_, hit, rfl, rfl⟩
  refine ⟨s2.heap.objs.size + 1, [s2.heap.objs.size + 1, s2.heap.objs.size], _, _, H2, rfl, I3, turn_enumT a (s2.heap.objs.size + 1) s2.heap.objs.size 0, ?_, fun b hb => ?_, q⟩
  · exact ⟨⟨.none, he⟩, hit0, Nat.succ_ne_self _⟩
  · have hle : s2.heap.objs.size ≤ b := by
      rcases (by simpa using hb : b = s2.heap.objs.size + 1 ∨ b = s2.heap.objs.size) with z | z
      · rw [z]; exact Nat.le_succ _
      · rw [z]; exact Nat.le_refl _
    exact I2.fpOk hle (I2.hok.fresh hle)
end CD
set_option maxHeartbeats 400000
/-! lifted readings 5: operators, built-ins, methods -/
namespace DL
open PySem PySem.Spec PyProof.Rows L2 CD
variable {GP : GenP} {K : PySem.W.Frag}
variable {B : Hp × Hp × GAt}
/-! ### == of scalars -/
def scD : D → D → Option Bool
  | .non, .non => some true | .non, .int _ => some false | .int _, .non => some false | .non, .bl _ => some false | .bl _, .non => some false | .non, .str _ => some false | .str _, .non => some false
  | .int i, .int j => some (decide (i = j)) | .bl i, .bl j => some (decide (i = j)) | .str i, .str j => some (decide (i = j))
  | .int _, .str _ => some false | .str _, .int _ => some false | .bl _, .str _ => some false | .str _, .bl _ => some false
  | _, _ => none
def pEq : P2 := fun x y Q => match scD x y with
  | some b => Q (.val (.bl b))
  | none => False
def pNe : P2 := fun x y Q => match scD x y with
  | some b => Q (.val (.bl (!b)))
  | none => False
theorem sc_ok {F H : Hp} {x y : V} {dx dy : D} {b : Bool} (c1 : Cnt K F H x dx) (c2 : Cnt K F H y dy) (e : scD dx dy = some b) : scal x y = true ∧ decide (x = y) = b := by
  cases dx <;> cases dy <;> first
    | (cases e; done)
    | (have e1 := c1.int; have e2 := c2.int; subst e1; subst e2; cases e; exact ⟨rfl, by simp⟩)
    | (have e1 := c1.non; have e2 := c2.non; subst e1; subst e2; cases e; exact ⟨rfl, by simp⟩)
    | (have e1 := c1.bl; have e2 := c2.bl; subst e1; subst e2; cases e; exact ⟨rfl, by simp⟩)
    | (have e1 := c1.str; have e2 := c2.str; subst e1; subst e2; cases e; exact ⟨rfl, by simp⟩)
    | (have e1 := c1.non; have e2 := c2.int; subst e1; subst e2; cases e; exact ⟨rfl, by simp⟩)
    | (have e1 := c1.int; have e2 := c2.non; subst e1; subst e2; cases e; exact ⟨rfl, by simp⟩)
    | (have e1 := c1.non; have e2 := c2.bl; subst e1; subst e2; cases e; exact ⟨rfl, by simp⟩)
    | (have e1 := c1.bl; have e2 := c2.non; subst e1; subst e2; cases e; exact ⟨rfl, by simp⟩)
    | (have e1 := c1.non; have e2 := c2.str; subst e1; subst e2; cases e; exact ⟨rfl, by simp⟩)
    | (have e1 := c1.str; have e2 := c2.non; subst e1; subst e2; cases e; exact ⟨rfl, by simp⟩)
    | (have e1 := c1.int; have e2 := c2.str; subst e1; subst e2; cases e; exact ⟨rfl, by simp⟩)
    | (have e1 := c1.str; have e2 := c2.int; subst e1; subst e2; cases e; exact ⟨rfl, by simp⟩)
    | (have e1 := c1.bl; have e2 := c2.str; subst e1; subst e2; cases e; exact ⟨rfl, by simp⟩)
    | (have e1 := c1.str; have e2 := c2.bl; subst e1; subst e2; cases e; exact ⟨rfl, by simp⟩)
theorem lr_eq : LR K rEq pEq := by
  intro F H x y dx dy R Q s c1 c2 p h
  unfold pEq at p
  cases e : scD dx dy with
  | none => rw [e] at p; exact p.elim
  | some b =>
    rw [e] at p
    obtain ⟨z1, z2⟩ := sc_ok c1 c2 e
    exact ⟨z1, by rw [z2]; exact h _ _ (.val _) (Same.refl _) (Dd.bl b) p⟩
theorem lr_ne : LR K rNe pNe := by
  intro F H x y dx dy R Q s c1 c2 p h
  unfold pNe at p
  cases e : scD dx dy with
  | none => rw [e] at p; exact p.elim
  | some b =>
    rw [e] at p
    obtain ⟨z1, z2⟩ := sc_ok c1 c2 e
    exact ⟨z1, by rw [z2]; exact h _ _ (.val _) (Same.refl _) (Dd.bl _) p⟩
/-- x is None -/
def isNon : D → Bool
  | .non => true
  | _ => false
def pIsN : P2 := fun x y Q => match y with
  | .non => Q (.val (.bl (isNon x)))
  | _ => False
def pNotN : P2 := fun x y Q => match y with
  | .non => Q (.val (.bl (!isNon x)))
  | _ => False
theorem isNon_ok {F H : Hp} {x : V} {dx : D} (c : Cnt K F H x dx) : decide (x = .non) = isNon dx := by
  rcases c with h | ⟨a, rfl, h⟩ | ⟨_, _, _, rfl, rfl, _⟩
  · cases h <;> first | rfl | exact decide_eq_false (fun e => nomatch e)
  · cases h <;> exact decide_eq_false (fun e => nomatch e)
  · exact decide_eq_false (fun e => nomatch e)
theorem lr_isN : LR K (fun x y H Q => y = .non ∧ Q (.bl (decide (x = .non))) H) pIsN := by
  intro F H x y dx dy R Q s c1 c2 p h
  unfold pIsN at p
  split at p
  · exact ⟨c2.non, by rw [isNon_ok c1]; exact h _ _ (.val _) (Same.refl _) (Dd.bl _) p⟩
  · exact p.elim
theorem lr_notN : LR K (fun x y H Q => y = .non ∧ Q (.bl (!decide (x = .non))) H) pNotN := by
  intro F H x y dx dy R Q s c1 c2 p h
  unfold pNotN at p
  split at p
  · exact ⟨c2.non, by rw [isNon_ok c1]; exact h _ _ (.val _) (Same.refl _) (Dd.bl _) p⟩
  · exact p.elim
/-! ### data as data -/
mutual
inductive PyOf : D → PyData → Prop
  | non : PyOf .non .none
  | bl (b : Bool) : PyOf (.bl b) (.bool b)
  | int (i : Int) : PyOf (.int i) (.int i)
  | str (x : Str) : PyOf (.str x) (.str x)
  | list {ds : List D} {ps : List PyData} : PyOfL ds ps → PyOf (.list ds) (.list ps)
  | tup {ds : List D} {ps : List PyData} : PyOfL ds ps → PyOf (.tup ds) (.tuple ps)
inductive PyOfL : List D → List PyData → Prop
  | nil : PyOfL [] []
  | cons {d : D} {ds : List D} {p : PyData} {ps : List PyData} : PyOf d p → PyOfL ds ps → PyOfL (d :: ds) (p :: ps)
end
section
variable {F H : Hp}
mutual
theorem Dd.dp (s : Same F H) : ∀ {d : D} {p : PyData}, PyOf d p → ∀ {v : V}, Dd K F v d → Dp K H v p
  | _, _, .non, _, h => by cases h; exact .non
  | _, _, .bl b, _, h => by cases h; exact .bl b
  | _, _, .int i, _, h => by cases h; exact .int i
  | _, _, .str x, _, h => by cases h; exact .str x
  | _, _, .list q, _, h => by
    cases h with
    | lst h g => exact .lst (.inl (.inl (s _ _ h))) (DdL.dp s q g)
  | _, _, .tup q, _, h => by
    cases h with
    | tup h g => exact .tup (.inl (.inl (s _ _ h))) (DdL.dp s q g)
theorem DdL.dp (s : Same F H) : ∀ {d : List D} {p : List PyData}, PyOfL d p → ∀ {v : List V}, DdL K F v d → DpAll K H v p
  | _, _, .nil, _, h => by cases h; exact .nil
  | _, _, .cons q r, _, h => by
    cases h with
    | cons h g => exact .cons (Dd.dp s q h) (DdL.dp s r g)
end
theorem Cnt.dp {v : V} {d : D} {p : PyData} (s : Same F H) (c : Cnt K F H v d) (q : PyOf d p) : Dp K H v p := by
  rcases c with h | ⟨a, rfl, h⟩ | ⟨a, xs, ds, rfl, rfl, h, g⟩
  · exact Dd.dp s q h
  · cases h with
    | lst h g =>
      cases q with
      | list q => exact .lst (.inl (.inl h)) (DdL.dp s q g)
    | dK _ _ => cases q
    | dT _ _ => cases q
    | set _ _ _ _ => cases q
  · cases q with
    | tup q => exact .tup ((same_none H).tup h) (DdL.dp (same_none H) q g)
end
theorem PyOfL.ints : ∀ ns : List Int, PyOfL (ns.map D.int) (ns.map PyData.int)
  | [] => .nil
  | n :: r => .cons (.int n) (PyOfL.ints r)
def pEqD : P2 := fun x y Q => ∃ p q, PyOf x p ∧ PyOf y q ∧ SeqAt.shaped p = true ∧ SeqAt.shaped q = true ∧ Q (.val (.bl (PyData.eqv p q)))
def pNeD : P2 := fun x y Q => ∃ p q, PyOf x p ∧ PyOf y q ∧ SeqAt.shaped p = true ∧ SeqAt.shaped q = true ∧ Q (.val (.bl (!PyData.eqv p q)))
theorem lr_eqD : LR K (rEqD K) pEqD := by
  intro F H x y dx dy R Q s c1 c2 p h
  obtain ⟨p, q, h1, h2, h3, h4, h5⟩ := p
  exact ⟨p, q, c1.dp s h1, c2.dp s h2, h3, h4, h _ _ (.val _) (Same.refl _) (Dd.bl _) h5⟩
theorem lr_neD : LR K (rNeD K) pNeD := by
  intro F H x y dx dy R Q s c1 c2 p h
  obtain ⟨p, q, h1, h2, h3, h4, h5⟩ := p
  exact ⟨p, q, c1.dp s h1, c2.dp s h2, h3, h4, h _ _ (.val _) (Same.refl _) (Dd.bl _) h5⟩
structure RepOk (d : PyData) : Prop where
  s : d.showable = true
  n : d.hasDict = false
  p : d.depth ≤ 60
  z : d.shown.length ≤ sizeLine
def pRepr : PN := fun ds Q => match ds with
  | [d] => ∃ p, PyOf d p ∧ RepOk p ∧ Q (.val (.str p.shown))
  | _ => False
/-! ### sequences -/
def pIxL : P2 := fun x y Q => match x, y with
  | .list ds, .int i => match atI ds i with
    | some d => Q (.val d)
    | none => False
  | _, _ => False
def pIxT : P2 := fun x y Q => match x, y with
  | .tup ds, .int i => match atI ds i with
    | some d => Q (.val d)
    | none => False
  | _, _ => False
theorem atI_dd {F : Hp} {xs : List V} {ds : List D} {i : Int} {d : D} (g : DdL K F xs ds) (e : atI ds i = some d) : ∃ v, atI xs i = some v ∧ Dd K F v d := by
  unfold atI at e ⊢
  rw [g.length]
  cases q : ixN ds.length i with
  | none => rw [q] at e; cases e
  | some j =>
    rw [q] at e
    exact g.get e
theorem lr_ixL : LR K (rIxL K) pIxL := by
  intro F H x y dx dy R Q s c1 c2 p h
  unfold pIxL at p
  split at p
  · rename_i ds i
    split at p
    · rename_i d e
      obtain ⟨a, xs, rfl, hx, g⟩ := c1.list s
      obtain ⟨v, e1, e2⟩ := atI_dd g e
      exact ⟨a, xs, i, v, rfl, c2.int, .inl (.inl hx), e1, h _ _ (.val _) (Same.refl _) e2 p⟩
    · exact p.elim
  · exact p.elim
theorem lr_ixT : LR K (rIxT K) pIxT := by
  intro F H x y dx dy R Q s c1 c2 p h
  unfold pIxT at p
  split at p
  · rename_i ds i
    split at p
    · rename_i d e
      obtain ⟨a, xs, rfl, hx, g⟩ := c1.tup s
      obtain ⟨v, e1, e2⟩ := atI_dd g e
      exact ⟨a, xs, i, v, rfl, c2.int, hx, e1, h _ _ (.val _) (Same.refl _) e2 p⟩
    · exact p.elim
  · exact p.elim
theorem cutV_dd {F : Hp} {xs : List V} {ds : List D} (l h : Option Int) (g : DdL K F xs ds) : DdL K F (cutV xs l h) ((ds.drop (HT.sIx ds.length 0 l)).take (HT.sIx ds.length ds.length h - HT.sIx ds.length 0 l)) := by
  unfold cutV
  rw [g.length]
  exact (g.drop _).take _
def cutD (ds : List D) (l h : Option Int) : List D := (ds.drop (HT.sIx ds.length 0 l)).take (HT.sIx ds.length ds.length h - HT.sIx ds.length 0 l)
def pSlL : PS3 := fun x l h Q => match x with
  | .list ds => Q (.fr (.list (cutD ds l h)))
  | _ => False
def pSlT : PS3 := fun x l h Q => match x with
  | .tup ds => Q (.fr (.tup (cutD ds l h)))
  | _ => False
theorem lsl_L : LSl K (rSlL K) pSlL := by
  intro F H x dx l hh R Q s k p h
  unfold pSlL at p
  split at p
  · rename_i ds
    obtain ⟨a, xs, rfl, hx, g⟩ := k.list s
    exact ⟨a, xs, rfl, .inl (.inl hx), fun p' np => h _ _ (.fr (.list _)) (same_upd np) ⟨p', rfl, np, .lst upd_same (cutV_dd l hh g)⟩ p⟩
  · exact p.elim
def pCat : P2 := fun x y Q => match x, y with
    | .list a, .list b => a.length + b.length ≤ sizeLine ∧ Q (.fr (.list (a ++ b)))
    | _, _ => False
theorem lr_cat : LR K rCat pCat := by
  intro F H x y dx dy R Q s c1 c2 p h
  unfold pCat at p
  split at p
  · obtain ⟨a, xs, rfl, hx, g⟩ := c1.list s
    obtain ⟨b, ys, rfl, hy, g'⟩ := c2.list s
    exact ⟨a, b, xs, ys, rfl, rfl, hx, hy, by rw [g.length, g'.length]; exact p.1, fun p' np => h _ _ (.fr (.list _)) (same_upd np) ⟨p', rfl, np, .lst upd_same (g.append g')⟩ p.2⟩
  · exact p.elim
theorem rep_dd {F : Hp} {xs : List V} {ds : List D} (g : DdL K F xs ds) : ∀ n : Nat, DdL K F (List.replicate n xs).flatten (List.replicate n ds).flatten
  | 0 => .nil
  | n + 1 => by
    rw [List.replicate_succ, List.replicate_succ, List.flatten_cons, List.flatten_cons]
    exact g.append (rep_dd g n)
def pRep : P2 := fun x y Q => match x, y with
    | .list a, .int k => -(2 ^ 63) ≤ k ∧ k < 2 ^ 63 ∧ a.length * k.toNat ≤ sizeLine ∧ Q (.fr (.list (List.replicate k.toNat a).flatten))
    | _, _ => False
theorem lr_rep : LR K rRep pRep := by
  intro F H x y dx dy R Q s c1 c2 p h
  unfold pRep at p
  split at p
  · obtain ⟨a, xs, rfl, hx, g⟩ := c1.list s
    obtain ⟨p1, p2, p3, p4⟩ := p
    exact ⟨a, _, xs, rfl, c2.int, hx, p1, p2, by rw [g.length]; exact p3, fun p' np => h _ _ (.fr (.list _)) (same_upd np) ⟨p', rfl, np, .lst upd_same (rep_dd g _)⟩ p4⟩
  · exact p.elim
/-- flat data in a list or tuple -/
def eqF : D → D → Option Bool
  | .non, .non => some true
  | .int i, .int j => some (i == j)
  | .str i, .str j => some (i == j)
  | .bl i, .bl j => some (i == j)
  | .non, .int _ => some false
  | .int _, .non => some false
  | .non, .str _ => some false
  | .str _, .non => some false
  | .int _, .str _ => some false
  | .str _, .int _ => some false
  | _, _ => none
/-- x in ys: y's against x -/
def inF (x : D) : List D → Option Bool
  | [] => some false
  | y :: ys => match eqF y x, inF x ys with
    | some a, some b => some (a || b)
    | _, _ => none
theorem eqF_ok {F : Hp} {x y : V} {dx dy : D} {b : Bool} (h1 : Dd K F x dx) (h2 : Dd K F y dy) (e : eqF dx dy = some b) : eqV x y = b ∧ flatV x = true ∧ flatV y = true := by
  cases h1 <;> cases h2 <;> first
    | (cases e; exact ⟨rfl, rfl, rfl⟩)
    | cases e
theorem inF_ok {F : Hp} {x : V} {dx : D} (h1 : Dd K F x dx) (fx : flatV x = true) : ∀ {ys : List V} {ds : List D} {b : Bool}, DdL K F ys ds → inF dx ds = some b → inV x ys = b ∧ ys.all flatV = true
  | _, _, b, .nil, e => by cases e; exact ⟨rfl, rfl⟩
  | _, _, b, .cons (v := v) (vs := vs) (d := d) (ds := ds) h g, e => by
    dsimp only [inF] at e
    cases q1 : eqF d dx with
    | none => rw [q1] at e; cases e
    | some a =>
      cases q2 : inF dx ds with
      | none => rw [q1, q2] at e; cases e
      | some c =>
        rw [q1, q2] at e
        cases e
        obtain ⟨z1, z2, z3⟩ := eqF_ok h h1 q1
        obtain ⟨z4, z5⟩ := inF_ok h1 fx g q2
        unfold inV at z4 ⊢
        rw [List.any_cons, z4, z1, List.all_cons, z2, z5]
        exact ⟨rfl, rfl⟩
def pIn (neg : Bool) : P2 := fun x y Q => flatD x = true ∧ match y with
  | .list ds => match inF x ds with
    | some b => Q (.val (.bl (if neg then !b else b)))
    | none => False
  | .tup ds => match inF x ds with
    | some b => Q (.val (.bl (if neg then !b else b)))
    | none => False
  | _ => False
theorem flat_cnt {F H : Hp} {x : V} {dx : D} (c : Cnt K F H x dx) (f : flatD dx = true) : Dd K F x dx ∧ flatV x = true := by
  cases dx with
  | non => rw [c.non]; exact ⟨.non, rfl⟩
  | bl b => rw [c.bl]; exact ⟨.bl b, rfl⟩
  | int i => rw [c.int]; exact ⟨.int i, rfl⟩
  | str i => rw [c.str]; exact ⟨.str i, rfl⟩
  | _ => cases f
theorem lr_in {neg : Bool} : LR K (rIn K neg) (pIn neg) := by
  intro F H x y dx dy R Q s c1 c2 p h
  obtain ⟨f, p⟩ := p
  obtain ⟨d1, f1⟩ := flat_cnt c1 f
  split at p
  · rename_i ds
    obtain ⟨a, xs, rfl, hx, g⟩ := c2.list s
    split at p
    · rename_i b e
      obtain ⟨z1, z2⟩ := inF_ok d1 f1 g e
      exact ⟨a, xs, rfl, .inl (.inl (.inl hx)), f1, z2, by rw [z1]; exact h _ _ (.val _) (Same.refl _) (Dd.bl _) p⟩
    · exact p.elim
  · rename_i ds
    obtain ⟨a, xs, rfl, hx, g⟩ := c2.tup s
    split at p
    · rename_i b e
      obtain ⟨z1, z2⟩ := inF_ok d1 f1 g e
      exact ⟨a, xs, rfl, .inr hx, f1, z2, by rw [z1]; exact h _ _ (.val _) (Same.refl _) (Dd.bl _) p⟩
    · exact p.elim
  · exact p.elim
/-! ### built-ins -/
theorem cl1 {F H : Hp} {vs : List V} {d : D} (c : CntL K F H vs [d]) : ∃ v, vs = [v] ∧ Cnt K F H v d := by
  cases vs with
  | nil => exact c.elim
  | cons v r =>
    cases r with
    | nil => exact ⟨v, rfl, c.1⟩
    | cons _ _ => exact c.2.elim
theorem cl2 {F H : Hp} {vs : List V} {d e : D} (c : CntL K F H vs [d, e]) : ∃ v w, vs = [v, w] ∧ Cnt K F H v d ∧ Cnt K F H w e := by
  cases vs with
  | nil => exact c.elim
  | cons v r =>
    cases r with
    | nil => exact c.2.elim
    | cons w r =>
      cases r with
      | nil => exact ⟨v, w, rfl, c.1, c.2.1⟩
      | cons _ _ => exact c.2.2.elim
theorem lb_repr : LB K (rRepr K) pRepr := by
  intro F H vs ds R Q s c p h
  unfold pRepr at p
  split at p
  · obtain ⟨v, rfl, k⟩ := cl1 c
    obtain ⟨q, h1, h2, h3⟩ := p
    exact ⟨v, q, rfl, k.dp s h1, h2.s, h2.n, h2.p, h2.z, h _ _ (.val _) (Same.refl _) (Dd.str _) h3⟩
  · exact p.elim
def pLen : PN := fun ds Q => match ds with
  | [.list xs] => Q (.val (.int xs.length))
  | [.tup xs] => Q (.val (.int xs.length))
  | [.scr xs] => Q (.val (.int xs.length))
  | _ => False
theorem lb_len : LB K (fun xs H Q => ∃ p ys, xs = [.ref p] ∧ (SqL K H p ys ∨ SqT K H p ys) ∧ Q (.int ys.length) H) pLen := by
  intro F H vs ds R Q s c p h
  unfold pLen at p
  split at p
  · obtain ⟨v, rfl, k⟩ := cl1 c
    obtain ⟨a, xs, rfl, hx, g⟩ := k.list s
    exact ⟨a, xs, rfl, .inl (.inl (.inl hx)), by rw [g.length]; exact h _ _ (.val _) (Same.refl _) (Dd.int _) p⟩
  · obtain ⟨v, rfl, k⟩ := cl1 c
    obtain ⟨a, xs, rfl, hx, g⟩ := k.tup s
    exact ⟨a, xs, rfl, .inr hx, by rw [g.length]; exact h _ _ (.val _) (Same.refl _) (Dd.int _) p⟩
  · obtain ⟨v, rfl, k⟩ := cl1 c
    obtain ⟨a, rfl, hx⟩ := k.scr s
    exact ⟨a, _, rfl, .inl hx, by rw [List.length_map]; exact h _ _ (.val _) (Same.refl _) (Dd.int _) p⟩
  · exact p.elim
def pTupOf : PN := fun ds Q => match ds with
  | [.list xs] => Q (.fr (.tup xs))
  | _ => False
theorem lb_tupOf : LB K (fun xs H Q => ∃ p ys, xs = [.ref p] ∧ ((SqL K H p ys ∧ ∀ l, H l = none → Q (.ref l) (upd H l (.tup ys))) ∨ (SqT K H p ys ∧ Q (.ref p) H))) pTupOf := by
  intro F H vs ds R Q s c p h
  unfold pTupOf at p
  split at p
  · obtain ⟨v, rfl, k⟩ := cl1 c
    obtain ⟨a, xs, rfl, hx, g⟩ := k.list s
    exact ⟨a, xs, rfl, .inl ⟨.inl (.inl hx), fun l nl => h _ _ (.fr (.tup _)) (same_upd nl) ⟨l, xs, rfl, nl, upd_same, g⟩ p⟩⟩
  · exact p.elim
def pListOf : PN := fun ds Q => match ds with
  | [.list xs] => Q (.fr (.list xs))
  | [.tup xs] => Q (.fr (.list xs))
  | [.scr ns] => Q (.fr (.list (ns.map D.int)))
  | _ => False
theorem lb_listOf : LB K (fun xs H Q => ∃ p ys, xs = [.ref p] ∧ (SqL K H p ys ∨ SqT K H p ys) ∧ ∀ l, H l = none → Q (.ref l) (upd H l (.lst ys))) pListOf := by
  intro F H vs ds R Q s c p h
  unfold pListOf at p
  split at p
  · obtain ⟨v, rfl, k⟩ := cl1 c
    obtain ⟨a, xs, rfl, hx, g⟩ := k.list s
    exact ⟨a, xs, rfl, .inl (.inl (.inl hx)), fun l nl => h _ _ (.fr (.list _)) (same_upd nl) ⟨l, rfl, nl, .lst upd_same g⟩ p⟩
  · obtain ⟨v, rfl, k⟩ := cl1 c
    obtain ⟨a, xs, rfl, hx, g⟩ := k.tup s
    exact ⟨a, xs, rfl, .inr hx, fun l nl => h _ _ (.fr (.list _)) (same_upd nl) ⟨l, rfl, nl, .lst upd_same g⟩ p⟩
  · obtain ⟨v, rfl, k⟩ := cl1 c
    obtain ⟨a, rfl, hx⟩ := k.scr s
    exact ⟨a, _, rfl, .inl hx, fun l nl => h _ _ (.fr (.list _)) (same_upd nl) ⟨l, rfl, nl, .lst upd_same (DdL.of_ints _)⟩ p⟩
  · exact p.elim
def pKeysOf : PN := fun ds Q => match ds with
  | [.dk kvs] => Q (.fr (.list (kvs.map fun kv => match kv.1 with
    | .inl i => D.int i
    | .inr x => D.str x)))
  | _ => False
theorem keys_dd {F : Hp} : ∀ {kvs : List (Key × V)} {ds : List (Key × D)}, DdK K F kvs ds → DdL K F (kvs.map fun kv => kV kv.1) (ds.map fun kv => match kv.1 with
    | .inl i => D.int i
    | .inr x => D.str x)
  | _, _, .nil => .nil
  | _, _, .cons (k := .inl i) _ g => .cons (.int i) (keys_dd g)
  | _, _, .cons (k := .inr x) _ g => .cons (.str x) (keys_dd g)
def pMax2 : PN := fun ds Q => match ds with
  | [.int i, .int j] => Q (.val (.int (if j > i then j else i)))
  | _ => False
def pMin2 : PN := fun ds Q => match ds with
  | [.int i, .int j] => Q (.val (.int (if j < i then j else i)))
  | _ => False
theorem lb_max2 : LB K (fun xs H Q => ∃ i j, xs = [.int i, .int j] ∧ Q (.int (if j > i then j else i)) H) pMax2 := by
  intro F H vs ds R Q s c p h
  unfold pMax2 at p
  split at p
  · obtain ⟨v, w, rfl, c1, c2⟩ := cl2 c
    exact ⟨_, _, by rw [c1.int, c2.int], h _ _ (.val _) (Same.refl _) (Dd.int _) p⟩
  · exact p.elim
theorem lb_min2 : LB K (fun xs H Q => ∃ i j, xs = [.int i, .int j] ∧ Q (.int (if j < i then j else i)) H) pMin2 := by
  intro F H vs ds R Q s c p h
  unfold pMin2 at p
  split at p
  · obtain ⟨v, w, rfl, c1, c2⟩ := cl2 c
    exact ⟨_, _, by rw [c1.int, c2.int], h _ _ (.val _) (Same.refl _) (Dd.int _) p⟩
  · exact p.elim
def pInt1 : PN := fun ds Q => match ds with
  | [.int i] => Q (.val (.int i))
  | [.bl k] => Q (.val (.int (if k then 1 else 0)))
  | _ => False
theorem lb_int1 : LB K (fun xs H Q => (∃ i, xs = [.int i] ∧ Q (.int i) H) ∨ ∃ k, xs = [.bl k] ∧ Q (.int (if k then 1 else 0)) H) pInt1 := by
  intro F H vs ds R Q s c p h
  unfold pInt1 at p
  split at p
  · obtain ⟨v, rfl, c1⟩ := cl1 c
    exact .inl ⟨_, by rw [c1.int], h _ _ (.val _) (Same.refl _) (Dd.int _) p⟩
  · obtain ⟨v, rfl, c1⟩ := cl1 c
    exact .inr ⟨_, by rw [c1.bl], h _ _ (.val _) (Same.refl _) (Dd.int _) p⟩
  · exact p.elim
def pDivmod : PN := fun ds Q => match ds with
  | [.int i, .int j] => CDiv i j ∧ Q (.fr (.tup [.int (i / j), .int (i % j)]))
  | _ => False
theorem lb_divmod : LB K (fun xs H Q => ∃ i j, xs = [.int i, .int j] ∧ CDiv i j ∧ ∀ p, H p = none → Q (.ref p) (upd H p (.tup [.int (i / j), .int (i % j)]))) pDivmod := by
  intro F H vs ds R Q s c p h
  unfold pDivmod at p
  split at p
  · obtain ⟨v, w, rfl, c1, c2⟩ := cl2 c
    exact ⟨_, _, by rw [c1.int, c2.int], p.1, fun l nl => h _ _ (.fr (.tup _)) (same_upd nl) ⟨l, _, rfl, nl, upd_same, .cons (.int _) (.cons (.int _) .nil)⟩ p.2⟩
  · exact p.elim
/-- a list of ints, of bools -/
def pSum : PN := fun ds Q => match ds with
  | [.list xs] => ∃ ns : List Int, xs = ns.map D.int ∧ Q (.val (.int ns.sum))
  | _ => False
theorem lb_sum : LB K (rSum K) pSum := by
  intro F H vs ds R Q s c p h
  unfold pSum at p
  split at p
  · obtain ⟨ns, rfl, p⟩ := p
    obtain ⟨v, rfl, k⟩ := cl1 c
    obtain ⟨a, xs, rfl, hx, g⟩ := k.list s
    rw [g.ints] at hx
    exact ⟨a, ns, rfl, .inl (.inl hx), h _ _ (.val _) (Same.refl _) (Dd.int _) p⟩
  · exact p.elim
def pMax : PN := fun ds Q => match ds with
  | [.list xs] => ∃ ns : List Int, xs = ns.map D.int ∧ 0 < ns.length ∧ ∀ m, m ∈ ns → (∀ y, y ∈ ns → y ≤ m) → Q (.val (.int m))
  | _ => False
def pMin : PN := fun ds Q => match ds with
  | [.list xs] => ∃ ns : List Int, xs = ns.map D.int ∧ 0 < ns.length ∧ ∀ m, m ∈ ns → (∀ y, y ∈ ns → m ≤ y) → Q (.val (.int m))
  | _ => False
theorem lb_max : LB K (rMax K) pMax := by
  intro F H vs ds R Q s c p h
  unfold pMax at p
  split at p
  · obtain ⟨ns, rfl, l, p⟩ := p
    obtain ⟨v, rfl, k⟩ := cl1 c
    obtain ⟨a, xs, rfl, hx, g⟩ := k.list s
    rw [g.ints] at hx
    exact ⟨a, ns, rfl, .inl (.inl hx), l, fun m h1 h2 => h _ _ (.val _) (Same.refl _) (Dd.int _) (p m h1 h2)⟩
  · exact p.elim
theorem lb_min : LB K (rMin K) pMin := by
  intro F H vs ds R Q s c p h
  unfold pMin at p
  split at p
  · obtain ⟨ns, rfl, l, p⟩ := p
    obtain ⟨v, rfl, k⟩ := cl1 c
    obtain ⟨a, xs, rfl, hx, g⟩ := k.list s
    rw [g.ints] at hx
    exact ⟨a, ns, rfl, .inl (.inl hx), l, fun m h1 h2 => h _ _ (.val _) (Same.refl _) (Dd.int _) (p m h1 h2)⟩
  · exact p.elim
theorem DdL.bools {F : Hp} : ∀ {xs : List V} {bs : List Bool}, DdL K F xs (bs.map D.bl) → xs = bs.map V.bl
  | _, [], h => by cases h; rfl
  | _, n :: r, h => by
    cases h with
    | cons h g => cases h; rw [DdL.bools g]; rfl
def pAll : PN := fun ds Q => match ds with
  | [.list xs] => ∃ bs : List Bool, xs = bs.map D.bl ∧ Q (.val (.bl (bs.all id)))
  | _ => False
def pAny : PN := fun ds Q => match ds with
  | [.list xs] => ∃ bs : List Bool, xs = bs.map D.bl ∧ Q (.val (.bl (bs.any id)))
  | _ => False
theorem lb_all : LB K (rAll K) pAll := by
  intro F H vs ds R Q s c p h
  unfold pAll at p
  split at p
  · obtain ⟨ns, rfl, p⟩ := p
    obtain ⟨v, rfl, k⟩ := cl1 c
    obtain ⟨a, xs, rfl, hx, g⟩ := k.list s
    rw [g.bools] at hx
    exact ⟨a, ns, rfl, .inl (.inl hx), h _ _ (.val _) (Same.refl _) (Dd.bl _) p⟩
  · exact p.elim
theorem lb_any : LB K (rAny K) pAny := by
  intro F H vs ds R Q s c p h
  unfold pAny at p
  split at p
  · obtain ⟨ns, rfl, p⟩ := p
    obtain ⟨v, rfl, k⟩ := cl1 c
    obtain ⟨a, xs, rfl, hx, g⟩ := k.list s
    rw [g.bools] at hx
    exact ⟨a, ns, rfl, .inl (.inl hx), h _ _ (.val _) (Same.refl _) (Dd.bl _) p⟩
  · exact p.elim
def pSortI : PN := fun ds Q => match ds with
  | [.list xs] => ∃ ns : List Int, xs = ns.map D.int ∧ ∀ ns' : List Int, ns'.Perm ns → ns'.Pairwise (· ≤ ·) → Q (.fr (.list (ns'.map D.int)))
  | _ => False
theorem lb_sortI : LB K (rSortedI K) pSortI := by
  intro F H vs ds R Q s c p h
  unfold pSortI at p
  split at p
  · obtain ⟨ns, rfl, p⟩ := p
    obtain ⟨v, rfl, k⟩ := cl1 c
    obtain ⟨a, xs, rfl, hx, g⟩ := k.list s
    rw [g.ints] at hx
    exact ⟨a, ns, rfl, .inl (.inl hx), fun ns' l h1 h2 nl => h _ _ (.fr (.list _)) (same_upd nl) ⟨l, rfl, nl, .lst upd_same (DdL.of_ints _)⟩ (p ns' h1 h2)⟩
  · exact p.elim
/-- list(d), keys ints and texts -/
theorem lb_keysOf : LB K rListD pKeysOf := by
  intro F H vs ds R Q s c p h
  unfold pKeysOf at p
  split at p
  · obtain ⟨v, rfl, k⟩ := cl1 c
    obtain ⟨a, kvs, rfl, hx, g⟩ := k.dk s
    exact ⟨a, kvs, rfl, hx, fun l nl => h _ _ (.fr (.list _)) (same_upd nl) ⟨l, rfl, nl, .lst upd_same (keys_dd g)⟩ p⟩
  · exact p.elim
end DL
/-! lifted readings 6: what is walked; stores; dicts; methods -/
namespace DL
open PySem PySem.Spec PyProof.Rows L2 CD
variable {GP : GenP} {K : PySem.W.Frag}
variable {B : Hp × Hp × GAt}
/-! ### walked -/
/-- the data of what is walked, frozen (or written) -/
def fzI (x : RV) (ρ : Rho) (k : D → Rho → Prop) : Prop := match x with
  | .kon d => k d ρ
  | x => fz x ρ k
def uiSeq (u : UE) : UI := fun ρ Q => u ρ fun x ρ1 => fzI x ρ1 fun d ρ2 => match d with
  | .tup ds => Q ds ρ2
  | _ => False
def uiLst (u : UE) : UI := fun ρ Q => u ρ fun x ρ1 => fz x ρ1 fun d ρ2 => match d with
  | .list ds => Q ds ρ2
  | .scr ns => Q (ns.map D.int) ρ2
  | _ => False
theorem yat_ok {F F' H H' : Hp} {xs : List V} {ds : List D} {i : Nat} {v : V} (g : DdL K F xs ds) (s : Same F F') (y : YAt xs i H v H') : ∃ d, ds[i]? = some d ∧ YD K F' H H' v d := by
  obtain ⟨rfl, e⟩ := y
  obtain ⟨d, h1, h2⟩ := g.get' e
  exact ⟨d, h1, .inl ⟨rfl, h2.same s⟩⟩
theorem li_tup {t : TE} {u : UE} (h : LE GP K B t u) : LI GP K B (iTup K t) (uiSeq u) := by
  intro H0 F0 γ0 _ γ σ H F ρ R Q r z k
  refine h _ _ r z fun H1 F1 γ1 ρ1 v x r1 s1 k1 u1 => ?_
  have main : ∀ {F2 : Hp} {ρ2 : Rho} {a : Addr} {xs : List V} {ds : List D}, Rp GP K H0 F0 γ0 γ1 σ H1 F2 ρ2 → Same F1 F2 → v = .ref a → (∀ H, Same F2 H → SqT K H a xs) → DdL K F2 xs ds → Q ds ρ2 → ∃ a, v = .ref a ∧ (∃ xs, SqT K H1 a xs) ∧ R (Itt K a) H1 := by
    intro F2 ρ2 a xs ds r2 s2 ev hS g q
    exact ⟨a, ev, ⟨xs, hS _ r2.sub⟩, k _ _ _ _ _ _ _ _ ds r2 (s1.trans s2) (walk_tup (K := K) (a := a) (xs := xs)) g.length.symm hS (fun i H v H' F _ s _ y => yat_ok g s y) q⟩
  have plain : ∀ {y : RV}, RVok GP K H0 γ0 γ1 σ H1 F1 ρ1 v y → (fz y ρ1 fun d ρ2 => match d with
    | .tup ds => Q ds ρ2
    | _ => False) → ∃ a, v = V.ref a ∧ (∃ xs, SqT K H1 a xs) ∧ R (Itt K a) H1 := by
    intro y k1 u1
    obtain ⟨F2, ρ2, d, r2, s2, d2, q2⟩ := fz_ok r1 k1 u1
    split at q2
    · cases d2 with
      | tup e g => exact main r2 s2 rfl (fun H s => .inl (.inl (s _ _ e))) g q2
    · exact q2.elim
  cases x with
  | kon d =>
    obtain ⟨a, xs, ds, ev, rfl, hS, g⟩ := k1
    exact main (ds := ds) r1 (Same.refl _) ev (fun H _ => (same_none H).tup hS) (g.same (same_none _)) u1
  | val d => exact plain k1 u1
  | fr d => exact plain k1 u1
  | sl i => exact plain k1 u1
theorem li_list {t : TE} {u : UE} (h : LE GP K B t u) : LI GP K B (iList K t) (uiLst u) := by
  intro H0 F0 γ0 _ γ σ H F ρ R Q r z k
  refine h _ _ r z fun H1 F1 γ1 ρ1 v x r1 s1 k1 u1 => ?_
  obtain ⟨F2, ρ2, d, r2, s2, d2, q2⟩ := fz_ok r1 k1 u1
  split at q2
  · cases d2 with
    | lst e g => exact ⟨_, rfl, ⟨_, .inl (.inl (r2.sub _ _ e))⟩, k _ _ _ _ _ _ _ _ _ r2 (s1.trans s2) walk_list g.length.symm (fun H s => .inl (.inl (s _ _ e))) (fun i H v H' F _ s _ y => yat_ok g s y) q2⟩
  · cases d2 with
    | scr e => exact ⟨_, rfl, ⟨_, r2.sub.seq e⟩, k _ _ _ _ _ _ _ _ _ r2 (s1.trans s2) walk_list (by rw [List.length_map, List.length_map]) (fun H s => s.seq e) (fun i H v H' F _ s _ y => yat_ok (DdL.of_ints _) (same_none F) y) q2⟩
  · exact q2.elim
def rgD (lo : Int) (n : Nat) : List D := (List.range n).map fun i => D.int (lo + (i : Nat))
theorem rgD_len (lo : Int) (n : Nat) : (rgD lo n).length = n := by unfold rgD; rw [List.length_map, List.length_range]
theorem rgD_at {lo : Int} {n i : Nat} (h : i < n) : (rgD lo n)[i]? = some (.int (lo + i)) := by
  unfold rgD
  rw [List.getElem?_map, List.getElem?_range h]
  rfl
def uiRng1 (u : UA) : UI := fun ρ Q => u ρ fun xs ρ1 => match cns ρ1 xs with
  | some [.int j] => -(2 ^ 62) ≤ j ∧ j < 2 ^ 62 ∧ Q (rgD 0 j.toNat) ρ1
  | _ => False
def uiRng2 (u : UA) : UI := fun ρ Q => u ρ fun xs ρ1 => match cns ρ1 xs with
  | some [.int i, .int j] => (-(2 ^ 62) ≤ i ∧ i < 2 ^ 62 ∧ -(2 ^ 62) ≤ j ∧ j < 2 ^ 62) ∧ Q (rgD i (j - i).toNat) ρ1
  | _ => False
theorem rg_yd {F H H' : Hp} {lo : Int} {n i : Nat} {v : V} (h : i < n) (y : YFn (fun i => V.int (lo + i)) i H v H') : ∃ d, (rgD lo n)[i]? = some d ∧ YD K F H H' v d := by
  obtain ⟨rfl, rfl⟩ := y
  exact ⟨_, rgD_at h, .inl ⟨rfl, Dd.int _⟩⟩
theorem li_rng1 {t : TA} {u : UA} (h : LA GP K B t u) : LI GP K B (iRng1 t) (uiRng1 u) := by
  intro H0 F0 γ0 _ γ σ H F ρ R Q r z k
  refine h _ _ r z fun H1 F1 γ1 ρ1 vs xs r1 s1 k1 u1 => ?_
  split at u1
  · rename_i j e
    obtain ⟨v, rfl, c⟩ := cl1 (cns_ok r1 k1 e)
    exact ⟨j, by rw [c.int], u1.1, u1.2.1, k _ _ _ _ _ _ _ _ _ r1 s1 (walk_range (lo := 0) (n := j.toNat)) (rgD_len _ _) (fun _ _ => trivial) (fun i H v H' F hi _ _ y => rg_yd hi y) u1.2.2⟩
  · exact u1.elim
theorem li_rng2 {t : TA} {u : UA} (h : LA GP K B t u) : LI GP K B (iRng2 t) (uiRng2 u) := by
  intro H0 F0 γ0 _ γ σ H F ρ R Q r z k
  refine h _ _ r z fun H1 F1 γ1 ρ1 vs xs r1 s1 k1 u1 => ?_
  split at u1
  · rename_i i j e
    obtain ⟨v, w, rfl, c1, c2⟩ := cl2 (cns_ok r1 k1 e)
    exact ⟨i, j, by rw [c1.int, c2.int], u1.1, k _ _ _ _ _ _ _ _ _ r1 s1 (walk_range (lo := i) (n := (j - i).toNat)) (rgD_len _ _) (fun _ _ => trivial) (fun i H v H' F hi _ _ y => rg_yd hi y) u1.2⟩
  · exact u1.elim
/-- one argument, frozen -/
def uA1 (u : UA) (k : D → Rho → Prop) (ρ : Rho) : Prop := u ρ fun xs ρ1 => match xs with
  | [x] => fz x ρ1 k
  | _ => False
theorem a1_ok {t : TA} {u : UA} (h : LA GP K B t u) {H0 F0 H F : Hp} {γ0 γ : GAt} [FinerC GP K B H0 F0 γ0] {σ : L2.St} {ρ : Rho} {kk : D → Rho → Prop} {R : List V → Hp → Prop} (r : Rp GP K H0 F0 γ0 γ σ H F ρ) (z : uA1 u kk ρ)
    (k : ∀ H1 F1 γ1 ρ1 v d, Rp GP K H0 F0 γ0 γ1 σ H1 F1 ρ1 → Same F F1 → Dd K F1 v d → kk d ρ1 → R [v] H1) : t σ H R := by
  refine h _ _ r z fun H1 F1 γ1 ρ1 vs xs r1 s1 k1 u1 => ?_
  split at u1
  · obtain ⟨v, ws, rfl, h1, h2⟩ := k1.cons_of
    obtain rfl := h2.nil_of
    obtain ⟨F2, ρ2, d, r2, s2, d2, q2⟩ := fz_ok r1 h1.one u1
    exact k _ _ _ _ _ _ r2 (s1.trans s2) d2 q2
  · exact u1.elim
def uiRev (u : UA) : UI := fun ρ Q => uA1 u (fun d ρ1 => match d with
  | .list ds => Q ds.reverse ρ1
  | _ => False) ρ
theorem li_rev {t : TA} {u : UA} (h : LA GP K B t u) : LI GP K B (iRev K t) (uiRev u) := by
  intro H0 F0 γ0 _ γ σ H F ρ R Q r z k
  refine a1_ok h r z fun H1 F1 γ1 ρ1 v d r1 s1 d1 q1 => ?_
  split at q1
  · cases d1 with
    | lst e g =>
      refine ⟨_, _, rfl, .inl (.inl (r1.sub _ _ e)), k _ _ _ _ _ _ _ _ _ r1 s1 walk_rev (by rw [List.length_reverse, g.length]) (fun H s => .inl (.inl (s _ _ e))) (fun i H v H' F hi s _ y => ?_) q1⟩
      obtain ⟨rfl, ex⟩ := y
      obtain ⟨d, h1, h2⟩ := g.get' ex
      refine ⟨d, ?_, .inl ⟨rfl, h2.same s⟩⟩
      rw [List.getElem?_reverse (by rw [← g.length]; exact hi), ← g.length]
      exact h1
  · exact q1.elim
def enumD : Int → List D → List D
  | _, [] => []
  | k, d :: ds => .tup [.int k, d] :: enumD (k + 1) ds
theorem enumD_len : ∀ {k : Int} {ds : List D}, (enumD k ds).length = ds.length
  | _, [] => rfl
  | k, d :: ds => by unfold enumD; rw [List.length_cons, List.length_cons, enumD_len]
theorem enumD_at : ∀ {k : Int} {ds : List D} {i : Nat} {d : D}, ds[i]? = some d → (enumD k ds)[i]? = some (.tup [.int (k + i), d])
  | _, [], _, _, h => by simp at h
  | k, d :: ds, 0, e, h => by simp at h; subst h; simp [enumD]
  | k, d :: ds, i + 1, e, h => by
    unfold enumD
    rw [List.getElem?_cons_succ, enumD_at (k := k + 1) (by simpa using h)]
    congr 4
    omega
def uiEnum (u : UA) : UI := fun ρ Q => uA1 u (fun d ρ1 => match d with
  | .list ds => Q (enumD 0 ds) ρ1
  | _ => False) ρ
def uiEnum1 (u : UA) : UI := fun ρ Q => uA1 u (fun d ρ1 => match d with
  | .tup ds => Q (enumD 0 ds) ρ1
  | _ => False) ρ
theorem enum_yd {F F' H H' : Hp} {xs : List V} {ds : List D} {k : Int} {i : Nat} {v : V} (g : DdL K F xs ds) (s : Same F F') (y : YPair (fun i => some (.int (k + (i : Nat)))) (fun i => xs[i]?) i H v H') : ∃ d, (enumD k ds)[i]? = some d ∧ YD K F' H H' v d := by
  obtain ⟨T, x, y, rfl, n, rfl, e1, e2⟩ := y
  cases e1
  obtain ⟨d, h1, h2⟩ := g.get' e2
  exact ⟨_, enumD_at h1, .inr ⟨T, _, _, rfl, n, rfl, rfl, .cons (.int _) (.cons (h2.same s) .nil)⟩⟩
theorem li_enum {t : TA} {u : UA} (h : LA GP K B t u) : LI GP K B (iEnum K t) (uiEnum u) := by
  intro H0 F0 γ0 _ γ σ H F ρ R Q r z k
  refine a1_ok h r z fun H1 F1 γ1 ρ1 v d r1 s1 d1 q1 => ?_
  split at q1
  · cases d1 with
    | lst e g =>
      refine ⟨_, _, rfl, .inl (.inl (r1.sub _ _ e)), k _ _ _ _ _ _ _ _ _ r1 s1 walk_enum (by rw [enumD_len, g.length]) (fun H s => .inl (.inl (s _ _ e))) (fun i H v H' F hi s _ y => enum_yd g s ?_) q1⟩
      obtain ⟨T, x, y', a1, a2, a3, a4, a5⟩ := y
      exact ⟨T, x, y', a1, a2, a3, (show some (V.int (0 + (i : Nat))) = some x by rw [Int.zero_add]; exact a4), a5⟩
  · exact q1.elim
theorem li_enum1 {t : TA} {u : UA} (h : LA GP K B t u) : LI GP K B (iEnum1 K t) (uiEnum1 u) := by
  intro H0 F0 γ0 _ γ σ H F ρ R Q r z k
  refine a1_ok h r z fun H1 F1 γ1 ρ1 v d r1 s1 d1 q1 => ?_
  split at q1
  · cases d1 with
    | tup e g =>
      exact ⟨_, _, rfl, .inl (.inl (r1.sub _ _ e)), k _ _ _ _ _ _ _ _ _ r1 s1 (walk_enumT (k := 0)) (by rw [enumD_len, g.length]) (fun H s => .inl (.inl (s _ _ e))) (fun i H v H' F hi s _ y => enum_yd g s y) q1⟩
  · exact q1.elim
/-- enumerate(t, start=k) -/
def uiEnumT (u w : UA) : UI := fun ρ Q => u ρ fun xs ρ1 => w ρ1 fun ys ρ2 => match xs, cns ρ2 ys with
  | [x], some [.int k] => -(2 ^ 63) ≤ k ∧ k < 2 ^ 63 ∧ fz x ρ2 fun d ρ3 => match d with
    | .tup ds => Q (enumD k ds) ρ3
    | _ => False
  | _, _ => False
theorem li_enumT {t t' : TA} {u w : UA} (h : LA GP K B t u) (h' : LA GP K B t' w) : LI GP K B (iEnumT K t t') (uiEnumT u w) := by
  intro H0 F0 γ0 _ γ σ H F ρ R Q r z k
  refine h _ _ r z fun H1 F1 γ1 ρ1 vs xs r1 s1 k1 u1 => ?_
  refine h' _ _ r1 u1 fun H2 F2 γ2 ρ2 ws ys r2 s2 k2 u2 => ?_
  split at u2
  · rename_i x kk e
    obtain ⟨w', rfl, c⟩ := cl1 (cns_ok r2 k2 e)
    obtain ⟨v, ws, rfl, h1, h2⟩ := k1.cons_of
    obtain rfl := h2.nil_of
    obtain ⟨b1, b2, u3⟩ := u2
    obtain ⟨F3, ρ3, d, r3, s3, d3, q3⟩ := fz_ok r2 (h1.same s2).one u3
    split at q3
    · cases d3 with
      | tup e g => exact ⟨_, _, kk, rfl, by rw [c.int], b1, b2, .inl (.inl (r3.sub _ _ e)), k _ _ _ _ _ _ _ _ _ r3 (s1.trans (s2.trans s3)) (walk_enumT (k := kk)) (by rw [enumD_len, g.length]) (fun H s => .inl (.inl (s _ _ e))) (fun i H v H' F hi s _ y => enum_yd g s y) q3⟩
    · exact q3.elim
  · exact u2.elim
def zipD (a b : List D) : List D := List.zipWith (fun x y => .tup [x, y]) a b
/-- two arguments, frozen -/
def uiZip (u : UA) : UI := fun ρ Q => u ρ fun xs ρ1 => fzs xs ρ1 fun ds ρ2 => match ds with
  | [.list a, .list b] => Q (zipD a b) ρ2
  | [.tup a, .tup b] => Q (zipD a b) ρ2
  | _ => False
theorem zip_yd {F F' H H' : Hp} {xs ys : List V} {a b : List D} {i : Nat} {v : V} (g : DdL K F xs a) (g' : DdL K F ys b) (s : Same F F') (y : YPair (fun i => xs[i]?) (fun i => ys[i]?) i H v H') : ∃ d, (zipD a b)[i]? = some d ∧ YD K F' H H' v d := by
  obtain ⟨T, x, y, rfl, n, rfl, e1, e2⟩ := y
  obtain ⟨d, h1, h2⟩ := g.get' e1
  obtain ⟨d', h3, h4⟩ := g'.get' e2
  refine ⟨.tup [d, d'], ?_, .inr ⟨T, _, _, rfl, n, rfl, rfl, .cons (h2.same s) (.cons (h4.same s) .nil)⟩⟩
  unfold zipD
  rw [List.getElem?_zipWith, h1, h3]
theorem zipD_len {a b : List D} : (zipD a b).length = min a.length b.length := List.length_zipWith
theorem li_zip {t : TA} {u : UA} (h : LA GP K B t u) : LI GP K B (RZ.iZipA K t) (uiZip u) := by
  intro H0 F0 γ0 _ γ σ H F ρ R Q r z k
  refine h _ _ r z fun H1 F1 γ1 ρ1 vs xs r1 s1 k1 u1 => ?_
  obtain ⟨F2, ρ2, ds, r2, s2, d2, q2⟩ := fzs_ok r1 k1 u1
  split at q2
  · cases d2 with
    | cons x1 d2 => cases d2 with
      | cons x2 d2 =>
        cases d2
        cases x1 with
        | lst e1 g1 => cases x2 with
          | lst e2 g2 =>
            exact ⟨_, _, _, _, rfl, .inl ⟨.inl (.inl (r2.sub _ _ e1)), .inl (.inl (r2.sub _ _ e2)), k _ _ _ _ _ _ _ _ _ r2 (s1.trans s2) (walk_zip rfl) (by rw [zipD_len, g1.length, g2.length]) (fun H s => ⟨.inl (.inl (s _ _ e1)), .inl (.inl (s _ _ e2))⟩) (fun i H v H' F hi s _ y => zip_yd g1 g2 s y) q2⟩⟩
  · cases d2 with
    | cons x1 d2 => cases d2 with
      | cons x2 d2 =>
        cases d2
        cases x1 with
        | tup e1 g1 => cases x2 with
          | tup e2 g2 =>
            exact ⟨_, _, _, _, rfl, .inr ⟨.inl (.inl (r2.sub _ _ e1)), .inl (.inl (r2.sub _ _ e2)), k _ _ _ _ _ _ _ _ _ r2 (s1.trans s2) (walk_zipT rfl) (by rw [zipD_len, g1.length, g2.length]) (fun H s => ⟨.inl (.inl (s _ _ e1)), .inl (.inl (s _ _ e2))⟩) (fun i H v H' F hi s _ y => zip_yd g1 g2 s y) q2⟩⟩
  · exact q2.elim
/-! ### lists of our own -/
/-- xs.append(e) -/
def uAppend (i : Nat) (a : UE) : UE := fun ρ Q => match ρ[i]? with
  | some (some (.own (.list _))) => a ρ fun x ρ1 => fz (sf x) ρ1 fun d ρ2 => match ρ2[i]? with
    | some (some (.own (.list ds))) => ds.length < sizeLine ∧ Q (.val .non) (ρ2.set i (some (.own (.list (ds ++ [d])))))
    | _ => False
  | _ => False
theorem le_append {i : Nat} {t : TE} {u : UE} (h : LE GP K B t u) : LE GP K B (tBM K "list" rAppend (tVar i) (tCons t tNil)) (uAppend i u) := by
  intro H0 F0 γ0 _ γ σ H F ρ R Q r z k
  dsimp only [uAppend] at z
  split at z
  · rename_i ds0 e0
    obtain ⟨a, h1, h2, _⟩ := r.own i _ e0
    cases h2 with
    | lst ha _ =>
      refine ⟨_, h1, .inl ⟨rfl, _, .inl (.inl ha)⟩, ?_⟩
      refine h _ _ r z fun H1 F1 γ1 ρ1 v x r1 s1 k1 u1 => ?_
      obtain ⟨F2, r2, s2, k2⟩ := sf_ok r1 k1
      obtain ⟨F3, ρ3, d, r3, s3, d3, q3⟩ := fz_ok r2 k2.one u1
      split at q3
      · rename_i ds e
        obtain ⟨b, b1, b2, b3, _⟩ := r3.own i _ e
        rw [h1] at b1; cases b1
        cases b2 with
        | lst hb g =>
          refine ⟨a, _, _, rfl, rfl, hb, by rw [g.length]; exact q3.1, ?_⟩
          exact k _ _ _ _ _ (.val .non) (r3.write e h1 (.lst upd_same (g.append (.cons d3 .nil)))) (s1.trans (s2.trans s3)) Dd.non q3.2
      · exact q3.elim
  · exact z.elim
/-- xs.pop() -/
def uPop (i : Nat) : UE := fun ρ Q => match ρ[i]? with
  | some (some (.own (.list ds))) => match ds[ds.length - 1]? with
    | some d => Q (.val d) (ρ.set i (some (.own (.list ds.dropLast))))
    | none => False
  | _ => False
theorem DdL.dropLast {F : Hp} : ∀ {xs : List V} {ds : List D}, DdL K F xs ds → DdL K F xs.dropLast ds.dropLast
  | _, _, .nil => .nil
  | _, _, .cons h .nil => .nil
  | _, _, .cons h (.cons h' g) => .cons h (DdL.dropLast (.cons h' g))
theorem le_pop {i : Nat} : LE GP K B (tBM0 K "list" rPop (tVar i)) (uPop i) := by
  intro H0 F0 γ0 _ γ σ H F ρ R Q r z k
  dsimp only [uPop] at z
  split at z
  · rename_i ds e
    obtain ⟨a, h1, h2, _⟩ := r.own i _ e
    cases h2 with
    | lst ha g =>
      split at z
      · rename_i d ed
        obtain ⟨v, e1, e2⟩ := g.get ed
        refine ⟨_, h1, .inl ⟨rfl, _, .inl (.inl ha)⟩, a, _, v, rfl, rfl, ha, by rw [g.length]; exact e1, ?_⟩
        exact k _ _ _ _ _ (.val d) (r.write e h1 (.lst upd_same g.dropLast)) (Same.refl _) e2 z
      · exact z.elim
  · exact z.elim
/-- xs.extend(new list) -/
def uExtend (i : Nat) (a : UE) : UE := fun ρ Q => match ρ[i]? with
  | some (some (.own (.list _))) => a ρ fun x ρ1 => fz (sf x) ρ1 fun d ρ2 => match ρ2[i]?, d with
    | some (some (.own (.list ds))), .list zs => ds.length + zs.length ≤ sizeLine ∧ Q (.val .non) (ρ2.set i (some (.own (.list (ds ++ zs)))))
    | _, _ => False
  | _ => False
theorem le_extend {i : Nat} {t : TE} {u : UE} (h : LE GP K B t u) : LE GP K B (tBM K "list" rExtend (tVar i) (tCons t tNil)) (uExtend i u) := by
  intro H0 F0 γ0 _ γ σ H F ρ R Q r z k
  dsimp only [uExtend] at z
  split at z
  · rename_i ds0 e0
    obtain ⟨a, h1, h2, _⟩ := r.own i _ e0
    cases h2 with
    | lst ha _ =>
      refine ⟨_, h1, .inl ⟨rfl, _, .inl (.inl ha)⟩, ?_⟩
      refine h _ _ r z fun H1 F1 γ1 ρ1 v x r1 s1 k1 u1 => ?_
      obtain ⟨F2, r2, s2, k2⟩ := sf_ok r1 k1
      obtain ⟨F3, ρ3, d, r3, s3, d3, q3⟩ := fz_ok r2 k2.one u1
      split at q3
      · rename_i ds zs e
        obtain ⟨b, b1, b2, b3, _⟩ := r3.own i _ e
        rw [h1] at b1; cases b1
        cases b2 with
        | lst hb g =>
          cases d3 with
          | lst e3 g3 =>
            refine ⟨a, _, _, _, rfl, rfl, hb, r3.sub _ _ e3, by rw [g.length, g3.length]; exact q3.1, ?_⟩
            exact k _ _ _ _ _ (.val .non) (r3.write e h1 (.lst upd_same (g.append g3))) (s1.trans (s2.trans s3)) Dd.non q3.2
      · exact q3.elim
  · exact z.elim
/-- xs[k] = e -/
def uSetL (i : Nat) (uk uv : UE) : US := fun Q ρ => uv ρ fun x ρ1 => match ρ1[i]? with
  | some (some (.own (.list _))) => uk ρ1 fun y ρ2 => fz (sf x) ρ2 fun d ρ3 => match ρ3[i]?, cn ρ3 (sf y) with
    | some (some (.own (.list ds))), some (.int k) => match ixN ds.length k with
      | some j => Q.nx (ρ3.set i (some (.own (.list (ds.set j d)))))
      | none => False
    | _, _ => False
  | _ => False
theorem ls_setL {i : Nat} {tk tv : TE} {uk uv : UE} (hk : LE GP K B tk uk) (hv : LE GP K B tv uv) : LS GP K B (tAsg tv (gSub (tVar i) tk rSetL)) (uSetL i uk uv) := by
  intro H0 F0 γ0 _ γ σ H F ρ E Q r z n b c t
  refine hv _ _ r z fun H1 F1 γ1 ρ1 v x r1 s1 k1 u1 => ?_
  obtain ⟨F2, r2, s2, k2⟩ := sf_ok r1 k1
  split at u1
  · rename_i ds0 e0
    obtain ⟨a, h1, h2, _⟩ := r2.own i _ e0
    refine ⟨_, h1, hk _ _ r2 u1 fun H3 F3 γ3 ρ3 w y r3 s3 k3 u3 => ?_⟩
    obtain ⟨F4, r4, s4, k4⟩ := sf_ok r3 k3
    obtain ⟨F5, ρ5, d, r5, s5, d5, q5⟩ := fz_ok r4 ((k2.same s3).same s4).one u3
    split at q5
    · rename_i ds kk e ek
      split at q5
      · rename_i j ej
        obtain ⟨b', b1, b2, b3, _⟩ := r5.own i _ e
        rw [h1] at b1; cases b1
        have ci := RVok.cnt r5 (k4.same s5).one ek
        cases b2 with
        | lst hb g =>
          refine ⟨a, _, kk, j, rfl, ci.int, hb, by rw [g.length]; exact ej, ?_⟩
          exact n _ _ _ _ _ (r5.write e h1 (.lst upd_same (DdL.set d5 j g))) q5
      · exact q5.elim
    · exact q5.elim
  · exact u1.elim
/-! ### dicts -/
section
variable {κ : Type} [DecidableEq κ]
def lkD (kvs : List (κ × D)) (k : κ) : Option D := (kvs.find? fun kv => decide (kv.1 = k)).map (·.2)
def putD (kvs : List (κ × D)) (k : κ) (v : D) : List (κ × D) :=
  if kvs.any (fun kv => decide (kv.1 = k)) then kvs.map (fun kv => if kv.1 = k then (kv.1, v) else kv) else kvs ++ [(k, v)]
end
def keyD : D → Option Key
  | .int i => some (.inl i)
  | .str s => some (.inr s)
  | _ => none
def keysD : List D → Option (List Key)
  | [] => some []
  | d :: ds => match keyD d, keysD ds with
    | some k, some ks => some (k :: ks)
    | _, _ => none
theorem keyD_ok {F : Hp} {v : V} {d : D} {k : Key} (h : Dd K F v d) (e : keyD d = some k) : v = kV k := by
  cases h with
  | int i => cases e; rfl
  | str i => cases e; rfl
  | _ => cases e
theorem keysD_ok {F : Hp} : ∀ {vs : List V} {ds : List D} {ks : List Key}, DdL K F vs ds → keysD ds = some ks → vs = ks.map kV
  | _, _, _, .nil, e => by cases e; rfl
  | _, _, _, .cons (d := d) (ds := ds) h g, e => by
    dsimp only [keysD] at e
    cases q1 : keyD d with
    | none => rw [q1] at e; cases e
    | some k =>
      cases q2 : keysD ds with
      | none => rw [q1, q2] at e; cases e
      | some ks =>
        rw [q1, q2] at e
        cases e
        rw [keyD_ok h q1, keysD_ok g q2]
        rfl
theorem lkK_ok {F : Hp} (k : Key) : ∀ {kvs : List (Key × V)} {ds : List (Key × D)}, DdK K F kvs ds → (match lkD ds k with
    | some d => ∃ v, valV kvs k = some v ∧ Dd K F v d
    | none => valV kvs k = none)
  | _, _, .nil => rfl
  | _, _, .cons (k := k') (vs := vs) (d := d0) (ds := ds) h g => by
    by_cases c : k' = k
    · subst c
      have e1 : lkD ((k', d0) :: ds) k' = some d0 := by unfold lkD; rw [List.find?_cons_of_pos (by simp)]; rfl
      rw [e1]
      exact ⟨_, valV_pos rfl, h⟩
    · have e1 : ∀ d, lkD ((k', d) :: ds) k = lkD ds k := fun d => by unfold lkD; rw [List.find?_cons_of_neg (by simpa using c)]
      rw [e1]
      have ih := lkK_ok k g
      cases q : lkD ds k with
      | none => rw [q] at ih; rw [valV_neg c]; exact ih
      | some d => rw [q] at ih; obtain ⟨v, h1, h2⟩ := ih; exact ⟨v, by rw [valV_neg c]; exact h1, h2⟩
theorem lkT_ok {F : Hp} (k : List Key) : ∀ {kvs : List (List Key × V)} {ds : List (List Key × D)}, DdT K F kvs ds → (match lkD ds k with
    | some d => ∃ v, valV kvs k = some v ∧ Dd K F v d
    | none => valV kvs k = none)
  | _, _, .nil => rfl
  | _, _, .cons (k := k') (vs := vs) (d := d0) (ds := ds) h g => by
    by_cases c : k' = k
    · subst c
      have e1 : lkD ((k', d0) :: ds) k' = some d0 := by unfold lkD; rw [List.find?_cons_of_pos (by simp)]; rfl
      rw [e1]
      exact ⟨_, valV_pos rfl, h⟩
    · have e1 : ∀ d, lkD ((k', d) :: ds) k = lkD ds k := fun d => by unfold lkD; rw [List.find?_cons_of_neg (by simpa using c)]
      rw [e1]
      have ih := lkT_ok k g
      cases q : lkD ds k with
      | none => rw [q] at ih; rw [valV_neg c]; exact ih
      | some d => rw [q] at ih; obtain ⟨v, h1, h2⟩ := ih; exact ⟨v, by rw [valV_neg c]; exact h1, h2⟩
theorem DdK.length {F : Hp} : ∀ {kvs : List (Key × V)} {ds : List (Key × D)}, DdK K F kvs ds → kvs.length = ds.length
  | _, _, .nil => rfl
  | _, _, .cons _ g => by rw [List.length_cons, List.length_cons, g.length]
theorem DdT.length {F : Hp} : ∀ {kvs : List (List Key × V)} {ds : List (List Key × D)}, DdT K F kvs ds → kvs.length = ds.length
  | _, _, .nil => rfl
  | _, _, .cons _ g => by rw [List.length_cons, List.length_cons, g.length]
theorem putK_dd {F : Hp} {v : V} {d : D} {k : Key} (h : Dd K F v d) {kvs : List (Key × V)} {ds : List (Key × D)} (g : DdK K F kvs ds) : DdK K F (putK kvs k v) (putD ds k d) := by
  have e : kvs.any (fun kv => decide (kv.1 = k)) = ds.any (fun kv => decide (kv.1 = k)) := by
    clear h
    induction kvs generalizing ds with
    | nil => cases g; rfl
    | cons x r ih => cases g with
      | cons a b => rw [List.any_cons, List.any_cons, ih b]
  have em : DdK K F (kvs.map (fun kv => if kv.1 = k then (kv.1, v) else kv)) (ds.map (fun kv => if kv.1 = k then (kv.1, d) else kv)) := by
    clear e
    induction kvs generalizing ds with
    | nil => cases g; exact .nil
    | cons x r ih => cases g with
      | cons a b =>
        rw [List.map_cons, List.map_cons]
        dsimp only
        split
        · exact .cons h (ih b)
        · exact .cons a (ih b)
  have ea : DdK K F (kvs ++ [(k, v)]) (ds ++ [(k, d)]) := by
    clear e em
    induction kvs generalizing ds with
    | nil => cases g; exact .cons h .nil
    | cons x r ih => cases g with
      | cons a b => exact .cons a (ih b)
  unfold putK putD
  rw [e]
  split
  · exact em
  · exact ea
theorem putT_dd {F : Hp} {v : V} {d : D} {k : List Key} (h : Dd K F v d) {kvs : List (List Key × V)} {ds : List (List Key × D)} (g : DdT K F kvs ds) : DdT K F (putK kvs k v) (putD ds k d) := by
  have e : kvs.any (fun kv => decide (kv.1 = k)) = ds.any (fun kv => decide (kv.1 = k)) := by
    clear h
    induction kvs generalizing ds with
    | nil => cases g; rfl
    | cons x r ih => cases g with
      | cons a b => rw [List.any_cons, List.any_cons, ih b]
  have em : DdT K F (kvs.map (fun kv => if kv.1 = k then (kv.1, v) else kv)) (ds.map (fun kv => if kv.1 = k then (kv.1, d) else kv)) := by
    clear e
    induction kvs generalizing ds with
    | nil => cases g; exact .nil
    | cons x r ih => cases g with
      | cons a b =>
        rw [List.map_cons, List.map_cons]
        dsimp only
        split
        · exact .cons h (ih b)
        · exact .cons a (ih b)
  have ea : DdT K F (kvs ++ [(k, v)]) (ds ++ [(k, d)]) := by
    clear e em
    induction kvs generalizing ds with
    | nil => cases g; exact .cons h .nil
    | cons x r ih => cases g with
      | cons a b => exact .cons a (ih b)
  unfold putK putD
  rw [e]
  split
  · exact em
  · exact ea
/-- what a dict holds at a key -/
inductive LkA
  | some (d : D) | none | bad
def lkA (dx dy : D) : LkA := match dx with
  | .dk kvs => match keyD dy with
    | some k => match lkD kvs k with
      | some d => .some d
      | none => .none
    | none => .bad
  | .dt kvs => match dy with
    | .tup ks => match keysD ks with
      | some k => match lkD kvs k with
        | some d => .some d
        | none => .none
      | none => .bad
    | _ => .bad
  | _ => .bad
theorem Cnt.key {F H : Hp} {v : V} {d : D} {k : Key} (c : Cnt K F H v d) (e : keyD d = some k) : v = kV k := by
  cases d with
  | int i => cases e; exact c.int
  | str i => cases e; exact c.str
  | _ => cases e
/-- the key's content, not one that is written in the text -/
def ck (ρ : Rho) : RV → Option D
  | .kon _ => none
  | x => cn ρ x
theorem ck_ok {H0 F0 H F : Hp} {γ0 γ : GAt} {σ : L2.St} {ρ : Rho} {v : V} {x : RV} {d : D} (r : Rp GP K H0 F0 γ0 γ σ H F ρ) (h : RVok GP K H0 γ0 γ σ H F ρ v x) (e : ck ρ x = some d) : Dd K F v d ∨ ∃ a, v = .ref a ∧ Own K F H a d := by
  cases x with
  | kon d' => cases e
  | val d' => cases e; exact .inl h
  | fr d' => cases e; obtain ⟨a, h1, h2, _⟩ := h; exact .inr ⟨a, h1, h2⟩
  | sl i =>
    have h : σ[i]? = some (some v) := h
    dsimp only [ck, cn] at e
    cases q : ρ[i]? with
    | none => rw [q] at e; cases e
    | some s =>
      rw [q] at e
      cases s with
      | none => cases e
      | some s =>
        cases s with
        | val d' =>
          cases e
          obtain ⟨u, e1, e2⟩ := r.val i d q
          rw [h] at e1; cases e1
          exact .inl e2
        | own d' =>
          cases e
          obtain ⟨a, e1, e2, _⟩ := r.own i d q
          rw [h] at e1; cases e1
          exact .inr ⟨a, rfl, e2⟩
        | gen n => cases e
theorem dget_ok {F H : Hp} {x y : V} {dx dy : D} (s : Same F H) (c1 : Cnt K F H x dx) (c2 : Dd K F y dy ∨ ∃ a, y = .ref a ∧ Own K F H a dy) (hb : lkA dx dy ≠ .bad) : ∃ a o, x = .ref a ∧ DGet H a y o ∧ (match lkA dx dy with
    | .some d => ∃ v, o = some v ∧ Dd K F v d
    | .none => o = none
    | .bad => False) := by
  have ky : ∀ {k}, keyD dy = some k → y = kV k := fun {k} e => by
    rcases c2 with h | ⟨a, _, h⟩
    · exact keyD_ok h e
    · cases h <;> cases e
  unfold lkA at hb ⊢
  cases dx with
  | dk kvs =>
    obtain ⟨a, kv, rfl, ha, g⟩ := c1.dk s
    cases q : keyD dy with
    | none => rw [q] at hb; exact absurd rfl hb
    | some k =>
      have e := ky q
      have z := lkK_ok k g
      refine ⟨a, valV kv k, rfl, .inl ⟨kv, k, .inl ha, e, rfl⟩, ?_⟩
      simp only [q]
      cases q2 : lkD kvs k with
      | none => rw [q2] at z; exact z
      | some d => rw [q2] at z; exact z
  | dt kvs =>
    obtain ⟨a, kv, rfl, ha, g⟩ := c1.dt s
    cases dy with
    | tup ks =>
      dsimp only at hb ⊢
      cases q : keysD ks with
      | none => rw [q] at hb; exact absurd rfl hb
      | some k =>
        have z := lkT_ok k g
        rcases c2 with h | ⟨b, _, h⟩
        · cases h with
          | tup e1 e2 =>
            rw [keysD_ok e2 q] at e1
            refine ⟨a, valV kv k, rfl, .inr ⟨kv, k, _, .inl ha, rfl, s _ _ e1, rfl⟩, ?_⟩
            simp only [q]
            cases q2 : lkD kvs k with
            | none => rw [q2] at z; exact z
            | some d => rw [q2] at z; exact z
        · cases h
    | _ => exact absurd rfl hb
  | _ => exact absurd rfl hb
def uDGet (ud uy : UE) : UE := fun ρ Q => ud ρ fun x ρ1 => uy ρ1 fun y ρ2 => match cn ρ2 (sf x), ck ρ2 y with
  | some dx, some dy => match lkA dx dy with
    | .some d => Q (.val d) ρ2
    | _ => False
  | _, _ => False
theorem le_dget {td ty : TE} {ud uy : UE} (hd : LE GP K B td ud) (hy : LE GP K B ty uy) : LE GP K B (tDGet td ty) (uDGet ud uy) := by
  intro H0 F0 γ0 _ γ σ H F ρ R Q r z k
  refine hd _ _ r z fun H1 F1 γ1 ρ1 v x r1 s1 k1 u1 => ?_
  obtain ⟨F2, r2, s2, k2⟩ := sf_ok r1 k1
  refine hy _ _ r2 u1 fun H3 F3 γ3 ρ3 w y r3 s3 k3 u3 => ?_
  split at u3
  · rename_i dx dy e1 e2
    split at u3
    · rename_i d ed
      obtain ⟨a, o, rfl, g, m⟩ := dget_ok r3.sub (RVok.cnt r3 (k2.same s3).one e1) (ck_ok r3 k3 e2) (by rw [ed]; exact fun x => nomatch x)
      rw [ed] at m
      obtain ⟨v', rfl, dd⟩ := m
      exact ⟨a, v', rfl, g, k _ _ _ _ _ (.val d) r3 (s1.trans (s2.trans s3)) dd u3⟩
    · exact u3.elim
  · exact u3.elim
def uDIn (neg : Bool) (uy ud : UE) : UE := fun ρ Q => uy ρ fun y ρ1 => ud ρ1 fun x ρ2 => match cn ρ2 x, ck ρ2 (sf y) with
  | some dx, some dy => match lkA dx dy with
    | .some _ => Q (.val (.bl (!neg))) ρ2
    | .none => Q (.val (.bl neg)) ρ2
    | .bad => False
  | _, _ => False
theorem din_any {neg : Bool} {td ty : TE} {ud uy : UE} {tt : TE} (htt : ∀ σ H R, ty σ H (fun y H1 => td σ H1 fun x H2 => ∃ a o, x = .ref a ∧ DGet H2 a y o ∧ R (.bl (if neg then !o.isSome else o.isSome)) H2) → tt σ H R) (hd : LE GP K B td ud) (hy : LE GP K B ty uy) : LE GP K B tt (uDIn neg uy ud) := by
  intro H0 F0 γ0 _ γ σ H F ρ R Q r z k
  refine htt _ _ _ (hy _ _ r z fun H1 F1 γ1 ρ1 w y r1 s1 k1 u1 => ?_)
  obtain ⟨F2, r2, s2, k2⟩ := sf_ok r1 k1
  refine hd _ _ r2 u1 fun H3 F3 γ3 ρ3 v x r3 s3 k3 u3 => ?_
  split at u3
  · rename_i dx dy e1 e2
    have fin : ∀ b, (∀ (hb : lkA dx dy ≠ .bad), True) → Q (.val (.bl b)) ρ3 → R (.bl b) H3 := fun b _ q => k _ _ _ _ _ (.val _) r3 (s1.trans (s2.trans s3)) (Dd.bl b) q
    have go : lkA dx dy ≠ .bad → _ := fun hb => dget_ok r3.sub (RVok.cnt r3 k3 e1) (ck_ok r3 ((k2.same s3).one) e2) hb
    split at u3
    · rename_i d ed
      obtain ⟨a, o, rfl, g, m⟩ := go (by rw [ed]; exact fun x => nomatch x)
      rw [ed] at m
      obtain ⟨v', rfl, dd⟩ := m
      refine ⟨a, _, rfl, g, ?_⟩
      have e : (if neg = true then !(Option.isSome (some v')) else Option.isSome (some v')) = !neg := by cases neg <;> rfl
      rw [e]
      exact fin _ (fun _ => trivial) u3
    · rename_i ed
      obtain ⟨a, o, rfl, g, m⟩ := go (by rw [ed]; exact fun x => nomatch x)
      rw [ed] at m
      cases m
      refine ⟨a, _, rfl, g, ?_⟩
      have e : (if neg = true then !(Option.isSome (none : Option V)) else Option.isSome (none : Option V)) = neg := by cases neg <;> rfl
      rw [e]
      exact fin _ (fun _ => trivial) u3
    · exact u3.elim
  · exact u3.elim
theorem le_din {td ty : TE} {ud uy : UE} (hd : LE GP K B td ud) (hy : LE GP K B ty uy) : LE GP K B (tDIn ty td) (uDIn false uy ud) := din_any (neg := false) (fun σ H R h => h) hd hy
theorem le_dnin {td ty : TE} {ud uy : UE} (hd : LE GP K B td ud) (hy : LE GP K B ty uy) : LE GP K B (tDNotIn ty td) (uDIn true uy ud) := din_any (neg := true) (fun σ H R h => h) hd hy
/-- d[k] = e -/
def putA (dx dy d : D) : Option D := match dx with
  | .dk kvs => match keyD dy with
    | some k => some (.dk (putD kvs k d))
    | none => none
  | .dt kvs => match dy with
    | .tup ks => match keysD ks with
      | some k => some (.dt (putD kvs k d))
      | none => none
    | _ => none
  | _ => none
def dlen : D → Nat
  | .dk kvs => kvs.length
  | .dt kvs => kvs.length
  | _ => 0
theorem dput_ok {F H : Hp} {a : Addr} {y v : V} {dx dy d d' : D} (s : Same F H) (c1 : Own K F H a dx) (c2 : Dd K F y dy ∨ ∃ a, y = .ref a ∧ Own K F H a dy) (h : Dd K F v d) (hl : dlen dx < sizeLine) (e : putA dx dy d = some d') :
    ∃ o, DPut H a y v (upd H a o) ∧ Own K F (upd H a o) a d' := by
  unfold putA at e
  cases c1 with
  | dK ha g =>
    dsimp only at e
    cases q : keyD dy with
    | none => rw [q] at e; cases e
    | some k =>
      rw [q] at e
      cases e
      have ey : y = kV k := by
        rcases c2 with h | ⟨a, _, h⟩
        · exact keyD_ok h q
        · cases h <;> cases q
      exact ⟨_, .inl ⟨_, k, ha, ey, by rw [g.length]; exact hl, rfl⟩, .dK upd_same (putK_dd h g)⟩
  | dT ha g =>
    cases dy with
    | tup ks =>
      dsimp only at e
      cases q : keysD ks with
      | none => rw [q] at e; cases e
      | some k =>
        rw [q] at e
        cases e
        rcases c2 with h2 | ⟨b, _, h2⟩
        · cases h2 with
          | tup e1 e2 =>
            rw [keysD_ok e2 q] at e1
            exact ⟨_, .inr ⟨_, k, _, ha, rfl, s _ _ e1, by rw [g.length]; exact hl, rfl⟩, .dT upd_same (putT_dd h g)⟩
        · cases h2
    | _ => cases e
  | _ => cases e
def uDPut (i : Nat) (uk uv : UE) : US := fun Q ρ => uv ρ fun x ρ1 => match ρ1[i]? with
  | some (some (.own _)) => uk ρ1 fun y ρ2 => fz (sf x) ρ2 fun d ρ3 => match ρ3[i]?, ck ρ3 (sf y) with
    | some (some (.own dx)), some dy => match putA dx dy d with
      | some d' => dlen dx < sizeLine ∧ Q.nx (ρ3.set i (some (.own d')))
      | none => False
    | _, _ => False
  | _ => False
theorem ls_dput {i : Nat} {tk tv : TE} {uk uv : UE} (hk : LE GP K B tk uk) (hv : LE GP K B tv uv) : LS GP K B (sDPut (tVar i) tk tv) (uDPut i uk uv) := by
  intro H0 F0 γ0 _ γ σ H F ρ E Q r z n b c t
  refine hv _ _ r z fun H1 F1 γ1 ρ1 v x r1 s1 k1 u1 => ?_
  obtain ⟨F2, r2, s2, k2⟩ := sf_ok r1 k1
  split at u1
  · rename_i ds0 e0
    obtain ⟨a, h1, h2, _⟩ := r2.own i _ e0
    refine ⟨_, h1, hk _ _ r2 u1 fun H3 F3 γ3 ρ3 w y r3 s3 k3 u3 => ?_⟩
    obtain ⟨F4, r4, s4, k4⟩ := sf_ok r3 k3
    obtain ⟨F5, ρ5, d, r5, s5, d5, q5⟩ := fz_ok r4 ((k2.same s3).same s4).one u3
    split at q5
    · rename_i dx dy e ek
      split at q5
      · rename_i d' ed
        obtain ⟨b', b1, b2, b3, _⟩ := r5.own i _ e
        rw [h1] at b1; cases b1
        obtain ⟨o, p1, p2⟩ := dput_ok r5.sub b2 (ck_ok r5 (k4.same s5).one ek) d5 q5.1 ed
        exact ⟨a, _, rfl, p1, n _ _ _ _ _ (r5.write e h1 p2) q5.2⟩
      · exact q5.elim
    · exact q5.elim
  · exact u1.elim
def uDNewK : UE := fun ρ Q => Q (.fr (.dk [])) ρ
def uDNewT : UE := fun ρ Q => Q (.fr (.dt [])) ρ
theorem le_dnewK : LE GP K B tDNewK uDNewK := fun H0 F0 γ0 _ γ σ H F ρ R Q r z k p np => k _ _ _ _ _ (.fr _) (r.same (same_upd np)) (Same.refl _) (fr_new r np (.dK upd_same .nil)) z
theorem le_dnewT : LE GP K B tDNewT uDNewT := fun H0 F0 γ0 _ γ σ H F ρ R Q r z k p np => k _ _ _ _ _ (.fr _) (r.same (same_upd np)) (Same.refl _) (fr_new r np (.dT upd_same .nil)) z
end DL
/-! the mathematics of scaled rules: who calls whom, when each one is told, how few these hang on -/
namespace CD
theorem nodup_lenT {α : Type} [DecidableEq α] : ∀ (l D : List α), l.Nodup → (∀ x ∈ l, x ∈ D) → l.length ≤ D.length
  | [], _, _, _ => Nat.zero_le _
  | x :: r, D, hn, h => by
    have hx := h x List.mem_cons_self
    have ih := nodup_lenT r (D.erase x) (List.nodup_cons.mp hn).2 fun y hy => (List.mem_erase_of_ne (fun e => (List.nodup_cons.mp hn).1 (by rw [← e]; exact hy))).mpr (h y (List.mem_cons_of_mem _ hy))
    rw [List.length_erase_of_mem hx] at ih
    have : 0 < D.length := List.length_pos_of_mem hx
    rw [List.length_cons]
    omega
theorem fm_congr {α β : Type} {f g : α → Option β} : ∀ {l : List α}, (∀ x ∈ l, f x = g x) → l.filterMap f = l.filterMap g
  | [], _ => rfl
  | x :: r, h => by rw [List.filterMap_cons, List.filterMap_cons, h x List.mem_cons_self, fm_congr fun y hy => h y (List.mem_cons_of_mem _ hy)]
theorem len_flat {α β : Type} (f : α → List β) (k : Nat) (h : ∀ x, (f x).length = k) : ∀ l : List α, (l.flatMap f).length = l.length * k
  | [] => by simp
  | x :: r => by
    rw [List.flatMap_cons, List.length_append, h, len_flat f k h r, List.length_cons, Nat.succ_mul]
    omega
structure IsSc (D : Int) (ads : List Int) : Prop where
  d2 : 2 ≤ D
  d5 : D ≤ 5
  one : 1 ≤ ads.length
  most : ads.length ≤ 5
  rng : ∀ a ∈ ads, 0 ≤ a ∧ a ≤ 20
  nd : ads.Nodup
/-- all who may call n, and the place of that call; those but n itself -/
def callsI (D : Int) (ads : List Int) (n : Int) : List (Int × Int) :=
  ads.zipIdx.filterMap fun e => if e.1 ≤ n ∧ (n - e.1) % D = 0 then some ((n - e.1) / D, 1 + (e.2 : Int)) else none
def callsO (D : Int) (ads : List Int) (n : Int) : List (Int × Int) := (callsI D ads n).filter fun p => decide (p.1 ≠ n)
section
variable {D : Int} {ads : List Int} (S : IsSc D ads)
include S
theorem callsI_mem {n : Int} {p : Int × Int} (h : p ∈ callsI D ads n) : ∃ a ∈ ads, a ≤ n ∧ (n - a) % D = 0 ∧ p.1 = (n - a) / D ∧ 1 ≤ p.2 ∧ p.2 ≤ 5 := by
  obtain ⟨e, he, hp⟩ := List.mem_filterMap.mp h
  have z := List.mem_zipIdx he
  have hm := S.most
  have ha : e.1 ∈ ads := by rw [z.2.2]; exact List.getElem_mem _
  by_cases c : e.1 ≤ n ∧ (n - e.1) % D = 0
  · rw [if_pos c] at hp
    cases hp
    exact ⟨e.1, ha, c.1, c.2, rfl, by show (1 : Int) ≤ 1 + (e.2 : Int); omega, by show 1 + (e.2 : Int) ≤ 5; have := z.2.1; omega⟩
  · rw [if_neg c] at hp; cases hp
theorem callsO_mem {n : Int} (h0 : 0 ≤ n) {p : Int × Int} (h : p ∈ callsO D ads n) : 0 ≤ p.1 ∧ p.1 < n ∧ 1 ≤ p.2 ∧ p.2 ≤ 5 ∧ ∃ a ∈ ads, a ≤ n ∧ p.1 = (n - a) / D := by
  obtain ⟨h1, h2⟩ := List.mem_filter.mp h
  obtain ⟨a, ha, an, md, e, q1, q5⟩ := callsI_mem S h1
  have ne : p.1 ≠ n := of_decide_eq_true h2
  have r := S.rng a ha
  have d2 := S.d2
  have p0 : 0 ≤ p.1 := by rw [e]; exact Int.ediv_nonneg (by omega) (by omega)
  have pl : p.1 ≤ n := by
    rw [e]
    have z := Int.ediv_le_self D (show 0 ≤ n - a by omega)
    omega
  exact ⟨p0, by omega, q1, q5, a, ha, an, e⟩
omit S in
theorem callsI_len (n : Int) : (callsI D ads n).length ≤ ads.length := by
  have := List.length_filterMap_le (fun e : Int × Nat => if e.1 ≤ n ∧ (n - e.1) % D = 0 then some ((n - e.1) / D, 1 + (e.2 : Int)) else none) ads.zipIdx
  rw [List.length_zipIdx] at this
  exact this
theorem callsI_len5 (n : Int) : (callsI D ads n).length ≤ 5 := Nat.le_trans (callsI_len n) S.most
theorem callsO_len5 (n : Int) : (callsO D ads n).length ≤ 5 := Nat.le_trans (List.length_filter_le _ _) (callsI_len5 S n)
end
/-- when n is told, or none -/
def tkF (D : Int) (ads : List Int) : Nat → Int → Option Int
  | 0, _ => some 0
  | f + 1, n => if n = 0 then some 0 else leastO ((callsO D ads n).filterMap fun p => (tkF D ads f p.1).map (· + p.2))
def tk (D : Int) (ads : List Int) (n : Int) : Option Int := tkF D ads n.toNat n
theorem tkF_same {D : Int} {ads : List Int} (S : IsSc D ads) : ∀ (f g : Nat) (n : Int), 0 ≤ n → n ≤ f → n ≤ g → tkF D ads f n = tkF D ads g n
  | 0, 0, _, _, _, _ => rfl
  | 0, g + 1, n, h0, hf, _ => by
    have : n = 0 := by omega
    subst this
    rw [tkF, tkF, if_pos rfl]
  | f + 1, 0, n, h0, _, hg => by
    have : n = 0 := by omega
    subst this
    rw [tkF, tkF, if_pos rfl]
  | f + 1, g + 1, n, h0, hf, hg => by
    rw [tkF, tkF]
    by_cases c : n = 0
    · rw [if_pos c, if_pos c]
    · rw [if_neg c, if_neg c]
      congr 1
      refine fm_congr fun p hp => ?_
      have z := callsO_mem S h0 hp
      rw [tkF_same S f g p.1 z.1 (by omega) (by omega)]
theorem tk_zero (D : Int) (ads : List Int) : tk D ads 0 = some 0 := rfl
theorem tk_eq {D : Int} {ads : List Int} (S : IsSc D ads) {n : Int} (h : 0 < n) : tk D ads n = leastO ((callsO D ads n).filterMap fun p => (tk D ads p.1).map (· + p.2)) := by
  obtain ⟨m, rfl⟩ : ∃ m : Nat, n = ((m + 1 : Nat) : Int) := ⟨(n - 1).toNat, by omega⟩
  unfold tk
  rw [Int.toNat_natCast, tkF, if_neg (by omega)]
  congr 1
  refine fm_congr fun p hp => ?_
  have z := callsO_mem S (by omega) hp
  rw [tkF_same S m p.1.toNat p.1 z.1 (by omega) (by omega)]
/-! ### how few people one hangs on -/
def Near (D n c : Int) : Prop := 0 ≤ c ∧ ∃ d : Nat, c ≤ n / D ^ d ∧ n / D ^ d ≤ c + 20
theorem Near.self {D n : Int} (h : 0 ≤ n) : Near D n n := ⟨h, 0, by rw [Int.pow_zero, Int.ediv_one]; exact Int.le_refl _, by rw [Int.pow_zero, Int.ediv_one]; omega⟩
theorem Near.step {D n c a : Int} (h : Near D n c) (hD : 2 ≤ D) (h0 : 0 ≤ a) (h20 : a ≤ 20) (hc : a ≤ c) : Near D n ((c - a) / D) := by
  obtain ⟨c0, d, h1, h2⟩ := h
  refine ⟨Int.ediv_nonneg (by omega) (by omega), d + 1, ?_⟩
  have e : n / D ^ (d + 1) = n / D ^ d / D := by
    rw [Int.pow_succ, Int.ediv_ediv_of_nonneg (Int.le_of_lt (Int.pow_pos (by omega)))]
  rw [e]
  constructor
  · exact Int.ediv_le_ediv (by omega) (by omega)
  · have z : n / D ^ d ≤ (c - a) + 20 * D := by omega
    have z2 := Int.ediv_le_ediv (c := D) (by omega) z
    rw [Int.add_mul_ediv_right _ _ (by omega)] at z2
    exact z2
def nearL (D n : Int) : List Int := (List.range 101).flatMap fun d => (List.range 21).map fun j : Nat => n / D ^ d - (j : Int)
theorem pow_ge {D : Int} (hD : 2 ≤ D) : ∀ d : Nat, (2 : Int) ^ d ≤ D ^ d
  | 0 => by simp
  | d + 1 => by
    rw [Int.pow_succ, Int.pow_succ]
    exact Int.mul_le_mul (pow_ge hD d) hD (by decide) (Int.le_of_lt (Int.pow_pos (by omega)))
theorem near_mem {D n c : Int} (hD : 2 ≤ D) (h0 : 0 ≤ n) (h30 : n ≤ 10 ^ 30) (h : Near D n c) : c ∈ nearL D n := by
  obtain ⟨c0, d, h1, h2⟩ := h
  refine List.mem_flatMap.mpr ?_
  by_cases hd : d ≤ 100
  · exact ⟨d, List.mem_range.mpr (by omega), List.mem_map.mpr ⟨(n / D ^ d - c).toNat, List.mem_range.mpr (by omega), by omega⟩⟩
  · have big : ∀ e : Nat, 100 ≤ e → n / D ^ e = 0 := fun e he => by
      have z1 := pow_ge hD e
      have z2 : (2 : Int) ^ 100 ≤ 2 ^ e := by
        obtain ⟨k, rfl⟩ : ∃ k, e = 100 + k := ⟨e - 100, by omega⟩
        rw [Int.pow_add]
        have : (1 : Int) ≤ 2 ^ k := Int.pow_pos (by decide)
        have z3 := Int.mul_le_mul_of_nonneg_left this (show (0 : Int) ≤ 2 ^ 100 by decide)
        rw [Int.mul_one] at z3
        exact z3
      have z3 : (10 : Int) ^ 30 < 2 ^ 100 := by decide
      exact Int.ediv_eq_zero_of_lt h0 (by omega)
    rw [big d (by omega)] at h1 h2
    exact ⟨100, List.mem_range.mpr (by decide), List.mem_map.mpr ⟨0, List.mem_range.mpr (by decide), by rw [big 100 (by decide)]; show (0 : Int) - ((0 : Nat) : Int) = c; omega⟩⟩
theorem nearL_len (D n : Int) : (nearL D n).length = 2121 := by
  unfold nearL
  rw [len_flat _ 21 (fun d => by rw [List.length_map, List.length_range]), List.length_range]
theorem few_near {D : Int} (hD : 2 ≤ D) {ns ks : List Int} (hn : ∀ n ∈ ns, 0 ≤ n ∧ n ≤ 10 ^ 30) (nd : ks.Nodup) (h : ∀ k ∈ ks, ∃ n ∈ ns, Near D n k) : ks.length ≤ ns.length * 2121 := by
  have z := nodup_lenT ks (ns.flatMap fun n => nearL D n) nd fun k hk => by
    obtain ⟨n, hm, hN⟩ := h k hk
    exact List.mem_flatMap.mpr ⟨n, hm, near_mem hD (hn n hm).1 (hn n hm).2 hN⟩
  rw [len_flat _ 2121 (fun n => nearL_len D n)] at z
  exact z
end CD
/-! own words: dicts with ints as keys; lists of tuples -/
namespace CD
open PySem PySem.Spec PyProof.Rows L2
def dkV (es : List (Int × V)) : List (Key × V) := es.map fun e => (Sum.inl e.1, e.2)
theorem dkV_len (es : List (Int × V)) : (dkV es).length = es.length := List.length_map _
theorem dkV_keys (es : List (Int × V)) : (dkV es).map (fun kv => kV kv.1) = (es.map (·.1)).map V.int := by
  unfold dkV
  rw [List.map_map, List.map_map]
  rfl
theorem dv_get : ∀ {es : List (Int × V)} {k : Int} {v : V}, (es.map (·.1)).Nodup → (k, v) ∈ es → valV (dkV es) (.inl k) = some v
  | [], _, _, _, h => by cases h
  | (k1, v1) :: r, k, v, nd, h => by
    obtain ⟨n1, n2⟩ := List.nodup_cons.mp nd
    unfold dkV valV
    rw [List.map_cons, List.find?_cons]
    rcases List.mem_cons.mp h with e | m
    · cases e
      rw [show decide ((Sum.inl k1 : Key) = Sum.inl k1) = true from decide_eq_true rfl]
      rfl
    · have ne : k1 ≠ k := fun e => n1 (by rw [e]; exact List.mem_map.mpr ⟨(k, v), m, rfl⟩)
      rw [show decide ((Sum.inl k1 : Key) = Sum.inl k) = false from decide_eq_false fun e => ne (Sum.inl.inj e)]
      exact dv_get n2 m
theorem dv_none : ∀ {es : List (Int × V)} {k : Int}, k ∉ es.map (·.1) → valV (dkV es) (.inl k) = none
  | [], _, _ => rfl
  | (k1, v1) :: r, k, h => by
    have ne : k1 ≠ k := fun e => h (by rw [List.map_cons, e]; exact List.mem_cons_self)
    unfold dkV valV
    rw [List.map_cons, List.find?_cons, show decide ((Sum.inl k1 : Key) = Sum.inl k) = false from decide_eq_false fun e => ne (Sum.inl.inj e)]
    exact dv_none fun m => h (by rw [List.map_cons]; exact List.mem_cons_of_mem _ m)
theorem dv_put {es : List (Int × V)} {k : Int} {v : V} (h : k ∉ es.map (·.1)) : putK (dkV es) (.inl k) v = dkV (es ++ [(k, v)]) := by
  unfold putK
  have e : (dkV es).any (fun kv => decide (kv.1 = (Sum.inl k : Key))) = false := by
    rw [List.any_eq_false]
    intro x hx
    obtain ⟨y, hy, rfl⟩ := List.mem_map.mp hx
    exact fun z => h (List.mem_map.mpr ⟨y, hy, Sum.inl.inj (of_decide_eq_true z)⟩)
  rw [e, if_neg Bool.false_ne_true]
  unfold dkV
  rw [List.map_append]
  rfl
theorem at_key {es : List (Int × V)} {k : Int} (h : k ∈ es.map (·.1)) : ∃ v, (k, v) ∈ es := by
  obtain ⟨⟨k', v⟩, m, e⟩ := List.mem_map.mp h
  exact ⟨v, by cases e; exact m⟩
/-- all that was tracked stays, but two objects -/
def Keep2 (H H' : Hp) (c f : Addr) : Prop := ∀ b o, H b = some o → b ≠ c → b ≠ f → H' b = some o
theorem _root_.L2.Same.keep2 {H H' : Hp} {c f : Addr} (s : Same H H') : Keep2 H H' c f := fun b o e _ _ => s b o e
theorem Keep2.trans {H H' H2 : Hp} {c f : Addr} (s : Keep2 H H' c f) (t : Keep2 H' H2 c f) : Keep2 H H2 c f := fun b o e n1 n2 => t b o (s b o e n1 n2) n1 n2
theorem keep2_c {H : Hp} {c f : Addr} {o : HO} : Keep2 H (upd H c o) c f := fun b x e n1 _ => by rw [upd_ne n1]; exact e
theorem keep2_f {H : Hp} {c f : Addr} {o : HO} : Keep2 H (upd H f o) c f := fun b x e _ n2 => by rw [upd_ne n2]; exact e
/-- a list of tuples -/
abbrev EntT := List V × Addr
def RowsAt (H : Hp) (l : Addr) (rows : List (List V)) : Prop := ∃ es : List EntT, H l = some (.lst (es.map fun e => V.ref e.2)) ∧ es.map (·.1) = rows ∧ ∀ e ∈ es, H e.2 = some (.tup e.1)
theorem RowsAt.same {H H' : Hp} {l : Addr} {rows : List (List V)} (h : RowsAt H l rows) (s : Same H H') : RowsAt H' l rows := let ⟨es, h1, h2, h3⟩ := h; ⟨es, s _ _ h1, h2, fun e he => s _ _ (h3 e he)⟩
theorem RowsAt.keep {H H' : Hp} {l c f : Addr} {rows : List (List V)} (h : RowsAt H l rows) (s : Keep2 H H' c f) (nc : l ≠ c) (nf : l ≠ f) (tc : ∀ t, H c ≠ some (.tup t)) (tf : ∀ t, H f ≠ some (.tup t)) : RowsAt H' l rows :=
  let ⟨es, h1, h2, h3⟩ := h
  ⟨es, s _ _ h1 nc nf, h2, fun e he => s _ _ (h3 e he) (fun x => tc e.1 (by rw [← x]; exact h3 e he)) (fun x => tf e.1 (by rw [← x]; exact h3 e he))⟩
theorem RowsAt.refs {H : Hp} {l : Addr} {rows : List (List V)} (h : RowsAt H l rows) : ∃ rs : List Addr, H l = some (.lst (rs.map V.ref)) ∧ rs.length = rows.length ∧ ∀ (i : Nat) (r : Addr) (row : List V), rs[i]? = some r → rows[i]? = some row → H r = some (.tup row) := by
  obtain ⟨es, h1, h2, h3⟩ := h
  refine ⟨es.map (·.2), by rw [h1, List.map_map]; rfl, by rw [List.length_map, ← h2, List.length_map], fun i r row hr hw => ?_⟩
  rw [← h2, List.getElem?_map] at hw
  rw [List.getElem?_map] at hr
  cases e : es[i]? with
  | none => rw [e] at hr; cases hr
  | some y =>
    rw [e] at hr hw
    cases hr
    cases hw
    exact h3 y (List.mem_of_getElem? e)
theorem dget_of {H : Hp} {c : Addr} {es : List (Int × V)} {k : Int} {v : V} (h : H c = some (.dK (dkV es))) (nd : (es.map (·.1)).Nodup) (m : (k, v) ∈ es) : DGet H c (.int k) (some v) := by
  have z := DGet.k (k := .inl k) h
  rw [dv_get nd m] at z
  exact z
theorem dput_of {H : Hp} {c : Addr} {es : List (Int × V)} {k : Int} {v : V} (h : H c = some (.dK (dkV es))) (n : k ∉ es.map (·.1)) (hl : es.length < sizeLine) : DPut H c (.int k) v (upd H c (.dK (dkV (es ++ [(k, v)])))) := by
  have z := DPut.k (k := .inl k) (v := v) h (by rw [dkV_len]; exact hl)
  rw [dv_put n] at z
  exact z
/-- k in d -/
theorem din_of {H : Hp} {c : Addr} {es : List (Int × V)} (k : Int) (h : H c = some (.dK (dkV es))) : ∃ o : Option V, DGet H c (.int k) o ∧ (o.isSome = true ↔ k ∈ es.map (·.1)) := by
  refine ⟨_, DGet.k (k := .inl k) h, ?_⟩
  constructor
  · intro e
    refine Decidable.by_contra fun n => ?_
    rw [dv_none n] at e
    cases e
  · intro m
    obtain ⟨v, hv⟩ := at_key m
    have e : (dkV es).find? (fun kv => decide (kv.1 = (Sum.inl k : Key))) ≠ none := fun z => by
      have z2 := List.find?_eq_none.mp z (Sum.inl k, v) (List.mem_map.mpr ⟨(k, v), hv, rfl⟩)
      exact z2 (decide_eq_true rfl)
    unfold valV
    cases c : (dkV es).find? (fun kv => decide (kv.1 = (Sum.inl k : Key))) with
    | none => exact absurd c e
    | some y => rfl
theorem orD_non (o : Option Int) : orD .non o = oV o := by cases o <;> rfl
theorem srt_take {ns : List Int} {i : Nat} {k c : Int} (hs : ns.Pairwise (· ≤ ·)) (hi : ns[i]? = some k) (hc : c ∈ ns) (hl : c < k) : c ∈ ns.take i := by
  obtain ⟨j, hj, rfl⟩ := List.mem_iff_getElem.mp hc
  have hi' := (List.getElem?_eq_some_iff.mp hi)
  obtain ⟨li, ei⟩ := hi'
  by_cases c2 : j < i
  · exact List.mem_take_iff_getElem.mpr ⟨j, by omega, rfl⟩
  · exfalso
    rcases Nat.lt_or_eq_of_le (Nat.le_of_not_lt c2) with l | e
    · have z := (List.pairwise_iff_getElem.mp hs) i j li hj l
      omega
    · subst e
      omega
/-! ### len(set(l)), l a list of ints -/
def tLenSetGL (K : PySem.W.Frag) (ta : TE) : TE := fun σ H Q => ta σ H fun x H1 => ∃ (l : Addr) (ns : List Int), x = .ref l ∧ SqL K H1 l (ns.map V.int) ∧ ns.length ≤ 1000 ∧
  ∀ ks : List Int, ks.Nodup → (∀ x, x ∈ ks ↔ x ∈ ns) → Q (.int (ks.length : Nat)) H1
theorem pe_lenSetGL {X : Cx} {a : Expr} {ta : TE} {p p2 q pos : Pos} (hg : Gl X "len") (hm : X.mg "len" = none) (hg2 : Gl X "set") (hm2 : X.mg "set" = none) (ha : PE X a ta) (hc : X.calm = true := by rfl)
    (na : starEach [a] X.env = (false, eval a X.env) :: starEach [] X.env := by rfl) : PE X (.Call (.Name "len" p) [.Call (.Name "set" p2) [a] [] q] [] pos) (tLenSetGL X.K ta) := by
  refine ⟨fun pins s σ H Q I h => ?_⟩
  refine Call_ (ld_blt I hg hm boot_len (PyProof.Rows.callWith_builtin1 (PyProof.Rows.args_cons ?_ rfl) rfl rfl))
  refine Call_ (ld_blt I hg2 hm2 boot_set (PyProof.Rows.callWith_type1 (PyProof.Rows.args_cons (thn (ha.run pins s σ H _ I h) fun v s1 ⟨x, H1, I1, r1, l, ns, ex, hq, hl, q1⟩ => PyProof.Rows.args_nil ?_) na) na rfl))
  subst ex
  cases r1
  obtain ⟨its, r, pl, hz⟩ := I1.list hq
  refine call_set_lst ns (I1.ok.hd hc) pl.isList r.ints (by unfold scanBound; omega) fun h' tk c hS hcl hk => PyProof.Rows.args_nil ?_
  obtain ⟨o, es, ep, t, ho, hex, hdt, g, nd, hm3, hb, hf, hn, _, _⟩ := hS
  have hmem : ∀ x, x ∈ es.toList.map keyOf ↔ x ∈ ns := fun j => by
    have z : decide (j ∈ ns) = true ↔ j ∈ es.toList.map keyOf := hm3 j
    rw [decide_eq_true_eq] at z
    exact z.symm
  have hlen : (es.toList.map keyOf).length = es.size := by simp
  have hle := nodup_lenT _ ns nd fun x hx => (hmem x).mp hx
  have I2 : Inv X pins σ H1 { s1 with heap := h', toks := tk } := I1.kept hk
  exact call_len_set ho hex hdt hf (by omega) ⟨.int (es.toList.map keyOf).length, H1, I2.tok _, ⟨_, by rw [hlen]⟩, q1 _ nd hmem⟩
/-! ### max(xs, default=d) -/
def maxO : List Int → Option Int
  | [] => none
  | n :: ns => some (ns.foldl max n)
def rMaxDf (K : PySem.W.Frag) : List V → List V → Hp → VK → Prop := fun vs zs H Q => ∃ (a : Addr) (ns : List Int) (d : V), vs = [V.ref a] ∧ zs = [d] ∧ SqL K H a (ns.map V.int) ∧ Q (orD d (maxO ns)) H
theorem cr_maxDef {X : Cx} (hc : X.calm = true) (hu : X.A.units + 1 < cLine) : CallRK X (.builtin "max") [Str.ofString "default"] (rMaxDf X.K) := by
  intro pins s σ H vs zs us ws Q I r rz h
  obtain ⟨a, ns, d, rfl, rfl, hs, q⟩ := h
  obtain rfl := Vals.ref1 r
  obtain ⟨w1, rfl, e1⟩ := vals1 rz
  obtain ⟨its, rv, hl, _⟩ := I.list hs
  have hi := rv.ints
  refine PySem.W.max_list_default (I.ok.hd hc) hl.isList (xs := ns.map PyData.int) (as := []) (by simpa using reads_ints hi) (alike_ints ns) (by rw [depth_ints]; exact hu) (fun e h' tk hk => ?_) fun y ys i v h' tk bs e hv hr hk => ?_
  · have e2 : ns = [] := List.map_eq_nil_iff.mp e
    subst e2
    exact ⟨d, H, I.kept hk, e1, q⟩
  · cases ns with
    | nil => cases e
    | cons n ns =>
      rw [List.map_cons] at e
      injection e with e2 e3
      subst e2 e3
      rw [PySem.W.maxD_ints] at hr
      cases hr with
      | int i t => exact ⟨.int _, H, I.kept hk, ⟨t, rfl⟩, q⟩
end CD
/-! lifted readings 7: more of them -/
namespace DL
open PySem PySem.Spec PyProof.Rows L2 CD
variable {GP : GenP} {K : PySem.W.Frag}
variable {B : Hp × Hp × GAt}
/-! ### tuples -/
def pCatT : P2 := fun x y Q => match x, y with
  | .tup a, .tup b => a.length + b.length ≤ sizeLine ∧ Q (.val (.tup (a ++ b)))
  | _, _ => False
def pRepT : P2 := fun x y Q => match x, y with
  | .tup a, .int k => a ≠ [] ∧ 0 ≤ k ∧ k ≤ 1000 ∧ a.length ≤ 1000 ∧ Q (.val (.tup (List.replicate k.toNat a).flatten))
  | _, _ => False
/-- an operation that gives a tuple, new or one that was there: told by what is tracked -/
def OpT (K : PySem.W.Frag) (F H H' : Hp) (v : V) (ds : List D) : Prop := ∃ a xs, v = .ref a ∧ SqT K H' a xs ∧ DdL K F xs ds
/-- operands that are tracked tuples: none of them written in the text -/
def uOpT (p : D → D → (D → Prop) → Prop) (ua ub : UE) : UE := fun ρ Q => ua ρ fun x ρ1 => ub ρ1 fun y ρ2 => match ck ρ2 (sf x), ck ρ2 (sf y) with
  | some dx, some dy => p dx dy fun z => Q (.val z) ρ2
  | _, _ => False
theorem ck_tup {H0 F0 H F : Hp} {γ0 γ : GAt} {σ : L2.St} {ρ : Rho} {v : V} {x : RV} {ds : List D} (r : Rp GP K H0 F0 γ0 γ σ H F ρ) (h : RVok GP K H0 γ0 γ σ H F ρ v x) (e : ck ρ x = some (.tup ds)) : ∃ a xs, v = .ref a ∧ F a = some (.tup xs) ∧ DdL K F xs ds := by
  rcases ck_ok r h e with h9 | ⟨a, _, h9⟩
  · cases h9 with
    | tup e9 g => exact ⟨_, _, rfl, e9, g⟩
  · cases h9
theorem ck_dd {H0 F0 H F : Hp} {γ0 γ : GAt} {σ : L2.St} {ρ : Rho} {v : V} {x : RV} {d : D} (r : Rp GP K H0 F0 γ0 γ σ H F ρ) (h : RVok GP K H0 γ0 γ σ H F ρ v x) (e : ck ρ x = some d) (f : flatD d = true) : Dd K F v d := by
  rcases ck_ok r h e with h | ⟨a, _, h⟩
  · exact h
  · cases h <;> cases f
theorem le_catT {ta tb : TE} {ua ub : UE} (ha : LE GP K B ta ua) (hb : LE GP K B tb ub) : LE GP K B (tOp (rCatA K) ta tb) (uOpT (fun x y Q => match x, y with
    | .tup a, .tup b => a.length + b.length ≤ sizeLine ∧ Q (.tup (a ++ b))
    | _, _ => False) ua ub) := by
  intro H0 F0 γ0 _ γ σ H F ρ R Q r z k
  refine ha _ _ r z fun H1 F1 γ1 ρ1 v x r1 s1 k1 u1 => ?_
  obtain ⟨F2, r2, s2, k2⟩ := sf_ok r1 k1
  refine hb _ _ r2 u1 fun H3 F3 γ3 ρ3 w y r3 s3 k3 u3 => ?_
  obtain ⟨F4, r4, s4, k4⟩ := sf_ok r3 k3
  dsimp only at u3
  split at u3
  · rename_i dx dy e1 e2
    split at u3
    · rename_i a b
      obtain ⟨p, xs, rfl, hp, gp⟩ := ck_tup r4 (((k2.same s3).same s4).one) e1
      obtain ⟨q, ys, rfl, hq, gq⟩ := ck_tup r4 k4.one e2
      have S := s1.trans (s2.trans (s3.trans s4))
      have hp' := r4.sub _ _ hp
      have hq' := r4.sub _ _ hq
      refine ⟨p, q, xs, ys, rfl, rfl, .inl (.inl hp'), .inl (.inl hq'), by rw [gp.length, gq.length]; exact u3.1, fun e => ?_, fun _ e => ?_, fun _ _ l nl => ?_⟩
      · subst e
        have ea : a = [] := by cases gp; rfl
        subst ea
        exact k _ _ _ _ _ (.val _) r4 S (.tup hq gq) u3.2
      · subst e
        have eb : b = [] := by cases gq; rfl
        subst eb
        have := u3.2
        rw [List.append_nil] at this
        exact k _ _ _ _ _ (.val _) r4 S (.tup hp gp) this
      · obtain ⟨F5, r5, s5, d5⟩ := new_tup r4 nl (gp.append gq)
        exact k _ _ _ _ _ (.val _) r5 (S.trans s5) d5 u3.2
    · exact u3.elim
  · exact u3.elim
theorem le_repT {ta tb : TE} {ua ub : UE} (ha : LE GP K B ta ua) (hb : LE GP K B tb ub) : LE GP K B (tOp (rRepA K) ta tb) (uOpT (fun x y Q => match x, y with
    | .tup a, .int k => a ≠ [] ∧ 0 ≤ k ∧ k ≤ 1000 ∧ a.length ≤ 1000 ∧ Q (.tup (List.replicate k.toNat a).flatten)
    | _, _ => False) ua ub) := by
  intro H0 F0 γ0 _ γ σ H F ρ R Q r z k
  refine ha _ _ r z fun H1 F1 γ1 ρ1 v x r1 s1 k1 u1 => ?_
  obtain ⟨F2, r2, s2, k2⟩ := sf_ok r1 k1
  refine hb _ _ r2 u1 fun H3 F3 γ3 ρ3 w y r3 s3 k3 u3 => ?_
  obtain ⟨F4, r4, s4, k4⟩ := sf_ok r3 k3
  dsimp only at u3
  split at u3
  · rename_i dx dy e1 e2
    split at u3
    · rename_i a n
      obtain ⟨p, xs, rfl, hp, gp⟩ := ck_tup r4 (((k2.same s3).same s4).one) e1
      have hw := ck_dd r4 k4.one e2 rfl
      cases hw
      obtain ⟨n1, n2, n3, n4, q⟩ := u3
      have S := s1.trans (s2.trans (s3.trans s4))
      have hp' := r4.sub _ _ hp
      obtain ⟨m, rfl⟩ : ∃ m : Nat, n = m := ⟨_, (Int.toNat_of_nonneg n2).symm⟩
      rw [Int.toNat_natCast] at q
      refine ⟨p, xs, m, rfl, rfl, .inl (.inl hp'), ?_, by omega, by rw [gp.length]; omega, fun e => ?_, fun _ l nl => ?_⟩
      · intro e
        subst e
        cases gp
        exact n1 rfl
      · subst e
        have := q
        rw [show (List.replicate 1 a).flatten = a by simp] at this
        exact k _ _ _ _ _ (.val _) r4 S (.tup hp gp) this
      · obtain ⟨F5, r5, s5, d5⟩ := new_tup r4 nl (rep_dd gp m)
        exact k _ _ _ _ _ (.val _) r5 (S.trans s5) d5 q
    · exact u3.elim
  · exact u3.elim
/-- t[i:j] -/
def uSlT (a : UE) (l h : UO) : UE := fun ρ Q => a ρ fun x ρ1 => l ρ1 fun i ρ2 => h ρ2 fun j ρ3 => match ck ρ3 (sf x) with
  | some (.tup ds) => Q (.val (.tup (cutD ds i j))) ρ3
  | _ => False
theorem cutD_all {ds : List D} {i j : Option Int} (h : HT.sIx ds.length 0 i = 0 ∧ HT.sIx ds.length ds.length j = ds.length) : cutD ds i j = ds := by
  unfold cutD
  rw [h.1, h.2, List.drop_zero, Nat.sub_zero, List.take_length]
theorem le_slT {te : TE} {tl th : TO} {ue : UE} {ul uh : UO} (he : LE GP K B te ue) (hl : LO GP K B tl ul) (hh : LO GP K B th uh) : LE GP K B (tSl (rSlA K) te tl th) (uSlT ue ul uh) := by
  intro H0 F0 γ0 _ γ σ H F ρ R Q r z k
  refine he _ _ r z fun H1 F1 γ1 ρ1 v x r1 s1 k1 u1 => ?_
  obtain ⟨F2, r2, s2, k2⟩ := sf_ok r1 k1
  refine hl _ _ r2 u1 fun H3 F3 γ3 ρ3 i r3 s3 u3 => ?_
  refine hh _ _ r3 u3 fun H4 F4 γ4 ρ4 j r4 s4 u4 => ?_
  split at u4
  · rename_i ds e
    obtain ⟨p, xs, rfl, hp, gp⟩ := ck_tup r4 (((k2.same s3).same s4).one) e
    have S := s1.trans (s2.trans (s3.trans s4))
    refine ⟨p, xs, rfl, .inl (.inl (r4.sub _ _ hp)), fun e => ?_, fun _ l nl => ?_⟩
    · rw [gp.length] at e
      rw [cutD_all e] at u4
      exact k _ _ _ _ _ (.val _) r4 S (.tup hp gp) u4
    · obtain ⟨F5, r5, s5, d5⟩ := new_tup r4 nl (cutV_dd i j gp)
      exact k _ _ _ _ _ (.val _) r5 (S.trans s5) d5 u4
  · exact u4.elim
/-! ### lists -/
def uRevL (a : UE) : UE := fun ρ Q => a ρ fun x ρ1 => match cn ρ1 x with
  | some (.list ds) => Q (.fr (.list ds.reverse)) ρ1
  | _ => False
theorem le_revL {te : TE} {ue : UE} (he : LE GP K B te ue) : LE GP K B (tRevL K te) (uRevL ue) := by
  intro H0 F0 γ0 _ γ σ H F ρ R Q r z k
  refine he _ _ r z fun H1 F1 γ1 ρ1 v x r1 s1 k1 u1 => ?_
  split at u1
  · rename_i ds e
    obtain ⟨a, xs, rfl, hx, g⟩ := (RVok.cnt r1 k1 e).list r1.sub
    exact ⟨a, xs, rfl, .inl (.inl hx), fun p np => k _ _ _ _ _ (.fr _) (r1.same (same_upd np)) s1 (fr_new r1 np (.lst upd_same g.reverse)) u1⟩
  · exact u1.elim
/-- list(range(..)) -/
def uLstRg1 (a : UE) : UE := fun ρ Q => a ρ fun x ρ1 => match cn ρ1 x with
  | some (.int n) => RgOk 0 n ∧ Q (.fr (.list (rgD 0 n.toNat))) ρ1
  | _ => False
def uLstRg2 (a b : UE) : UE := fun ρ Q => a ρ fun x ρ1 => b ρ1 fun y ρ2 => match cn ρ2 (sf x), cn ρ2 y with
  | some (.int i), some (.int j) => RgOk i j ∧ Q (.fr (.list (rgD i (j - i).toNat))) ρ2
  | _, _ => False
theorem rg_dd {F : Hp} (a b : Int) : DdL K F (rgV a b) (rgD a (b - a).toNat) := by
  unfold rgV rgD
  generalize List.range (b - a).toNat = l
  induction l with
  | nil => exact .nil
  | cons i r ih => exact .cons (.int _) ih
theorem le_lstRg1 {ta : TE} {ua : UE} (ha : LE GP K B ta ua) : LE GP K B (tLstRg (tRg1 ta)) (uLstRg1 ua) := by
  intro H0 F0 γ0 _ γ σ H F ρ R Q r z k
  refine ha _ _ r z fun H1 F1 γ1 ρ1 v x r1 s1 k1 u1 => ?_
  split at u1
  · rename_i n e
    refine ⟨n, (RVok.cnt r1 k1 e).int, u1.1, fun p np => ?_⟩
    have g := rg_dd (K := K) (F := F1) 0 n
    rw [Int.sub_zero] at g
    exact k _ _ _ _ _ (.fr _) (r1.same (same_upd np)) s1 (fr_new r1 np (.lst upd_same g)) u1.2
  · exact u1.elim
theorem le_lstRg2 {ta tb : TE} {ua ub : UE} (ha : LE GP K B ta ua) (hb : LE GP K B tb ub) : LE GP K B (tLstRg (tRg2 ta tb)) (uLstRg2 ua ub) := by
  intro H0 F0 γ0 _ γ σ H F ρ R Q r z k
  refine ha _ _ r z fun H1 F1 γ1 ρ1 v x r1 s1 k1 u1 => ?_
  obtain ⟨F2, r2, s2, k2⟩ := sf_ok r1 k1
  refine hb _ _ r2 u1 fun H3 F3 γ3 ρ3 w y r3 s3 k3 u3 => ?_
  split at u3
  · rename_i i j e1 e2
    exact ⟨i, j, (RVok.cnt r3 (k2.same s3).one e1).int, (RVok.cnt r3 k3 e2).int, u3.1, fun p np => k _ _ _ _ _ (.fr _) (r3.same (same_upd np)) (s1.trans (s2.trans s3)) (fr_new r3 np (.lst upd_same (rg_dd i j))) u3.2⟩
  · exact u3.elim
/-! ### more built-ins -/
def pLenD : PN := fun ds Q => match ds with
  | [.dk kvs] => Q (.val (.int kvs.length))
  | _ => False
theorem lb_lenD : LB K (fun xs H Q => ∃ a kvs, xs = [V.ref a] ∧ H a = some (.dK kvs) ∧ Q (.int kvs.length) H) pLenD := by
  intro F H vs ds R Q s c p h
  unfold pLenD at p
  split at p
  · obtain ⟨v, rfl, k⟩ := cl1 c
    obtain ⟨a, kvs, rfl, hx, g⟩ := k.dk s
    exact ⟨a, kvs, rfl, hx, by rw [g.length]; exact h _ _ (.val _) (Same.refl _) (Dd.int _) p⟩
  · exact p.elim
def pMaxT : PN := fun ds Q => match ds with
  | [.tup xs] => ∃ (n : Int) (ns : List Int), xs = (n :: ns).map D.int ∧ Q (.val (.int (ns.foldl max n)))
  | _ => False
theorem lb_maxT : LB K (rMaxT K) pMaxT := by
  intro F H vs ds R Q s c p h
  unfold pMaxT at p
  split at p
  · obtain ⟨n, ns, rfl, p⟩ := p
    obtain ⟨v, rfl, k⟩ := cl1 c
    obtain ⟨a, xs, rfl, hx, g⟩ := k.tup s
    rw [g.ints] at hx
    exact ⟨a, n, ns, rfl, hx, h _ _ (.val _) (Same.refl _) (Dd.int _) p⟩
  · exact p.elim
/-- max(xs, default=d), min(..) -/
def uMaxD (a d : UA) : UE := fun ρ Q => a ρ fun xs ρ1 => d ρ1 fun ys ρ2 => match cns ρ2 xs, cns ρ2 ys with
  | some [.list ds], some [.int e] => ∃ ns : List Int, ds = ns.map D.int ∧ Q (.val (.int ((maxO ns).getD e))) ρ2
  | _, _ => False
/-- min(xs, default=None) -/
def oD2 : Option Int → D
  | none => .non
  | some i => .int i
def uMinD (a d : UA) : UE := fun ρ Q => a ρ fun xs ρ1 => d ρ1 fun ys ρ2 => match cns ρ2 xs, cns ρ2 ys with
  | some [.list ds], some [.non] => ∃ ns : List Int, ds = ns.map D.int ∧ Q (.val (oD2 (leastO ns))) ρ2
  | _, _ => False
def tBK (r : List V → List V → Hp → VK → Prop) (t tk : TA) : TE := fun σ H Q => t σ H fun vs H1 => tk σ H1 fun zs H2 => r vs zs H2 Q
/-- x, y = e1, e2 -/
def uPar (i j : Nat) (a b : UE) : US := fun Q ρ => a ρ fun x ρ1 => match x with
  | .fr d => b ρ1 fun y ρ2 => (match y with
    | .fr e => Q.nx ((ρ2.set i (some (.own d))).set j (some (.own e)))
    | y => fz y ρ2 fun dy ρ3 => Q.nx ((ρ3.set i (some (.own d))).set j (some (.val dy))))
  | x => fz x ρ1 fun d ρ1' => b ρ1' fun y ρ2 => (match y with
    | .fr e => Q.nx ((ρ2.set i (some (.val d))).set j (some (.own e)))
    | y => fz y ρ2 fun dy ρ3 => Q.nx ((ρ3.set i (some (.val d))).set j (some (.val dy))))
theorem ownAt_set {σ : L2.St} {ρ : Rho} {i j : Nat} {w : V} {s : SV} {b : Addr} (h : OwnAt (σ.set i (some w)) (ρ.set i (some s)) b j) (hl : σ.length = ρ.length) : (j = i ∧ w = .ref b ∧ ∃ e, s = .own e) ∨ OwnAt σ ρ b j := by
  obtain ⟨⟨e, he⟩, h2⟩ := h
  by_cases c : j = i
  · subst c
    obtain ⟨h3, h4⟩ := set_at he
    refine .inl ⟨rfl, ?_, e, by injection h3⟩
    rw [List.getElem?_set_self (by rw [hl]; exact h4)] at h2
    injection h2 with h2
    injection h2
  · rw [set_none c] at he h2
    exact .inr ⟨⟨e, he⟩, h2⟩
theorem ls_par {i j : Nat} {ta tb : TE} {ua ub : UE} (ha : LE GP K B ta ua) (hb : LE GP K B tb ub) : LS GP K B (tPar i j (tCons ta (tCons tb tNil))) (uPar i j ua ub) := by
  intro H0 F0 γ0 _ γ σ H F ρ E Q r z n bk ct rt
  refine ha _ _ r z fun H1 F1 γ1 ρ1 v x r1 s1 k1 u1 => ?_
  have other : ∀ {x : RV}, RVok GP K H0 γ0 γ1 σ H1 F1 ρ1 v x → (fz x ρ1 fun d ρ1' => ub ρ1' fun y ρ2 => (match y with
    | .fr e => Q.nx ((ρ2.set i (some (.val d))).set j (some (.own e)))
    | y => fz y ρ2 fun dy ρ3 => Q.nx ((ρ3.set i (some (.val d))).set j (some (.val dy))))) → tCons tb tNil σ H1 fun xs H2 => ∃ v' w, v :: xs = [v', w] ∧ E.nx ((σ.set i (some v')).set j (some w)) H2 := by
    intro x k1 u1
    obtain ⟨F2, ρ2, d, r2, s2, d2, q2⟩ := fz_ok r1 k1 u1
    refine hb _ _ r2 q2 fun H3 F3 γ3 ρ3 w y r3 s3 k3 u3 => ?_
    refine ⟨v, w, rfl, ?_⟩
    have via : ∀ {y : RV}, RVok GP K H0 γ0 γ3 σ H3 F3 ρ3 w y → (fz y ρ3 fun dy ρ3 => Q.nx ((ρ3.set i (some (.val d))).set j (some (.val dy)))) → E.nx ((σ.set i (some v)).set j (some w)) H3 := by
      intro y k3 u3
      obtain ⟨F4, ρ4, dy, r4, s4, d4, q4⟩ := fz_ok r3 k3 u3
      exact n _ _ _ _ _ ((r4.setVal i (d2.same (s3.trans s4))).setVal j d4) q4
    cases y with
    | val d' => exact via k3 u3
    | kon d' => exact via k3 u3
    | sl l => exact via k3 u3
    | fr e =>
      obtain ⟨b, rfl, o, h1, h2, h3, h4⟩ := k3
      exact n _ _ _ _ _ ((r3.setVal i (d2.same s3)).setOwn j o h1 h2 h3 (fun l hl => by
        rcases ownAt_set hl r3.len with ⟨_, _, e, he⟩ | hl
        · cases he
        · exact h4 l hl)) u3
  cases x with
  | val d' => exact other k1 u1
  | kon d' => exact other k1 u1
  | sl l => exact other k1 u1
  | fr d =>
    obtain ⟨a, rfl, o, h1, h2, h3, h4⟩ := k1
    obtain ⟨ob, hob⟩ := o.there
    have nt : ∀ xs, ob ≠ .tup xs := fun xs e => o.nt (by rw [hob, e])
    have nga := r1.nga h2
    have f0a : F0 a = none := Same.free r1.f0 h1
    haveI : FinerC GP K B (upd H0 a ob) F0 γ0 := ⟨fun r => FinerC.fin (r.letgo h2 f0a nga nt).1, FinerC.g (GP := GP) (K := K) H0 F0⟩
    refine hb _ _ (r1.hold hob h1 h2 h3 h4) u1 fun H3 F3 γ3 ρ3 w y r3 s3 k3 u3 => ?_
    refine ⟨_, w, rfl, ?_⟩
    have own2 : ∀ {F4 H4}, Same F1 F4 → H4 a = some ob → Own K F4 H4 a d := fun s e => o.move s (e.trans hob.symm)
    have via : ∀ {y : RV}, RVok GP K (upd H0 a ob) γ0 γ3 σ H3 F3 ρ3 w y → (fz y ρ3 fun dy ρ3 => Q.nx ((ρ3.set i (some (.own d))).set j (some (.val dy)))) → E.nx ((σ.set i (some (.ref a))).set j (some w)) H3 := by
      intro y k3 u3
      obtain ⟨F4, ρ4, dy, r4, s4, d4, q4⟩ := fz_ok r3 k3 u3
      obtain ⟨rg, e1, e2, e3, e4⟩ := r4.letgo h2 f0a nga nt
      exact n _ _ _ _ _ ((rg.setOwn i (own2 (s3.trans s4) e1) e2 h2 e3 e4).setVal j d4) q4
    cases y with
    | val d' => exact via k3 u3
    | kon d' => exact via k3 u3
    | sl l => exact via k3 u3
    | fr e =>
      obtain ⟨b, rfl, o', b1, b2, b3, b4⟩ := k3
      obtain ⟨rg, e1, e2, e3, e4⟩ := r3.letgo h2 f0a nga nt
      have nab : b ≠ a := fun x => by rw [x, upd_same] at b2; cases b2
      rw [upd_ne nab] at b2
      exact n _ _ _ _ _ ((rg.setOwn i (own2 s3 e1) e2 h2 e3 e4).setOwn j o' b1 b2 b3 (fun l hl => by
        rcases ownAt_set hl rg.len with ⟨_, e, _⟩ | hl
        · injection e with e
          exact nab e.symm
        · exact b4 l hl)) u3
/-! ### truth of a value -/
def trD : D → Option Bool
  | .non => some false
  | .bl b => some b
  | .int i => some (i != 0)
  | .list ds => some (!ds.isEmpty)
  | .tup ds => some (!ds.isEmpty)
  | _ => none
def uTruth (u : UE) : UT := fun ρ Q => u ρ fun x ρ1 => match cn ρ1 x with
  | some d => match trD d with
    | some b => Q b ρ1
    | none => False
  | none => False
theorem empty_dd {F : Hp} {xs : List V} {ds : List D} (g : DdL K F xs ds) : xs.isEmpty = ds.isEmpty := by cases g <;> rfl
theorem lt_truth {t : TE} {u : UE} (h : LE GP K B t u) : LT GP K B (fun σ H Q => t σ H fun x H' => ∃ k, TruV K x H' k ∧ Q k H') (uTruth u) := by
  intro H0 F0 γ0 _ γ σ H F ρ R Q r z k
  refine h _ _ r z fun H1 F1 γ1 ρ1 v x r1 s1 k1 u1 => ?_
  split at u1
  · rename_i d e
    have c := RVok.cnt r1 k1 e
    split at u1
    · rename_i b eb
      refine ⟨b, ?_, k _ _ _ _ _ r1 s1 u1⟩
      cases d with
      | non => rw [c.non]; cases eb; rfl
      | bl b' => rw [c.bl]; cases eb; rfl
      | int i => rw [c.int]; cases eb; rfl
      | list ds =>
        obtain ⟨a, xs, rfl, hx, g⟩ := c.list r1.sub
        cases eb
        exact .inl ⟨xs, .inl (.inl hx), by rw [empty_dd g]⟩
      | tup ds =>
        obtain ⟨a, xs, rfl, hx, g⟩ := c.tup r1.sub
        cases eb
        exact .inr (.inl ⟨xs, hx, by rw [empty_dd g]⟩)
      | _ => cases eb
    · exact u1.elim
  · exact u1.elim
/-! ### isinstance of ints, bools, tuples, texts -/
def tyD : D → String
  | .non => "NoneType"
  | .bl _ => "bool"
  | .int _ => "int"
  | .str _ => "str"
  | .list _ => "list"
  | .tup _ => "tuple"
  | .dk _ => "dict"
  | .dt _ => "dict"
  | .set _ => "set"
  | .scr _ => "list"
  | .fn _ => "function"
/-- a built-in class -/
def uTyK (n : String) (k : Option Bool → Option Bool) : UE := fun _ _ => False
/-! ### a def without arguments -/
section
variable {X : Cx} {k : Nat} {sp : Sp} {x : Str} {p pos : Pos}
theorem pe_calG0 (C : CalG X.prog X.w X.K X.mg X.base k x [] sp) (hgd : X.A.guards = some []) (hr : Room k X.A) (hg : Gl X x) (hdb : (x == ("__debug__" : Str)) = false := by decide) : PE X (.Call (.Name x p) [] [] pos) (tCall sp [] E0 tNil) := by
  obtain ⟨f, fd, G, m, kp, b⟩ := C
  refine ⟨fun pins s σ H Q I h => wpAny_Call_Name_kw (ld_glob I hg m ?_ hdb)⟩
  have h' : sp [] H Q E0 := h
  have hbb := b s [] I.kIn rfl
  refine PySem.W.callWith_K0 I.kIn kp (wpAny_call (codeAny_mono (G.run X.A X.stack s H ⟨[], []⟩ [] [] Q E0 hgd hr I.env0 (by simpa using hbb) .nil h') fun r s' hq => ?_))
  match r, hq with
  | .error _, hq => exact False.elim hq
  | .ok (.ret u), hq => exact I.after hq
  | .ok .next, hq => exact False.elim hq
  | .ok .brk, hq => exact False.elim hq
  | .ok .cont, hq => exact False.elim hq
end
/-- an old promise as one of the new kind -/
theorem toG {P : Program} {w : World} {mg : Str → Option Value} {base : Heap} {k : Nat} {x : Str} {ps : List Str} {sp sp' : Sp} (C : Cal P w K mg base k x ps sp) (h : ∀ vs H Q E, sp' vs H Q E → sp vs H Q E) : CalG P w K mg base k x ps sp' := by
  obtain ⟨f, fd, F, r⟩ := C
  exact ⟨f, fd, ⟨fun vs H Q E q => F.len vs H Q E (h _ _ _ _ q), fun A outer s H args us vs Q E _ hr e0 hb hv q => F.run A outer s H args us vs Q E hr e0 hb hv (h _ _ _ _ q)⟩, r⟩
end DL
/-! lifted readings 8: defs that raise; what may come out of a call; raise -/
namespace DL
open PySem PySem.Spec PyProof.Rows L2 CD
/-! ### a def that may raise, asked where nothing is under repr -/
structure GX (P : Program) (w : World) (K : PySem.W.Frag) (mg : Str → Option Value) (base : Heap) (k : Nat) (f : Addr) (fd : FuncData) (ps : List Str) (sp : Sp) : Prop where
  len : ∀ vs H Q E, sp vs H Q E → vs.length = ps.length
  run : ∀ (A : Around) (outer : List PySem.Env) (s : Shared) (H : Hp) (args : Args) (us : List Value) (vs : List V) (Q : VK) (E : XK), A.guards = some [] → Room k A → Env0 P w K mg base A outer s H → BindsTo s fd args (ps.zip us) → Vals vs us → sp vs H Q E →
    codeAny (model P w) A (.call (.ref f) args) (CR (L2.CX P w) outer P w H s Q E) s
def CalX (P : Program) (w : World) (K : PySem.W.Frag) (mg : Str → Option Value) (base : Heap) (k : Nat) (x : Str) (ps : List Str) (sp : Sp) : Prop :=
  ∃ f fd, GX P w K mg base k f fd ps sp ∧ mg x = some (.ref f) ∧ PySem.W.keepIn K (.ref f) = true ∧ Binds K fd ps []
section
variable {P : Program} {w : World} {K : PySem.W.Frag} {mg : Str → Option Value} {base : Heap}
theorem gx_ok {x qual : Str} {st : Stmt} {f : Addr} {fd : FuncData} {N ps : List Str} {k : Nat} {sp : Sp} (F : Fun K x qual st f fd) (S : FnScope N ps (defScope st)) (len : ∀ vs H Q E, sp vs H Q E → vs.length = ps.length)
    (body : ∀ (cdv : Value) (A : Around) (outer : List PySem.Env) (s : Shared) (H : Hp) (vs : List V) (Q : VK) (E : XK), A.guards = some [] → Room k (A.deeper (envOfC qual (defScope st) s.heap.objs.size f cdv)) → sp vs H Q E →
      ∃ t, PSs (cxOf (L2.CX P w) P w K mg base N qual (defScope st) f cdv A outer s H E) (defBody st) t ∧ t { nx := fun _ H' => Q .non H', rt := Q } (start N vs) H) : GX P w K mg base (k + 1) f fd ps sp := by
  obtain ⟨oc, od, kV, doc, pm, an, cdv, ct, osl, rfl, lk, hcd⟩ := F.ex
  refine ⟨len, fun A outer s H args us vs Q E hg hr e0 hb r hsp => ?_⟩
  have keepB : ∀ b o, base.get? b = some o → s.heap.get? b = some o := fun b o e => (e0.bs b o e).1
  refine codeAny_call_function hr.depth ((e0.mod.kin.keeps keepB) _ _ lk) rfl S.co S.gen rfl (PySem.W.codeRec_of (e0.mod.kin.keeps keepB) hcd) (hb _ _ _ _ ?_)
  refine wpAny_newFunctionEnv_cells S.kind (fun y hy => ?_) fun env he s1 x1 => ?_
  · rcases S.par y.1 (List.of_mem_zip hy).1 with q | q
    · exact .inl q
    · exact .inr ⟨q, PySem.W.cellsFrom_some _ _ _ (.inl q)⟩
  subst he
  refine ⟨(e0.mod.nolimit.keeps keepB).keeps x1.toInCall.keep, codeAny_func ?_⟩
  obtain ⟨t, ht, hq⟩ := body cdv A outer s H vs Q E hg (hr.deeper _) hsp
  refine wpAny_mono (ht.run [] s1 (start N vs) H _ (inv_start S hr.hd e0 (len _ _ _ _ hsp) r x1) hq) (fun fl s' hs => ?_) fun e s' hs => hs
  match fl, hs with
  | .ret u, ⟨v, σ', H', J, rv, q⟩ => exact ⟨v, H', J.os, J.bare, J.base, J.hok, rv, q⟩
  | .next, ⟨σ', H', J, q⟩ => exact ⟨V.non, H', J.os, J.bare, J.base, J.hok, rfl, q⟩
  | .brk, ⟨_, _, _, q⟩ => exact False.elim q
  | .cont, ⟨_, _, _, q⟩ => exact False.elim q
variable {x : Str} {st : Stmt} {N ps : List Str} {k : Nat} {sp : Sp}
theorem _root_.CD.Def.calX (D : Def K mg x st ps) (S : FnScope N ps (defScope st)) (len : ∀ vs H Q E, sp vs H Q E → vs.length = ps.length)
    (body : ∀ (f : Addr) (cdv : Value) (A : Around) (outer : List PySem.Env) (s : Shared) (H : Hp) (vs : List V) (Q : VK) (E : XK), A.guards = some [] → Room k (A.deeper (envOfC x (defScope st) s.heap.objs.size f cdv)) → sp vs H Q E →
      ∃ t, PSs (cxOf (L2.CX P w) P w K mg base N x (defScope st) f cdv A outer s H E) (defBody st) t ∧ t { nx := fun _ H' => Q .non H', rt := Q } (start N vs) H) : CalX P w K mg base (k + 1) x ps sp := by
  obtain ⟨f, fd, F, m, b⟩ := D
  exact ⟨f, fd, gx_ok F S len fun cdv A outer s H vs Q E => body f cdv A outer s H vs Q E, m, F.kp, b⟩
end
section
variable {X : Cx} {k : Nat} {ps : List Str} {sp : Sp} {x : Str} {p pos : Pos} {e : Expr} {es : List Expr} {t : TA} {E : L2.St → XK}
theorem pe_calX (C : CalX X.prog X.w X.K X.mg X.base k x ps sp) (hgd : X.A.guards = some []) (hr : Room k X.A) (hx : ∀ σ, PassesAt (L2.CX X.prog X.w) X σ (E σ)) (hg : Gl X x) (ha : PA X (e :: es) t) (hdb : (x == ("__debug__" : Str)) = false := by decide)
    (he : starEach (e :: es) X.env = (false, eval e X.env) :: starEach es X.env := by rfl) (hpl : (backTo pos (starEach es X.env)).any (·.1) = false := by rfl) : PE X (.Call (.Name x p) (e :: es) [] pos) (tCallS sp E t) := by
  obtain ⟨f, fd, G, hm, hk, hb⟩ := C
  refine ⟨fun pins s σ H Q I h => wpAny_Call_Name_kw (ld_glob I hg hm ?_ hdb)⟩
  refine PySem.W.callWith_K (h₀ := X.base) I.ok.mod.kin hk (thn (ha.run pos pins s σ H _ I h) fun us s1 ⟨vs, H1, I1, r, q⟩ => ⟨I1.kIn, ?_⟩) he hpl
  have hl : us.length = ps.length := by rw [← r.length]; exact G.len _ _ _ _ q
  have b := hb s1 us I1.kIn (by rw [List.append_nil]; exact hl)
  rw [List.append_nil] at b
  refine wpAny_call (codeAny_mono (G.run X.A X.stack s1 H1 ⟨us, []⟩ us vs Q (E σ) hgd hr I1.env0 b r q) fun r s' hq => ?_)
  match r, hq with
  | .error e, hq => exact hx σ pins H1 s1 e s' I1 hq
  | .ok (.ret u), hq => exact I1.after hq
  | .ok .next, hq => exact False.elim hq
  | .ok .brk, hq => exact False.elim hq
  | .ok .cont, hq => exact False.elim hq
end
/-! ### errors as data -/
/-- an error: its class's name, and its one field if it has one -/
abbrev EX := Str × Option (Str × D)
abbrev QX := EX → Option Nat → Prop
def ExD (K : PySem.W.Frag) (F : Hp) : Option Addr → Option (Str × D) → Prop
  | none, none => True
  | some a, some (f, x) => ∃ v, F a = some (.xd [(f, v)]) ∧ Dd K F v x
  | _, _ => False
def flatX : Option (Str × D) → Bool
  | none => true
  | some (_, x) => flatD x
section
variable {GP : GenP} {K : PySem.W.Frag} {mg : Str → Option Value} {B : Hp × Hp × GAt}
/-- no error is let out -/
def noX : EX → Rho → Prop := fun _ _ => False
theorem ExD.same {F F' : Hp} {d : Option Addr} {x : Option (Str × D)} (s : Same F F') (h : ExD K F d x) : ExD K F' d x := by
  cases d with
  | none => cases x with
    | none => trivial
    | some y => exact h
  | some a => cases x with
    | none => exact h
    | some y => obtain ⟨v, h1, h2⟩ := h; exact ⟨v, s _ _ h1, h2.same s⟩
/-- what is wished of an error, told over data -/
def WOk (GP : GenP) (K : PySem.W.Frag) (mg : Str → Option Value) (B : Hp × Hp × GAt) (W : WX) (QE : EX → Rho → Prop) : Prop :=
  ∀ (γ : GAt) (σ : L2.St) (H F : Hp) (ρ : Rho) (nm : Str) (C : Addr) (d : Option Addr) (x : Option (Str × D)), Rp GP K B.1 B.2.1 B.2.2 γ σ H F ρ → ExD K F d x → mg nm = some (.ref C) → QE (nm, x) ρ → W (.ref C) d σ H
theorem wok_no {W : WX} : WOk GP K mg B W noX := fun _ _ _ _ _ _ _ _ _ _ _ _ h => h.elim
abbrev WDX := List SV → QD → QX → Prop
def spX (GP : GenP) (K : PySem.W.Frag) (mg : Str → Option Value) (n : Nat) (W : WDX) : Sp := fun vs H R E => ∃ (F : Hp) (γ : GAt) (as : List SV) (Q : QD) (QE : QX), Same F H ∧ ArgsOk GP K F H γ vs as ∧ (hasG as = γ.isSome) ∧ oneG as = true ∧ as.length = n ∧
  (∀ p, γ = some p → F p.1 = none ∧ F p.2.1 = none) ∧ TabsF GP H F ∧ W as Q QE ∧
  (∀ v H' F' γ' d m, LamX.Tabs GP.T H' → (∀ a o, H a = some o → ¬ GA GP γ a → H' a = some o) → (∀ a o, H a = some o → ∃ u, H' a = some u) → Same F F' → Same F' H' → (∀ a o, F' a = some o → F a = some o ∨ H a = none ∨ ∃ xs, o = .tup xs) → Dd K F' v d →
    GenAfter GP H H' F' γ γ' m → Q d m → R v H') ∧
  (∀ nm C e x H' F' γ' m, LamX.Tabs GP.T H' → (∀ a o, H a = some o → ¬ GA GP γ a → H' a = some o) → (∀ a o, H a = some o → ∃ u, H' a = some u) → Same F F' → Same F' H' → (∀ a o, F' a = some o → F a = some o ∨ H a = none ∨ ∃ xs, o = .tup xs) → ExD K F' e x → mg nm = some (.ref C) →
    GenAfter GP H H' F' γ γ' m → QE (nm, x) m → E (.ref C) e H')
theorem spX_len {n : Nat} {W : WDX} {vs : List V} {H : Hp} {Q : VK} {E : XK} (h : spX GP K mg n W vs H Q E) : vs.length = n := by
  obtain ⟨F, γ, as, Q, QE, _, h2, _, _, h5, _⟩ := h
  rw [h2.length, h5]
def uCallX (n : Nat) (W : WDX) (QE : EX → Rho → Prop) (ua : UA) : UE := fun ρ Q => ua ρ fun xs ρ1 => argsK xs ρ1 fun as ρb => as.length = n ∧ oneG as = true ∧
  W as (fun d m => if flatD d = true then Q (.val d) (setG m ρ1) else Q (.val d) (setG m ρb)) (fun x m => QE x (setG m ρb))
theorem le_callX {n : Nat} {Wd : WDX} {W : WX} {QE : EX → Rho → Prop} {t : TA} {u : UA} (hW : WOk GP K mg B W QE) (ha : LA GP K B t u) : LE GP K B (tCallS (spX GP K mg n Wd) (WE W) t) (uCallX n Wd QE u) := by
  intro H0 F0 γ0 _ γ σ H F ρ R Q r0 u0 h
  refine ha _ _ r0 u0 fun H1 F1 γ1 ρ1 vs xs r1 s1 k1 u1 => ?_
  obtain ⟨F2, ρb, as, r2, s2, a2, ⟨hl, ho, hWd⟩, gg⟩ := argsK_ok r1 k1 u1
  show spX GP K mg n Wd vs H1 R (WE W σ)
  have fin : ∀ (γc : GAt), (γc = none ∨ γc = γ1) → ∀ v H' F' γ' d m, LamX.Tabs GP.T H' → (∀ a o, H1 a = some o → ¬ GA GP γc a → H' a = some o) → (∀ a o, H1 a = some o → ∃ u, H' a = some u) → Same F2 F' → Same F' H' → (∀ a o, F' a = some o → F2 a = some o ∨ H1 a = none ∨ ∃ xs, o = .tup xs) → Dd K F' v d →
      GenAfter GP H1 H' F' γc γ' m → (if flatD d = true then Q (.val d) (setG m ρ1) else Q (.val d) (setG m ρb)) → R v H' := by
    intro γc hc v H' F' γ' d m tb kp tr s3 sub fnew dd ga q
    by_cases f : flatD d = true
    · rw [if_pos f] at q
      have subF : Same F1 H' := (s2.trans s3).trans sub
      obtain ⟨γ2, r3⟩ := r1.after (F' := F1) hc tb kp tr (Same.refl _) subF (fun a o h => .inl h) ga (.inl rfl)
      exact h _ _ _ _ _ (.val _) r3 s1 (dd.flat f) q
    · rw [if_neg f] at q
      obtain ⟨γ2, r3⟩ := r2.after (F' := F') hc tb kp tr s3 sub fnew ga (.inr rfl)
      exact h _ _ _ _ _ (.val _) r3 (s1.trans (s2.trans s3)) dd q
  have finX : ∀ (γc : GAt), (γc = none ∨ γc = γ1) → ∀ nm C e x H' F' γ' m, LamX.Tabs GP.T H' → (∀ a o, H1 a = some o → ¬ GA GP γc a → H' a = some o) → (∀ a o, H1 a = some o → ∃ u, H' a = some u) → Same F2 F' → Same F' H' → (∀ a o, F' a = some o → F2 a = some o ∨ H1 a = none ∨ ∃ xs, o = .tup xs) → ExD K F' e x → mg nm = some (.ref C) →
      GenAfter GP H1 H' F' γc γ' m → QE (nm, x) (setG m ρb) → W (.ref C) e σ H' := by
    intro γc hc nm C e x H' F' γ' m tb kp tr s3 sub fnew dd hm ga q
    obtain ⟨γ2, r3⟩ := r2.after (F' := F') hc tb kp tr s3 sub fnew ga (.inr rfl)
    exact hW _ _ _ _ _ _ _ _ _ (FinerC.fin r3) dd hm q
  by_cases c : hasG as = true
  · obtain ⟨p, hp⟩ := hasG_gen a2 c
    exact ⟨F2, γ1, as, _, _, r2.sub, a2, by rw [c, hp]; rfl, ho, hl, r2.gf, r2.tabsF, hWd, fin γ1 (.inr rfl), finX γ1 (.inr rfl)⟩
  · have c' : hasG as = false := by simpa using c
    exact ⟨F2, none, as, _, _, r2.sub, noGen_args a2 c', by rw [c']; rfl, ho, hl, fun p hp => (by cases hp), r2.tabsF, hWd, fin none (.inl rfl), finX none (.inl rfl)⟩
/-! ### a def's body -/
def outX (b : Bool) (Q : QX) (x : EX) (ρ : Rho) : Prop := if b = true then (match gN ρ with
  | some k => Q x (some k)
  | none => False) else Q x none
def WofX (n : Nat) (u : (EX → Rho → Prop) → US) : WDX := fun as Q QE => u (outX (hasG as) QE) { nx := fun ρ => outQ (hasG as) Q .non ρ, rt := fun d ρ => outQ (hasG as) Q d ρ } (start0 n as)
section
variable {P : Program} {w : World} {base : Heap} {x : Str} {st : Stmt} {N ps : List Str} {k : Nat}
theorem outX_ok {H H' F F' : Hp} {γ γ' : GAt} {σ' : L2.St} {ρ' : Rho} {as : List SV} {QE : QX} {e : Option Addr} {nm : Str} {C : Addr} {xx : Option (Str × D)} {E : XK} (hg : hasG as = γ.isSome) (r : Rp GP K H F γ γ' σ' H' F' ρ') (dd : ExD K F' e xx) (o : outX (hasG as) QE (nm, xx) ρ') (hm : mg nm = some (.ref C))
    (q : ∀ nm C e x H' F' γ' m, LamX.Tabs GP.T H' → (∀ a o, H a = some o → ¬ GA GP γ a → H' a = some o) → (∀ a o, H a = some o → ∃ u, H' a = some u) → Same F F' → Same F' H' → (∀ a o, F' a = some o → F a = some o ∨ H a = none ∨ ∃ xs, o = .tup xs) → ExD K F' e x → mg nm = some (.ref C) →
      GenAfter GP H H' F' γ γ' m → QE (nm, x) m → E (.ref C) e H') : E (.ref C) e H' := by
  unfold outX at o
  cases e1 : γ with
  | none =>
    rw [e1] at hg
    rw [hg] at o
    exact q nm C e xx H' F' γ' none r.tabs r.keep r.tr r.f0 r.sub r.fnew dd hm e1 o
  | some p =>
    rw [e1] at hg
    have hg' : hasG as = true := hg
    rw [hg', if_pos rfl] at o
    cases g : gN ρ' with
    | none => rw [g] at o; exact o.elim
    | some m =>
      rw [g] at o
      obtain ⟨i, hi⟩ := gN_at g
      obtain ⟨p', h1, h2, h3, h4⟩ := r.gen i m hi
      obtain ⟨q', g1, g2, g3, g4⟩ := r.g0 p e1
      rw [h1] at g1
      cases g1
      obtain ⟨f1, f2⟩ := r.gf p' h1
      exact q nm C e xx H' F' γ' (some m) r.tabs r.keep r.tr r.f0 r.sub r.fnew dd hm ⟨p, p', e1, h1, g2, g3, g4, h3, f1, f2⟩ o
theorem _root_.CD.Def.calDX (D : Def K mg x st ps) (S : FnScope N ps (defScope st)) (u : (EX → Rho → Prop) → US)
    (body : ∀ (f : Addr) (cdv : Value) (A : Around) (outer : List PySem.Env) (s : Shared) (H : Hp) (E : XK), A.guards = some [] → Room k (A.deeper (envOfC x (defScope st) s.heap.objs.size f cdv)) →
      ∃ t, PSs (cxOf (L2.CX P w) P w K mg base N x (defScope st) f cdv A outer s H E) (defBody st) t ∧ ∀ B QE, WOk GP K mg B (fun cls d _ H => E cls d H) QE → LS GP K B t (u QE)) : CalX P w K mg base (k + 1) x ps (spX GP K mg ps.length (WofX N.length u)) := by
  refine D.calX S (fun vs H Q E h => spX_len h) fun f cdv A outer s H vs Q E hgd hr h => ?_
  obtain ⟨t, ht, hl⟩ := body f cdv A outer s H E hgd hr
  refine ⟨t, ht, ?_⟩
  obtain ⟨F, γ, as, Qd, QE, h1, h2, h3, h4, h5, h6, hT, h7, h8, h9⟩ := h
  have hn : vs.length ≤ N.length := by
    have := congrArg List.length S.pre
    rw [List.length_take] at this
    rw [h2.length, h5]
    omega
  have r := start_rp (N := N) h1 h2 h3 h4 h6 hT hn
  haveI : FinerC GP K (H, F, γ) H F γ := ⟨id, rfl⟩
  refine hl (H, F, γ) (outX (hasG as) QE) (fun γ' σ' H' F' ρ' nm C d xx r' dd hm q' => ?_) _ _ r h7 (fun σ' H' F' γ' ρ' r' q' => ?_) (fun _ _ _ _ _ _ q' => q'.elim) (fun _ _ _ _ _ _ q' => q'.elim) (fun σ' v H' F' γ' ρ' d r' dd q' => ?_)
  · exact outX_ok h3 r' dd q' hm fun nm C e x H' F' γ' m a0 a1 a2 a3 a4 a5 a6 a7 a8 a9 => h9 nm C e x H' F' _ m a0 a1 a2 a3 a4 a5 a6 a7 a8 a9
  · exact out_ok h3 r' Dd.non q' fun v H' F' γ' d m a0 a1 a2 a3 a4 a5 a6 a7 a8 => h8 v H' F' _ d m a0 a1 a2 a3 a4 a5 a6 a7 a8
  · exact out_ok h3 r' dd q' fun v H' F' γ' d m a0 a1 a2 a3 a4 a5 a6 a7 a8 => h8 v H' F' _ d m a0 a1 a2 a3 a4 a5 a6 a7 a8
/-- less asked -/
theorem CalX.impD {n : Nat} {W W' : WDX} (C : CalX P w K mg base k x ps (spX GP K mg n W)) (h : ∀ as Q QE, W' as Q QE → W as Q QE) : CalX P w K mg base k x ps (spX GP K mg n W') := by
  obtain ⟨f, fd, G, r⟩ := C
  refine ⟨f, fd, ⟨fun vs H Q E q => ?_, fun A outer s H args us vs Q E hg hr e0 hb r q => ?_⟩, r⟩
  · obtain ⟨F, γ, as, Qd, QE, h1, h2, h3, h4, h5, h6, hT, h7, h8⟩ := q
    exact G.len vs H Q E ⟨F, γ, as, Qd, QE, h1, h2, h3, h4, h5, h6, hT, h _ _ _ h7, h8⟩
  · obtain ⟨F, γ, as, Qd, QE, h1, h2, h3, h4, h5, h6, hT, h7, h8⟩ := q
    exact G.run A outer s H args us vs Q E hg hr e0 hb r ⟨F, γ, as, Qd, QE, h1, h2, h3, h4, h5, h6, hT, h _ _ _ h7, h8⟩
end
end
end DL
/-! lifted readings 9: errors made and raised -/
namespace DL
open PySem PySem.Spec PyProof.Rows L2 CD
/-! ### an own error without a field of its own: its __init__ tells its base alone -/
section
variable {X : Cx}
/-- one new object less on both sides -/
theorem un_less {fs : List Addr} {H1 H2 : Hp} {h h1 h2 G : Heap} {a : Addr} {o : HO} (n : H1 a = none) (off : ∀ b ob, h.get? b = some ob → b ≠ a) (more : ∀ b ob, h.get? b = some ob → h1.get? b = some ob) (u : Un fs [] (upd H1 a o) H2 h1 h2)
    (g : ∀ b, b ≠ a → G.get? b = h2.get? b) : Un fs [] H1 (del H2 a) h G := by
  have z1 : ∀ b ob, h.get? b = some ob → H1 b = none → upd H1 a o b = none := fun b ob e z => (upd_ne (off b ob e)).trans z
  have z2 : ∀ b t, H1 b = some t → upd H1 a o b = some t ∧ del H2 a b = H2 b := fun b t e => ⟨(upd_ne (ne_of_none e n)).trans e, del_ne (ne_of_none e n)⟩
  constructor
  · exact fun b ob e z f x => (g b (off b ob e)).trans (u.keep b ob (more b ob e) (z1 b ob e z) f x)
  · intro b ob e z f x
    obtain ⟨sl, q⟩ := u.slot b ob (more b ob e) (z1 b ob e z) f x
    exact ⟨sl, (g b (off b ob e)).trans q⟩
  · exact fun b ob e z x => (del_ne (off b ob e)).trans (u.free b ob (more b ob e) (z1 b ob e z) x)
  · intro b ob e x
    obtain ⟨o', q⟩ := u.there b ob (more b ob e) x
    exact ⟨o', (g b (off b ob e)).trans q⟩
  · exact fun b xs e => (z2 b _ e).2.trans (u.tups b xs (z2 b _ e).1)
  · exact fun b ob v e => (z2 b _ e).2.trans (u.frzs b ob v (z2 b _ e).1)
  · intro b ps e
    obtain ⟨m, q⟩ := u.tbls b ps (z2 b _ e).1
    exact ⟨m, (z2 b _ e).2.trans q⟩
/-- an error's object is taken out of what is tracked -/
theorem hok_less {P : Program} {w : World} {H : Hp} {h G : Heap} {a C : Addr} {d : Option Addr} (ok : HOk P w H h) (e : H a = some (exo a C d)) (g : ∀ b, b ≠ a → G.get? b = h.get? b) : HOk P w (del H a) G := by
  intro b o z
  have nb : b ≠ a := by
    rintro rfl
    rw [del_same] at z
    cases z
  have own : ∀ c, H c = some (.own b) → c ≠ a := fun c hc => at_ne e hc exo_own
  refine (ok b o ((del_ne nb).symm.trans z)).stay (fun c v hc y => (g c ?_).trans y) (fun c hc => (del_ne (own c hc)).trans hc) (fun c xs hc => (del_ne (at_ne e hc exo_tup)).trans hc)
  rcases hc with rfl | hc
  · exact nb
  · exact own c hc
def tMkO0 (C : Addr) (sp : Sp) (ta : TA) : L2.St → Hp → XK → Prop := fun σ H Q => ta σ H fun vs H1 => vs.length ≤ 1000 ∧ ∀ a, H1 a = none → sp (.ref a :: vs) (upd H1 a (exo a C none))
  (fun v H2 => v = .non ∧ H2 a = some (exo a C none) ∧ Q (.ref C) none (del H2 a)) (fun _ _ _ => False)
theorem pmk_oex0 {CX : CXT} {x : Str} {C fI : Addr} {k : Nat} {fd : FuncData} {ps : List Str} {sp : Sp} {e : Expr} {es : List Expr} {ta : TA} {p pos : Pos} (T : OexC X.K C) (iC : PySem.W.findIn X.K (.ref C) "__init__" = some (some (.ref fI))) (tI : PySem.W.typeIn X.K (.ref fI) = some (.type "function"))
    (F1 : FnOk X.prog X.w X.K X.mg X.base CX k fI fd ps sp) (hr : Room (k + 1) X.A) (hb : Binds X.K fd ps []) (hx : Passes CX X (fun _ _ _ => False)) (hg : Gl X x) (hm : X.mg x = some (.ref C)) (ha : PA X (e :: es) ta)
    (hdb : (x == ("__debug__" : Str)) = false := by decide) (he : starEach (e :: es) X.env = (false, eval e X.env) :: starEach es X.env := by rfl) (hpl : (backTo pos (starEach es X.env)).any (·.1) = false := by rfl) :
    PMk X (.Call (.Name x p) (e :: es) [] pos) (tMkO0 C sp ta) := by
  intro pins s σ H Q I h
  refine wpAny_Call_Name_kw (ld_glob I hg hm ?_ hdb)
  refine PySem.W.callWith_K (h₀ := X.base) I.ok.mod.kin T.kC (thn (ha.run pos pins s σ H _ I h) fun us s1 ⟨vs, H1, I1, rel, hz, asked⟩ => ⟨I1.kIn, ?_⟩) he hpl
  obtain ⟨nm, q, N, bs, bm, sn, sub, ab, col, dd, k0, k1, k2, k3, k5, hC, hbm⟩ := T.cls
  obtain ⟨h1, g1, d1, t1, o1⟩ := s1
  have le : h1.objs.size ≤ h1.objs.size + 1 := Nat.le_succ _
  have new := I1.hok.fresh le
  have asked := asked _ new
  have more : ∀ b o, h1.get? b = some o → ((h1.push (PySem.W.kdv_tup us)).push (PySem.HandSPX.excO C h1.objs.size)).get? b = some o := fun b o e => Heap.get?_push_of_some _ (Heap.get?_push_of_some _ e)
  have made := I1.laid (t' := t1) (a := h1.objs.size + 1) (o := exo (h1.objs.size + 1) C none) more le (exo_ok (by heap_get))
  have len : (Value.ref (h1.objs.size + 1) :: us).length = ps.length := by rw [List.length_cons, ← Paired.length rel, ← F1.len _ _ _ _ asked, List.length_cons]
  have few : us.length ≤ sizeLine := by rw [← Paired.length rel, sizeLine_eq]; omega
  have bound := hb _ (Value.ref (h1.objs.size + 1) :: us) made.kIn (by rw [List.append_nil]; exact len)
  rw [List.append_nil] at bound
  have rel2 : Vals (V.ref (h1.objs.size + 1) :: vs) (Value.ref (h1.objs.size + 1) :: us) := .cons rfl rel
  have ran := F1.run _ X.stack _ _ ⟨Value.ref (h1.objs.size + 1) :: us, []⟩ _ _ _ (fun _ _ _ => False) (hr.make C us []) (made.env0.make C us []) bound rel2 asked
  refine wpAny_call (PySem.HandSPX.call_own F.excBase_ValueError (fun _ => PySem.HandSPX.refsVE_contains _ bm hbm) (I1.kIn _ _ hC) (PySem.W.looks_findIn I1.kIn iC) (fun self => PySem.W.bind_fn I1.kIn self tI) few (codeAny_mono ran fun r s' z => ?_))
  match r, z with
  | .error er, z => exact hx pins σ _ _ er s' made z
  | .ok .next, z => exact z.elim
  | .ok .brk, z => exact z.elim
  | .ok .cont, z => exact z.elim
  | .ok (.ret u), ⟨v, H2, os, bare, un, ok, rv, ev, ea, last⟩ =>
    subst ev
    obtain ⟨t0, obj⟩ := exo_at ok ea
    obtain ⟨G, there, gone⟩ := restrict s'.heap fun b => decide (b ≠ h1.objs.size + 1)
    have as : ∀ b, b ≠ h1.objs.size + 1 → G.get? b = s'.heap.get? b := fun b z => there b (by simpa using z)
    have J : Inv X pins σ (del H2 (h1.objs.size + 1)) ⟨G, s'.gens, s'.drawn, s'.toks, s'.os⟩ := I1.call' (ch := []) os (un_less new (fun b ob e => Nat.ne_of_lt (Nat.lt_succ_of_lt (Heap.lt_size e))) more un as) (hok_less ok ea as) bare (fun b z => by cases z)
    have off := gone (h1.objs.size + 1) (by simp)
    refine ⟨rv, h1.objs.size + 1, _, _, ⟨G, s'.gens, s'.drawn, s'.toks, s'.os⟩, _, .ref C, none, rfl, J, fun b o z => ?_, off, obj, ⟨rfl, rfl⟩, rfl, rfl, del_same, rfl, bare, raises_own T.exC T.tyC, last⟩
    by_cases c : b = h1.objs.size + 1
    · subst c
      have z' : G.get? (h1.objs.size + 1) = some o := z
      rw [off] at z'
      cases z'
    · exact (as b c).symm.trans z
end
end DL
/-! lifted readings 10: try whose clauses may bear names or not -/
namespace DL
open PySem PySem.Spec PyProof.Rows L2 CD
/-- a clause: what it names, its own name's slot if it has one, its suite -/
structure ClM where
  c : Value
  slot : Option Nat
  ts : Addr → Value → Option Addr → TS
/-- behind a suite its name holds nothing -/
def ends0 (i : Nat) (D : Ends) : Ends := { nx := fun τ J => D.nx (τ.set i none) J, rt := D.rt, bk := fun τ J => D.bk (τ.set i none) J, ct := fun τ J => D.ct (τ.set i none) J }
def wSuite (i : Option Nat) (ts : Addr → Value → Option Addr → TS) (D : Ends) (a : Addr) (cls : Value) (d : Option Addr) (σ : L2.St) (H : Hp) : Prop := match i with
  | none => ts a cls d D σ H
  | some i => ts a cls d (ends0 i D) (σ.set i (some (.ref a))) H
def wM (K : PySem.W.Frag) (Wout : WX) (D : Ends) : List ClM → WX
  | [] => Wout
  | c :: r => fun cls d σ H => ∃ b, PySem.W.exmOne K cls c.c = some b ∧ (b = true → ∀ a, H a = none → wSuite c.slot c.ts D a cls d σ H) ∧ (b = false → wM K Wout D r cls d σ H)
/-- a suite's reading, whatever error it is given -/
def SuiteOk (X : Cx) (b₀ : Stmt) (suite : List Stmt) (ts : Addr → Value → Option Addr → TS) : Prop :=
  ∀ (a : Addr) (oe : Obj) (cls : Value) (d : Option Addr) (pn : List (Addr × Obj)), Zc cls d oe → (∃ vs, oe.data = .fields vs) → PSs (X.suite a ((a, oe) :: pn)) (b₀ :: suite) (ts a cls d)
def NameOk (X : Cx) (i : Nat) (n : Str) : Prop := X.N.Nodup ∧ X.N[i]? = some n ∧ X.env.kindOf n = some .local
inductive HdsM (X : Cx) : List ExceptHandler → List ClM → Prop
  | nil : HdsM X [] []
  | cons {x : Str} {c : Value} {ts : Addr → Value → Option Addr → TS} {b₀ : Stmt} {suite : List Stmt} {p q : Pos} {hds : List ExceptHandler} {l : List ClM} : Names X x c → SuiteOk X b₀ suite ts → HdsM X hds l →
      HdsM X (.ExceptHandler (some (.Name x p)) none (b₀ :: suite) q :: hds) (⟨c, none, ts⟩ :: l)
  | consAs {x n : Str} {c : Value} {i : Nat} {ts : Addr → Value → Option Addr → TS} {b₀ : Stmt} {suite : List Stmt} {p q : Pos} {hds : List ExceptHandler} {l : List ClM} : NameOk X i n → Names X x c → SuiteOk X b₀ suite ts → HdsM X hds l →
      HdsM X (.ExceptHandler (some (.Name x p)) (some n) (b₀ :: suite) q :: hds) (⟨c, some i, ts⟩ :: l)
section
variable {X : Cx} {pins : List (Addr × Obj)} {σ : L2.St} {H : Hp} {a : Addr} {B : Heap} {cls : Value} {d : Option Addr} {s : Shared}
/-- an error that this frame has in its hand; whatever happens to the traces, the rest stands -/
structure Hand (X : Cx) (pins : List (Addr × Obj)) (σ : L2.St) (H : Hp) (a : Addr) (B : Heap) (cls : Value) (d : Option Addr) (s : Shared) : Prop where
  ok : X.Ok
  fly : HandSPX.FlyingZ B (X.env :: X.outer) a (Zc cls d) s.heap
  inv : ∀ h, HandSPX.FlyingZ B (X.env :: X.outer) a (Zc cls d) h → s.heap.UpToSlots h → Inv X pins σ H { s with heap := h }
  gone : H a = none
  fr : X.env.frame = some X.env.locals
  /-- it goes on from here -/
  out : ∀ h, HandSPX.HeldZ B (X.env :: X.outer) a (Zc cls d) X.env.locals h → s.heap.UpToSlots h → ∀ W : WX, Takes X W → W cls d σ H → X.xe (.ref a) { s with heap := h }
theorem Hand.self (h : Hand X pins σ H a B cls d s) : Inv X pins σ H s := h.inv s.heap h.fly (Heap.UpToSlots.refl _)
theorem Hand.notFrame (h : Hand X pins σ H a B cls d s) {g : Heap} {o : Obj} {vs : Array Value} (fl : HandSPX.FlyingZ B (X.env :: X.outer) a (Zc cls d) g) (e : g.get? a = some o) (hd : o.data = .fields vs) : a ≠ X.env.locals ∧ a ∉ X.fs := by
  have no : a ∉ frs (X.env :: X.outer) := fun hm => by
    obtain ⟨_, o2, e2, nf⟩ := fl.2.2.1.mem hm
    exact nf vs (by rw [← Option.some.inj (e.symm.trans e2)]; exact hd)
  constructor
  · rintro rfl
    exact no (List.mem_filterMap.mpr ⟨_, List.mem_cons_self, h.fr⟩)
  · intro hm
    obtain ⟨e1, h1, h2⟩ := List.mem_filterMap.mp hm
    exact no (List.mem_filterMap.mpr ⟨e1, List.mem_cons_of_mem _ h1, h2⟩)
/-- the suite's frame of mind -/
theorem Hand.suite (h : Hand X pins σ H a B cls d s) {g : Heap} (fl : HandSPX.FlyingZ B (X.env :: X.outer) a (Zc cls d) g) (up : s.heap.UpToSlots g) :
    ∃ oe, g.get? a = some oe ∧ Zc cls d oe ∧ (∃ vs, oe.data = .fields vs) ∧ Inv (X.suite a ((a, oe) :: (X.pn ++ pins))) [] σ H { s with heap := g } := by
  obtain ⟨oe, vs, h1, h2, h3⟩ := fl.there
  obtain ⟨n1, n2⟩ := h.notFrame fl h1 h3
  exact ⟨oe, h1, h2, ⟨vs, h3⟩, (h.inv g fl up).suite h1 h3 h.gone n1 n2⟩
/-- what a clause names is looked at -/
theorem Hand.asks {x : Str} {p q : Pos} {c : Value} {b : Bool} {R : Result → Shared → Prop} (h : Hand X pins σ H a B cls d s) (hc : Names X x c) (e : PySem.W.exmOne X.K cls c = some b) (k : R (.ok (if b then .brk else .next)) s) :
    codeAny (model X.prog X.w) (X.A.mark (some (.ref a))) (.handlers (.ref a) [.ExceptHandler (some (.Name x p)) none [] q] X.env) R s := by
  obtain ⟨oe, h1, h2, _, S⟩ := h.suite h.fly (Heap.UpToSlots.refl _)
  have ty : PySem.W.Looks (model X.prog X.w) s.heap (typeOf (.ref a)) cls := fun _ _ _ _ st z => wpAny_typeOf_ref (st _ _ h1) (h2.1 ▸ z)
  have asks := PySem.W.exm_one (M := model X.prog X.w) h.self.kIn ty e
  refine codeAny_handlers_test ?_
  obtain ⟨c1, c2, c3⟩ := hc
  rcases c3 with c3 | ⟨c3, c4, c5⟩
  · exact ld_glob S c1 c3 (asks.here k) c2
  · exact ld_blt S c1 c3 c4 (asks.here k) c5 c2
/-- a clause without a name -/
theorem Hand.runs {b₀ : Stmt} {suite : List Stmt} {ts : Addr → Value → Option Addr → TS} {q : Pos} {D : Ends} (h : Hand X pins σ H a B cls d s) (hs : SuiteOk X b₀ suite ts) (w : ts a cls d D σ H) :
    codeAny (model X.prog X.w) (X.A.mark (some (.ref a))) (.handlers (.ref a) [.ExceptHandler none none (b₀ :: suite) q] X.env) (fun r s' => match r with
      | .ok f => SP X pins D f s'
      | .error _ => False) s := by
  refine codeAny_handlers_suite (HandSPX.lands_againZ h.fly fun g fl up => ?_)
  obtain ⟨oe, _, h2, h3, S⟩ := h.suite fl up
  refine wpAny_mono ((hs a oe cls d _ h2 h3).run [] _ σ H D S w) (fun f s6 z => ?_) (fun _ _ z => z.elim)
  cases f with
  | next => exact let ⟨_, _, z1, z2⟩ := z; ⟨_, _, z1.unsuite h.ok, z2⟩
  | brk => exact let ⟨_, _, z1, z2⟩ := z; ⟨_, _, z1.unsuite h.ok, z2⟩
  | cont => exact let ⟨_, _, z1, z2⟩ := z; ⟨_, _, z1.unsuite h.ok, z2⟩
  | ret u => exact let ⟨_, _, _, z1, z2, z3⟩ := z; ⟨_, _, _, z1.unsuite h.ok, z2, z3⟩
/-- a clause with a name -/
theorem Hand.runsAs {b₀ : Stmt} {suite : List Stmt} {ts : Addr → Value → Option Addr → TS} {q : Pos} {D : Ends} {i : Nat} {n : Str} {R : Result → Shared → Prop} (h : Hand X pins σ H a B cls d s) (hn : NameOk X i n) (hs : SuiteOk X b₀ suite ts) (w : ts a cls d (ends0 i D) (σ.set i (some (.ref a))) H)
    (k : ∀ f s6, (∀ Q : Shared → Prop, (∀ s7, SP X pins D f s7 → Q s7) → wpAny (model X.prog X.w) X.A (do bindName X.env n .none; unbindBehindTheSuite X.env n q) (fun _ s7 => Q s7) X.xe s6) → R (.ok f) s6) :
    codeAny (model X.prog X.w) (X.A.mark (some (.ref a))) (.handlers (.ref a) [.ExceptHandler none (some n) (b₀ :: suite) q] X.env) R s := by
  obtain ⟨n1, n2, n3⟩ := hn
  refine codeAny_handlers_suite_as (HandSPX.lands_againZ h.fly fun g fl up => ?_)
  obtain ⟨oe, _, h2, h3, S⟩ := h.suite fl up
  refine store_ok (X := X.suite a ((a, oe) :: (X.pn ++ pins))) (v := .ref a) S n1 n2 (.inl n3) rfl (fun s5 S5 => ?_) (.inr n3)
  refine wpAny_mono ((hs a oe cls d _ h2 h3).run [] s5 _ H _ S5 w) (fun f s6 z => k f s6 fun Q hQ => ?_) (fun _ _ z => z.elim)
  have unbound : ∀ {τ : L2.St} {J : Hp}, Inv (X.suite a ((a, oe) :: (X.pn ++ pins))) [] τ J s6 → (∀ s7, Inv X pins (τ.set i none) J s7 → Q s7) → wpAny (model X.prog X.w) X.A (do bindName X.env n .none; unbindBehindTheSuite X.env n q) (fun _ s7 => Q s7) X.xe s6 :=
    fun z q => gone_ok (z.unsuite h.ok) n1 n2 n3 q
  cases f with
  | next => exact let ⟨_, _, z1, z2⟩ := z; unbound z1 fun s7 y => hQ s7 ⟨_, _, y, z2⟩
  | brk => exact let ⟨_, _, z1, z2⟩ := z; unbound z1 fun s7 y => hQ s7 ⟨_, _, y, z2⟩
  | cont => exact let ⟨_, _, z1, z2⟩ := z; unbound z1 fun s7 y => hQ s7 ⟨_, _, y, z2⟩
  | ret u => exact let ⟨_, _, _, z1, z2, z3⟩ := z; unbound z1 fun s7 y => hQ s7 ⟨_, _, _, y, z2, z3⟩
/-- no clause is left -/
theorem Hand.leaves {Wout : WX} {P : Flow → Shared → Prop} (h : Hand X pins σ H a B cls d s) (tk : Takes X Wout) (w : Wout cls d σ H) : wpAny (model X.prog X.w) X.A (handleBy (.ref a) X.env []) P X.xe s := by
  obtain ⟨oe, vs, T, oT, ts, e1, e2, e3, e4, e5⟩ := h.fly.2.2.2
  have up : wpAny (model X.prog X.w) X.A (setFlight (.ref a) X.env.frame) (fun _ s4 => wpAny (model X.prog X.w) X.A (throw (.ref a) : Sem Flow) P X.xe s4) X.xe s := by
    rw [h.fr]
    exact HandSPX.setFlight_upZ h.fly fun g hg ug => wpAny_throw (h.out g hg ug Wout tk w)
  refine wpAny_handleBy_nil ?_
  unfold PySem.passOn
  refine wpAny_bind (wpAny_field e1 e3 e4 ?_)
  rw [if_neg (by simp)]
  first
    | exact wpAny_bind (wpAny_pure (wpAny_bind up))
    | exact wpAny_bind up
/-- the clauses, one after the other -/
theorem Hand.all {Wout : WX} {D : Ends} (h : Hand X pins σ H a B cls d s) (tk : Takes X Wout) : ∀ {hds : List ExceptHandler} {l : List ClM}, HdsM X hds l → wM X.K Wout D l cls d σ H → wpAny (model X.prog X.w) X.A (handleBy (.ref a) X.env hds) (SP X pins D) X.xe s := by
  intro hds l hk
  induction hk with
  | nil => exact fun w => h.leaves tk w
  | cons hc hs _ ih =>
    rintro ⟨b, e, y, n⟩
    refine wpAny_handleBy_cons (h.asks hc e ?_) (fun q => nomatch q)
    cases b with
    | true =>
      refine codeAny_mono (h.runs hs (y rfl a h.gone)) fun r s' z => ?_
      cases r with
      | ok f => exact z
      | error _ => exact z.elim
    | false => exact ih (n rfl)
  | consAs hn hc hs _ ih =>
    rintro ⟨b, e, y, n⟩
    refine wpAny_handleBy_cons (h.asks hc e ?_) (fun q => nomatch q)
    cases b with
    | true => exact h.runsAs hn hs (y rfl a h.gone) fun f s6 z => z _ fun _ y => y
    | false => exact ih (n rfl)
/-- an error out of the body comes into this frame's hand -/
theorem hand_of {l : List ClM} {Wout : WX} {D : Ends} {h₀ : ExceptHandler} {hds : List ExceptHandler} {xe : Value → Shared → Prop} {u : Value} (ok : X.Ok) (hs : X.stack = X.env :: X.outer) (hf : X.env.frame = some X.env.locals) (tk : Takes X Wout) (hh : HdsM X (h₀ :: hds) l)
    (x : XE (X.tr (X.pn ++ pins) xe) (wM X.K Wout D l) u s) :
    wpAny (model X.prog X.w) X.A (noteFrame u X.env) (fun _ s₂ => wpAny (model X.prog X.w) X.A (setFlight u none) (fun _ s₃ => wpAny (model X.prog X.w) X.A (handleBy u X.env (h₀ :: hds)) (SP X pins D) X.xe s₃) X.xe s₂) X.xe s := by
  obtain ⟨a, B, sI, pins2, σ, H, cls, d, rfl, J, nb, up, sky, na, os, ag, w⟩ := x
  have I : Inv X pins σ H sI := J.ofTry ok
  have fr : X.A.frames = some (X.env :: X.outer) := ok.frames.trans (congrArg some hs)
  refine Sky.land Zc.steady fr hf (hs ▸ sky) fun g fl up2 => ?_
  have lands : ∀ h, HandSPX.FlyingZ B (X.env :: X.outer) a (Zc cls d) h → g.UpToSlots h → Inv X pins σ H { s with heap := h } := fun h f u => I.landed nb f.1 ((up.trans up2).trans u) os ag
  have hand : Hand X pins σ H a B cls d { s with heap := g } := ⟨ok, fl, lands, na, hf, fun h hh u W t w => t _ _ ⟨a, B, sI, pins, σ, H, cls, d, rfl, I, nb, (up.trans up2).trans u, .inr (.inr (hs ▸ hh)), na, os, ag, w⟩⟩
  exact hand.all tk hh w
theorem ps_tryM {body : List Stmt} {h₀ : ExceptHandler} {hds : List ExceptHandler} {l : List ClM} {pos : Pos} {tb : WX → TS} {Wout : WX} (hs : X.stack = X.env :: X.outer) (hf : X.env.frame = some X.env.locals) (tk : Takes X Wout)
    (hb : ∀ (W : WX) (pn : List (Addr × Obj)) (xe : Value → Shared → Prop), Takes (X.tr pn xe) W → PassesOwn (model X.prog X.w) X.A X.env xe → PSs (X.tr pn xe) body (tb W)) (hh : HdsM X (h₀ :: hds) l) :
    PS X (.Try body (h₀ :: hds) [] [] pos) (fun D σ H => tb (wM X.K Wout D l) D σ H) := by
  refine ⟨fun pins s σ H D I w => wpAny_Try_except ?_⟩
  have run := (hb (wM X.K Wout D l) (X.pn ++ pins) _ (fun u s' x => hand_of I.ok hs hf tk hh x) PassesOwn.looking).run [] s σ H D (I.toTry _) w
  refine wpAny_mono run (fun f s1 z => ?_) fun _ _ z => z
  cases f with
  | next => exact let ⟨_, _, z1, z2⟩ := z; wpAny_execs_nil ⟨_, _, z1.ofTry I.ok, z2⟩
  | brk => exact let ⟨_, _, z1, z2⟩ := z; ⟨_, _, z1.ofTry I.ok, z2⟩
  | cont => exact let ⟨_, _, z1, z2⟩ := z; ⟨_, _, z1.ofTry I.ok, z2⟩
  | ret u => exact let ⟨_, _, _, z1, z2, z3⟩ := z; ⟨_, _, _, z1.ofTry I.ok, z2, z3⟩
end
end DL
/-! lifted readings 11: raise and try over data -/
namespace DL
open PySem PySem.Spec PyProof.Rows L2 CD
/-! ### __init__ of an own error -/
def spIn1 (K : PySem.W.Frag) (f : Str) : Sp := fun vs H R _ => ∃ (a C : Addr) (v : V), vs = [.ref a, v] ∧ OexC K C ∧ PySem.W.findIn K (.ref C) f = some none ∧ H a = some (exo a C none) ∧
  ∀ d, H d = none → d ≠ a → R .non (upd (upd H d (exd d [(f, v)])) a (exo a C (some d)))
def spIn0 (K : PySem.W.Frag) : Sp := fun vs H R _ => ∃ (a C : Addr) (v : V), vs = [.ref a, v] ∧ OexC K C ∧ H a = some (exo a C none) ∧ R .non H
def tIn0 (K : PySem.W.Frag) : TS := tSeq (tDrop (tVeI K (tCons (tVar 0) (tCons (tVar 1) tNil)))) tNext
def tIn1 (K : PySem.W.Frag) (f : Str) : TS := tSeq (tDrop (tVeI K (tCons (tVar 0) (tCons (tVar 1) tNil)))) (tSeq (tOst K f (tVar 0) (tVar 1)) tNext)
theorem in1_pure {K : PySem.W.Frag} {f : Str} {N : List Str} {vs : List V} {H : Hp} {Q : VK} {E : XK} (hN : N.length = 2) (h : spIn1 K f vs H Q E) : tIn1 K f { nx := fun _ H' => Q .non H', rt := Q } (L2.start N vs) H := by
  obtain ⟨a, C, v, rfl, h1, h2, h3, h4⟩ := h
  have e : L2.start N [V.ref a, v] = [some (.ref a), some v] := by
    unfold L2.start
    rw [hN]
    rfl
  rw [e]
  refine ⟨_, rfl, _, rfl, a, C, [v], rfl, by simp, h1, h3, ?_⟩
  exact ⟨_, rfl, _, rfl, a, C, rfl, h1, h2, .inl ⟨h3, fun d n ne => h4 d n ne⟩⟩
theorem in0_pure {K : PySem.W.Frag} {N : List Str} {vs : List V} {H : Hp} {Q : VK} {E : XK} (hN : N.length = 2) (h : spIn0 K vs H Q E) : tIn0 K { nx := fun _ H' => Q .non H', rt := Q } (L2.start N vs) H := by
  obtain ⟨a, C, v, rfl, h1, h3, h4⟩ := h
  have e : L2.start N [V.ref a, v] = [some (.ref a), some v] := by
    unfold L2.start
    rw [hN]
    rfl
  rw [e]
  exact ⟨_, rfl, _, rfl, a, C, [v], rfl, by simp, h1, h3, h4⟩
/-- what is known of an own error's class -/
structure ErrC (P : Program) (w : World) (K : PySem.W.Frag) (mg : Str → Option Value) (base : Heap) (x : Str) (C : Addr) (f : Option Str) : Prop where
  m : mg x = some (.ref C)
  oex : OexC K C
  xf : XfC K C
  no : ∀ g, f = some g → PySem.W.findIn K (.ref C) g = some none
  init : ∃ (fI : Addr) (fd : FuncData) (ps : List Str), PySem.W.findIn K (.ref C) "__init__" = some (some (.ref fI)) ∧ PySem.W.typeIn K (.ref fI) = some (.type "function") ∧
    FnOk P w K mg base (L2.CX P w) 1 fI fd ps (match f with | some f => spIn1 K f | none => spIn0 K) ∧ Binds K fd ps []
/-- raise C(e) -/
def tRz (K : PySem.W.Frag) (W : WX) (C : Addr) : Option Str → TA → TS
  | some f, ta => fun _ σ H => tMkO C (spIn1 K f) [] ta σ H fun cls d H' => W cls d σ H'
  | none, ta => fun _ σ H => tMkO0 C (spIn0 K) ta σ H fun cls d H' => W cls d σ H'
section
variable {X : Cx} {x : Str} {C : Addr} {f : Option Str} {W : WX} {e : Expr} {ta : TA} {p pos pos2 : Pos}
theorem ps_raiseE (T : ErrC X.prog X.w X.K X.mg X.base x C f) (hc : X.calm = true) (tk : Takes X W) (hr : Room 2 X.A) (hg : Gl X x) (ha : PA X [e] ta) (hdb : (x == ("__debug__" : Str)) = false := by decide)
    (he : starEach (e :: []) X.env = (false, eval e X.env) :: starEach [] X.env := by rfl) (hpl : (backTo pos (starEach [] X.env)).any (·.1) = false := by rfl) : PS X (.Raise (some (.Call (.Name x p) [e] [] pos)) none pos2) (tRz X.K W C f ta) := by
  obtain ⟨fI, fd, ps, h1, h2, h3, h4⟩ := T.init
  cases f with
  | some f => exact ps_raise hc tk (pmk_oex T.oex h1 h2 h3 hr h4 .nil passL hg T.m ha hdb he hpl)
  | none => exact ps_raise hc tk (pmk_oex0 T.oex h1 h2 h3 hr h4 passL hg T.m ha hdb he hpl)
end
section
variable {GP : GenP} {K : PySem.W.Frag} {mg : Str → Option Value} {B : Hp × Hp × GAt}
theorem Rp.newAt {H0 F0 H F : Hp} {γ0 γ : GAt} {σ : L2.St} {ρ : Rho} {a : Addr} (r : Rp GP K H0 F0 γ0 γ σ H F ρ) (n : H a = none) : F a = none ∧ H0 a = none ∧ (¬ GA GP γ a) ∧ ∀ j, ¬ OwnAt σ ρ a j := by
  refine ⟨Same.free r.sub n, r.new0 n, fun z => ?_, fun j ⟨⟨d, h1⟩, h2⟩ => ?_⟩
  · rcases z with ⟨p, hp, e⟩ | z
    · obtain ⟨o, u, h1, h2, _⟩ := r.gt p hp
      rcases e with rfl | rfl
      · rw [h1] at n; cases n
      · rw [h2] at n; cases n
    · obtain ⟨ps, h1⟩ := tabs_there r.tabs z
      rw [h1] at n; cases n
  · obtain ⟨b, e1, e2, _⟩ := r.own j d h1
    rw [h2] at e1
    cases e1
    obtain ⟨o, ho⟩ := e2.there
    rw [ho] at n
    cases n
def uRaise (QE : EX → Rho → Prop) (x : Str) (f : Option Str) (ua : UA) : US := fun _ ρ => uA1 ua (fun d ρ1 => QE (x, f.map fun g => (g, d)) ρ1) ρ
theorem ls_raise {P : Program} {w : World} {base : Heap} {x : Str} {C : Addr} {f : Option Str} {W : WX} {QE : EX → Rho → Prop} {ta : TA} {ua : UA} (T : ErrC P w K mg base x C f) (hW : WOk GP K mg B W QE) (ha : LA GP K B ta ua) : LS GP K B (tRz K W C f ta) (uRaise QE x f ua) := by
  intro H0 F0 γ0 _ γ σ H F ρ E Q r z _ _ _ _
  cases f with
  | none =>
    refine a1_ok ha r z fun H1 F1 γ1 ρ1 v dd r1 s1 d1 q => ⟨by simp, fun a na => ⟨a, C, v, rfl, T.oex, upd_same, rfl, upd_same, ?_⟩⟩
    have e : del (upd H1 a (exo a C none)) a = H1 := by
      funext b
      by_cases c : b = a
      · subst c; rw [del_same, na]
      · rw [del_ne c, upd_ne c]
    rw [e]
    exact hW _ _ _ _ _ _ _ none none (FinerC.fin r1) trivial T.m q
  | some f =>
    refine a1_ok ha r z fun H1 F1 γ1 ρ1 v dd r1 s1 d1 q => ⟨by simp, fun a na => ⟨a, C, v, rfl, T.oex, T.no f rfl, upd_same, fun d nd ne => ?_⟩⟩
    have nd1 : H1 d = none := (upd_ne ne).symm.trans nd
    refine ⟨rfl, d, [(f, v)], upd_same, by rw [upd_ne ne, upd_same], nd1, ?_⟩
    have e : upd (del (upd (upd (upd H1 a (exo a C none)) d (exd d [(f, v)])) a (exo a C (some d))) a) d (.xd [(f, v)]) = upd H1 d (.xd [(f, v)]) := by
      funext b
      by_cases c : b = d
      · subst c; rw [upd_same, upd_same]
      · rw [upd_ne c, upd_ne c]
        by_cases c2 : b = a
        · subst c2; rw [del_same, na]
        · rw [del_ne c2, upd_ne c2, upd_ne c, upd_ne c2]
    rw [e]
    obtain ⟨n1, n2, n3, n4⟩ := r1.newAt nd1
    exact hW _ _ _ _ _ _ _ (some d) (some (f, dd)) (FinerC.fin ((r1.same (same_upd nd1)).freeze upd_same n1 n2 n3 n4)) ⟨v, upd_same, d1.same (same_upd n1)⟩ T.m q
/-! ### try -/
/-- a suite over data -/
def LSU (GP : GenP) (K : PySem.W.Frag) (mg : Str → Option Value) (B : Hp × Hp × GAt) (i : Option Nat) (ts : Addr → Value → Option Addr → TS) (u : EX → US) : Prop :=
  ∀ ⦃H0 F0 : Hp⦄ ⦃γ0 : GAt⦄ [FinerC GP K B H0 F0 γ0] ⦃γ : GAt⦄ ⦃σ : L2.St⦄ ⦃H F : Hp⦄ ⦃ρ : Rho⦄ ⦃a : Addr⦄ ⦃nm : Str⦄ ⦃C : Addr⦄ ⦃d : Option Addr⦄ ⦃x : Option (Str × D)⦄ (E : Ends) (Q : UEnds), Rp GP K H0 F0 γ0 γ σ H F ρ → ExD K F d x → mg nm = some (.ref C) → u (nm, x) Q ρ →
  (∀ σ' H' F' γ' ρ', Rp GP K H0 F0 γ0 γ' σ' H' F' ρ' → Q.nx ρ' → E.nx σ' H') → (∀ σ' H' F' γ' ρ', Rp GP K H0 F0 γ0 γ' σ' H' F' ρ' → Q.bk ρ' → E.bk σ' H') → (∀ σ' H' F' γ' ρ', Rp GP K H0 F0 γ0 γ' σ' H' F' ρ' → Q.ct ρ' → E.ct σ' H') →
  (∀ σ' v H' F' γ' ρ' d, Rp GP K H0 F0 γ0 γ' σ' H' F' ρ' → Dd K F' v d → Q.rt d ρ' → E.rt v H') → wSuite i ts E a (.ref C) d σ H
theorem lsu_plain {t : TS} {u : US} (h : LS GP K B t u) : LSU GP K mg B none (fun _ _ _ => t) (fun _ => u) := fun H0 F0 γ0 _ γ σ H F ρ a nm C d x E Q r _ _ z n b c t => h E Q r z n b c t
/-- a slot is told anew, of what is not ours -/
theorem Rp.blind {H0 F0 H F : Hp} {γ0 γ : GAt} {σ : L2.St} {ρ : Rho} (r : Rp GP K H0 F0 γ0 γ σ H F ρ) (i : Nat) (w : Option V) : Rp GP K H0 F0 γ0 γ (σ.set i w) H F (ρ.set i none) := by
  have q := r.disown i
  have off : ∀ {j : Nat} {y : SV}, (ρ.set i none)[j]? = some (some y) → j ≠ i := fun {j y} h e => by subst e; cases (set_at h).1
  refine ⟨q.f0, q.sub, q.keep, q.fnew, q.tr, by rw [List.length_set]; exact q.len, fun j d h => ?_, fun j d h => ?_, fun j n h => ?_, q.one, q.g0, q.g1, q.gt0, q.gt, q.gf, q.tabs, q.tin, q.gn⟩
  · obtain ⟨v, e1, e2⟩ := q.val j d h
    exact ⟨v, by rw [set_none (off h)]; exact e1, e2⟩
  · obtain ⟨b, e1, e2, e3, e4, e5, e6⟩ := q.own j d h
    refine ⟨b, by rw [set_none (off h)]; exact e1, e2, e3, e4, e5, fun l ⟨⟨e, hl⟩, h2⟩ => e6 l ⟨⟨e, hl⟩, ?_⟩⟩
    rw [set_none (off hl)] at h2
    exact h2
  · obtain ⟨p, e1, e2, e3, e4⟩ := q.gen j n h
    exact ⟨p, e1, by rw [set_none (off h)]; exact e2, e3, e4⟩
def uEnds0 (i : Nat) (Q : UEnds) : UEnds := { nx := fun ρ => Q.nx (ρ.set i none), rt := Q.rt, bk := fun ρ => Q.bk (ρ.set i none), ct := fun ρ => Q.ct (ρ.set i none) }
def uBlind (i : Nat) (u : US) : EX → US := fun _ Q ρ => u (uEnds0 i Q) (ρ.set i none)
/-- a named clause whose name is not read -/
theorem lsu_blind {i : Nat} {t : TS} {u : US} (h : LS GP K B t u) : LSU GP K mg B (some i) (fun _ _ _ => t) (uBlind i u) := fun H0 F0 γ0 _ γ σ H F ρ a nm C d x E Q r _ _ z n b c t =>
  h _ _ (r.blind i _) z (fun _ _ _ _ _ r' q' => n _ _ _ _ _ (r'.blind i none) q') (fun _ _ _ _ _ r' q' => b _ _ _ _ _ (r'.blind i none) q') (fun _ _ _ _ _ r' q' => c _ _ _ _ _ (r'.blind i none) q') t
def uFieldS (en f : Str) (i j : Nat) : EX → US := fun x Q ρ => i < ρ.length ∧ x.1 = en ∧ ∃ y, x.2 = some (f, y) ∧ Q.nx (((ρ.set i none).set j (some (.val y))).set i none)
def uFieldR (en f : Str) (i : Nat) : EX → US := fun x Q ρ => i < ρ.length ∧ x.1 = en ∧ ∃ y, x.2 = some (f, y) ∧ Q.rt y (ρ.set i none)
/-- x = e.f -/
theorem lsu_field {C : Addr} {en : Str} (hC : mg en = some (.ref C)) {f : Str} {i j : Nat} : LSU GP K mg B (some i) (fun a cls d => tAsg (tXf a cls d C f (tVar i)) (gName j)) (uFieldS en f i j) := by
  intro H0 F0 γ0 _ γ σ H F ρ a nm C2 d x E Q r ex hm ⟨hi, h1, y, h2, z⟩ n _ _ _
  cases d with
  | none => dsimp only at h2; subst h2; exact ex.elim
  | some d =>
    dsimp only at h1 h2
    subst h1 h2
    rw [hC] at hm
    cases hm
    obtain ⟨v, e1, e2⟩ := ex
    have r2 := ((r.blind i (some (.ref a))).setVal j e2).blind i none
    exact ⟨_, List.getElem?_set_self (by rw [r.len]; exact hi), rfl, rfl, d, _, v, rfl, r.sub _ _ e1, by simp [List.lookup], n _ _ _ _ _ r2 z⟩
/-- return e.f -/
theorem lsu_ret {C : Addr} {en : Str} (hC : mg en = some (.ref C)) {f : Str} {i : Nat} : LSU GP K mg B (some i) (fun a cls d => tRet (tXf a cls d C f (tVar i))) (uFieldR en f i) := by
  intro H0 F0 γ0 _ γ σ H F ρ a nm C2 d x E Q r ex hm ⟨hi, h1, y, h2, z⟩ _ _ _ t
  cases d with
  | none => dsimp only at h2; subst h2; exact ex.elim
  | some d =>
    dsimp only at h1 h2
    subst h1 h2
    rw [hC] at hm
    cases hm
    obtain ⟨v, e1, e2⟩ := ex
    exact ⟨_, List.getElem?_set_self (by rw [r.len]; exact hi), rfl, rfl, d, _, v, rfl, r.sub _ _ e1, by simp [List.lookup], t _ _ _ _ _ _ _ (r.blind i (some (.ref a))) e2 z⟩
/-- the clauses: what they name, their suites; all of the names are siblings -/
abbrev UCl := Str × (EX → US)
def uCls (names : List Str) (QE : EX → Rho → Prop) (Q : UEnds) : List UCl → EX → Rho → Prop
  | [] => QE
  | c :: r => fun x ρ => x.1 ∈ names ∧ if x.1 = c.1 then c.2 x Q ρ else uCls names QE Q r x ρ
/-- errors of the text: none is above another -/
def ErrT (K : PySem.W.Frag) (mg : Str → Option Value) (names : List Str) : Prop := ∀ n1 ∈ names, ∀ n2 ∈ names, ∀ C1 C2, mg n1 = some (.ref C1) → mg n2 = some (.ref C2) → PySem.W.exmOne K (.ref C1) (.ref C2) = some (decide (n1 = n2))
inductive LCls (GP : GenP) (K : PySem.W.Frag) (mg : Str → Option Value) (B : Hp × Hp × GAt) (names : List Str) : List ClM → List UCl → Prop
  | nil : LCls GP K mg B names [] []
  | cons {n : Str} {C : Addr} {s : Option Nat} {ts : Addr → Value → Option Addr → TS} {u : EX → US} {l : List ClM} {ul : List UCl} : mg n = some (.ref C) → n ∈ names → LSU GP K mg B s ts u → LCls GP K mg B names l ul → LCls GP K mg B names (⟨.ref C, s, ts⟩ :: l) ((n, u) :: ul)
def uTry (names : List Str) (QE : EX → Rho → Prop) (ub : (EX → Rho → Prop) → US) (ul : List UCl) : US := fun Q ρ => ub (uCls names QE Q ul) Q ρ
theorem wM_ok {names : List Str} (eT : ErrT K mg names) {Wout : WX} {QE : EX → Rho → Prop} {H0 F0 : Hp} {γ0 : GAt} [FinerC GP K B H0 F0 γ0] (hW : WOk GP K mg B Wout QE) {E : Ends} {Q : UEnds} (n : ∀ σ' H' F' γ' ρ', Rp GP K H0 F0 γ0 γ' σ' H' F' ρ' → Q.nx ρ' → E.nx σ' H') (b : ∀ σ' H' F' γ' ρ', Rp GP K H0 F0 γ0 γ' σ' H' F' ρ' → Q.bk ρ' → E.bk σ' H')
    (c : ∀ σ' H' F' γ' ρ', Rp GP K H0 F0 γ0 γ' σ' H' F' ρ' → Q.ct ρ' → E.ct σ' H') (t : ∀ σ' v H' F' γ' ρ' d, Rp GP K H0 F0 γ0 γ' σ' H' F' ρ' → Dd K F' v d → Q.rt d ρ' → E.rt v H') {l : List ClM} {ul : List UCl} (h : LCls GP K mg B names l ul) :
    ∀ {γ : GAt} {σ : L2.St} {H F : Hp} {ρ : Rho} {nm : Str} {C : Addr} {d : Option Addr} {x : Option (Str × D)}, Rp GP K H0 F0 γ0 γ σ H F ρ → ExD K F d x → mg nm = some (.ref C) → uCls names QE Q ul (nm, x) ρ → wM K Wout E l (.ref C) d σ H := by
  induction h with
  | nil => exact fun r ex hm z => hW _ _ _ _ _ _ _ _ _ (FinerC.fin r) ex hm z
  | cons hc hn hs _ ih =>
    intro γ σ H F ρ nm C d x r ex hm ⟨k, z⟩
    refine ⟨_, eT _ k _ hn _ _ hm hc, fun y a _ => ?_, fun y => ?_⟩
    · rw [if_pos (of_decide_eq_true y)] at z
      exact hs E Q r ex hm z n b c t
    · rw [if_neg (of_decide_eq_false y)] at z
      exact ih r ex hm z
/-- the body is read at the base of here: what its errors leave is told from here on -/
theorem ls_try {names : List Str} (eT : ErrT K mg names) {Wout : WX} {QE : EX → Rho → Prop} {tb : WX → TS} {ub : (EX → Rho → Prop) → US} {l : List ClM} {ul : List UCl} (hW : WOk GP K mg B Wout QE) (hb : ∀ B W QE, WOk GP K mg B W QE → LS GP K B (tb W) (ub QE)) (hl : LCls GP K mg B names l ul) : LS GP K B (fun E σ H => tb (wM K Wout E l) E σ H) (uTry names QE ub ul) := by
  intro H0 F0 γ0 _ γ σ H F ρ E Q r z n b c t
  haveI : FinerC GP K (H0, F0, γ0) H0 F0 γ0 := ⟨id, rfl⟩
  exact hb (H0, F0, γ0) _ _ (fun γ' σ' H' F' ρ' nm C d x r' ex hm q' => wM_ok eT hW n b c t hl r' ex hm q') E Q r z n b c t
end
end DL
/-! lifted readings 12: isinstance -/
namespace DL
open PySem PySem.Spec PyProof.Rows L2 CD
def isB (t n : String) : Bool := decide (t = n) || (decide (t = "bool") && decide (n = "int"))
theorem kitB_ok : ∀ t ∈ ["NoneType", "bool", "int", "str", "list", "tuple", "dict", "set"], ∀ n ∈ ["int", "bool", "str", "tuple", "list", "dict"], kitB t n = some (isB t n) := by decide +kernel
def uIsi (n : String) (u : UE) : UE := fun ρ Q => u ρ fun x ρ1 => match cn ρ1 x with
  | some (.scr _) => False
  | some (.fn _) => False
  | some d => n ∈ ["int", "bool", "str", "tuple", "list", "dict"] ∧ Q (.val (.bl (isB (tyD d) n))) ρ1
  | none => False
section
variable {GP : GenP} {K : PySem.W.Frag} {B : Hp × Hp × GAt}
theorem tyx_of {F H : Hp} {v : V} {d : D} (s : Same F H) (c : Cnt K F H v d) (n : ∀ ns, d ≠ .scr ns) (n2 : ∀ a, d ≠ .fn a) : TyX K H v (.type (tyD d)) := by
  cases d with
  | non => rw [c.non]; exact .base .non
  | bl b => rw [c.bl]; exact .base (.bl b)
  | int i => rw [c.int]; exact .base (.int i)
  | str x => rw [c.str]; exact .base (.str x)
  | list ds => obtain ⟨a, xs, rfl, h, _⟩ := c.list s; exact .base (.lst h)
  | tup ds => obtain ⟨a, xs, rfl, h, _⟩ := c.tup s; exact tyx_tup h
  | dk ds => obtain ⟨a, xs, rfl, h, _⟩ := c.dk s; exact .base (.dK h)
  | dt ds => obtain ⟨a, xs, rfl, h, _⟩ := c.dt s; exact .base (.dT h)
  | set xs =>
    rcases c with c | ⟨a, rfl, c⟩ | ⟨_, _, _, _, e, _⟩
    · cases c with
      | set h _ _ _ => exact .set (s _ _ h)
    · cases c with
      | set h _ _ _ => exact .set h
    · cases e
  | scr ns => exact absurd rfl (n ns)
  | fn a => exact absurd rfl (n2 a)
theorem le_isi {n : String} {t : TE} {u : UE} (h : LE GP K B t u) : LE GP K B (tCB (rIsi K) (tCons t (tCons (tC (.ty n)) tNil))) (uIsi n u) := by
  intro H0 F0 γ0 _ γ σ H F ρ R Q r z k
  refine h _ _ r z fun H1 F1 γ1 ρ1 v x r1 s1 k1 u1 => ?_
  have fin : ∀ d, cn ρ1 x = some d → (∀ ns, d ≠ .scr ns) → (∀ a, d ≠ .fn a) → n ∈ ["int", "bool", "str", "tuple", "list", "dict"] → Q (.val (.bl (isB (tyD d) n))) ρ1 → tCons (tC (.ty n)) tNil σ H1 fun xs H2 => rIsi K (v :: xs) H2 R := by
    intro d e ns nf hn q
    refine ⟨v, .ty n, .type (tyD d), .type n, isB (tyD d) n, rfl, .ty _, tyx_of r1.sub (RVok.cnt r1 k1 e) ns nf, kit_ty (kitB_ok _ ?_ _ hn), k _ _ _ _ _ (.val _) r1 s1 (.bl _) q⟩
    cases d with
    | fn a => exact absurd rfl (nf a)
    | _ => simp [tyD]
  split at u1
  · exact u1.elim
  · exact u1.elim
  · rename_i d ns nf e
    exact fin d e (fun z hz => by subst hz; exact ns z rfl) (fun z hz => by subst hz; exact nf z rfl) u1.1 u1.2
  · exact u1.elim
def pNeg : P1 := fun x Q => match x with
  | .int i => Q (.val (.int (-i)))
  | _ => False
theorem lu_neg : LU K (rU fun i => .int (-i)) pNeg := by
  intro F H x dx R Q s c z k
  cases dx with
  | int i => rw [c.int]; exact ⟨i, rfl, k _ _ (.val _) (Same.refl _) (.int _) z⟩
  | _ => exact z.elim
end
end DL
set_option maxHeartbeats 1000000
/-! lifted readings 13: evaluation of what was read -/
namespace DL
open PySem PySem.Spec PyProof.Rows L2 CD
theorem at0 {x : D} {r : List D} : atI (x :: r) 0 = some x := atI_nat (j := 0) rfl
theorem at1 {x y : D} {r : List D} : atI (x :: y :: r) 1 = some y := atI_nat (j := 1) rfl
theorem at2 {x y z : D} {r : List D} : atI (x :: y :: z :: r) 2 = some z := atI_nat (j := 2) rfl
theorem at3 {x y z a : D} {r : List D} : atI (x :: y :: z :: a :: r) 3 = some a := atI_nat (j := 3) rfl
theorem isn_non : DL.isNon .non = true := rfl
theorem isn_int {i : Int} : DL.isNon (.int i) = false := rfl
theorem isn_bl {i : Bool} : DL.isNon (.bl i) = false := rfl
theorem isn_str {i : Str} : DL.isNon (.str i) = false := rfl
theorem isn_tup {i : List D} : DL.isNon (.tup i) = false := rfl
theorem isn_list {i : List D} : DL.isNon (.list i) = false := rfl
theorem start_cons {n : Nat} {a : SV} {as : List SV} : start0 (n + 1) (a :: as) = some a :: start0 n as := by
  simp [start0]
theorem start_nil {n : Nat} : start0 n [] = List.replicate n none := by simp [start0]
theorem cut_tl (ds : List D) : cutD ds (some 1) none = ds.tail := by
  unfold cutD
  rw [show HT.sIx ds.length 0 (some 1) = min 1 ds.length from HT.sIx_nat ds.length 0 1, HT.sIx_none]
  cases ds with
  | nil => rfl
  | cons d r =>
    have e : min 1 (d :: r).length = 1 := by rw [List.length_cons]; omega
    rw [e]
    show List.take ((d :: r).length - 1) r = r
    rw [List.length_cons, Nat.add_sub_cancel, List.take_length]
theorem itD {c : Prop} [Decidable c] {A B : Prop} (h1 : c → A) (h2 : ¬ c → B) : if c then A else B := by
  split
  · exact h1 ‹_›
  · exact h2 ‹_›
def scrD : D → Bool
  | .scr _ => true
  | .fn _ => true
  | _ => false

end DL
/-! lifted readings 14: the end of a law; what the top has written, own errors with it -/
namespace DL
open PySem PySem.Spec PyProof.Rows L2 CD
/-- the law's end over a def that is told of by its name -/
theorem law_c {P : Program} {w : World} {K : PySem.W.Frag} {mg mb : Str → Option Value} {k : Nat} {fa a : Addr} {x y : Str} {sp : Sp} {s₁ : Shared} {vs : List Value} {ns : List Int}
    (KX : K.In s₁.heap) (hns : s₁.heap.Ns mainGlobals mg) (hb : s₁.heap.Ns builtinsNs mb) (hbb : ∀ x : Str, x ≠ "__name__" → mb x = bootBuiltins x) (hlim : s₁.heap.NoLimit) (hg : s₁.gens = #[])
    (ha : s₁.heap.get? a = some { cls := .type "list", data := .seq vs.toArray }) (hi : IntsAre vs ns) (hl : ns.length ≤ sizeLine) (hr : Room k callerA) (hy : mg y = some (.ref fa))
    (F : ∀ base : Heap, K.In base → base.Ns mainGlobals mg → CalG P w K mg base k y [x] sp)
    (hsp : ∀ H : Hp, SqL K H a (ns.map V.int) → sp [.ref a] H (fun v _ => v = .bl true) fun _ _ _ => False) :
    codeAny (model P w) callerA (.call (.ref fa) ⟨[.ref a], []⟩) (fun r s' => r = .ok (.ret (.bool true)) ∧ OldK s₁.heap s'.heap ∧ s'.os = s₁.os ∧ AllBare s'.gens) s₁ := by
  have rv := vals_ints hi
  generalize hO : ({ cls := .type "list", data := .seq vs.toArray } : Obj) = o at ha
  generalize hH : H00 K a o ns = H
  have tr : ∀ b u, H b = some u → b = a ∧ K.lookup a = none ∧ u = .frz o (.lst (ns.map V.int)) := fun b u e => by
    rw [← hH] at e
    unfold H00 at e
    by_cases c : b = a ∧ K.lookup a = none
    · rw [if_pos c] at e; exact ⟨c.1, c.2, (Option.some.inj e).symm⟩
    · rw [if_neg c] at e; cases e
  have own : s₁.heap.get? a = some { cls := .type "list", data := .seq vs.toArray } := by rw [hO]; exact ha
  have okF : HOk P w H s₁.heap := fun b u e => by
    obtain ⟨rfl, _, rfl⟩ := tr b u e
    exact ⟨ha, by rw [List.length_map]; exact hl, vs, _, rv, own⟩
  have free : ∀ {b : Addr} {u : Obj}, s₁.heap.get? b = some u → (∀ es ep, o.data = .dict es ep → False) → (b = a → False) → H b = none := fun {b u} _ _ n => by
    cases q : H b with
    | none => rfl
    | some z => exact absurd (tr b z q).1 n
  have ndata : ∀ es ep, o.data = Data.dict es ep → False := fun es ep e => by rw [← hO] at e; cases e
  have hidn : ∀ {b : Addr} {m : Str → Option Value}, s₁.heap.Ns b m → (hidT s₁.heap H).Ns b m := fun {b m} ⟨u, es, ep, e, d, r⟩ => ⟨u, es, ep, hidT_get e (free e ndata fun z => by
    subst z
    rw [ha] at e
    cases e
    exact ndata _ _ d), d, r⟩
  have kin : K.In (hidT s₁.heap H) := fun b u e => hidT_get (KX b u e) (by
    cases q : H b with
    | none => rfl
    | some z =>
      obtain ⟨rfl, n, _⟩ := tr b z q
      rw [n] at e; cases e)
  have sq : SqL K H a (ns.map V.int) := by
    cases hk : K.lookup a with
    | none => exact .inl (.inr ⟨o, by rw [← hH]; unfold H00; rw [if_pos ⟨rfl, hk⟩]⟩)
    | some u =>
      have e := KX a u hk
      rw [own] at e
      cases e
      exact .inr ⟨_, vs.toArray, _, hk, rfl, rfl, rfl, by rw [List.size_toArray, hi.length]; exact hl, by simpa using rv⟩
  have hM : Mod K mg (hidT s₁.heap H) := ⟨kin, hidn hns, ⟨mb, hidn hb, hbb⟩, let ⟨mc, h1, h2⟩ := hlim; ⟨mc, hidn h1, h2⟩⟩
  have e0 : Env0 P w K mg (hidT s₁.heap H) callerA [] s₁ H := ⟨rfl, hM, fun b u e => of_hidT e, Nat.le_of_eq (hidT_size _ _), trivial, fun b hm => (by cases hm), okF, .of_eq hg⟩
  obtain ⟨f', fd, G, hf, _, hbd⟩ := F _ kin (hidn hns)
  rw [hy] at hf
  cases hf
  have hb1 := hbd s₁ [.ref a] KX rfl
  rw [List.append_nil] at hb1
  refine codeAny_mono (G.run callerA [] s₁ H ⟨[.ref a], []⟩ [.ref a] [.ref a] _ _ rfl hr e0 hb1 (.cons rfl .nil) (hsp H sq)) fun r s' h => ?_
  match r, h with
  | .error _, h => exact False.elim h
  | .ok .next, h => exact False.elim h
  | .ok .brk, h => exact False.elim h
  | .ok .cont, h => exact False.elim h
  | .ok (.ret u), ⟨v, H', os, bare, un, ok', r', q⟩ =>
    obtain rfl : v = .bl true := q
    obtain rfl : u = Value.bool true := r'
    refine ⟨rfl, OldK.of_keep fun b u e => ?_, os, bare⟩
    cases q : H b with
    | none => exact un.keep b u e q (fun z => by cases z) (fun z => by cases z)
    | some z =>
      obtain ⟨rfl, _, rfl⟩ := tr b z q
      obtain ⟨e1, _⟩ := okF b _ q
      obtain ⟨e2, _⟩ := ok' b _ (un.frzs b o _ q)
      rw [e] at e1; cases e1
      exact e2
theorem walk_c {l : PySem.W.OpenLaw} {n k : Nat} {q : Program} {loose : List Str} {XP : (Str → Option Value) → Heap → Prop} {YP : World → Heap → Prop} {d : DefRec} {K : Params → PySem.W.Frag} {sp : World → Sp} {x : Str}
    (hn : l.most = some n) (hn2 : n ≤ sizeLine) (hdf : d.params.defaults = []) (hr : Room k callerA)
    (hY : ∀ (w : World) (h : Heap), YP w h → (K w.params).In h)
    (F : ∀ (w : World) (mg : Str → Option Value) (fa : Addr) (h : Heap), (K w.params).In h → h.Ns mainGlobals mg → mg d.name = some (.ref fa) →
        ∀ base : Heap, (K w.params).In base → base.Ns mainGlobals mg → CalG l.prog w (K w.params) mg base k d.name [x] (sp w))
    (hsp : ∀ (w : World) (H : Hp) (a : Addr) (ns : List Int), ns.length ≤ n → SqL (K w.params) H a (ns.map V.int) → sp w [.ref a] H (fun v _ => v = .bl true) fun _ _ _ => False) :
    PySem.W.WalkO q loose XP YP l.row.toRowW d [] (fun f vs => PySem.call f vs) := by
  refine Att.attach_call hn hdf fun w s₀ s₁ mg mb fa o pm cd doc a vs ns G Y ho hd hcd hmg hobj hints hlen hg => ?_
  exact law_c (hY w _ Y) G.T.g G.T.b G.T.builtins G.T.nolimit hg hobj hints (Nat.le_trans hlen hn2) hr hmg (F w mg fa _ (hY w _ Y) G.T.g hmg) fun H hS => hsp w H a ns hlen hS
theorem tabs_nil {GP : GenP} (e : GP.T = []) (H F : Hp) : TabsF GP H F := ⟨fun p hp => (by rw [e] at hp; cases hp), fun a ⟨q, hq⟩ => (by rw [e] at hq; cases hq)⟩
theorem spL_law {GP : GenP} (eT : GP.T = []) {K : PySem.W.Frag} {W : WD} {n : Nat} (h : ∀ ns : List Int, ns.length ≤ n → W [.val (.scr ns)] fun d _ => d = .bl true) (H : Hp) (a : Addr) (ns : List Int) (l : ns.length ≤ n) (s : SqL K H a (ns.map V.int)) : spL GP K 1 (fun as Q => hasG as = false ∧ W as Q) [.ref a] H (fun v _ => v = .bl true) fun _ _ _ => False := by
  refine ⟨H, none, [.val (.scr ns)], fun d _ => d = .bl true, Same.refl _, ⟨.scr s, trivial⟩, rfl, rfl, rfl, fun p hp => (by cases hp), tabs_nil eT H H, ⟨rfl, h ns l⟩, fun v H' F' γ' d m _ _ _ _ _ _ e _ q => ?_⟩
  subst q
  cases e
  rfl
/-! ### what the top has written -/
section
variable {P : Program} {w : World} {K : PySem.W.Frag} {h : Heap} {mg : Str → Option Value} {base : Heap}
theorem mg_int (X : K.In h) (G : h.Ns mainGlobals mg) {x : Str} {i j : Int} {t : Tok} (a : PySem.W.nsIn K mainGlobals x = some (some (.int i t))) (e : i = j) : ∃ t, mg x = some (.int j t) := ⟨t, e ▸ PySem.W.mg_of X G a⟩
def TupIs (o : Obj) (xs : List V) : Prop := o.cls = .type "tuple" ∧ ∃ its n, o.data = .seq its n ∧ its.size ≤ sizeLine ∧ Vals xs its.toList
theorem mg_tup (X : K.In h) (G : h.Ns mainGlobals mg) {x : Str} {a : Addr} {o : Obj} {xs : List V} (m : PySem.W.nsIn K mainGlobals x = some (some (.ref a))) (l : K.lookup a = some o) (t : TupIs o xs) : ∃ a, mg x = some (.ref a) ∧ SqT K (fun _ => none) a xs :=
  ⟨a, PySem.W.mg_of X G m, .inr (let ⟨h1, its, n, h2, h3, h4⟩ := t; ⟨o, its, n, l, h1, h2, h3, h4⟩)⟩
theorem def_mk (X : K.In h) (G : h.Ns mainGlobals mg) {x : Str} {st : Stmt} {ps : List Str} {f : Addr} {od an : Option Addr} {sl : Array (Option Value)} {oc kV dc pm cd ct : Value}
    (a : PySem.W.nsIn K mainGlobals x = some (some (.ref f))) (l : K.lookup f = some ⟨oc, od, .func (PySem.W.fnOf x x (defArgs st) (defBody st) (defScope st) .none kV dc pm an cd ct), sl⟩) (c : PySem.W.codeIn K cd x = true) (k : PySem.W.keepIn K (.ref f) = true)
    (hb : ∀ (kV doc pm : Value) (an : Option Addr) (cdv ct : Value) (us : List Value), us.length = ps.length → bindArgs (PySem.W.fnOf x x (defArgs st) (defBody st) (defScope st) .none kV doc pm an cdv ct) ⟨us, []⟩ = pure (ps.zip us)) : Def K mg x st ps :=
  ⟨f, _, fun_mk (st := st) l c k, PySem.W.mg_of X G a, (fun_mk (st := st) l c k).binds (ps := ps) hb⟩
/-- what stands written of an own error's class -/
structure ErrW (K : PySem.W.Frag) (x : Str) (C fI : Addr) : Prop where
  a : PySem.W.nsIn K mainGlobals x = some (some (.ref C))
  cls : ∃ nm q N bs bm sn sub ab col dd k0 k1 k2 k3 k5, K.lookup C = some (excClassObj nm q C N bs bm true sn sub ab col dd k0 k1 k2 k3 k5 "ValueError.__new__") ∧ PySem.HandSPX.refsVE bm = true
  sa : PySem.W.findIn K (.ref C) "__setattr__" = some (some (.builtin "object.__setattr__"))
  ga : PySem.W.findIn K (.ref C) "__getattribute__" = some (some (.builtin "BaseException.__getattribute__"))
  gg : PySem.W.findIn K (.ref C) "__getattr__" = some none
  ex : PySem.W.subIn K (.ref C) (.type "BaseException") = some true
  ty : PySem.W.typeIn K (.ref C) = some (.type "type")
  hd : PySem.W.hasDictIn K C = true
  kp : PySem.W.keepIn K (.ref C) = true
  i : PySem.W.findIn K (.ref C) "__init__" = some (some (.ref fI))
  ti : PySem.W.typeIn K (.ref fI) = some (.type "function")
theorem ErrW.oex {x : Str} {C fI : Addr} (E : ErrW K x C fI) : OexC K C := ⟨E.cls, E.sa, E.ex, E.ty, E.kp⟩
theorem ErrW.xf {x : Str} {C fI : Addr} (E : ErrW K x C fI) : XfC K C := ⟨E.ga, E.gg, E.ex, E.hd⟩
theorem ErrW.errC (X : K.In h) (G : h.Ns mainGlobals mg) {x : Str} {C fI : Addr} {f : Option Str} {fd : FuncData} {ps : List Str} (E : ErrW K x C fI) (no : ∀ g, f = some g → PySem.W.findIn K (.ref C) g = some none)
    (fo : FnOk P w K mg base (L2.CX P w) 1 fI fd ps (match f with | some f => spIn1 K f | none => spIn0 K)) (b : Binds K fd ps []) : ∃ C, ErrC P w K mg base x C f :=
  ⟨C, PySem.W.mg_of X G E.a, E.oex, E.xf, no, fI, fd, ps, E.i, E.ti, fo, b⟩
/-- one error's name against another's -/
theorem ErrW.exm {x : Str} {C fI : Addr} (E : ErrW K x C fI) {cls : Value} {b : Bool} (s : PySem.W.subIn K cls (.ref C) = some b) : PySem.W.exmOne K cls (.ref C) = some b := PySem.W.exm_ref E.ex E.hd E.ty s
end
end DL
set_option maxHeartbeats 400000
/-! lifted readings 15: texts; a def held in a slot; xs.pop(i) -/
namespace DL
open PySem PySem.Spec PyProof.Rows L2 CD
section
variable {GP : GenP} {K : PySem.W.Frag} {B : Hp × Hp × GAt}
/-! ### methods of texts -/
variable (K) in
def LM (r : V → List V → Hp → VK → Prop) (p : Str → PN) : Prop := ∀ ⦃F H : Hp⦄ ⦃s : Str⦄ ⦃vs : List V⦄ ⦃ds : List D⦄ (R : VK) (Q : RV → Prop), Same F H → CntL K F H vs ds → p s ds Q →
  (∀ v H' rv, Same H H' → Opk K F H H' v rv → Q rv → R v H') → r (.str s) vs H R
def uM0 (p : Str → PN) (u : UE) : UE := fun ρ Q => u ρ fun x ρ1 => match cn ρ1 (sf x) with
  | some (.str s) => p s [] fun z => Q (nrm z) ρ1
  | _ => False
def uM1 (p : Str → PN) (u ua : UE) : UE := fun ρ Q => u ρ fun x ρ1 => match cn ρ1 (sf x) with
  | some (.str s) => ua ρ1 fun y ρ2 => match cn ρ2 y with
    | some d => p s [d] fun z => Q (nrm z) ρ2
    | none => False
  | _ => False
theorem le_m0 {r : V → List V → Hp → VK → Prop} {p : Str → PN} {t : TE} {u : UE} (hr : LM K r p) (ha : LE GP K B t u) : LE GP K B (tM0 r t) (uM0 p u) := by
  intro H0 F0 γ0 _ γ σ H F ρ R Q r0 u0 h
  refine ha _ _ r0 u0 fun H1 F1 γ1 ρ1 v x r1 s1 k1 u1 => ?_
  obtain ⟨F2, r2, s2, k2⟩ := sf_ok r1 k1
  split at u1
  · rename_i s e
    obtain rfl := (RVok.cnt r2 k2.one e).str
    exact ⟨⟨_, rfl⟩, hr _ _ r2.sub (ds := []) trivial u1 fun v' H' rv sH ok q => let ⟨_, r9, s9, k9⟩ := opk_ok r2 sH ok; h _ _ _ _ _ (nrm rv) r9 (s1.trans (s2.trans s9)) k9 q⟩
  · exact u1.elim
theorem le_m1 {r : V → List V → Hp → VK → Prop} {p : Str → PN} {t t2 : TE} {u u2 : UE} (hr : LM K r p) (ha : LE GP K B t u) (hb : LE GP K B t2 u2) : LE GP K B (tM1 r t t2) (uM1 p u u2) := by
  intro H0 F0 γ0 _ γ σ H F ρ R Q r0 u0 h
  refine ha _ _ r0 u0 fun H1 F1 γ1 ρ1 v x r1 s1 k1 u1 => ?_
  obtain ⟨F2, r2, s2, k2⟩ := sf_ok r1 k1
  split at u1
  · rename_i s e
    obtain rfl := (RVok.cnt r2 k2.one e).str
    refine ⟨⟨_, rfl⟩, hb _ _ r2 u1 fun H3 F3 γ3 ρ3 w y r3 s3 k3 u3 => ?_⟩
    split at u3
    · rename_i d e3
      exact hr _ _ r3.sub (ds := [d]) ⟨RVok.cnt r3 k3 e3, trivial⟩ u3 fun v' H' rv sH ok q => let ⟨_, r9, s9, k9⟩ := opk_ok r3 sH ok; h _ _ _ _ _ (nrm rv) r9 (s1.trans (s2.trans (s3.trans s9))) k9 q
    · exact u3.elim
  · exact u1.elim
theorem DdL.of_strs {F : Hp} : ∀ ns : List Str, DdL K F (ns.map V.str) (ns.map D.str)
  | [] => .nil
  | n :: r => .cons (.str n) (DdL.of_strs r)
theorem DdL.strs {F : Hp} : ∀ {xs : List V} {ns : List Str}, DdL K F xs (ns.map D.str) → xs = ns.map V.str
  | _, [], h => by cases h; rfl
  | _, n :: r, h => by
    cases h with
    | cons h g => cases h; rw [DdL.strs g]; rfl
def pSplit : Str → PN := fun s ds Q => match ds with
  | [.str b] => (b.length == 0) = false ∧ s.length + 2 ≤ sizeLine ∧ Q (.fr (.list ((Txt.split s b).map D.str)))
  | _ => False
theorem lm_split : LM K (fun x xs H Q => ∃ a b, x = .str a ∧ xs = [.str b] ∧ (b.length == 0) = false ∧ a.length + 2 ≤ sizeLine ∧ rNewStrs (Txt.split a b) H Q) pSplit := by
  intro F H x vs ds R Q s c p h
  unfold pSplit at p
  split at p
  · obtain ⟨v, rfl, k⟩ := cl1 c
    exact ⟨_, _, rfl, by rw [k.str], p.1, p.2.1, fun l nl => h _ _ (.fr (.list _)) (same_upd nl) ⟨l, rfl, nl, .lst upd_same (DdL.of_strs _)⟩ p.2.2⟩
  · exact p.elim
def pPartition : Str → PN := fun s ds Q => match ds with
  | [.str b] => (b.length == 0) = false ∧ s.length ≤ sizeLine ∧ Q (.fr (.tup [.str (Txt.partition s b).1, .str (Txt.partition s b).2.1, .str (Txt.partition s b).2.2]))
  | _ => False
theorem lm_partition : LM K (fun x xs H Q => ∃ a b, x = .str a ∧ xs = [.str b] ∧ (b.length == 0) = false ∧ a.length ≤ sizeLine ∧ ∀ p, H p = none → Q (.ref p) (upd H p (.tup [.str (Txt.partition a b).1, .str (Txt.partition a b).2.1, .str (Txt.partition a b).2.2]))) pPartition := by
  intro F H x vs ds R Q s c p h
  unfold pPartition at p
  split at p
  · obtain ⟨v, rfl, k⟩ := cl1 c
    exact ⟨_, _, rfl, by rw [k.str], p.1, p.2.1, fun l nl => h _ _ (.fr (.tup _)) (same_upd nl) ⟨l, _, rfl, nl, upd_same, .cons (.str _) (.cons (.str _) (.cons (.str _) .nil))⟩ p.2.2⟩
  · exact p.elim
def pJoin : Str → PN := fun s ds Q => match ds with
  | [.list xs] => ∃ ys : List Str, xs = ys.map D.str ∧ (ys.map (·.length)).sum + ys.length * s.length ≤ 16777216 ∧ Q (.val (.str (Txt.join s ys)))
  | _ => False
theorem lm_join : LM K (fun x xs H Q => ∃ a p, ∃ ys : List Str, x = .str a ∧ xs = [.ref p] ∧ (SqL K H p (ys.map V.str) ∨ SqT K H p (ys.map V.str)) ∧ (ys.map (·.length)).sum + ys.length * a.length ≤ 16777216 ∧ Q (.str (Txt.join a ys)) H) pJoin := by
  intro F H x vs ds R Q s c p h
  unfold pJoin at p
  split at p
  · obtain ⟨ys, rfl, p1, p2⟩ := p
    obtain ⟨v, rfl, k⟩ := cl1 c
    obtain ⟨a, xs, rfl, hx, g⟩ := k.list s
    rw [g.strs] at hx
    exact ⟨_, a, ys, rfl, rfl, .inl (.inl (.inl hx)), p1, h _ _ (.val _) (Same.refl _) (Dd.str _) p2⟩
  · exact p.elim
def pNo (f : Str → Bool) : Str → PN := fun s ds Q => match ds with
  | [] => Q (.val (.bl (f s)))
  | _ => False
theorem lm_no {f : Str → Bool} : LM K (fun x xs H Q => ∃ a, x = .str a ∧ xs = [] ∧ True ∧ Q (.bl (f a)) H) (pNo f) := by
  intro F H x vs ds R Q s c p h
  unfold pNo at p
  split at p
  · cases vs with
    | nil => exact ⟨_, rfl, rfl, trivial, h _ _ (.val _) (Same.refl _) (Dd.bl _) p⟩
    | cons _ _ => exact c.elim
  · exact p.elim
/-! ### operators, built-ins -/
def pAddS : P2 := fun x y Q => match x, y with
  | .str a, .str b => a.length + b.length ≤ sizeLine ∧ Q (.val (.str (a ++ b)))
  | _, _ => False
theorem lr_addS : LR K (fun x y H Q => ∃ i j, x = .str i ∧ y = .str j ∧ i.length + j.length ≤ sizeLine ∧ Q (.str (i ++ j)) H) pAddS := by
  intro F H x y dx dy R Q s c1 c2 p h
  unfold pAddS at p
  split at p
  · exact ⟨_, _, c1.str, c2.str, p.1, h _ _ (.val _) (Same.refl _) (Dd.str _) p.2⟩
  · exact p.elim
def pIxS : P2 := fun x y Q => match x, y with
  | .str z, .int i => z.length ≤ sizeLine ∧ ∃ c, atI z.cps.toList i = some c ∧ Q (.val (.str ⟨#[c]⟩))
  | _, _ => False
theorem lr_ixS : LR K rIxS pIxS := by
  intro F H x y dx dy R Q s c1 c2 p h
  unfold pIxS at p
  split at p
  · obtain ⟨p1, c, p2, p3⟩ := p
    exact ⟨_, _, c, c1.str, c2.int, p1, p2, h _ _ (.val _) (Same.refl _) (Dd.str _) p3⟩
  · exact p.elim
def pLenS : PN := fun ds Q => match ds with
  | [.str z] => z.length ≤ sizeLine ∧ Q (.val (.int z.length))
  | _ => False
theorem lb_lenS : LB K (fun xs H Q => ∃ z, xs = [.str z] ∧ z.length ≤ sizeLine ∧ Q (.int z.length) H) pLenS := by
  intro F H vs ds R Q s c p h
  unfold pLenS at p
  split at p
  · obtain ⟨v, rfl, k⟩ := cl1 c
    exact ⟨_, by rw [k.str], p.1, h _ _ (.val _) (Same.refl _) (Dd.int _) p.2⟩
  · exact p.elim
def rStrU : List V → Hp → VK → Prop := fun xs H Q => (∃ i, xs = [.int i] ∧ i.natAbs.log2 < 1920 ∧ Q (.str (toString i)) H) ∨ ∃ a, xs = [.str a] ∧ Q (.str a) H
theorem call_strU {X : Cx} : CallR X (.type "str") rStrU := by
  intro pins s σ H xs us Q I r h
  rcases h with ⟨i, e, l, q⟩ | ⟨a, e, q⟩
  · exact call_str_int pins s σ H xs us Q I r ⟨i, e, l, q⟩
  · exact SkE.call_str_str pins s σ H xs us Q I r ⟨a, e, q⟩
def pStr : PN := fun ds Q => match ds with
  | [.int i] => i.natAbs.log2 < 1920 ∧ Q (.val (.str (toString i)))
  | [.str a] => Q (.val (.str a))
  | _ => False
theorem lb_str : LB K rStrU pStr := by
  intro F H vs ds R Q s c p h
  unfold pStr at p
  split at p
  · obtain ⟨v, rfl, k⟩ := cl1 c
    exact .inl ⟨_, by rw [k.int], p.1, h _ _ (.val _) (Same.refl _) (Dd.str _) p.2⟩
  · obtain ⟨v, rfl, k⟩ := cl1 c
    exact .inr ⟨_, by rw [k.str], h _ _ (.val _) (Same.refl _) (Dd.str _) p⟩
  · exact p.elim
def pIntS : PN := fun ds Q => match ds with
  | [.str a] => a.length ≤ 640 ∧ ∃ n, PySem.intText? a = some n ∧ Q (.val (.int n))
  | _ => False
theorem lb_intS : LB K (fun xs H Q => ∃ a n, xs = [.str a] ∧ PySem.intText? a = some n ∧ a.length ≤ 640 ∧ Q (.int n) H) pIntS := by
  intro F H vs ds R Q s c p h
  unfold pIntS at p
  split at p
  · obtain ⟨p1, n, p2, p3⟩ := p
    obtain ⟨v, rfl, k⟩ := cl1 c
    exact ⟨_, n, by rw [k.str], p2, p1, h _ _ (.val _) (Same.refl _) (Dd.int _) p3⟩
  · exact p.elim
/-! ### xs.pop(i) -/
def uPopAt (i : Nat) (a : UE) : UE := fun ρ Q => match ρ[i]? with
  | some (some (.own (.list _))) => a ρ fun x ρ1 => match ρ1[i]?, cn ρ1 x with
    | some (some (.own (.list ds))), some (.int j) => 0 ≤ j ∧ j < 2 ^ 63 ∧ (match ds[j.toNat]? with
      | some d => Q (.val d) (ρ1.set i (some (.own (.list (ds.eraseIdx j.toNat)))))
      | none => False)
    | _, _ => False
  | _ => False
theorem DdL.erase {F : Hp} : ∀ {xs : List V} {ds : List D} (n : Nat), DdL K F xs ds → DdL K F (xs.eraseIdx n) (ds.eraseIdx n)
  | _, _, _, .nil => .nil
  | _, _, 0, .cons _ t => t
  | _, _, n + 1, .cons h t => .cons h (DdL.erase n t)
theorem le_popAt {i : Nat} {t : TE} {u : UE} (h : LE GP K B t u) : LE GP K B (tBM K "list" rPopAt (tVar i) (tCons t tNil)) (uPopAt i u) := by
  intro H0 F0 γ0 _ γ σ H F ρ R Q r z k
  dsimp only [uPopAt] at z
  split at z
  · rename_i ds0 e0
    obtain ⟨a, h1, h2, _⟩ := r.own i _ e0
    cases h2 with
    | lst ha _ =>
      refine ⟨_, h1, .inl ⟨rfl, _, .inl (.inl ha)⟩, ?_⟩
      refine h _ _ r z fun H1 F1 γ1 ρ1 v x r1 s1 k1 u1 => ?_
      split at u1
      · rename_i ds j e ej
        obtain ⟨j0, j1, u1⟩ := u1
        split at u1
        · rename_i d ed
          obtain rfl := (RVok.cnt r1 k1 ej).int
          obtain ⟨b, b1, b2, b3, _⟩ := r1.own i _ e
          rw [h1] at b1; cases b1
          cases b2 with
          | lst hb g =>
            obtain ⟨y, y1, y2⟩ := g.get ed
            have hl := (List.getElem?_eq_some_iff.mp y1).1
            refine ⟨a, _, j, j.toNat, y, rfl, rfl, hb, by omega, j1, ?_, y1, ?_⟩
            · unfold seqIndex?
              rw [if_neg (by omega : ¬ j < 0)]
              rw [if_pos (by rw [Bool.and_eq_true]; exact ⟨decide_eq_true j0, decide_eq_true (by omega)⟩)]
            · exact k _ _ _ _ _ (.val d) (r1.write e h1 (.lst upd_same (g.erase _))) s1 y2 u1
        · exact u1.elim
      · exact u1.elim
  · exact z.elim
/-! ### len(set(t)) of a tuple without likes -/
def uLenSet (u : UE) : UE := fun ρ Q => u ρ fun x ρ1 => match cn ρ1 x with
  | some (.tup ds) => ∃ ns : List Int, ds = ns.map D.int ∧ ns.Nodup ∧ ns.length ≤ 1000 ∧ Q (.val (.int (ns.length : Nat))) ρ1
  | _ => False
theorem le_lenSetT {t : TE} {u : UE} (h : LE GP K B t u) : LE GP K B (tLenSetT K t) (uLenSet u) := by
  intro H0 F0 γ0 _ γ σ H F ρ R Q r z k
  refine h _ _ r z fun H1 F1 γ1 ρ1 v x r1 s1 k1 u1 => ?_
  split at u1
  · rename_i ds e
    obtain ⟨ns, rfl, h1, h2, q⟩ := u1
    obtain ⟨a, xs, rfl, hx, g⟩ := (RVok.cnt r1 k1 e).tup r1.sub
    rw [g.ints] at hx
    exact ⟨a, ns, rfl, hx, h1, h2, k _ _ _ _ _ (.val _) r1 s1 (Dd.int _) q⟩
  · exact u1.elim
theorem op_catAK {X : Cx} {K : PySem.W.Frag} (h : X.K = K) : OpR X (binaryOp .Add) (rCatA K) := h ▸ op_catA
/-! ### a def held in a slot -/
theorem le_fn {a : Addr} : LE GP K B (tC (.ref a)) (uC (.fn a)) := fun H0 F0 γ0 _ γ σ H F ρ R Q r z k => k _ _ _ _ _ (.val _) r (Same.refl _) (Dd.fn a) z
def uCallV (i : Nat) (f : Addr) (n : Nat) (W : WD) (ua : UA) : UE := fun ρ Q => ρ[i]? = some (some (.val (.fn f))) ∧ uCall n W ua ρ Q
theorem le_callV {i n : Nat} {f : Addr} {W : WD} {E : XK} {t : TA} {u : UA} (ha : LA GP K B t u) : LE GP K B (tCallL i f (spL GP K n W) [] E t) (uCallV i f n W u) := by
  intro H0 F0 γ0 _ γ σ H F ρ R Q r ⟨e, z⟩ k
  obtain ⟨v, e1, e2⟩ := r.val i _ e
  cases e2
  exact ⟨e1, le_call (E := E) ha _ _ r z k⟩
end
section
variable {X : Cx} {k i : Nat} {f : Addr} {fd : FuncData} {ps : List Str} {sp : Sp} {x : Str} {p pos : Pos} {e : Expr} {es : List Expr} {t : TA}
theorem pe_callLG (G : GOk X.prog X.w X.K X.mg X.base k f fd ps sp) (hk : PySem.W.keepIn X.K (.ref f) = true) (hb : Binds X.K fd ps []) (hgd : X.A.guards = some []) (hr : Room k X.A) (hN : X.N[i]? = some x) (hv : Vis X.env.scope x)
    (ha : PA X (e :: es) t) (hdb : (x == ("__debug__" : Str)) = false := by decide) (hcd : (x == ("__classdict__" : Str)) = false := by decide) (he : starEach (e :: es) X.env = (false, eval e X.env) :: starEach es X.env := by rfl) (hpl : (backTo pos (starEach es X.env)).any (·.1) = false := by rfl) :
    PE X (.Call (.Name x p) (e :: es) [] pos) (tCallL i f sp [] E0 t) := by
  refine ⟨fun pins s σ H Q I h => ?_⟩
  obtain ⟨hs, ht⟩ := h
  have nm := (pe_var (X := X) (pos := p) (i := i) hN hv hdb hcd).run pins s σ H (fun v H1 => v = .ref f ∧ H1 = H) I ⟨.ref f, hs, rfl, rfl⟩
  refine wpAny_Call_Name_kw (thn nm fun u s1 ⟨v, H1, I1, r1, q1⟩ => ?_)
  obtain ⟨rfl, rfl⟩ := q1
  cases r1
  refine PySem.W.callWith_K (h₀ := X.base) I.ok.mod.kin hk (thn (ha.run pos pins s1 σ _ _ I1 ht) fun us s2 ⟨vs, H2, I2, r, q⟩ => ⟨I2.kIn, ?_⟩) he hpl
  have q : sp vs H2 Q E0 := by
    have z : sp (vs ++ []) H2 Q E0 := q
    rwa [List.append_nil] at z
  have hl : (us ++ []).length = ps.length := by rw [List.append_nil, ← r.length]; exact G.len _ _ _ _ q
  have hbb := hb s2 us I2.kIn hl
  rw [List.append_nil] at hbb
  refine wpAny_call (codeAny_mono (G.run X.A X.stack s2 H2 ⟨us, []⟩ us vs Q E0 hgd hr I2.env0 hbb r q) fun r s' hq => ?_)
  match r, hq with
  | .error _, hq => exact False.elim hq
  | .ok (.ret u), hq => exact I2.after hq
  | .ok .next, hq => exact False.elim hq
  | .ok .brk, hq => exact False.elim hq
  | .ok .cont, hq => exact False.elim hq
end
end DL
set_option maxHeartbeats 1000000
/-! lifted readings 16: loops and blocks over symbolic data -/
namespace DL
open PySem PySem.Spec PyProof.Rows L2 CD
theorem set_back {ρ : Rho} {i : Nat} {x : Option SV} : (ρ.set i x).set i (ρ[i]?.getD none) = ρ := by
  rw [List.set_set]
  by_cases h : i < ρ.length
  · rw [List.getElem?_eq_getElem h]
    exact List.set_getElem_self h
  · exact List.set_eq_of_length_le (by omega)
/-- [e for x in ds], e of x alone -/
theorem goLc_map {i : Nat} {e : UE} {k : List D → Rho → Prop} {f : D → D} {ρ : Rho} (p : D → Prop) (hi : okW ρ [i] = true) (he : ∀ d K, p d → K (.val (f d)) (ρ.set i (some (.val d))) → e (ρ.set i (some (.val d))) K) : ∀ (ds acc : List D), (∀ d ∈ ds, p d) → acc.length + ds.length ≤ sizeLine → k (acc ++ ds.map f) ρ → goLc (ugName i) uYes e [i] k ds acc ρ
  | [], acc, _, _, q => by
    rw [List.map_nil, List.append_nil] at q
    exact q
  | d :: r, acc, hp, hl, q => by
    refine ⟨hi, ?_⟩
    dsimp only [ugName, uYes, wipeR]
    rw [List.set_set, if_pos rfl]
    refine he d _ (hp d List.mem_cons_self) ?_
    rw [List.length_cons] at hl
    refine ⟨by omega, ?_⟩
    have er : restR ρ (ρ.set i (some (.val d))) [i] = ρ := set_back
    rw [er]
    refine goLc_map p hi he r _ (fun x hx => hp x (List.mem_cons_of_mem _ hx)) (by rw [List.length_append, List.length_singleton]; omega) ?_
    rw [List.append_assoc]
    exact q
theorem drec {c : Prop} {inst : Decidable c} {A B : Prop} (h1 : c → A) (h2 : ¬ c → B) : @Decidable.rec c (fun _ => Prop) (fun _ => B) (fun _ => A) inst := by
  cases inst with
  | isTrue h => exact h1 h
  | isFalse h => exact h2 h
theorem sz {ds : List D} (h : Nat.ble ds.length 100 = true) : ds.length ≤ sizeLine := by
  have := Nat.le_of_ble_eq_true h
  rw [sizeLine_eq]
  omega
theorem sl {ds : List D} (h : Nat.ble ds.length 100 = true) : ds.length < sizeLine := by
  have := Nat.le_of_ble_eq_true h
  rw [sizeLine_eq]
  omega
theorem seq_of {a b : US} {Q : UEnds} {ρ : Rho} (h : a { Q with nx := fun ρ' => b Q ρ' } ρ) : uSeq a b Q ρ := h
theorem goFor_inv {i : Nat} {b : US} {Q : UEnds} {I : Nat → Rho → Prop} (p : D → Prop) (N : Nat) (hb : ∀ n d ρ (Q' : UEnds), n < N → p d → I n ρ → (∀ ρ', I (n + 1) ρ' → Q'.nx ρ') → b Q' (ρ.set i (some (.val d)))) : ∀ (items : List D) (n : Nat) (ρ : Rho), n + items.length ≤ N → (∀ d ∈ items, p d) → I n ρ → (∀ ρ', I (n + items.length) ρ' → Q.nx ρ') → goFor (ugName i) b Q items ρ
  | [], n, ρ, _, _, h, q => q ρ h
  | d :: r, n, ρ, hN, hp, h, q => by
    rw [List.length_cons] at hN
    show b { Q with nx := goFor (ugName i) b Q r, ct := goFor (ugName i) b Q r, bk := Q.nx } (ρ.set i (some (.val d)))
    refine hb n d ρ _ (by omega) (hp d List.mem_cons_self) h fun ρ' h' => ?_
    exact goFor_inv p N hb r (n + 1) ρ' (by omega) (fun x hx => hp x (List.mem_cons_of_mem _ hx)) h' fun ρ'' h'' => q ρ'' (by rw [List.length_cons, Nat.add_comm r.length 1, ← Nat.add_assoc]; exact h'')
theorem rg_len (lo : Int) (n : Nat) : (rgD lo n).length = n := by
  unfold rgD
  rw [List.length_map, List.length_range]
end DL
/-! lifted readings 17: a lambda, its one parameter (if it has one) with a default, handed to a def -/
namespace DL
open PySem PySem.Spec PyProof.Rows L2 CD LamX
/-- all but the tables stay -/
def ExtT (T : List (Addr × Str)) (H H' : Hp) : Prop := ∀ b o, H b = some o → ¬ TbA T b → H' b = some o
theorem ExtT.refl {T : List (Addr × Str)} (H : Hp) : ExtT T H H := fun _ _ h _ => h
def tLamT (T : List (Addr × Str)) (TT : (XK → Hp → VK → Prop) → Hp → VK → Prop) (t : XK → TE) : TE := fun σ H Q => Tabs T H ∧ ∀ G, ExtT T H G → Tabs T G → TT (fun E G' R => t E σ G' R) G Q
abbrev lamQ (X : Cx) : Str := X.env.qual ++ "<lambda>"
/-- the function made of it, its defaults at d -/
abbrev lamF (q : Str) (ps : Arguments) (e : Expr) (sc : Scope) (cl : List (Str × Addr)) (d doc m : Value) (co : Addr) (ct : Value) : Obj := PySem.W.kdv_obj "<lambda>" q ps (.expr e) sc cl d doc m co ct
section
variable {X : Cx} {pins : List (Addr × Obj)} {σ : L2.St} {H HZ : Hp} {s s1 : Shared}
/-- the new function's address is no frame -/
theorem off_frames {b : Addr} (I : Inv X pins σ H s) (hb : s.heap.objs.size ≤ b) : b ∉ frs X.stack := fun z => by
  cases List.mem_cons.mp (I.stkSub _ z) with
  | inl e => exact absurd (e ▸ I.lt) (Nat.not_lt.mpr hb)
  | inr e => exact I.nofs hb e
theorem lam_tail {T : List (Addr × Str)} {c P : Addr} {ps : Arguments} {e : Expr} {sc : Scope} {pos : Pos} {E Q : Value → Shared → Prop} {dV : Value} (I : Inv X pins σ H s) (TB : TabB X.base X.mg c P) (hco : X.env.code = .ref c)
    (mem : (P, lamQ X) ∈ T) (only : ∀ y ∈ T, y.1 = P → y.2 = lamQ X) (tb : Tabs T H) (has : ∀ y ∈ sc.names, y.2 = .free → ∃ a, X.env.cells.lookup y.1 = some a)
    (k : ∀ (f co : Addr) (doc m ct : Value) (H1 : Hp) (s2 : Shared), Inv X pins σ H1 s2 → ExtT T H H1 → Tabs T H1 → s2.heap.get? f = some (lamF (lamQ X) ps e sc (cloFrom X.env.cells sc.names []) dV doc m co ct) → H1 f = none → f ∉ frs X.stack →
      H1 co = some (CodeO co (lamQ X)) → (∀ b o, s.heap.get? b = some o → H b = none → s2.heap.get? b = some o ∧ H1 b = none) → Q (.ref f) s2) :
    wpAny (model X.prog X.w) X.A (makeTail "<lambda>" (lamQ X) ps (.expr e) sc X.env dV .none none pos pos.line) Q E s := by
  obtain ⟨vs, hP, tri, among⟩ := tb _ mem
  have bP := TB.bm.keeps I.bk
  have oP : s.heap.get? P = some { cls := .none, data := .fields vs } := I.hok P _ hP
  cases hc : codeAmong pos vs.toList with
  | none =>
    refine PySem.W.kdv_makeTail (mg := X.mg) (ps := vs) (closure_ok has) I.ok.glob (I.mod.glob.keeps I.bk) hco (TB.code.keeps I.bk) oP tri hc TB.gP bP ?_
    intro co ct doc hC tk2 ext ge lt rec atP
    obtain ⟨_, oc, ws, t2, e2, goc, dc, vc⟩ := rec
    cases e2
    have nC : H co = none := I.hok.fresh ge
    have big : s.heap.objs.size ≤ hC.objs.size := Nat.le_trans ge (Nat.le_of_lt lt)
    have I1 := inv_table (t' := tk2) (more := #[rawInt pos.line, rawInt pos.col, .ref co]) (h' := hC.push (lamF (lamQ X) ps e sc (cloFrom X.env.cells sc.names []) dV doc ((X.mg "__name__").getD .none) co ct)) I hP
      (fun b o nb z => Heap.get?_push_of_some _ (ext b o nb z)) (Heap.get?_push_of_some _ atP) ge ⟨oc, ws, t2, Heap.get?_push_of_some _ goc, dc, vc⟩
    have ex : ExtN H (upd (upd H P (.tbl (vs ++ #[rawInt pos.line, rawInt pos.col, .ref co]))) co (CodeO co (lamQ X))) := fun b o z n => by
      have b1 : b ≠ co := ne_of_none z nC
      have b2 : b ≠ P := fun y => n vs (by rw [y, hP] at z; exact (Option.some.inj z).symm)
      rw [upd_ne b1, upd_ne b2, z]
    have nPc : P ≠ co := ne_of_none hP nC
    have exT : ExtT T H (upd (upd H P (.tbl (vs ++ #[rawInt pos.line, rawInt pos.col, .ref co]))) co (CodeO co (lamQ X))) := fun b o z n => by
      have b2 : b ≠ P := fun y => n ⟨lamQ X, by rw [y]; exact mem⟩
      rw [upd_ne (ne_of_none z nC), upd_ne b2, z]
    refine k hC.objs.size co doc _ ct _ _ I1 exT (fun y hy => ?_) (Heap.get?_push_size _ rfl) ?_ (off_frames I big) upd_same (fun b o e n => ⟨Heap.get?_push_of_some _ (ext b o (fun y => by rw [y, hP] at n; cases n) e), ?_⟩)
    · by_cases yP : y.1 = P
      · rw [only y hy yP, yP]
        refine ⟨vs ++ #[rawInt pos.line, rawInt pos.col, .ref co], by rw [upd_ne nPc, upd_same], ?_, fun p' cv hcv => ?_⟩
        · rw [Array.toList_append]; exact PySem.TriplesOk_snoc _ _ _ _ tri
        · rw [Array.toList_append] at hcv
          cases among_app _ tri hcv with
          | inl z => obtain ⟨c0, z1, z2⟩ := among p' cv z; exact ⟨c0, z1, ex _ _ z2 codeO_ne⟩
          | inr z => exact ⟨co, z, upd_same⟩
      · obtain ⟨us, a1, a2, a3⟩ := tb y hy
        refine ⟨us, by rw [upd_ne (ne_of_none a1 nC), upd_ne yP]; exact a1, a2, fun p' cv hcv => ?_⟩
        obtain ⟨c0, z1, z2⟩ := a3 p' cv hcv
        exact ⟨c0, z1, ex _ _ z2 codeO_ne⟩
    · rw [upd_ne (Nat.ne_of_gt lt), upd_ne (Nat.ne_of_gt (Nat.lt_of_lt_of_le (Heap.lt_size oP) big))]
      exact I.hok.fresh big
    · rw [upd_ne (fun y => by rw [y] at e; exact absurd (Heap.lt_size e) (Nat.not_lt.mpr ge)), upd_ne (fun y => by rw [y, hP] at n; cases n)]
      exact n
  | some cv =>
    obtain ⟨co, rfl, hco2⟩ := among pos cv hc
    refine PySem.W.kdv_makeTailHit (mg := X.mg) (ps := vs) (closure_ok has) I.ok.glob (I.mod.glob.keeps I.bk) hco (TB.code.keeps I.bk) oP tri hc bP ?_
    intro ct doc hC tk2 ext big
    have I1 : Inv X pins σ H { s with heap := hC.push (lamF (lamQ X) ps e sc (cloFrom X.env.cells sc.names []) dV doc ((X.mg "__name__").getD .none) co ct), toks := tk2 } := I.kept fun b o z => Heap.get?_push_of_some _ (ext b o z)
    exact k hC.objs.size co doc _ ct H _ I1 (ExtT.refl H) tb (Heap.get?_push_size _ rfl) (I.hok.fresh big) (off_frames I big) hco2 (fun b o e n => ⟨Heap.get?_push_of_some _ (ext b o e), n⟩)
/-- lambda x=i: e -/
theorem lam_madeD {T : List (Addr × Str)} {c P : Addr} {ps : Arguments} {e : Expr} {sc : Scope} {pos : Pos} {E Q : Value → Shared → Prop} {i : Int} {j : Nat} {p : Pos} (I : Inv X pins σ H s) (TB : TabB X.base X.mg c P) (hco : X.env.code = .ref c)
    (mem : (P, lamQ X) ∈ T) (only : ∀ y ∈ T, y.1 = P → y.2 = lamQ X) (tb : Tabs T H) (hd : ps.defaults = [.Constant (.int i) j p]) (hk : ps.kw_defaults = []) (has : ∀ y ∈ sc.names, y.2 = .free → ∃ a, X.env.cells.lookup y.1 = some a)
    (k : ∀ (f co t : Addr) (doc m ct : Value) (tk : Tok) (H1 : Hp) (s2 : Shared), Inv X pins σ H1 s2 → ExtT T H H1 → Tabs T H1 → s2.heap.get? f = some (lamF (lamQ X) ps e sc (cloFrom X.env.cells sc.names []) (.ref t) doc m co ct) → H1 f = none → f ∉ frs X.stack →
      s2.heap.get? t = some (PySem.W.kdv_tup [.int i tk]) → H1 t = none → t ∉ frs X.stack → H1 co = some (CodeO co (lamQ X)) → Q (.ref f) s2) :
    wpAny (model X.prog X.w) X.A (eval (.Lambda ps e sc pos) X.env) Q E s := by
  refine PySem.W.kdv_lam (by rw [hd]; rfl) hk ?_
  rw [hd]
  refine PySem.W.kdv_all1 (thn ((pe_int (X := X) (i := i) (j := j) (pos := p)).run pins s σ H (fun v G => v = .int i ∧ G = H) I ⟨rfl, rfl⟩) fun u sA ⟨v, G, IA, rv, eq⟩ => PySem.W.kdv_all0 ?_)
  obtain ⟨e1, e2⟩ := eq
  subst e1
  rw [e2] at IA
  obtain ⟨tk, rfl⟩ : ∃ tk, u = Value.int i tk := rv
  rw [makeFunction_eq]
  simp only [List.zip_nil_right, List.filterMap_nil, List.isEmpty_nil, List.isEmpty_cons, if_true, pure_bind, Bool.false_eq_true, if_false]
  refine wpAny_bind (wpAny_newTextTuple ?_)
  have nT := IA.hok.fresh (Nat.le_refl sA.heap.objs.size)
  have fT := off_frames IA (Nat.le_refl _)
  have IB : Inv X pins σ H { sA with heap := sA.heap.push (PySem.W.kdv_tup [.int i tk]) } := IA.kept fun b o z => Heap.get?_push_of_some _ z
  have gT : (sA.heap.push (PySem.W.kdv_tup [.int i tk])).get? sA.heap.objs.size = some (PySem.W.kdv_tup [.int i tk]) := Heap.get?_push_size _ rfl
  exact lam_tail IB TB hco mem only tb has fun f co doc m ct H1 s2 I1 ex T1 gf nf ff oco keeps => k f co _ doc m ct tk H1 s2 I1 ex T1 gf nf ff (keeps _ _ gT nT).1 (keeps _ _ gT nT).2 fT oco
/-- lambda: e -/
theorem lam_made0 {T : List (Addr × Str)} {c P : Addr} {ps : Arguments} {e : Expr} {sc : Scope} {pos : Pos} {E Q : Value → Shared → Prop} (I : Inv X pins σ H s) (TB : TabB X.base X.mg c P) (hco : X.env.code = .ref c)
    (mem : (P, lamQ X) ∈ T) (only : ∀ y ∈ T, y.1 = P → y.2 = lamQ X) (tb : Tabs T H) (hd : defaultsOf ps X.env = ([], [])) (has : ∀ y ∈ sc.names, y.2 = .free → ∃ a, X.env.cells.lookup y.1 = some a)
    (k : ∀ (f co : Addr) (doc m ct : Value) (H1 : Hp) (s2 : Shared), Inv X pins σ H1 s2 → ExtT T H H1 → Tabs T H1 → s2.heap.get? f = some (lamF (lamQ X) ps e sc (cloFrom X.env.cells sc.names []) .none doc m co ct) → H1 f = none → f ∉ frs X.stack → H1 co = some (CodeO co (lamQ X)) → Q (.ref f) s2) :
    wpAny (model X.prog X.w) X.A (eval (.Lambda ps e sc pos) X.env) Q E s := by
  refine PySem.W.kla_eval hd ?_
  rw [makeFunction_eq]
  simp only [List.zip_nil_right, List.filterMap_nil, List.isEmpty_nil, if_true, pure_bind]
  exact lam_tail I TB hco mem only tb has fun f co doc m ct H1 s2 I1 ex T1 gf nf ff oco _ => k f co doc m ct H1 s2 I1 ex T1 gf nf ff oco
end
/-- the names of a lambda: its own parameters, captured ones, globals -/
structure LamD (xs : List Str) (out sc : Scope) : Prop where
  kind : sc.kind = .function
  calm : sc.isCoroutine = false ∧ sc.isGenerator = false
  own : ∀ y ∈ sc.names, y.2 ≠ .cell ∧ (y.2 = .local → y.1 ∈ xs)
  par : ∀ x ∈ xs, sc.names.lookup x = some .local
  free : ∀ y ∈ sc.names, y.2 = .free → out.names.lookup y.1 = some .cell ∨ out.names.lookup y.1 = some .free
def lamDB (xs : List Str) (out sc : Scope) : Bool :=
  decide (sc.kind = .function) && (!sc.isCoroutine && !sc.isGenerator) && xs.all (fun x => decide (sc.names.lookup x = some .local)) && sc.names.all fun y => !decide (y.2 = .cell) && (!decide (y.2 = .local) || decide (y.1 ∈ xs)) && (!decide (y.2 = .free) || (decide (out.names.lookup y.1 = some .cell) || decide (out.names.lookup y.1 = some .free)))
theorem lamD_by {xs : List Str} {out sc : Scope} (h : lamDB xs out sc = true) : LamD xs out sc := by
  unfold lamDB at h
  simp only [Bool.and_eq_true, List.all_eq_true, decide_eq_true_eq, Bool.not_eq_true', Bool.or_eq_true, decide_eq_false_iff_not] at h
  obtain ⟨⟨⟨a, b⟩, c⟩, d⟩ := h
  refine ⟨a, b, fun y hy => ⟨(d y hy).1.1, fun e => ?_⟩, c, fun y hy e => ?_⟩
  · rcases (d y hy).1.2 with z | z
    · exact absurd e z
    · exact z
  · rcases (d y hy).2 with z | z
    · exact absurd e z
    · exact z
theorem LamD.has {X : Cx} {xs : List Str} {sc : Scope} (L : LamD xs X.env.scope sc) (ok : X.Ok) : ∀ y ∈ sc.names, y.2 = .free → ∃ a, X.env.cells.lookup y.1 = some a :=
  fun y hy e => (L.free y hy e).elim (fun z => ok.has _ (.inl z)) (fun z => ok.has _ (.inr z))
section
variable {X : Cx} {pins : List (Addr × Obj)} {σ : L2.St} {H HZ : Hp} {s s1 : Shared}
theorem lam_startD {A : Around} {outer : List Env} {E : XK} {xs : List Str} {bs : List (Str × Value)} {sc : Scope} {f co : Addr} {g1 : Heap} {tk : Nat} (I : Inv X pins σ H s) (L : LamD xs X.env.scope sc) (nx : ∀ x ∈ xs, x ∉ X.N) (e0 : Env0 X.prog X.w X.K X.mg X.base A outer s1 HZ) (hd : A.handled = none)
    (un : Un (frs X.stack) [] H HZ s.heap s1.heap) (ns : g1.Ns s1.heap.objs.size fun y => bs.reverse.lookup y) (kp : ∀ b o, s1.heap.get? b = some o → g1.get? b = some o) :
    Inv (lamCx X A outer s1 HZ E sc f co) [] σ HZ { s1 with heap := g1, toks := tk } := by
  have has := L.has I.ok
  have back : ∀ {y a}, (cloFrom X.env.cells sc.names []).lookup y = some a → X.env.cells.lookup y = some a := fun {y a} z => by
    rcases cloFrom_mem (PySem.mem_of_lookup z) with q | ⟨q1, q2⟩
    · cases q
    · obtain ⟨b, hb⟩ := has _ q1 rfl
      have hb : X.env.cells.lookup y = some b := hb
      have q2 : a = (X.env.cells.lookup y).getD 0 := by rw [q2] <;> rfl
      rw [hb] at q2
      exact q2 ▸ hb
  have find : ∀ {y}, sc.names.lookup y = some .free → ∃ a, (cloFrom X.env.cells sc.names []).lookup y = some a := fun {y} z =>
    mem_lookup (cloFrom_has (cells := X.env.cells) (acc := []) (show (y, NameKind.free) ∈ sc.names from PySem.mem_of_lookup z))
  have cellAt : ∀ {a : Addr} {v : Option Value}, H a = none → s.heap.IsCell a v → g1.IsCell a v := fun {a v} n ⟨o, go, d⟩ => by
    obtain ⟨sl, q⟩ := un.any go n (by simp)
    exact ⟨_, kp _ _ q, d⟩
  have noCell : ∀ y, sc.names.lookup y ≠ some .cell := fun y z => (L.own _ (PySem.mem_of_lookup z)).1 rfl
  have ok : (lamCx X A outer s1 HZ E sc f co).Ok :=
    { mod := e0.mod, kind := L.kind, glob := rfl, blt := rfl, above := Nat.le_refl _
      inj := fun y z a z1 z2 => I.ok.inj y z a (back z1) (back z2)
      has := fun y hy => hy.elim (fun z => absurd z (noCell y)) find
      cab := fun y a z _ => by
        have z : false = true := z
        cases z
      hd := fun _ => hd
      frames := Around.frames_deeper e0.frames
      stk := .inr ⟨rfl, rfl⟩
      exf := fun b z => nomatch (show b ∈ ([] : List Addr) from z)
      bs := e0.bs
      bsz := e0.bsz
      noex := fun b _ _ z => nomatch (show b ∈ ([] : List Addr) from z)
      exfs := fun b z => nomatch (show b ∈ ([] : List Addr) from z)
      funs := e0.funs
      frf := e0.frf }
  exact
    { ok := ok, os := rfl, bare := e0.bare, base := Un.kept kp
      loc := by
        refine ⟨_, ns, fun i y v z1 z2 z3 => ?_⟩
        have z1 : X.N[i]? = some y := z1
        have ny : y ∉ xs := fun e => nx _ e (List.mem_of_getElem? z1)
        have z3 : Vis sc y := z3
        have k : sc.names.lookup y = some .free := by
          rcases z3 with k | k | k
          · exact absurd ((L.own _ (PySem.mem_of_lookup k)).2 rfl) ny
          · exact absurd k (noCell y)
          · exact k
        have fr := L.free _ (PySem.mem_of_lookup k) rfl
        obtain ⟨m, _, hl⟩ := I.loc
        obtain ⟨u, r, q⟩ := hl i y v z1 z2 (fr.elim (fun k => .inr (.inl k)) fun k => .inr (.inr k))
        obtain ⟨a, ha⟩ := find k
        refine ⟨u, r, .inr ⟨.inr k, a, ha, ?_⟩⟩
        have hb := back ha
        rcases q with ⟨k', _⟩ | ⟨_, b, hb', z⟩
        · exact absurd (show X.env.scope.names.lookup y = some .local from k') (fun k' => by
            rcases fr with k2 | k2
            · rw [show X.env.scope.names.lookup y = some .cell from k2] at k'; cases k'
            · rw [show X.env.scope.names.lookup y = some .free from k2] at k'; cases k')
        · rw [hb] at hb'
          cases hb'
          exact cellAt (I.freeC y _ hb) z
      cell := fun y a z => by
        obtain ⟨u, q⟩ := I.cell y a (back z)
        exact ⟨u, cellAt (I.freeC y a (back z)) q⟩
      free := e0.hok.fresh (Nat.le_refl _)
      freeC := fun y a z => by
        obtain ⟨u, o, go, d⟩ := I.cell y a (back z)
        exact un.free a o go (I.freeC y a (back z)) (by simp)
      pin := fun q hq => nomatch (show q ∈ ([] : List (Addr × Obj)) ++ [] from hq)
      hok := e0.hok.kept kp
      len := I.len }
/-- a(): in the def that got the lambda -/
theorem pe_actD {CXg : CXT} {Eg : XK} {Ng : List Str} {qg : Str} {sg : Scope} {g f co : Addr} {cdg doc m ct : Value} {ps : Arguments} {e : Expr} {sc : Scope} {k i : Nat} {a : Str} {xs : List Str} {bs : List (Str × Value)} {dV : Value} {pn : List (Addr × Obj)} {xe : Value → Shared → Prop} {W : WX} {E : XK} {tb : TE} {p1 p2 : Pos}
    (I : Inv X pins σ H s) (L : LamD xs X.env.scope sc) (nx : ∀ x ∈ xs, x ∉ X.N) (hbs : bs.map (·.1) = xs) (gf : s.heap.get? f = some (lamF (lamQ X) ps e sc (cloFrom X.env.cells sc.names []) dV doc m co ct)) (nf : H f = none) (ff : f ∉ frs X.stack)
    (hb : ∀ s1 : Shared, (∀ b o, s.heap.get? b = some o → H b = none → b ∉ frs X.stack → s1.heap.get? b = some o) → BindsTo s1 (PySem.W.kdv_fn "<lambda>" (lamQ X) ps (.expr e) sc (cloFrom X.env.cells sc.names []) dV doc m (.ref co) ct) ⟨[], []⟩ bs)
    (tk : Takes ((cxOf CXg X.prog X.w X.K X.mg X.base Ng qg sg g cdg X.A X.stack s H Eg).tr pn xe) W) (hW : ∀ cls d σ' H', E cls d H' → W cls d σ' H') (hr : Room (k + 1) (X.A.deeper (envOfC qg sg s.heap.objs.size g cdg)))
    (hgd : X.A.guards = some []) (body : ∀ (A : Around) (outer : List Env) (s : Shared) (H : Hp), A.guards = some [] → Room k (A.deeper (lamEnv X sc s.heap.objs.size f co)) → PE (lamCx X A outer s H E sc f co) e tb)
    (hN : Ng[i]? = some a) (hv : Vis sg a) (hd : (a == ("__debug__" : Str)) = false := by decide) (hcd : (a == ("__classdict__" : Str)) = false := by decide) :
    PE ((cxOf CXg X.prog X.w X.K X.mg X.base Ng qg sg g cdg X.A X.stack s H Eg).tr pn xe) (.Call (.Name a p1) [] [] p2)
      (fun σZ HZ Q => σZ[i]? = some (some (.ref f)) ∧ HZ co = some (CodeO co (lamQ X)) ∧ tb σ HZ Q) := by
  refine ⟨fun pinsZ sZ σZ HZ Q IZ h => ?_⟩
  obtain ⟨h1, h2, h3⟩ := h
  refine wpAny_Call_Name_kw (thn ((pe_var (pos := p1) (i := i) hN hv hd hcd).run pinsZ sZ σZ HZ (fun v G => v = .ref f ∧ G = HZ) IZ ⟨_, h1, rfl, rfl⟩) fun u s1 ⟨v, G, I1, r1, q1⟩ => ?_)
  obtain ⟨ev, eG⟩ := q1
  subst ev
  rw [eG] at I1
  obtain rfl : u = Value.ref f := r1
  have noEx : ∀ b : Addr, b ∈ ([] : List Addr) → False := fun b z => nomatch z
  have gf1 := I1.base.keep f _ gf nf ff (noEx f)
  refine PySem.W.callWith_F0 ⟨_, _, _, _, gf1⟩ (wpAny_call ?_)
  have un : Un (frs X.stack) [] H HZ s.heap s1.heap := I1.base
  obtain ⟨⟨oc, ws, t2, goc, dc, vc⟩, _, _⟩ := I1.hok co _ h2
  have runs : codeAny (model X.prog X.w) (X.A.deeper (envOfC qg sg s.heap.objs.size g cdg)) (.call (.ref f) ⟨[], []⟩) (CR (L2.CX X.prog X.w) (envOfC qg sg s.heap.objs.size g cdg :: X.stack) X.prog X.w HZ s1 Q E) s1 := by
    refine PySem.W.kla_callFunE hr.depth gf1 rfl L.calm.1 L.calm.2 rfl ⟨co, oc, ws, t2, rfl, goc, dc, vc⟩ ?_
    refine hb s1 (fun b o z n nb => I1.base.keep b o z n nb (noEx b)) _ _ _ _ ?_
    refine wpAny_newFunctionEnv (fun y hy => (L.own y hy).1) (fun y hy => ?_) (fun g1 ns sb => ⟨I1.nolimit.fresh _ sb, ?_⟩) L.kind
    · exact L.par _ (hbs ▸ List.mem_map_of_mem hy)
    show codeAny _ _ (.expr e (lamEnv X sc s1.heap.objs.size f co)) _ _
    have kp : ∀ b o, s1.heap.get? b = some o → g1.get? b = some o := fun b o z => sb.extBut b o (Nat.ne_of_lt (Heap.lt_size z)) (Heap.get?_push_of_some _ z)
    have J := lam_startD (E := E) (f := f) (co := co) (tk := s1.toks + bs.length) I L nx I1.env0 hr.hd un ns kp
    refine PySem.W.kla_codeExpr (wpAny_mono ((body _ _ s1 HZ (show (X.A.deeper (envOfC qg sg s.heap.objs.size g cdg)).guards = some [] from hgd) (hr.deeper _)).run [] _ σ HZ Q J h3) (fun v s' q => ?_) fun e' s' q => q)
    obtain ⟨w', H', J', rv, q⟩ := q
    exact ⟨w', H', J'.os, J'.bare, J'.base, J'.hok, rv, q⟩
  have px := passes_call (X := (cxOf CXg X.prog X.w X.K X.mg X.base Ng qg sg g cdg X.A X.stack s H Eg).tr pn xe) (E := E) tk hW
  refine codeAny_mono runs fun r s' q => ?_
  match r, q with
  | .error e', q => exact px pinsZ σZ HZ s1 e' s' I1 q
  | .ok (.ret u), q => exact I1.after q
  | .ok .next, q => exact q.elim
  | .ok .brk, q => exact q.elim
  | .ok .cont, q => exact q.elim
/-- x(lambda y=i: e) -/
theorem pe_lamcallD {T : List (Addr × Str)} {TT : (XK → Hp → VK → Prop) → Hp → VK → Prop} {x a y : Str} {g c P : Addr} {k : Nat} {pg : Arguments} {bg : List Stmt} {sg : Scope} {dV kV doc pm cdv ct oc : Value} {an od : Option Addr} {osl : Array (Option Value)} {Ng : List Str}
    {ps : Arguments} {e : Expr} {sc : Scope} {t : XK → TE} {i0 : Int} {j0 : Nat} {p0 p lpos pos : Pos} (hg : Gl X x) (hm : X.mg x = some (.ref g)) (hk : PySem.W.keepIn X.K (.ref g) = true)
    (lk : X.K.lookup g = some ⟨oc, od, .func (PySem.W.fnOf x x pg bg sg dV kV doc pm an cdv ct), osl⟩) (hcg : PySem.W.codeIn X.K cdv x = true) (hb : L2.Binds X.K (PySem.W.fnOf x x pg bg sg dV kV doc pm an cdv ct) [a] []) (Sg : FnScope Ng [a] sg) (hN : Ng[0]? = some a) (hv : Vis sg a)
    (hG : GivesTo X Ng x sg g cdv bg a (lamQ X) TT) (TB : TabB X.base X.mg c P) (hco : X.env.code = .ref c) (mem : (P, lamQ X) ∈ T) (only : ∀ z ∈ T, z.1 = P → z.2 = lamQ X) (hr : Room (k + 2) X.A) (L : LamD [y] X.env.scope sc) (ny : y ∉ X.N)
    (hd : ps.defaults = [.Constant (.int i0) j0 p0]) (hkd : ps.kw_defaults = [])
    (bind : ∀ (q : Str) (cl : List (Str × Addr)) (t : Addr) (doc m co ct : Value) (tk : Tok), ∃ kk, bindArgs (PySem.W.kdv_fn "<lambda>" q ps (.expr e) sc cl (.ref t) doc m co ct) ⟨[], []⟩ = seqItems? (.ref t) >>= kk ∧ kk (some #[.int i0 tk]) = pure [(y, .int i0 tk)])
    (hgd : X.A.guards = some []) (body : ∀ (A : Around) (outer : List Env) (s : Shared) (H : Hp) (E : XK) (f co : Addr), A.guards = some [] → Room k (A.deeper (lamEnv X sc s.heap.objs.size f co)) → PE (lamCx X A outer s H E sc f co) e (t E))
    (hdb : (x == ("__debug__" : Str)) = false := by decide) (hda : (a == ("__debug__" : Str)) = false := by decide) (hca : (a == ("__classdict__" : Str)) = false := by decide) :
    PE X (.Call (.Name x p) [.Lambda ps e sc lpos] [] pos) (tLamT T TT t) := by
  refine ⟨fun pins s σ H Q I h => ?_⟩
  obtain ⟨tabs, h⟩ := h
  refine wpAny_Call_Name_kw (ld_glob I hg hm (PySem.W.callWith_K (h₀ := X.base) I.ok.mod.kin hk ?_ (by rfl) (by rfl)) hdb)
  show wpAny _ _ (spliced ((false, eval (.Lambda ps e sc lpos) X.env) :: backTo pos (starEach [] X.env))) _ _ s
  refine Calls.spliced_cons (lam_madeD I TB hco mem only tabs hd hkd (L.has I.ok) fun f co t' doc' m' ct' tk H1 s1 I1 ex T1 gf nf ff gt nt ft oco => Calls.spliced_nil ⟨I1.kIn, ?_⟩)
  have ran : codeAny (model X.prog X.w) X.A (.call (.ref g) ⟨[.ref f], []⟩) (CR C8.CX0 X.stack X.prog X.w H1 s1 Q C8.E0) s1 :=
    run_ofS (N := Ng) (ps := [a]) (us := [.ref f]) (vs := [.ref f]) lk hcg Sg hr I1.env0 (hb s1 [.ref f] I1.kIn rfl) (.cons rfl .nil) rfl fun hr' => by
      obtain ⟨u, hu, hq⟩ := hG f co s1 H1 Q (fun E G R => t E σ G R)
        (fun W pn xe E p1 p2 tk' hW => pe_actD (i := 0) (bs := [(y, .int i0 tk)]) I1 L (fun x hx => by rw [List.mem_singleton.mp hx]; exact ny) rfl gf nf ff (fun s3 kp => let ⟨kk, z1, z2⟩ := bind _ _ _ _ _ _ _ _; BindsTo.of_defaults rfl (kp _ _ gt nt ft) rfl z1 z2) tk' hW hr' hgd (fun A outer s H hg2 hr2 => body A outer s H E f co hg2 hr2) hN hv hda hca) oco (h H1 ex T1)
      exact ⟨u, hu.nox, hq⟩
  refine wpAny_call (codeAny_mono ran fun r s2 q => ?_)
  match r, q with
  | .error _, q => exact (show False from q).elim
  | .ok (.ret u), q => exact I1.after q
  | .ok .next, q => exact q.elim
  | .ok .brk, q => exact q.elim
  | .ok .cont, q => exact q.elim
/-- x(lambda: e) -/
theorem pe_lamcall0 {T : List (Addr × Str)} {TT : (XK → Hp → VK → Prop) → Hp → VK → Prop} {x a : Str} {g c P : Addr} {k : Nat} {pg : Arguments} {bg : List Stmt} {sg : Scope} {dV kV doc pm cdv ct oc : Value} {an od : Option Addr} {osl : Array (Option Value)} {Ng : List Str}
    {ps : Arguments} {e : Expr} {sc : Scope} {t : XK → TE} {p lpos pos : Pos} (hg : Gl X x) (hm : X.mg x = some (.ref g)) (hk : PySem.W.keepIn X.K (.ref g) = true)
    (lk : X.K.lookup g = some ⟨oc, od, .func (PySem.W.fnOf x x pg bg sg dV kV doc pm an cdv ct), osl⟩) (hcg : PySem.W.codeIn X.K cdv x = true) (hb : L2.Binds X.K (PySem.W.fnOf x x pg bg sg dV kV doc pm an cdv ct) [a] []) (Sg : FnScope Ng [a] sg) (hN : Ng[0]? = some a) (hv : Vis sg a)
    (hG : GivesTo X Ng x sg g cdv bg a (lamQ X) TT) (TB : TabB X.base X.mg c P) (hco : X.env.code = .ref c) (mem : (P, lamQ X) ∈ T) (only : ∀ z ∈ T, z.1 = P → z.2 = lamQ X) (hr : Room (k + 2) X.A) (L : LamD [] X.env.scope sc)
    (hd : defaultsOf ps X.env = ([], [])) (bind : ∀ (q : Str) (cl : List (Str × Addr)) (doc m co ct : Value), bindArgs (PySem.W.kdv_fn "<lambda>" q ps (.expr e) sc cl .none doc m co ct) ⟨[], []⟩ = pure [])
    (hgd : X.A.guards = some []) (body : ∀ (A : Around) (outer : List Env) (s : Shared) (H : Hp) (E : XK) (f co : Addr), A.guards = some [] → Room k (A.deeper (lamEnv X sc s.heap.objs.size f co)) → PE (lamCx X A outer s H E sc f co) e (t E))
    (hdb : (x == ("__debug__" : Str)) = false := by decide) (hda : (a == ("__debug__" : Str)) = false := by decide) (hca : (a == ("__classdict__" : Str)) = false := by decide) :
    PE X (.Call (.Name x p) [.Lambda ps e sc lpos] [] pos) (tLamT T TT t) := by
  refine ⟨fun pins s σ H Q I h => ?_⟩
  obtain ⟨tabs, h⟩ := h
  refine wpAny_Call_Name_kw (ld_glob I hg hm (PySem.W.callWith_K (h₀ := X.base) I.ok.mod.kin hk ?_ (by rfl) (by rfl)) hdb)
  show wpAny _ _ (spliced ((false, eval (.Lambda ps e sc lpos) X.env) :: backTo pos (starEach [] X.env))) _ _ s
  refine Calls.spliced_cons (lam_made0 I TB hco mem only tabs hd (L.has I.ok) fun f co doc' m' ct' H1 s1 I1 ex T1 gf nf ff oco => Calls.spliced_nil ⟨I1.kIn, ?_⟩)
  have ran : codeAny (model X.prog X.w) X.A (.call (.ref g) ⟨[.ref f], []⟩) (CR C8.CX0 X.stack X.prog X.w H1 s1 Q C8.E0) s1 :=
    run_ofS (N := Ng) (ps := [a]) (us := [.ref f]) (vs := [.ref f]) lk hcg Sg hr I1.env0 (hb s1 [.ref f] I1.kIn rfl) (.cons rfl .nil) rfl fun hr' => by
      obtain ⟨u, hu, hq⟩ := hG f co s1 H1 Q (fun E G R => t E σ G R)
        (fun W pn xe E p1 p2 tk' hW => pe_actD (i := 0) (bs := []) I1 L (fun x hx => nomatch hx) rfl gf nf ff (fun s3 _ => BindsTo.of_eq (bind _ _ _ _ _ _)) tk' hW hr' hgd (fun A outer s H hg2 hr2 => body A outer s H E f co hg2 hr2) hN hv hda hca) oco (h H1 ex T1)
      exact ⟨u, hu.nox, hq⟩
  refine wpAny_call (codeAny_mono ran fun r s2 q => ?_)
  match r, q with
  | .error _, q => exact (show False from q).elim
  | .ok (.ret u), q => exact I1.after q
  | .ok .next, q => exact q.elim
  | .ok .brk, q => exact q.elim
  | .ok .cont, q => exact q.elim
end
end DL
set_option maxHeartbeats 400000
/-! lifted readings 18: try .. except T as e, the error kept behind its suite; T a name, or four names -/
namespace DL
open PySem PySem.Spec PyProof.Rows L2 CD
/-- an error that was caught, kept: at a, of the class cls, its dict at d -/
def ExK (a : Addr) (cls : Value) (d : Option Addr) : HO := .ext fun h => ∃ (oe : Obj) (vs : Array Value), h.get? a = some oe ∧ Zc cls d oe ∧ oe.data = .fields vs
theorem exK_ok {P : Program} {w : World} {H : Hp} {h : Heap} {a : Addr} {cls : Value} {d : Option Addr} {oe : Obj} {vs : Array Value} (e : h.get? a = some oe) (z : Zc cls d oe) (dd : oe.data = .fields vs) : ObjOk P w H h a (ExK a cls d) :=
  ⟨⟨oe, vs, e, z, dd⟩, ⟨oe, e⟩, fun _ _ ⟨o, v, q, r⟩ k => ⟨o, v, k o q, r⟩⟩
theorem exK_at {P : Program} {w : World} {H : Hp} {h : Heap} {a : Addr} {cls : Value} {d : Option Addr} (hok : HOk P w H h) (e : H a = some (ExK a cls d)) : ∃ (oe : Obj) (vs : Array Value), h.get? a = some oe ∧ Zc cls d oe ∧ oe.data = .fields vs := by
  have x : ObjOk P w H h a (.ext fun h => ∃ (oe : Obj) (vs : Array Value), h.get? a = some oe ∧ Zc cls d oe ∧ oe.data = .fields vs) := hok a _ e
  exact x.1
section
variable {X : Cx} {pins : List (Addr × Obj)} {σ : L2.St} {H : Hp} {a : Addr} {B : Heap} {cls : Value} {d : Option Addr} {s : Shared}
/-- the error is none of what was there -/
structure NewE (X : Cx) (pins : List (Addr × Obj)) (a : Addr) : Prop where
  ent : X.s_0.heap.get? a = none
  pin : ∀ p ∈ X.pn ++ pins, p.1 ≠ a
/-- the suite's frame of mind, the error tracked -/
theorem Hand.suiteK (h : Hand X pins σ H a B cls d s) (nw : NewE X pins a) {g : Heap} (fl : HandSPX.FlyingZ B (X.env :: X.outer) a (Zc cls d) g) (up : s.heap.UpToSlots g) :
    Inv (X.suite a (X.pn ++ pins)) [] σ (upd H a (ExK a cls d)) { s with heap := g } := by
  obtain ⟨oe, vs, h1, h2, h3⟩ := fl.there
  obtain ⟨n1, n2⟩ := h.notFrame fl h1 h3
  have I := h.inv g fl up
  have ne : ∀ b o, H b = some o → b ≠ a := fun b o e z => by rw [z, h.gone] at e; cases e
  exact
    { ok := I.ok.suite _ _, os := I.os, bare := I.bare
      base :=
        { keep := I.base.keep, slot := I.base.slot, there := I.base.there
          free := fun b o e n x => by
            have nb : b ≠ a := fun z => by rw [z, nw.ent] at e; cases e
            rw [upd_ne nb]; exact I.base.free b o e n x
          tups := fun b xs e => by have q := I.base.tups b xs e; rw [upd_ne (ne _ _ q)]; exact q
          frzs := fun b o u e => by have q := I.base.frzs b o u e; rw [upd_ne (ne _ _ q)]; exact q
          tbls := fun b ps e => by obtain ⟨m, q⟩ := I.base.tbls b ps e; exact ⟨m, by rw [upd_ne (ne _ _ q)]; exact q⟩ }
      loc := I.loc, cell := I.cell
      free := by rw [upd_ne (fun z => n1 z.symm)]; exact I.free
      freeC := fun x c e => by
        have nc : c ≠ a := fun z => by
          obtain ⟨v, o, ho, hd⟩ := I.cell x c e
          have h1' : g.get? c = some oe := by rw [z]; exact h1
          rw [show g.get? c = some o from ho] at h1'
          cases h1'
          rw [h3] at hd
          cases hd
        rw [upd_ne nc]; exact I.freeC x c e
      pin := fun p hp => by
        have hp : p ∈ X.pn ++ pins := by rw [List.append_nil] at hp; exact hp
        obtain ⟨q1, q2, q3⟩ := I.pin p hp
        exact ⟨q1, by rw [upd_ne (nw.pin p hp)]; exact q2, q3⟩
      hok := fun b u e => by
        by_cases hb : b = a
        · subst hb
          rw [upd_same] at e
          cases e
          exact exK_ok h1 h2 h3
        · rw [upd_ne hb] at e
          exact (I.hok b u e).stay (fun c v _ q => q) (fun c q => by rw [upd_ne (ne _ _ q)]; exact q) fun c xs q => by rw [upd_ne (ne _ _ q)]; exact q
      len := I.len }
theorem unsuiteK {pn' : List (Addr × Obj)} (I : Inv (X.suite a (X.pn ++ pins)) pn' σ H s) (ok : X.Ok) : Inv X pins σ H s :=
  ⟨ok, I.os, I.bare, I.base, I.loc, I.cell, I.free, I.freeC, fun p hp => I.pin p (List.mem_append_left _ hp), I.hok, I.len⟩
/-- what a clause names is asked -/
def Asks (X : Cx) (t : Expr) (cls : Value) (b : Bool) : Prop := ∀ (a : Addr) (pn : List (Addr × Obj)) (σ : L2.St) (H : Hp) (s : Shared) (Q : Bool → Shared → Prop) (E E' : Value → Shared → Prop), Inv (X.suite a pn) [] σ H s → PySem.W.Looks (model X.prog X.w) s.heap (typeOf (.ref a)) cls →
  (∀ h', (∀ q o, s.heap.get? q = some o → h'.get? q = some o) → Q b { s with heap := h' }) → wpAny (model X.prog X.w) (X.A.mark (some (.ref a))) (eval t X.env) (fun c s1 => wpAny (model X.prog X.w) (X.A.mark (some (.ref a))) (excMatches (.ref a) c) Q E' s1) E s
theorem asks_name {x : Str} {p : Pos} {c : Value} {b : Bool} (hc : Names X x c) (e : PySem.W.exmOne X.K cls c = some b) : Asks X (.Name x p) cls b := by
  intro a pn σ H s Q E E' I ty q
  have asks := PySem.W.exm_one (M := model X.prog X.w) I.kIn ty e
  obtain ⟨c1, c2, c3⟩ := hc
  rcases c3 with c3 | ⟨c3, c4, c5⟩
  · exact ld_glob I c1 c3 (asks.here (q s.heap fun _ _ z => z)) c2
  · exact ld_blt I c1 c3 c4 (asks.here (q s.heap fun _ _ z => z)) c5 c2
/-- a name of the text's top -/
def Tops (X : Cx) (x : Str) (c : Value) : Prop := Gl X x ∧ (x == ("__debug__" : Str)) = false ∧ X.mg x = some c
theorem asks_four {x1 x2 x3 x4 : Str} {p1 p2 p3 p4 p : Pos} {k : Nat} {c1 c2 c3 c4 : Value} {b : Bool} (n1 : Tops X x1 c1) (n2 : Tops X x2 c2) (n3 : Tops X x3 c3) (n4 : Tops X x4 c4) (e : PySem.W.exmAny X.K cls [c1, c2, c3, c4] = some b) :
    Asks X (.Tuple [.Name x1 p1, .Name x2 p2, .Name x3 p3, .Name x4 p4] k p) cls b := by
  intro a pn σ H s Q E E' I ty q
  refine wpAny_Tuple (wpAny_items_cons (ld_glob I n1.1 n1.2.2 ?_ n1.2.1))
  refine wpAny_items_cons (ld_glob I n2.1 n2.2.2 ?_ n2.2.1)
  refine wpAny_items_cons (ld_glob I n3.1 n3.2.2 ?_ n3.2.1)
  refine wpAny_items_cons (ld_glob I n4.1 n4.2.2 ?_ n4.2.1)
  refine wpAny_items_nil ⟨by size_fits, ?_⟩
  have grown : ∀ q o, s.heap.get? q = some o → (s.heap.push { cls := .type "tuple", data := .seq [c1, c2, c3, c4].toArray }).get? q = some o := fun _ _ z => Heap.get?_push_of_some _ z
  exact (PySem.W.exm_tup4 (M := model X.prog X.w) (I.kIn.keeps grown) (ty.keeps grown) (Heap.get?_push_size s.heap rfl) e).here (q _ grown)
/-- nothing but new objects: still in hand -/
theorem Hand.grown (h : Hand X pins σ H a B cls d s) {g : Heap} (k : ∀ q o, s.heap.get? q = some o → g.get? q = some o) : Hand X pins σ H a B cls d { s with heap := g } := by
  have fl : HandSPX.FlyingZ B (X.env :: X.outer) a (Zc cls d) g := by
    obtain ⟨f1, f2, f3, oe, vs, T, oT, ts, e1, e2, e3, e4, e5, e6, e7, e8, e9⟩ := h.fly
    exact ⟨fun b o q => k b o (f1 b o q), f2, f3.of_keeps fun b o q _ => ⟨o, k b o q, rfl⟩, oe, vs, T, oT, ts, k _ _ e1, e2, e3, e4, e5, e6, k _ _ e7, e8, e9⟩
  exact ⟨h.ok, fl, fun h' f u => h.inv h' f ((Heap.UpToSlots.of_keeps k).trans u), h.gone, h.fr, fun h' f u => h.out h' f ((Heap.UpToSlots.of_keeps k).trans u)⟩
/-- the wish of one clause -/
def wK (ask : Value → Option Bool) (i : Nat) (ts : Addr → Value → Option Addr → TS) (Wout : WX) (D : Ends) : WX := fun cls d σ H =>
  ∃ b, ask cls = some b ∧ (b = true → ∀ a, H a = none → ts a cls d (ends0 i D) (σ.set i (some (.ref a))) (upd H a (ExK a cls d))) ∧ (b = false → Wout cls d σ H)
theorem Hand.clauseK {t : Expr} {n : Str} {i : Nat} {b₀ : Stmt} {suite : List Stmt} {q : Pos} {ts : Addr → Value → Option Addr → TS} {ask : Value → Option Bool} {Wout : WX} {D : Ends} (h : Hand X pins σ H a B cls d s) (nw : NewE X pins a) (tk : Takes X Wout)
    (hask : ∀ cls b, ask cls = some b → Asks X t cls b) (hn : NameOk X i n) (hs : ∀ (a : Addr) (cls : Value) (d : Option Addr) (pn : List (Addr × Obj)), PSs (X.suite a pn) (b₀ :: suite) (ts a cls d)) (w : wK ask i ts Wout D cls d σ H) :
    wpAny (model X.prog X.w) X.A (handleBy (.ref a) X.env [.ExceptHandler (some t) (some n) (b₀ :: suite) q]) (SP X pins D) X.xe s := by
  obtain ⟨b, e, y, no⟩ := w
  obtain ⟨oe, h1, h2, _, S⟩ := h.suite h.fly (Heap.UpToSlots.refl _)
  have ty : PySem.W.Looks (model X.prog X.w) s.heap (typeOf (.ref a)) cls := fun _ _ _ _ st z => wpAny_typeOf_ref (st _ _ h1) (h2.1 ▸ z)
  refine wpAny_handleBy_cons (codeAny_handlers_test (hask cls b e _ _ _ _ _ _ _ _ S ty fun g k => ?_)) (fun q => nomatch q)
  have hg := h.grown k
  cases b with
  | false => exact hg.leaves tk (no rfl)
  | true =>
    obtain ⟨n1, n2, n3⟩ := hn
    refine codeAny_handlers_suite_as (HandSPX.lands_againZ hg.fly fun g2 fl up => ?_)
    have S := hg.suiteK nw fl up
    refine store_ok (X := X.suite a (X.pn ++ pins)) (v := .ref a) S n1 n2 (.inl n3) rfl (fun s5 S5 => ?_) (.inr n3)
    refine wpAny_mono ((hs a cls d _).run [] s5 _ _ (ends0 i D) S5 (y rfl a h.gone)) (fun f s6 z => ?_) (fun _ _ z => z.elim)
    have unbound : ∀ {τ : L2.St} {J : Hp} {Q : Shared → Prop}, Inv (X.suite a (X.pn ++ pins)) [] τ J s6 → (∀ s7, Inv X pins (τ.set i none) J s7 → Q s7) → wpAny (model X.prog X.w) X.A (do bindName X.env n .none; unbindBehindTheSuite X.env n q) (fun _ s7 => Q s7) X.xe s6 :=
      fun z q => gone_ok (unsuiteK z h.ok) n1 n2 n3 q
    cases f with
    | next => exact let ⟨_, _, z1, z2⟩ := z; unbound z1 fun s7 y => ⟨_, _, y, z2⟩
    | brk => exact let ⟨_, _, z1, z2⟩ := z; unbound z1 fun s7 y => ⟨_, _, y, z2⟩
    | cont => exact let ⟨_, _, z1, z2⟩ := z; unbound z1 fun s7 y => ⟨_, _, y, z2⟩
    | ret u => exact let ⟨_, _, _, z1, z2, z3⟩ := z; unbound z1 fun s7 y => ⟨_, _, _, y, z2, z3⟩
/-- .. of slots that are so many -/
def wKl (n : Nat) (W : WX) : WX := fun cls d σ H => σ.length = n → W cls d σ H
/-- try: .. except t as n: .. -/
theorem ps_tryK {body : List Stmt} {t : Expr} {n : Str} {i : Nat} {b₀ : Stmt} {suite : List Stmt} {q pos : Pos} {tb : WX → TS} {ts : Addr → Value → Option Addr → TS} {ask : Value → Option Bool} {Wout : WX} (hs : X.stack = X.env :: X.outer) (hf : X.env.frame = some X.env.locals) (hx : X.ex = []) (tk : Takes X Wout)
    (hb : ∀ (W : WX) (pn : List (Addr × Obj)) (xe : Value → Shared → Prop), Takes (X.tr pn xe) W → PassesOwn (model X.prog X.w) X.A X.env xe → PSs (X.tr pn xe) body (tb W)) (hask : ∀ cls b, ask cls = some b → Asks X t cls b) (hn : NameOk X i n)
    (hsu : ∀ (a : Addr) (cls : Value) (d : Option Addr) (pn : List (Addr × Obj)), PSs (X.suite a pn) (b₀ :: suite) (ts a cls d)) :
    PS X (.Try body [.ExceptHandler (some t) (some n) (b₀ :: suite) q] [] [] pos) (fun D σ H => tb (wKl X.N.length (wK ask i ts Wout D)) D σ H) := by
  refine ⟨fun pins s σ H D I w => wpAny_Try_except ?_⟩
  have caught : ∀ (u : Value) (s' : Shared) (xe : Value → Shared → Prop), XE (X.tr (X.pn ++ pins) xe) (wKl X.N.length (wK ask i ts Wout D)) u s' →
      wpAny (model X.prog X.w) X.A (noteFrame u X.env) (fun _ s₂ => wpAny (model X.prog X.w) X.A (setFlight u none) (fun _ s₃ => wpAny (model X.prog X.w) X.A (handleBy u X.env [.ExceptHandler (some t) (some n) (b₀ :: suite) q]) (SP X pins D) X.xe s₃) X.xe s₂) X.xe s' := by
    intro u s' xe x
    obtain ⟨a, B, sI, pins2, σ, H, cls, d, rfl, J, nb, up, sky, na, os, ag, w⟩ := x
    have I' : Inv X pins σ H sI := J.ofTry I.ok
    have fr : X.A.frames = some (X.env :: X.outer) := I.ok.frames.trans (congrArg some hs)
    refine Sky.land Zc.steady fr hf (hs ▸ sky) fun g fl up2 => ?_
    have lands : ∀ h, HandSPX.FlyingZ B (X.env :: X.outer) a (Zc cls d) h → g.UpToSlots h → Inv X pins σ H { s' with heap := h } := fun h f u => I'.landed nb f.1 ((up.trans up2).trans u) os ag
    have hand : Hand X pins σ H a B cls d { s' with heap := g } := ⟨I.ok, fl, lands, na, hf, fun h hh u W t w => t _ _ ⟨a, B, sI, pins, σ, H, cls, d, rfl, I', nb, (up.trans up2).trans u, .inr (.inr (hs ▸ hh)), na, os, ag, w⟩⟩
    have offI : ∀ b o, sI.heap.get? b = some o → b ≠ a := fun b o e z => by
      subst z
      obtain ⟨oe, vs, g1, _, g3⟩ := fl.there
      obtain ⟨z1, z2⟩ := hand.notFrame fl g1 g3
      have nfs : b ∉ frs X.stack := fun hm => by
        rw [hs] at hm
        obtain ⟨e1, h1, h2⟩ := List.mem_filterMap.mp hm
        rcases List.mem_cons.mp h1 with rfl | h1
        · rw [hf] at h2; cases h2; exact z1 rfl
        · exact z2 (List.mem_filterMap.mpr ⟨e1, h1, h2⟩)
      have := nb b o e nfs
      rw [fl.2.1] at this
      cases this
    have nw : NewE X pins a := by
      refine ⟨?_, fun p hp => offI _ _ (I'.pin p hp).1⟩
      cases e : X.s_0.heap.get? a with
      | none => rfl
      | some o =>
        obtain ⟨o', e'⟩ := I'.base.there a o e (by rw [hx]; exact fun z => nomatch z)
        exact absurd rfl (offI _ _ e')
    exact hand.clauseK nw tk hask hn hsu (w J.len)
  have run := (hb (wKl X.N.length (wK ask i ts Wout D)) (X.pn ++ pins) _ (fun u s' x => caught u s' _ x) PassesOwn.looking).run [] s σ H D (I.toTry _) w
  refine wpAny_mono run (fun f s1 z => ?_) fun _ _ z => z
  cases f with
  | next => exact let ⟨_, _, z1, z2⟩ := z; wpAny_execs_nil ⟨_, _, z1.ofTry I.ok, z2⟩
  | brk => exact let ⟨_, _, z1, z2⟩ := z; ⟨_, _, z1.ofTry I.ok, z2⟩
  | cont => exact let ⟨_, _, z1, z2⟩ := z; ⟨_, _, z1.ofTry I.ok, z2⟩
  | ret u => exact let ⟨_, _, _, z1, z2, z3⟩ := z; ⟨_, _, _, z1.ofTry I.ok, z2, z3⟩
end
section
variable {X : Cx}
/-- e.f of a kept error -/
def tXk (K : PySem.W.Frag) (f : Str) (te : TE) : TE := fun σ H Q => te σ H fun x G => ∃ (a C dd : Addr) (fs : List (Str × V)) (v : V), x = .ref a ∧ G a = some (ExK a (.ref C) (some dd)) ∧ XfC K C ∧ PySem.W.findIn K (.ref C) f = some none ∧ G dd = some (.xd fs) ∧ fs.lookup f = some v ∧ Q v G
theorem pe_xk {e : Expr} {te : TE} {f : Str} {pos : Pos} (he : PE X e te) (hb : attributeBase e f X.env (eval e X.env) = eval e X.env := by rfl) : PE X (.Attribute e f pos) (tXk X.K f te) := by
  refine ⟨fun pins s σ H Q I h => attr_of hb (thn (he.run pins s σ H _ I h) fun u s1 ⟨x, G, I1, rx, a, C, dd, fs, v, ex, ea, T, hno, ed, l, q⟩ => ?_)⟩
  subst ex
  obtain rfl : u = Value.ref a := rx
  obtain ⟨oe, vs, ge, hz, hd⟩ := exK_at I1.hok ea
  have hx : ObjOk X.prog X.w G s1.heap dd (.xd fs) := I1.hok dd _ ed
  obtain ⟨mA, ns, hr⟩ := hx
  obtain ⟨od, go, hl⟩ := lookIn_ns ns
  obtain ⟨w, hw, rw'⟩ := RelO.some_of (v := v) (o := mA f) (by rw [← l]; exact hr f)
  have inst : PySem.W.InstAt s1.heap a oe C (some od) := ⟨ge, hz.1, by unfold PySem.W.notCls; rw [hd] <;> rfl, by rw [hz.2]; exact go⟩
  exact HandSPX.exc_get I1.kIn inst T.ga T.gg T.exC (PySem.W.findObj_own T.hdC hno rfl (by rw [hl, hw])) (handed_of rw') ⟨v, G, I1.tok _, rw', q⟩
/-- isinstance(e, C) of a kept error -/
def rIsK (K : PySem.W.Frag) : List V → Hp → VK → Prop := fun xs H Q => ∃ (a D C : Addr) (d : Option Addr) (b : Bool), xs = [.ref a, .ref C] ∧ H a = some (ExK a (.ref D) d) ∧ ExcC K D ∧ (∀ dd, d = some dd → ∃ fs, H dd = some (.xd fs)) ∧ PySem.W.kitOne K (.ref D) (.ref C) = some b ∧ Q (.bl b) H
theorem call_isK : CallR X (.builtin "isinstance") (rIsK X.K) := by
  intro pins s σ H xs us Q I r h
  obtain ⟨a, D, C, d, b, rfl, ea, T, hd, e, q⟩ := h
  cases r with
  | cons rx rr => cases rr with
    | cons rt rr =>
      cases rr
      cases rx
      cases rt
      obtain ⟨oe, vs, ge, hz, hv⟩ := exK_at I.hok ea
      have inst : ∃ od, PySem.W.InstAt s.heap a oe D od := by
        cases d with
        | none => exact ⟨none, ge, hz.1, by unfold PySem.W.notCls; rw [hv] <;> rfl, by rw [hz.2]; trivial⟩
        | some dd =>
          obtain ⟨fs, ed⟩ := hd dd rfl
          have hx : ObjOk X.prog X.w H s.heap dd (.xd fs) := I.hok dd _ ed
          obtain ⟨mA, ns, _⟩ := hx
          obtain ⟨od, go, _⟩ := lookIn_ns ns
          exact ⟨some od, ge, hz.1, by unfold PySem.W.notCls; rw [hv] <;> rfl, by rw [hz.2]; exact go⟩
      obtain ⟨od, J⟩ := inst
      obtain ⟨cd, hc, _⟩ := PySem.W.any_some T.hd
      exact PySem.W.kia_one (PySem.W.kitx_exc (by rw [hc]; rfl) T.hg T.hk T.hs T.ha T.hn T.ht T.hm) I.kIn J e (fun z => nomatch z) fun tk => ⟨.bl b, H, I.kept (t' := tk) fun _ _ z => z, rfl, q⟩
end
end DL
/-! lifted readings 19: lambdas over data -/
namespace DL
open PySem PySem.Spec PyProof.Rows L2 CD
variable {GP : GenP} {K : PySem.W.Frag} {mg : Str → Option Value} {B : Hp × Hp × GAt}
section
variable {H0 F0 H H' F F' : Hp} {γ0 γ : GAt} {σ : L2.St} {ρ : Rho} {v : V} {d : D}
/-- a lambda was made: the tables may have grown -/
theorem Rp.ext {G : Hp} (r : Rp GP K H0 F0 γ0 γ σ H F ρ) (e : ExtT GP.T H G) (tb : LamX.Tabs GP.T G) : Rp GP K H0 F0 γ0 γ σ G F ρ where
  f0 := r.f0
  sub := fun a o h => e _ _ (r.sub _ _ h) fun z => by rw [(r.tin a z).1] at h; cases h
  keep := fun a o h n => e _ _ (r.keep a o h n) fun z => n (.inr z)
  fnew := r.fnew
  tr := fun a o h => by
    obtain ⟨u, hu⟩ := r.tr a o h
    by_cases z : TbA GP.T a
    · obtain ⟨ps, q⟩ := tabs_there tb z
      exact ⟨_, q⟩
    · exact ⟨u, e _ _ hu z⟩
  len := r.len
  val := r.val
  own := fun i d q => by
    obtain ⟨a, h1, h2, h3, h4, h5, h6⟩ := r.own i d q
    obtain ⟨o, ho⟩ := h2.there
    exact ⟨a, h1, h2.move (Same.refl _) ((e _ _ ho fun z => h5 (.inr z)).trans ho.symm), h3, h4, h5, h6⟩
  gen := fun i n q => by
    obtain ⟨p, h1, h2, h3, h4⟩ := r.gen i n q
    obtain ⟨n1, n2, n3, _⟩ := GP.dd h3
    have st : ∀ a, H a ≠ none → ¬ TbA GP.T a → G a = H a := fun a n nt => by
      cases q : H a with
      | none => exact absurd q n
      | some o => exact e _ _ q nt
    exact ⟨p, h1, h2, GP.stab h3 (st _ n1 (r.gn p h1).1) (st _ n2 (r.gn p h1).2) (st _ n3 fun z => h4 (r.tin _ z).1), h4⟩
  one := r.one
  g0 := r.g0
  g1 := r.g1
  gt0 := r.gt0
  gt := fun p hp => by
    obtain ⟨o, u, h1, h2, h3⟩ := r.gt p hp
    exact ⟨o, u, e _ _ h1 (r.gn p hp).1, e _ _ h2 (r.gn p hp).2, h3⟩
  gf := r.gf
  tabs := tb
  tin := r.tin
  gn := r.gn
end
variable (GP K mg) in
/-- an expression that may raise: t with the wish of what is raised -/
def LEx (B : Hp × Hp × GAt) (t : XK → TE) (ub : (EX → Rho → Prop) → UE) : Prop := ∀ ⦃H0 F0 : Hp⦄ ⦃γ0 : GAt⦄ [FinerC GP K B H0 F0 γ0] ⦃γ : GAt⦄ ⦃σ : L2.St⦄ ⦃H F : Hp⦄ ⦃ρ : Rho⦄ (R : VK) (E : XK) (Q : RV → Rho → Prop) (QE : EX → Rho → Prop), Rp GP K H0 F0 γ0 γ σ H F ρ → ub QE ρ Q →
  (∀ H' F' γ' ρ' v x, Rp GP K H0 F0 γ0 γ' σ H' F' ρ' → Same F F' → RVok GP K H0 γ0 γ' σ H' F' ρ' v x → Q x ρ' → R v H') →
  (∀ H' F' γ' ρ' nm C d x, Rp GP K H0 F0 γ0 γ' σ H' F' ρ' → Same F F' → ExD K F' d x → mg nm = some (.ref C) → QE (nm, x) ρ' → E (.ref C) d H') → t E σ H R
theorem lex_calm {t : TE} {u : UE} (h : LE GP K B t u) : LEx GP K mg B (fun _ => t) (fun _ => u) := fun H0 F0 γ0 _ γ σ H F ρ R E Q QE r z k _ => h R Q r z k
theorem lex_call {n : Nat} {Wd : WDX} {t : TA} {u : UA} (ha : LA GP K B t u) : LEx GP K mg B (fun E => tCallS (spX GP K mg n Wd) (fun _ => E) t) (fun QE => uCallX n Wd QE u) := by
  intro H0 F0 γ0 _ γ σ H F ρ R E Q QE r0 u0 h hE
  refine ha _ _ r0 u0 fun H1 F1 γ1 ρ1 vs xs r1 s1 k1 u1 => ?_
  obtain ⟨F2, ρb, as, r2, s2, a2, ⟨hl, ho, hWd⟩, gg⟩ := argsK_ok r1 k1 u1
  show spX GP K mg n Wd vs H1 R E
  have fin : ∀ (γc : GAt), (γc = none ∨ γc = γ1) → ∀ v H' F' γ' d m, LamX.Tabs GP.T H' → (∀ a o, H1 a = some o → ¬ GA GP γc a → H' a = some o) → (∀ a o, H1 a = some o → ∃ u, H' a = some u) → Same F2 F' → Same F' H' → (∀ a o, F' a = some o → F2 a = some o ∨ H1 a = none ∨ ∃ xs, o = .tup xs) → Dd K F' v d →
      GenAfter GP H1 H' F' γc γ' m → (if flatD d = true then Q (.val d) (setG m ρ1) else Q (.val d) (setG m ρb)) → R v H' := by
    intro γc hc v H' F' γ' d m tb kp tr s3 sub fnew dd ga q
    by_cases f : flatD d = true
    · rw [if_pos f] at q
      obtain ⟨γ2, r3⟩ := r1.after (F' := F1) hc tb kp tr (Same.refl _) ((s2.trans s3).trans sub) (fun a o h => .inl h) ga (.inl rfl)
      exact h _ _ _ _ _ (.val _) r3 s1 (dd.flat f) q
    · rw [if_neg f] at q
      obtain ⟨γ2, r3⟩ := r2.after (F' := F') hc tb kp tr s3 sub fnew ga (.inr rfl)
      exact h _ _ _ _ _ (.val _) r3 (s1.trans (s2.trans s3)) dd q
  have finX : ∀ (γc : GAt), (γc = none ∨ γc = γ1) → ∀ nm C e x H' F' γ' m, LamX.Tabs GP.T H' → (∀ a o, H1 a = some o → ¬ GA GP γc a → H' a = some o) → (∀ a o, H1 a = some o → ∃ u, H' a = some u) → Same F2 F' → Same F' H' → (∀ a o, F' a = some o → F2 a = some o ∨ H1 a = none ∨ ∃ xs, o = .tup xs) → ExD K F' e x → mg nm = some (.ref C) →
      GenAfter GP H1 H' F' γc γ' m → QE (nm, x) (setG m ρb) → E (.ref C) e H' := by
    intro γc hc nm C e x H' F' γ' m tb kp tr s3 sub fnew dd hm ga q
    obtain ⟨γ2, r3⟩ := r2.after (F' := F') hc tb kp tr s3 sub fnew ga (.inr rfl)
    exact hE _ _ _ _ _ _ _ _ r3 (s1.trans (s2.trans s3)) dd hm q
  by_cases c : hasG as = true
  · obtain ⟨p, hp⟩ := hasG_gen a2 c
    exact ⟨F2, γ1, as, _, _, r2.sub, a2, by rw [c, hp]; rfl, ho, hl, r2.gf, r2.tabsF, hWd, fin γ1 (.inr rfl), finX γ1 (.inr rfl)⟩
  · have c' : hasG as = false := by simpa using c
    exact ⟨F2, none, as, _, _, r2.sub, noGen_args a2 c', by rw [c']; rfl, ho, hl, fun p hp => (by cases hp), r2.tabsF, hWd, fin none (.inl rfl), finX none (.inl rfl)⟩
/-- what a def makes of the lambda that it gets: N of its result, C of its error -/
def TTg (N : V → Hp → VK → Prop) (C : Value → Option Addr → Hp → VK → Prop) : (XK → Hp → VK → Prop) → Hp → VK → Prop := fun tl H Q => ∀ H1, Same H H1 → ∀ (E' : XK) (R' : VK), (∀ cls d G, C cls d G Q → E' cls d G) → (∀ v G, N v G Q → R' v G) → tl E' H1 R'
abbrev UN := RV → Rho → (RV → Rho → Prop) → Prop
abbrev UC := EX → Rho → (RV → Rho → Prop) → Prop
variable (GP K) in
def NOk (N : V → Hp → VK → Prop) (uN : UN) : Prop := ∀ ⦃H0 F0 : Hp⦄ ⦃γ0 γ : GAt⦄ ⦃σ : L2.St⦄ ⦃H F : Hp⦄ ⦃ρ : Rho⦄ ⦃v : V⦄ ⦃x : RV⦄ (R : VK) (Q : RV → Rho → Prop), Rp GP K H0 F0 γ0 γ σ H F ρ → RVok GP K H0 γ0 γ σ H F ρ v x → uN x ρ Q →
  (∀ H' F' γ' ρ' v x, Rp GP K H0 F0 γ0 γ' σ H' F' ρ' → Same F F' → RVok GP K H0 γ0 γ' σ H' F' ρ' v x → Q x ρ' → R v H') → N v H R
variable (GP K mg) in
def COk (C : Value → Option Addr → Hp → VK → Prop) (uC : UC) : Prop := ∀ ⦃H0 F0 : Hp⦄ ⦃γ0 γ : GAt⦄ ⦃σ : L2.St⦄ ⦃H F : Hp⦄ ⦃ρ : Rho⦄ ⦃nm : Str⦄ ⦃c : Addr⦄ ⦃d : Option Addr⦄ ⦃x : Option (Str × D)⦄ (R : VK) (Q : RV → Rho → Prop), Rp GP K H0 F0 γ0 γ σ H F ρ → ExD K F d x → mg nm = some (.ref c) → uC (nm, x) ρ Q →
  (∀ H' F' γ' ρ' v x, Rp GP K H0 F0 γ0 γ' σ H' F' ρ' → Same F F' → RVok GP K H0 γ0 γ' σ H' F' ρ' v x → Q x ρ' → R v H') → C (.ref c) d H R
def uLam (ub : (EX → Rho → Prop) → UE) (uN : UN) (uC : UC) : UE := fun ρ Q => ub (fun x ρ' => uC x ρ' Q) ρ fun x ρ' => uN x ρ' Q
theorem le_lam {N : V → Hp → VK → Prop} {C : Value → Option Addr → Hp → VK → Prop} {tb : XK → TE} {ub : (EX → Rho → Prop) → UE} {uN : UN} {uC : UC} (hN : NOk GP K N uN) (hC : COk GP K mg C uC) (hb : LEx GP K mg B tb ub) : LE GP K B (tLamT GP.T (TTg N C) tb) (uLam ub uN uC) := by
  intro H0 F0 γ0 fi γ σ H F ρ R Q r u h
  refine ⟨r.tabs, fun G ex tb G1 sG E' R' hE hR => ?_⟩
  have rG := (r.ext ex tb).same sG
  refine hb _ _ _ _ rG u (fun H' F' γ' ρ' v x r' s k q => ?_) (fun H' F' γ' ρ' nm c d x r' s k hm q => ?_)
  · refine hR _ _ ?_
    exact hN R Q r' k q fun H2 F2 γ2 ρ2 v2 x2 r2 s2 k2 q2 => h _ _ _ _ _ _ r2 (s.trans s2) k2 q2
  · refine hE _ _ _ ?_
    exact hC R Q r' k hm q fun H2 F2 γ2 ρ2 v2 x2 r2 s2 k2 q2 => h _ _ _ _ _ _ r2 (s.trans s2) k2 q2
/-! ### a promise where no tables are told, where they are -/
theorem tabs_kept {G : GenP} {T : List (Addr × Str)} {H H' F : Hp} {γ : GAt} {vs : List V} {as : List SV} (eT : G.T = []) (t : LamX.Tabs T H) (a : ArgsOk (G.tb T) K F H γ vs as) (hg : hasG as = γ.isSome) (kp : ∀ a o, H a = some o → ¬ GA G γ a → H' a = some o) : LamX.Tabs T H' := by
  refine tabs_stay t fun b o h n => kp b o h fun z => ?_
  rcases z with ⟨p, hp, e⟩ | ⟨q, hq⟩
  · have gd : ∃ n, G.D H p.1 p.2.1 p.2.2 n := by
      rw [hp] at hg
      clear kp eT
      induction as generalizing vs with
      | nil => cases hg
      | cons x as ih =>
        cases vs with
        | nil => exact a.elim
        | cons v vs =>
          cases x with
          | val d => exact ih a.2 hg
          | own d => exact a.1.elim
          | gen m =>
            obtain ⟨p', h1, _, h3, _⟩ := a.1
            rw [hp] at h1
            cases h1
            exact ⟨m, h3⟩
    obtain ⟨m, hD⟩ := gd
    exact n (G.nx hD (e.elim (fun e => .inl (e ▸ h)) fun e => .inr (e ▸ h)))
  · rw [eT] at hq; cases hq
theorem argsOk_tb {G : GenP} {T : List (Addr × Str)} {F H : Hp} {γ : GAt} : ∀ {vs : List V} {as : List SV}, ArgsOk (G.tb T) K F H γ vs as → ArgsOk G K F H γ vs as
  | [], [], _ => trivial
  | v :: vs, .val d :: as, a => ⟨a.1, argsOk_tb a.2⟩
  | v :: vs, .gen n :: as, a => ⟨a.1, argsOk_tb a.2⟩
  | v :: vs, .own d :: as, a => a.1.elim
  | [], _ :: _, a => a.elim
  | _ :: _, [], a => a.elim
theorem genAfter_tb {G : GenP} {T : List (Addr × Str)} {H H' F' : Hp} {γ γ' : GAt} : ∀ {m : Option Nat}, GenAfter G H H' F' γ γ' m → GenAfter (G.tb T) H H' F' γ γ' m
  | none, h => h
  | some _, h => h
theorem spL_tb {G : GenP} (eT : G.T = []) (T : List (Addr × Str)) {n : Nat} {W : WD} {vs : List V} {H : Hp} {R : VK} {E : XK} (h : spL (G.tb T) K n W vs H R E) : spL G K n W vs H R E := by
  obtain ⟨F, γ, as, Q, h1, h2, h3, h4, h5, h6, hT, h7, h8⟩ := h
  refine ⟨F, γ, as, Q, h1, argsOk_tb h2, h3, h4, h5, h6, ⟨fun p hp => (by rw [eT] at hp; cases hp), fun a ⟨q, hq⟩ => (by rw [eT] at hq; cases hq)⟩, h7, ?_⟩
  intro v H' F' γ' d m _ kp tr s3 s4 fn dd ga q
  refine h8 v H' F' γ' d m (tabs_kept eT hT.1 h2 h3 kp) (fun a o h n => kp a o h fun z => n ?_) tr s3 s4 fn dd (genAfter_tb ga) q
  rcases z with z | ⟨q, hq⟩
  · exact .inl z
  · rw [eT] at hq; cases hq
theorem CalG.tb {P : Program} {w : World} {base : Heap} {k : Nat} {x : Str} {ps : List Str} {G : GenP} (eT : G.T = []) (T : List (Addr × Str)) {n : Nat} {W : WD} (C : CalG P w K mg base k x ps (spL G K n W)) : CalG P w K mg base k x ps (spL (G.tb T) K n W) := by
  obtain ⟨f, fd, ok, r⟩ := C
  exact ⟨f, fd, ⟨fun vs H Q E q => ok.len vs H Q E (spL_tb eT T q), fun A outer s H args us vs Q E hg hr e0 hb r q => ok.run A outer s H args us vs Q E hg hr e0 hb r (spL_tb eT T q)⟩, r⟩
end DL
set_option maxHeartbeats 1000000
/-! lifted readings 20: the end of a law whose defs make lambdas -/
namespace DL
open PySem PySem.Spec PyProof.Rows L2 CD
/-- the law's end, tables of code objects tracked -/
theorem law_cT {P : Program} {w : World} {K : PySem.W.Frag} {mg mb : Str → Option Value} {k : Nat} {fa a : Addr} {x y : Str} {sp : Sp} {s₁ : Shared} {vs : List Value} {ns : List Int} {cs : List (Addr × Addr)}
    (KX : K.In s₁.heap) (hns : s₁.heap.Ns mainGlobals mg) (hb : s₁.heap.Ns builtinsNs mb) (hbb : ∀ x : Str, x ≠ "__name__" → mb x = bootBuiltins x) (hlim : s₁.heap.NoLimit) (hg : s₁.gens = #[])
    (hT : ∀ p ∈ cs, s₁.heap.get? p.2 = some { cls := .none, data := .fields #[] }) (nT : ∀ p ∈ cs, K.lookup p.2 = none) (hC : ∀ p ∈ cs, PySem.W.CodeHd s₁.heap p.1 p.2)
    (hbm : ∃ (bm : Addr) (ob : Obj), mg "__builtins__" = some (.ref bm) ∧ bm ≠ builtinsNs ∧ s₁.heap.get? bm = some ob ∧ ob.cls = .type "module" ∧ ob.dict = some builtinsNs ∧ ob.data = .plain)
    (ha : s₁.heap.get? a = some { cls := .type "list", data := .seq vs.toArray }) (hi : IntsAre vs ns) (hl : ns.length ≤ sizeLine) (hr : Room k callerA) (hy : mg y = some (.ref fa))
    (F : ∀ base : Heap, K.In base → base.Ns mainGlobals mg → (∀ p ∈ cs, LamX.TabB base mg p.1 p.2) → CalG P w K mg base k y [x] sp)
    (hsp : ∀ F H : Hp, SqL K F a (ns.map V.int) → Same F H → (∀ p ∈ cs, H p.2 = some (.tbl #[]) ∧ F p.2 = none) → sp [.ref a] H (fun v _ => v = .bl true) fun _ _ _ => False) :
    codeAny (model P w) callerA (.call (.ref fa) ⟨[.ref a], []⟩) (fun r s' => r = .ok (.ret (.bool true)) ∧ OldK s₁.heap s'.heap ∧ s'.os = s₁.os ∧ AllBare s'.gens) s₁ := by
  have rv := vals_ints hi
  generalize hO : ({ cls := .type "list", data := .seq vs.toArray } : Obj) = o at ha
  have isT : ∀ b, b ∈ cs.map (·.2) → s₁.heap.get? b = some { cls := .none, data := .fields #[] } := fun b hb => by
    obtain ⟨p, hp, rfl⟩ := List.mem_map.mp hb
    exact hT p hp
  have aT : a ∉ cs.map (·.2) := fun z => by
    have := isT a z
    rw [ha] at this
    have e : o.data = Data.fields #[] := congrArg Obj.data (Option.some.inj this)
    rw [← hO] at e
    cases e
  generalize hF : H00 K a o ns = F0
  have trF : ∀ b u, F0 b = some u → b = a ∧ K.lookup a = none ∧ u = .frz o (.lst (ns.map V.int)) := fun b u e => by
    rw [← hF] at e
    unfold H00 at e
    by_cases c : b = a ∧ K.lookup a = none
    · rw [if_pos c] at e; exact ⟨c.1, c.2, (Option.some.inj e).symm⟩
    · rw [if_neg c] at e; cases e
  obtain ⟨H, hH⟩ : ∃ H : Hp, H = fun b => if b ∈ cs.map (·.2) then some (.tbl #[]) else F0 b := ⟨_, rfl⟩
  have atT : ∀ b, b ∈ cs.map (·.2) → H b = some (.tbl #[]) := fun b hb => by rw [hH]; exact if_pos hb
  have atF : ∀ b, b ∉ cs.map (·.2) → H b = F0 b := fun b hb => by rw [hH]; exact if_neg hb
  have tr : ∀ b u, H b = some u → (b ∈ cs.map (·.2) ∧ u = .tbl #[]) ∨ (b = a ∧ K.lookup a = none ∧ u = .frz o (.lst (ns.map V.int))) := fun b u e => by
    by_cases hb : b ∈ cs.map (·.2)
    · rw [atT b hb] at e; cases e; exact .inl ⟨hb, rfl⟩
    · rw [atF b hb] at e; exact .inr (trF b u e)
  have same : Same F0 H := fun b u e => by
    obtain ⟨rfl, _⟩ := trF b u e
    rw [atF b aT]; exact e
  have own : s₁.heap.get? a = some { cls := .type "list", data := .seq vs.toArray } := by rw [hO]; exact ha
  have okF : HOk P w H s₁.heap := fun b u e => by
    rcases tr b u e with ⟨h1, rfl⟩ | ⟨rfl, _, rfl⟩
    · exact isT b h1
    · exact ⟨ha, by rw [List.length_map]; exact hl, vs, _, rv, own⟩
  have free : ∀ {b : Addr} {u : Obj}, s₁.heap.get? b = some u → u.data ≠ .fields #[] → (b ≠ a) → H b = none := fun {b u} e n1 n2 => by
    cases q : H b with
    | none => rfl
    | some z =>
      rcases tr b z q with ⟨h1, _⟩ | ⟨h1, _⟩
      · have := isT b h1
        rw [e] at this
        cases this
        exact absurd rfl n1
      · exact absurd h1 n2
  have offA : ∀ {b : Addr} {u : Obj}, s₁.heap.get? b = some u → (∀ xs n, u.data ≠ .seq xs n) → b ≠ a := fun {b u} e n z => by
    subst z
    rw [own] at e
    cases e
    exact n _ _ rfl
  have hidn : ∀ {b : Addr} {m : Str → Option Value}, s₁.heap.Ns b m → (hidT s₁.heap H).Ns b m := fun {b m} ⟨u, es, ep, e, d, r⟩ =>
    ⟨u, es, ep, hidT_get e (free e (fun z => by rw [d] at z; cases z) (offA e fun xs n z => by rw [d] at z; cases z)), d, r⟩
  have kin : K.In (hidT s₁.heap H) := fun b u e => hidT_get (KX b u e) (by
    cases q : H b with
    | none => rfl
    | some z =>
      rcases tr b z q with ⟨h1, _⟩ | ⟨rfl, n, _⟩
      · obtain ⟨p, hp, rfl⟩ := List.mem_map.mp h1
        rw [nT p hp] at e; cases e
      · rw [n] at e; cases e)
  have sq : SqL K F0 a (ns.map V.int) := by
    cases hk : K.lookup a with
    | none => exact .inl (.inr ⟨o, by rw [← hF]; unfold H00; rw [if_pos ⟨rfl, hk⟩]⟩)
    | some u =>
      have e := KX a u hk
      rw [own] at e
      cases e
      exact .inr ⟨_, vs.toArray, _, hk, rfl, rfl, rfl, by rw [List.size_toArray, hi.length]; exact hl, by simpa using rv⟩
  have hM : Mod K mg (hidT s₁.heap H) := ⟨kin, hidn hns, ⟨mb, hidn hb, hbb⟩, let ⟨mc, h1, h2⟩ := hlim; ⟨mc, hidn h1, h2⟩⟩
  have TB : ∀ p ∈ cs, LamX.TabB (hidT s₁.heap H) mg p.1 p.2 := fun p hp => by
    refine ⟨?_, ?_, fun z => ?_⟩
    · obtain ⟨o', us, file, tf, flags, tg, inF, text, tt, e1, r1, r2, r3, r4⟩ := hC p hp
      refine ⟨o', us, file, tf, flags, tg, inF, text, tt, hidT_get e1 (free e1 (fun z => ?_) (offA e1 fun xs n z => ?_)), r1, r2, r3, r4⟩
      · rw [r2] at z; cases z; simp at r3
      · rw [r2] at z; cases z
    · obtain ⟨bm, ob, b1, b2, b3, b4, b5, b6⟩ := hbm
      have nG : bm ≠ mainGlobals := fun q => by
        obtain ⟨o', es, ep, e, hd, _⟩ := hns
        rw [q, e] at b3
        cases b3
        rw [hd] at b6
        cases b6
      have nP : bm ≠ p.2 := fun q => by
        rw [q, hT p hp] at b3
        cases b3
        cases b6
      refine ⟨bm, ob, b1, b2, nG, nP, hidT_get b3 (free b3 (fun z => ?_) (offA b3 fun xs n z => ?_)), b4, b5, b6⟩
      · rw [b6] at z; cases z
      · rw [b6] at z; cases z
    · obtain ⟨o', es, ep, e, hd, _⟩ := hns
      rw [z, hT p hp] at e
      cases e
      cases hd
  have e0 : Env0 P w K mg (hidT s₁.heap H) callerA [] s₁ H := ⟨rfl, hM, fun b u e => of_hidT e, Nat.le_of_eq (hidT_size _ _), trivial, fun b hm => (by cases hm), okF, .of_eq hg⟩
  obtain ⟨f', fd, G, hf, _, hbd⟩ := F _ kin (hidn hns) TB
  rw [hy] at hf
  cases hf
  have hb1 := hbd s₁ [.ref a] KX rfl
  rw [List.append_nil] at hb1
  have told := hsp F0 H sq same fun p hp => ⟨atT _ (List.mem_map.mpr ⟨p, hp, rfl⟩), by
    cases q : F0 p.2 with
    | none => rfl
    | some z =>
      obtain ⟨h1, _⟩ := trF _ z q
      exact absurd (h1 ▸ List.mem_map.mpr ⟨p, hp, rfl⟩) aT⟩
  refine codeAny_mono (G.run callerA [] s₁ H ⟨[.ref a], []⟩ [.ref a] [.ref a] _ _ rfl hr e0 hb1 (.cons rfl .nil) told) fun r s' h => ?_
  match r, h with
  | .error _, h => exact False.elim h
  | .ok .next, h => exact False.elim h
  | .ok .brk, h => exact False.elim h
  | .ok .cont, h => exact False.elim h
  | .ok (.ret u), ⟨v, H', os, bare, un, ok', r', q⟩ =>
    obtain rfl : v = .bl true := q
    obtain rfl : u = Value.bool true := r'
    have old : ∀ b u, b ∉ cs.map (·.2) → s₁.heap.get? b = some u → s'.heap.get? b = some u := fun b u nb e => by
      cases q : H b with
      | none => exact un.keep b u e q (fun z => by cases z) (fun z => by cases z)
      | some z =>
        rcases tr b z q with ⟨h1, _⟩ | ⟨rfl, _, rfl⟩
        · exact absurd h1 nb
        · obtain ⟨e1, _⟩ := okF b _ q
          obtain ⟨e2, _⟩ := ok' b _ (un.frzs b o _ q)
          rw [e] at e1; cases e1
          exact e2
    have grown : ∀ b, b ∈ cs.map (·.2) → ∃ more : Array Value, s'.heap.get? b = some { cls := .none, data := .fields more } := fun b hb => by
      obtain ⟨more, z⟩ := un.tbls b #[] (atT b hb)
      exact ⟨_, ok' b _ z⟩
    refine ⟨rfl, ⟨fun b u e => ?_, fun b u e => ?_⟩, os, bare⟩
    · by_cases hb : b ∈ cs.map (·.2)
      · obtain ⟨more, hm⟩ := grown b hb
        obtain ⟨p, hp, rfl⟩ := List.mem_map.mp hb
        have e' := hT p hp
        rw [e] at e'
        cases e'
        exact .inr (.inl ⟨((hC p hp).tab (hT p hp)).isCodeTable, rfl, #[], more, rfl, by rw [Array.empty_append]; exact hm⟩)
      · exact .inl (old b u hb e)
    · by_cases hb : b ∈ cs.map (·.2)
      · obtain ⟨more, hm⟩ := grown b hb
        exact ⟨_, hm⟩
      · exact ⟨u, old b u hb e⟩
/-- a code object of the written part, its table at P -/
def CodeIn (K : PySem.W.Frag) (c P : Addr) : Prop := ∃ o vs file tf flags tg inF text tt, K.lookup c = some o ∧ o.cls = .type "code" ∧ o.data = .fields vs ∧ vs[11]? = some (.ref P) ∧ vs.getD 11 .none = .ref P ∧ vs.getD 18 .none = .str file tf ∧
    vs.getD 7 .none = .int flags tg ∧ vs.getD 9 .none = .bool inF ∧ vs.getD 10 .none = .int text tt ∧ c ≠ P
/-- a def of the text: its code object at c, the table at P, which is not of the written part -/
structure TabW (K : PySem.W.Frag) (y : Str) (c P : Addr) : Prop where
  code : CodeIn K c P
  fn : ∃ (f : Addr) (o : Obj) (fd : FuncData), PySem.W.nsIn K mainGlobals y = some (some (.ref f)) ∧ K.lookup f = some o ∧ o.data = .func fd ∧ fd.code = .ref c
  off : K.lookup P = none
/-- what is known of the law's promise at the head's heap -/
def LawT (l : PySem.W.OpenLaw) (w : World) (K : PySem.W.Frag) (k n : Nat) (x y : Str) (q : Program) (mg : Str → Option Value) : Prop :=
  ∃ (ts : List (Str × Addr × Addr)) (sp : Sp), (∀ t ∈ ts, TabW K t.1 t.2.1 t.2.2 ∧ ((recsOf q).any fun e => e.name == t.1) = true) ∧
    (∀ (F H : Hp) (a : Addr) (ns : List Int), ns.length ≤ n → SqL K F a (ns.map V.int) → Same F H → (∀ t ∈ ts, H t.2.2 = some (.tbl #[]) ∧ F t.2.2 = none) → sp [.ref a] H (fun v _ => v = .bl true) fun _ _ _ => False) ∧
    ∀ base : Heap, K.In base → base.Ns mainGlobals mg → (∀ t ∈ ts, LamX.TabB base mg t.2.1 t.2.2) → CalG l.prog w K mg base k y [x] sp
theorem walk_cT {l : PySem.W.OpenLaw} {n k : Nat} {q : Program} {loose : List Str} {XP : (Str → Option Value) → Heap → Prop} {YP : World → Heap → Prop} {d : DefRec} {K : Params → PySem.W.Frag} {x : Str}
    (hn : l.most = some n) (hn2 : n ≤ sizeLine) (hdf : d.params.defaults = []) (hr : Room k callerA) (hY : ∀ (w : World) (h : Heap), YP w h → (K w.params).In h)
    (F : ∀ (w : World) (mg : Str → Option Value) (fa : Addr) (h : Heap), (K w.params).In h → h.Ns mainGlobals mg → mg d.name = some (.ref fa) → LawT l w (K w.params) k n x d.name q mg) :
    PySem.W.WalkO q loose XP YP l.row.toRowW d [] (fun f vs => PySem.call f vs) := by
  refine Att.attach_callB hn hdf fun w s₀ s₁ mg mb fa o pm cd doc a vs ns G Y ho hd hcd hmg hobj hints hlen hbits hg => ?_
  have KX := hY w _ Y
  obtain ⟨ts, sp, ht, hsp, hF⟩ := F w mg fa _ KX G.T.g hmg
  have facts : ∀ t ∈ ts, s₁.heap.get? t.2.2 = some { cls := .none, data := .fields #[] } ∧ (K w.params).lookup t.2.2 = none ∧ PySem.W.CodeHd s₁.heap t.2.1 t.2.2 := fun t hm => by
    obtain ⟨⟨⟨o, vs, file, tf, flags, tg, inF, text, tt, g1, g2, g3, g4, g5⟩, ⟨f, of, fd, f1, f2, f3, f4⟩, off⟩, hrec⟩ := ht t hm
    obtain ⟨dL, hm1, hn1⟩ := List.any_eq_true.mp hrec
    have hn2 : dL.name = t.1 := beq_iff_eq.mp hn1
    obtain ⟨a', o', fd', c', P', h1, h2, h3, h4, h5, h6⟩ := G.T.tab dL hm1
    rw [hn2, PySem.W.mg_of KX G.T.g f1] at h1
    cases h1
    rw [KX _ _ f2] at h2
    cases h2
    rw [f3] at h3
    cases h3
    rw [f4] at h4
    cases h4
    obtain ⟨⟨oc, vc, e1, _, e3, e4⟩, hP⟩ := h6
    rw [KX _ _ g1] at e1
    cases e1
    rw [g3] at e3
    cases e3
    rw [g4] at e4
    cases e4
    exact ⟨hP, off, ⟨o, vs, file, tf, flags, tg, inF, text, tt, KX _ _ g1, g2, g3, g4, g5⟩⟩
  refine law_cT (cs := ts.map (·.2)) (sp := sp) (x := x) KX G.T.g G.T.b G.T.builtins G.T.nolimit hg ?_ ?_ ?_ G.T.bmain hobj hints (Nat.le_trans hlen hn2) hr hmg ?_ ?_
  · intro p hp; obtain ⟨t, hm, rfl⟩ := List.mem_map.mp hp; exact (facts t hm).1
  · intro p hp; obtain ⟨t, hm, rfl⟩ := List.mem_map.mp hp; exact (facts t hm).2.1
  · intro p hp; obtain ⟨t, hm, rfl⟩ := List.mem_map.mp hp; exact (facts t hm).2.2
  · exact fun base h1 h2 h3 => hF base h1 h2 fun t hm => h3 _ (List.mem_map.mpr ⟨t, hm, rfl⟩)
  · exact fun F H h1 h2 h3 => hsp F H a ns hlen h1 h2 fun t hm => h3 _ (List.mem_map.mpr ⟨t, hm, rfl⟩)
/-- the law's promise told of its reading -/
theorem spL_lawT {GP : GenP} {K : PySem.W.Frag} {W : WD} {n : Nat} (h : ∀ ns : List Int, ns.length ≤ n → W [.val (.scr ns)] fun d _ => d = .bl true) (F H : Hp) (a : Addr) (ns : List Int) (l : ns.length ≤ n) (s : SqL K F a (ns.map V.int)) (sm : Same F H) (hT : ∀ p ∈ GP.T, H p.1 = some (.tbl #[]) ∧ F p.1 = none) :
    spL GP K 1 (fun as Q => hasG as = false ∧ W as Q) [.ref a] H (fun v _ => v = .bl true) fun _ _ _ => False := by
  refine ⟨F, none, [.val (.scr ns)], fun d _ => d = .bl true, sm, ⟨.scr s, trivial⟩, rfl, rfl, rfl, fun p hp => (by cases hp), ⟨fun p hp => .nil (hT p hp).1, fun a ⟨q, hq⟩ => (hT _ hq).2⟩, ⟨rfl, h ns l⟩, fun v H' F' γ' d m _ _ _ _ _ _ e _ q => ?_⟩
  subst q
  cases e
  rfl
/-! ### a def that makes lambdas: its code object is told -/
section
variable {P : Program} {w : World} {K : PySem.W.Frag} {mg : Str → Option Value} {base : Heap}
theorem g_okC {x qual : Str} {st : Stmt} {f : Addr} {fd : FuncData} {N ps : List Str} {k : Nat} {sp : Sp} (F : Fun K x qual st f fd) (S : FnScope N ps (defScope st)) (len : ∀ vs H Q E, sp vs H Q E → vs.length = ps.length)
    (body : ∀ (A : Around) (outer : List Env) (s : Shared) (H : Hp) (vs : List V) (Q : VK) (E : XK), A.guards = some [] → Room k (A.deeper (envOfC qual (defScope st) s.heap.objs.size f fd.code)) → sp vs H Q E →
      ∃ t, PSs (cxOf CX0 P w K mg base N qual (defScope st) f fd.code A outer s H E).nox (defBody st) t ∧ t { nx := fun _ H' => Q .non H', rt := Q } (start N vs) H) : GOk P w K mg base (k + 1) f fd ps sp := by
  obtain ⟨oc, od, kV, doc, pm, an, cdv, ct, osl, rfl, lk, hcd⟩ := F.ex
  refine ⟨len, fun A outer s H args us vs Q E hg hr e0 hb r hsp => ?_⟩
  have keepB : ∀ b o, base.get? b = some o → s.heap.get? b = some o := fun b o e => (e0.bs b o e).1
  refine codeAny_call_function hr.depth ((e0.mod.kin.keeps keepB) _ _ lk) rfl S.co S.gen rfl (PySem.W.codeRec_of (e0.mod.kin.keeps keepB) hcd) (hb _ _ _ _ ?_)
  refine wpAny_newFunctionEnv_cells S.kind (fun y hy => ?_) fun env he s1 x1 => ?_
  · rcases S.par y.1 (List.of_mem_zip hy).1 with q | q
    · exact .inl q
    · exact .inr ⟨q, PySem.W.cellsFrom_some _ _ _ (.inl q)⟩
  subst he
  refine ⟨(e0.mod.nolimit.keeps keepB).keeps x1.toInCall.keep, codeAny_func ?_⟩
  obtain ⟨t, ht, hq⟩ := body A outer s H vs Q E hg (hr.deeper _) hsp
  refine wpAny_mono (ht.nox.run [] s1 (start N vs) H _ (inv_start S hr.hd e0 (len _ _ _ _ hsp) r x1) hq) (fun fl s' hs => ?_) fun e s' hs => hs
  match fl, hs with
  | .ret u, ⟨v, σ', H', J, rv, q⟩ => exact ⟨v, H', J.os, J.bare, J.base, J.hok, rv, q⟩
  | .next, ⟨σ', H', J, q⟩ => exact ⟨V.non, H', J.os, J.bare, J.base, J.hok, rfl, q⟩
  | .brk, ⟨_, _, _, q⟩ => exact False.elim q
  | .cont, ⟨_, _, _, q⟩ => exact False.elim q
/-- the code object of the def x -/
def CodeOf (K : PySem.W.Frag) (mg : Str → Option Value) (x : Str) (c : Addr) : Prop := ∀ (f : Addr) (o : Obj) (fd : FuncData), mg x = some (.ref f) → K.lookup f = some o → o.data = .func fd → fd.code = .ref c
theorem TabW.codeOf {h : Heap} {x : Str} {c T : Addr} (t : TabW K x c T) (X : K.In h) (G : h.Ns mainGlobals mg) : CodeOf K mg x c := fun f o fd m l d => by
  obtain ⟨f', o', fd', h1, h2, h3, h4⟩ := t.fn
  rw [PySem.W.mg_of X G h1] at m
  cases m
  rw [l] at h2
  cases h2
  rw [d] at h3
  cases h3
  exact h4
variable {GP : GenP} {x : Str} {st : Stmt} {N ps : List Str} {k : Nat}
theorem _root_.CD.Def.calDT (D : Def K mg x st ps) (S : FnScope N ps (defScope st)) {c : Addr} (hc : CodeOf K mg x c) (u : US)
    (body : ∀ (f : Addr) (cdv : Value) (A : Around) (outer : List PySem.Env) (s : Shared) (H : Hp) (E : XK), cdv = .ref c → A.guards = some [] → Room k (A.deeper (envOfC x (defScope st) s.heap.objs.size f cdv)) →
      ∃ t, PSs (cxOf CX0 P w K mg base N x (defScope st) f cdv A outer s H E).nox (defBody st) t ∧ ∀ B, LS GP K B t u) : CalG P w K mg base (k + 1) x ps (spL GP K ps.length (Wof N.length u)) := by
  obtain ⟨f, fd, F, m, b⟩ := D
  refine ⟨f, fd, g_okC F S (fun vs H Q E h => spL_len h) fun A outer s H vs Q E hgd hr h => ?_, m, F.kp, b⟩
  have code : fd.code = .ref c := by
    obtain ⟨oc, od, kV, doc, pm, an, cdv, ct, osl, e, lk, _⟩ := F.ex
    exact hc f _ fd m lk rfl
  obtain ⟨t, ht, hl⟩ := body f fd.code A outer s H E code hgd hr
  refine ⟨t, ht, ?_⟩
  obtain ⟨F, γ, as, Qd, h1, h2, h3, h4, h5, h6, hT, h7, h8⟩ := h
  have hn : vs.length ≤ N.length := by
    have := congrArg List.length S.pre
    rw [List.length_take] at this
    rw [h2.length, h5]
    omega
  have r := start_rp (N := N) h1 h2 h3 h4 h6 hT hn
  haveI : FinerC GP K (H, F, γ) H F γ := ⟨id, rfl⟩
  refine hl (H, F, γ) _ _ r h7 (fun σ' H' F' γ' ρ' r' q' => ?_) (fun _ _ _ _ _ _ q' => q'.elim) (fun _ _ _ _ _ _ q' => q'.elim) (fun σ' v H' F' γ' ρ' d r' dd q' => ?_)
  · exact out_ok h3 r' Dd.non q' fun v H' F' γ' d m a0 a1 a2 a3 a4 a5 a6 a7 a8 => h8 v H' F' _ d m a0 a1 a2 a3 a4 a5 a6 a7 a8
  · exact out_ok h3 r' dd q' fun v H' F' γ' d m a0 a1 a2 a3 a4 a5 a6 a7 a8 => h8 v H' F' _ d m a0 a1 a2 a3 a4 a5 a6 a7 a8
/-- the law's own: no draws ahead of it -/
theorem _root_.CD.Def.calDLT (D : Def K mg x st ps) (S : FnScope N ps (defScope st)) {c : Addr} (hc : CodeOf K mg x c) (u : US)
    (body : ∀ (f : Addr) (cdv : Value) (A : Around) (outer : List PySem.Env) (s : Shared) (H : Hp) (E : XK), cdv = .ref c → A.guards = some [] → Room k (A.deeper (envOfC x (defScope st) s.heap.objs.size f cdv)) →
      ∃ t, PSs (cxOf CX0 P w K mg base N x (defScope st) f cdv A outer s H E).nox (defBody st) t ∧ ∀ B, B.2.2 = none → LS GP K B t u) : CalG P w K mg base (k + 1) x ps (spL GP K ps.length fun as Q => hasG as = false ∧ Wof N.length u as Q) := by
  obtain ⟨f, fd, F, m, b⟩ := D
  refine ⟨f, fd, g_okC F S (fun vs H Q E h => spL_len h) fun A outer s H vs Q E hgd hr h => ?_, m, F.kp, b⟩
  have code : fd.code = .ref c := by
    obtain ⟨oc, od, kV, doc, pm, an, cdv, ct, osl, e, lk, _⟩ := F.ex
    exact hc f _ fd m lk rfl
  obtain ⟨t, ht, hl⟩ := body f fd.code A outer s H E code hgd hr
  refine ⟨t, ht, ?_⟩
  obtain ⟨F, γ, as, Qd, h1, h2, h3, h4, h5, h6, hT, ⟨h0, h7⟩, h8⟩ := h
  have hn : vs.length ≤ N.length := by
    have := congrArg List.length S.pre
    rw [List.length_take] at this
    rw [h2.length, h5]
    omega
  have r := start_rp (N := N) h1 h2 h3 h4 h6 hT hn
  have g0 : γ = none := by
    rw [h0] at h3
    cases γ with
    | none => rfl
    | some _ => cases h3
  haveI : FinerC GP K (H, F, γ) H F γ := ⟨id, rfl⟩
  refine hl (H, F, γ) g0 _ _ r h7 (fun σ' H' F' γ' ρ' r' q' => ?_) (fun _ _ _ _ _ _ q' => q'.elim) (fun _ _ _ _ _ _ q' => q'.elim) (fun σ' v H' F' γ' ρ' d r' dd q' => ?_)
  · exact out_ok h3 r' Dd.non q' fun v H' F' γ' d m a0 a1 a2 a3 a4 a5 a6 a7 a8 => h8 v H' F' _ d m a0 a1 a2 a3 a4 a5 a6 a7 a8
  · exact out_ok h3 r' dd q' fun v H' F' γ' d m a0 a1 a2 a3 a4 a5 a6 a7 a8 => h8 v H' F' _ d m a0 a1 a2 a3 a4 a5 a6 a7 a8
end
/-- what a def that makes lambdas has at hand -/
structure LamT (K : PySem.W.Frag) (mg : Str → Option Value) (base : Heap) (T : List (Addr × Str)) (x : Str) (c P : Addr) : Prop where
  tb : LamX.TabB base mg c P
  code : CodeOf K mg x c
  mem : (P, x ++ ".<locals>." ++ "<lambda>") ∈ T
  only : ∀ z ∈ T, z.1 = P → z.2 = x ++ ".<locals>." ++ "<lambda>"
section
variable {X : Cx}
/-- x(lambda: e), x known by its def -/
theorem pe_lam0 {T : List (Addr × Str)} {TT : (XK → Hp → VK → Prop) → Hp → VK → Prop} {x a y : Str} {c P : Addr} {k : Nat} {st : Stmt} {Ng : List Str} {ps : Arguments} {e : Expr} {sc : Scope} {t : XK → TE} {p lpos pos : Pos} (LT : LamT X.K X.mg X.base T y c P) (hq : lamQ X = y ++ ".<locals>." ++ "<lambda>")
    (D : Def X.K X.mg x st [a]) (Sg : FnScope Ng [a] (defScope st)) (hG : ∀ (g : Addr) (cdv : Value), LamX.GivesTo X Ng x (defScope st) g cdv (defBody st) a (lamQ X) TT) (hg : Gl X x) (hN : Ng[0]? = some a) (hv : Vis (defScope st) a) (hco : X.env.code = .ref c) (hr : Room (k + 2) X.A) (L : LamD [] X.env.scope sc)
    (hd : defaultsOf ps X.env = ([], [])) (bind : ∀ (q : Str) (cl : List (Str × Addr)) (doc m co ct : Value), bindArgs (PySem.W.kdv_fn "<lambda>" q ps (.expr e) sc cl .none doc m co ct) ⟨[], []⟩ = pure []) (hgd : X.A.guards = some [])
    (body : ∀ (A : Around) (outer : List Env) (s : Shared) (H : Hp) (E : XK) (f co : Addr), A.guards = some [] → Room k (A.deeper (LamX.lamEnv X sc s.heap.objs.size f co)) → PE (LamX.lamCx X A outer s H E sc f co) e (t E))
    (hdb : (x == ("__debug__" : Str)) = false := by decide) (hda : (a == ("__debug__" : Str)) = false := by decide) (hca : (a == ("__classdict__" : Str)) = false := by decide) :
    PE X (.Call (.Name x p) [.Lambda ps e sc lpos] [] pos) (tLamT T TT t) := by
  obtain ⟨g, fd, F, m, b⟩ := D
  obtain ⟨oc, od, kV, doc, pm, an, cdv, ct, osl, rfl, lk, hcd⟩ := F.ex
  exact pe_lamcall0 hg m F.kp lk hcd b Sg hN hv (hG g cdv) LT.tb hco (hq ▸ LT.mem) (hq ▸ LT.only) hr L hd bind hgd body hdb hda hca
/-- x(lambda z=i: e) -/
theorem pe_lamD {T : List (Addr × Str)} {TT : (XK → Hp → VK → Prop) → Hp → VK → Prop} {x a y z : Str} {c P : Addr} {k : Nat} {st : Stmt} {Ng : List Str} {ps : Arguments} {e : Expr} {sc : Scope} {t : XK → TE} {i0 : Int} {j0 : Nat} {p0 p lpos pos : Pos} (LT : LamT X.K X.mg X.base T y c P) (hq : lamQ X = y ++ ".<locals>." ++ "<lambda>")
    (D : Def X.K X.mg x st [a]) (Sg : FnScope Ng [a] (defScope st)) (hG : ∀ (g : Addr) (cdv : Value), LamX.GivesTo X Ng x (defScope st) g cdv (defBody st) a (lamQ X) TT) (hg : Gl X x) (hN : Ng[0]? = some a) (hv : Vis (defScope st) a) (hco : X.env.code = .ref c) (hr : Room (k + 2) X.A) (L : LamD [z] X.env.scope sc) (nz : z ∉ X.N)
    (hd : ps.defaults = [.Constant (.int i0) j0 p0]) (hkd : ps.kw_defaults = [])
    (bind : ∀ (q : Str) (cl : List (Str × Addr)) (t : Addr) (doc m co ct : Value) (tk : Tok), ∃ kk, bindArgs (PySem.W.kdv_fn "<lambda>" q ps (.expr e) sc cl (.ref t) doc m co ct) ⟨[], []⟩ = seqItems? (.ref t) >>= kk ∧ kk (some #[.int i0 tk]) = pure [(z, .int i0 tk)]) (hgd : X.A.guards = some [])
    (body : ∀ (A : Around) (outer : List Env) (s : Shared) (H : Hp) (E : XK) (f co : Addr), A.guards = some [] → Room k (A.deeper (LamX.lamEnv X sc s.heap.objs.size f co)) → PE (LamX.lamCx X A outer s H E sc f co) e (t E))
    (hdb : (x == ("__debug__" : Str)) = false := by decide) (hda : (a == ("__debug__" : Str)) = false := by decide) (hca : (a == ("__classdict__" : Str)) = false := by decide) :
    PE X (.Call (.Name x p) [.Lambda ps e sc lpos] [] pos) (tLamT T TT t) := by
  obtain ⟨g, fd, F, m, b⟩ := D
  obtain ⟨oc, od, kV, doc, pm, an, cdv, ct, osl, rfl, lk, hcd⟩ := F.ex
  exact pe_lamcallD hg m F.kp lk hcd b Sg hN hv (hG g cdv) LT.tb hco (hq ▸ LT.mem) (hq ▸ LT.only) hr L nz hd hkd bind hgd body hdb hda hca
end
end DL
set_option maxHeartbeats 400000
/-! lifted readings 21: texts, sign by sign; parts of them -/
namespace DL
open PySem PySem.Spec PyProof.Rows L2 CD
variable {GP : GenP} {K : PySem.W.Frag} {B : Hp × Hp × GAt}
/-! ### for c in s -/
def sgD (z : Str) : List D := z.cps.toList.map fun c => D.str ⟨#[c]⟩
def uiStr (u : UE) : UI := fun ρ Q => u ρ fun x ρ1 => match cn ρ1 x with
  | some (.str z) => Q (sgD z) ρ1
  | _ => False
theorem li_str {t : TE} {u : UE} (h : LE GP K B t u) : LI GP K B (iStr t) (uiStr u) := by
  intro H0 F0 γ0 _ γ σ H F ρ R Q r z k
  refine h _ _ r z fun H1 F1 γ1 ρ1 v x r1 s1 k1 u1 => ?_
  split at u1
  · rename_i s e
    obtain rfl := (RVok.cnt r1 k1 e).str
    refine ⟨s, rfl, k _ _ _ _ _ _ _ _ _ r1 s1 walk_str (by unfold sgD; rw [List.length_map, Array.length_toList]) (fun _ _ => trivial) (fun i H v H' F hi _ _ y => ?_) u1⟩
    obtain ⟨rfl, c, hc, rfl⟩ := y
    refine ⟨.str ⟨#[c]⟩, ?_, .inl ⟨rfl, .str _⟩⟩
    unfold sgD
    rw [List.getElem?_map, Array.getElem?_toList, hc]
    rfl
  · exact u1.elim
/-! ### c in s, c one sign -/
def pSgn (neg : Bool) : P2 := fun x y Q => match x, y with
  | .str a, .str z => ∃ c, a = ⟨#[c]⟩ ∧ Q (.val (.bl (if neg = true then !decide (c ∈ z.cps.toList) else decide (c ∈ z.cps.toList))))
  | _, _ => False
def rSgn (neg : Bool) : R2 := fun x y H Q => ∃ (c : Nat) (z : Str), x = .str ⟨#[c]⟩ ∧ y = .str z ∧ Q (.bl (if neg = true then !decide (c ∈ z.cps.toList) else decide (c ∈ z.cps.toList))) H
theorem lr_sgn (neg : Bool) : LR K (rSgn neg) (pSgn neg) := by
  intro F H x y dx dy R Q s c1 c2 p h
  unfold pSgn at p
  split at p
  · obtain ⟨c, rfl, p2⟩ := p
    exact ⟨c, _, c1.str, c2.str, h _ _ (.val _) (Same.refl _) (Dd.bl _) p2⟩
  · exact p.elim
theorem op_sgnIn {X : Cx} : OpR X (compareOp .In) (rSgn false) := fun pins s σ H x y v u Q I rx ry ⟨c, z, e1, e2, q⟩ => op_in_sign pins s σ H x y v u Q I rx ry ⟨c, z, e1, e2, q⟩
theorem op_sgnNot {X : Cx} : OpR X (compareOp .NotIn) (rSgn true) := fun pins s σ H x y v u Q I rx ry ⟨c, z, e1, e2, q⟩ => op_notIn_sign pins s σ H x y v u Q I rx ry ⟨c, z, e1, e2, q⟩
/-! ### a part of a text -/
def pSlS : PS3 := fun x l h Q => match x with
  | .str z => z.length ≤ sizeLine ∧ Q (.val (.str (Txt.slice z l h)))
  | _ => False
theorem lsl_S : LSl K C8.rSlX pSlS := by
  intro F H x dx l hh R Q s k p h
  unfold pSlS at p
  split at p
  · exact ⟨_, k.str, p.1, h _ _ (.val _) (Same.refl _) (Dd.str _) p.2⟩
  · exact p.elim
theorem call_len_seqK {X : Cx} {K : PySem.W.Frag} (h : X.K = K) : CallR X (.builtin "len") (fun xs H Q => ∃ p ys, xs = [V.ref p] ∧ (SqL K H p ys ∨ SqT K H p ys) ∧ Q (V.int ys.length) H) := h ▸ call_len_seq
theorem op_eqDK {X : Cx} {K : PySem.W.Frag} (h : X.K = K) (hu : X.A.units + 64 < cLine) : OpR X (compareOp .Eq) (rEqD K) := h ▸ op_eqD hu
/-! ### a, b, c = e1, e2, e3: names of the def's own -/
def uPar3 (i j l : Nat) (u : UA) : US := fun Q ρ => u ρ fun xs ρ' => match xs with
  | [.val a, .val b, .val c] => Q.nx (((ρ'.set i (some (.val a))).set j (some (.val b))).set l (some (.val c)))
  | _ => False
theorem ls_par3 {i j l : Nat} {t : TA} {u : UA} (h : LA GP K B t u) : LS GP K B (tPar3 i j l t) (uPar3 i j l u) := by
  intro H0 F0 γ0 _ γ σ H F ρ E Q r z n bk ct rt
  refine h _ _ r z fun H1 F1 γ1 ρ1 vs xs r1 s1 k1 u1 => ?_
  split at u1
  · rename_i a b c
    obtain ⟨v1, w1, rfl, z1, k1⟩ := k1.cons_of
    obtain ⟨v2, w2, rfl, z2, k1⟩ := k1.cons_of
    obtain ⟨v3, w3, rfl, z3, k1⟩ := k1.cons_of
    obtain rfl := k1.nil_of
    exact ⟨v1, v2, v3, rfl, n _ _ _ _ _ (((r1.setVal i z1.1).setVal j z2.1).setVal l z3.1) u1⟩
  · exact u1.elim
/-! ### len(set(t)), t a tuple of ints -/
def tLenSetA (K : PySem.W.Frag) (ta : TE) : TE := fun σ H Q => ta σ H fun x H1 => ∃ (l : Addr) (ns : List Int), x = .ref l ∧ SqT K H1 l (ns.map V.int) ∧ ns.length ≤ 1000 ∧ ∀ ms : List Int, ms.Nodup → (∀ j, j ∈ ms ↔ j ∈ ns) → Q (.int (ms.length : Nat)) H1
theorem pe_lenSetA {X : Cx} {a : Expr} {ta : TE} {p p2 q pos : Pos} (hg : Gl X "len") (hm : X.mg "len" = none) (hg2 : Gl X "set") (hm2 : X.mg "set" = none) (ha : PE X a ta) (hc : X.calm = true := by rfl)
    (na : starEach [a] X.env = (false, eval a X.env) :: starEach [] X.env := by rfl) : PE X (.Call (.Name "len" p) [.Call (.Name "set" p2) [a] [] q] [] pos) (tLenSetA X.K ta) := by
  refine ⟨fun pins s σ H Q I h => ?_⟩
  refine Call_ (ld_blt I hg hm boot_len (PyProof.Rows.callWith_builtin1 (PyProof.Rows.args_cons ?_ rfl) rfl rfl))
  refine Call_ (ld_blt I hg2 hm2 boot_set (PyProof.Rows.callWith_type1 (PyProof.Rows.args_cons (thn (ha.run pins s σ H _ I h) fun v s1 ⟨x, H1, I1, r1, l, ns, ex, hq, hl, q1⟩ => PyProof.Rows.args_nil ?_) na) na rfl))
  subst ex
  cases r1
  obtain ⟨its, r, pl, hz⟩ := I1.tuple hq
  refine call_set_tupI ns (I1.ok.hd hc) (show s1.heap.IsTuple l its.toArray from pl) (by simpa using ints_of_vals r) (by unfold scanBound; omega) fun h' tk c hS hcl hk => PyProof.Rows.args_nil ?_
  obtain ⟨o, es, ep, t, ho, hex, hdt, g, nd, hm3, hb, hf, hn, _, _⟩ := hS
  have q2 := q1 (es.toList.map keyOf) nd fun j => by
    have z : decide (j ∈ ns) = true ↔ j ∈ es.toList.map keyOf := hm3 j
    rw [decide_eq_true_eq] at z
    exact z.symm
  have I2 : Inv X pins σ H1 { s1 with heap := h', toks := tk } := I1.kept hk
  have small : (es.toList.map keyOf).length ≤ ns.length := by
    have z : ∀ j, j ∈ es.toList.map keyOf → j ∈ ns := fun j hj => of_decide_eq_true ((hm3 j).mpr hj)
    exact List.Nodup.length_le_of_subset nd z
  rw [List.length_map, Array.length_toList] at small q2
  exact call_len_set ho hex hdt hf (by omega) ⟨.int es.size, H1, I2.tok _, ⟨_, rfl⟩, q2⟩
def uLenSetA (u : UE) : UE := fun ρ Q => u ρ fun x ρ1 => match cn ρ1 x with
  | some (.tup ds) => ∃ ns : List Int, ds = ns.map D.int ∧ ns.length ≤ 1000 ∧ ∀ ms : List Int, ms.Nodup → (∀ j, j ∈ ms ↔ j ∈ ns) → Q (.val (.int (ms.length : Nat))) ρ1
  | _ => False
theorem le_lenSetA {t : TE} {u : UE} (h : LE GP K B t u) : LE GP K B (tLenSetA K t) (uLenSetA u) := by
  intro H0 F0 γ0 _ γ σ H F ρ R Q r z k
  refine h _ _ r z fun H1 F1 γ1 ρ1 v x r1 s1 k1 u1 => ?_
  split at u1
  · rename_i ds e
    obtain ⟨ns, rfl, h2, q⟩ := u1
    obtain ⟨a, xs, rfl, hx, g⟩ := (RVok.cnt r1 k1 e).tup r1.sub
    rw [g.ints] at hx
    exact ⟨a, ns, rfl, hx, h2, fun ms n1 n2 => k _ _ _ _ _ (.val _) r1 s1 (Dd.int _) (q ms n1 n2)⟩
  · exact u1.elim
end DL
set_option maxHeartbeats 1000000
/-! repr of data with empty dicts in it; a sequence against an empty one -/
namespace CD
open PySem PySem.Spec PyProof.Rows L2
mutual
/-- data at a value, empty dicts among it -/
inductive De (K : PySem.W.Frag) (H : Hp) : V → PyData → Prop
  | non : De K H .non .none
  | bl (b : Bool) : De K H (.bl b) (.bool b)
  | int (i : Int) : De K H (.int i) (.int i)
  | str (x : Str) : De K H (.str x) (.str x)
  | emp {a : Addr} : H a = some (.dK []) → De K H (.ref a) (.dict [])
  | lst {a : Addr} {xs : List V} {ps : List PyData} : SqL K H a xs → DeL K H xs ps → De K H (.ref a) (.list ps)
  | tup {a : Addr} {xs : List V} {ps : List PyData} : SqT K H a xs → DeL K H xs ps → De K H (.ref a) (.tuple ps)
inductive DeL (K : PySem.W.Frag) (H : Hp) : List V → List PyData → Prop
  | nil : DeL K H [] []
  | cons {v : V} {vs : List V} {p : PyData} {ps : List PyData} : De K H v p → DeL K H vs ps → DeL K H (v :: vs) (p :: ps)
end
section
variable {X : Cx} {pins : List (Addr × Obj)} {σ : L2.St} {H : Hp} {s : Shared}
/-- what stands at an empty dict -/
theorem emp_at {P : Program} {w : World} {a : Addr} {h : Heap} (e : H a = some (.dK [])) (ok : HOk P w H h) : (a == sysModules) = false ∧ ∃ o n, h.get? a = some o ∧ o.cls = .type "dict" ∧ o.data = .dict #[] n := by
  obtain ⟨_, hs, vs, kv, o, es, ep, ho, ed, hd, _, pr, _⟩ := ok a _ e
  cases kv
  have l := pr.length
  have z : es = #[] := Array.eq_empty_of_size_eq_zero (by simpa using l)
  subst z
  exact ⟨hs, o, ep, ho, ed.1, hd⟩
mutual
theorem De.rk (I : Inv X pins σ H s) : ∀ (p : PyData) (v : V) (u : Value), De X.K H v p → RelV v u → p.showable = true → p.shown.length ≤ sizeLine →
    (∃ as, Reads s.heap u p as) ∧ ∃ bs, ReadAtMost s.heap p.depth bs ∧ ReprK X.prog X.w bs s.heap p.depth u p.shown
  | .none, _, _, h, r, _, _ => by
    cases h; cases r
    exact ⟨⟨_, .none⟩, [], nofun, by rw [PyData.shown]; exact .of_is ReprIs.none _ _ _⟩
  | .bool b, _, _, h, r, _, _ => by
    cases h; cases r
    exact ⟨⟨_, .bool b⟩, [], nofun, by rw [PyData.shown]; exact .of_is (ReprIs.bool b) _ _ _⟩
  | .int i, _, _, h, r, hs, _ => by
    cases h
    obtain ⟨t, rfl⟩ := r
    exact ⟨⟨_, .int i t⟩, [], nofun, by rw [PyData.shown]; exact .of_is (ReprIs.int t (by simpa [PyData.showable] using hs)) _ _ _⟩
  | .str x, _, _, h, r, _, hz => by
    cases h
    obtain ⟨t, rfl⟩ := r
    rw [PyData.shown] at hz
    exact ⟨⟨_, .str x t⟩, [], nofun, by rw [PyData.shown]; exact .of_is (ReprIs.str x t hz) _ _ _⟩
  | .dict (_ :: _), _, _, h, _, _, _ => by cases h
  | .dict [], _, _, h, r, _, hz => by
    cases h with
    | emp e =>
      cases r
      rename_i a
      obtain ⟨hsys, o, n, g1, g2, g3⟩ := emp_at e I.hok
      have rd : Reads s.heap (.ref a) (.dict []) _ := .dict g1 g2 g3 .nil .nil
      refine ⟨⟨_, rd⟩, [a], ReadAtMost.cons rd (Nat.le_refl _) nofun, ?_⟩
      have k := ReprK.dict (prog := X.prog) (w := X.w) (as := []) (d := PyData.depthKv []) g1 g2 g3 hsys (by simp) (ps := []) (ReprEntriesK.of_two [] _ _ .nil .nil)
      rw [PyData.depth, PyData.shown, PyData.shownKv]
      exact k
  | .list ps, _, _, h, r, hs, hz => by
    cases h with
    | lst hq hd =>
      cases r
      rename_i a xs
      obtain ⟨its, rv, ⟨o, n, ho, hc, _, hdt⟩, _⟩ := I.list hq
      rw [PyData.shown] at hz
      obtain ⟨⟨as, ra⟩, bs, hb, hk⟩ := DeL.rk I ps _ its hd rv (by simpa [PyData.showable] using hs) fun t ht => Nat.le_trans (listText_mem_le ht) hz
      have rd : Reads s.heap (.ref a) (.list ps) _ := .list ho hc hdt ra
      have na : a ∉ bs := not_mem_of_deeper rd (by rw [PyData.depth]; omega) hb
      refine ⟨⟨_, rd⟩, a :: bs, ReadAtMost.cons rd (by rw [PyData.depth]; omega) hb, ?_⟩
      rw [PyData.depth, PyData.shown]
      cases its with
      | nil =>
        cases (show ReadsAll s.heap [] ps as from ra)
        rw [PyData.shownAll, listText_nil]
        exact ReprK.listEmpty ho hc hdt
      | cons y its => exact ReprK.list ho hc hdt na (by simpa using hk.length_eq) fun i z e => hk.item i z (by simpa using e)
  | .tuple ps, _, _, h, r, hs, hz => by
    cases h with
    | tup hq hd =>
      cases r
      rename_i a xs
      obtain ⟨its, rv, ⟨o, ho, hc, n, hdt⟩, _⟩ := I.tuple hq
      rw [PyData.shown] at hz
      obtain ⟨⟨as, ra⟩, bs, hb, hk⟩ := DeL.rk I ps _ its hd rv (by simpa [PyData.showable] using hs) fun t ht => Nat.le_trans (tupleText_mem_le ht) hz
      have rd : Reads s.heap (.ref a) (.tuple ps) _ := .tuple ho hc hdt ra
      have na : a ∉ bs := not_mem_of_deeper rd (by rw [PyData.depth]; omega) hb
      refine ⟨⟨_, rd⟩, a :: bs, ReadAtMost.cons rd (by rw [PyData.depth]; omega) hb, ?_⟩
      rw [PyData.depth, PyData.shown]
      exact ReprK.tuple ho hc hdt na hk
theorem DeL.rk (I : Inv X pins σ H s) : ∀ (ps : List PyData) (vs : List V) (us : List Value), DeL X.K H vs ps → Vals vs us → PyData.showableAll ps = true → (∀ t ∈ PyData.shownAll ps, t.length ≤ sizeLine) →
    (∃ as, ReadsAll s.heap us ps as) ∧ ∃ bs, ReadAtMost s.heap (PyData.depthAll ps) bs ∧ ReprAllK X.prog X.w bs s.heap (PyData.depthAll ps) us (PyData.shownAll ps)
  | [], _, _, h, r, _, _ => by
    cases h; cases r
    exact ⟨⟨_, .nil⟩, [], nofun, by rw [PyData.shownAll]; exact .nil⟩
  | p :: ps, _, _, h, r, hs, hz => by
    cases h with
    | cons h1 h2 =>
      cases r with
      | cons r1 r2 =>
        rw [PyData.showableAll, Bool.and_eq_true] at hs
        rw [PyData.shownAll] at hz
        obtain ⟨⟨a1, q1⟩, b1, d1, k1⟩ := De.rk I p _ _ h1 r1 hs.1 (hz _ List.mem_cons_self)
        obtain ⟨⟨a2, q2⟩, b2, d2, k2⟩ := DeL.rk I ps _ _ h2 r2 hs.2 fun t ht => hz t (List.mem_cons_of_mem _ ht)
        refine ⟨⟨_, .cons q1 q2⟩, b1 ++ b2, fun b hm => ?_, ?_⟩
        · rw [PyData.depthAll]
          rcases List.mem_append.mp hm with hm | hm
          · obtain ⟨d', as', r', l⟩ := d1 b hm
            exact ⟨d', as', r', by omega⟩
          · obtain ⟨d', as', r', l⟩ := d2 b hm
            exact ⟨d', as', r', by omega⟩
        · rw [PyData.depthAll, PyData.shownAll]
          exact .cons ((k1.more fun b hb => List.mem_append_left _ hb).level_le (by omega)) (k2.more_le (fun b hb => List.mem_append_right _ hb) (by omega))
end
end
/-- repr(x) -/
def rReprE (K : PySem.W.Frag) : List V → Hp → VK → Prop := fun xs H Q => ∃ (x : V) (p : PyData), xs = [x] ∧ De K H x p ∧ p.showable = true ∧ p.depth ≤ 60 ∧ p.shown.length ≤ sizeLine ∧ Q (.str p.shown) H
section
variable {X : Cx}
theorem call_reprE (hg : X.A.guards = some []) (hu : X.A.units + 64 < cLine) : CallR X (.builtin "repr") (rReprE X.K) := by
  intro pins s σ H xs us Q I r h
  obtain ⟨x, p, rfl, hd, hs, hp, hz, q⟩ := h
  obtain ⟨u, rfl, ru⟩ := vals1 r
  have fin : ∀ (h' : Heap) (t : Tok) (tk : Nat), (∀ b o, s.heap.get? b = some o → h'.get? b = some o) → _ := fun h' t tk hk => (⟨.str p.shown, H, I.kept hk, ⟨t, rfl⟩, q⟩ : ∃ v H', Inv X pins σ H' { s with heap := h', toks := tk } ∧ RelV v (.str p.shown t) ∧ Q v H')
  cases hd with
  | non => cases ru; exact PySem.P.repr_of_none (by rw [PyData.shown] at q; exact ⟨.str _, H, I.tok _, ⟨_, rfl⟩, q⟩)
  | bl b => cases ru; exact PySem.P.repr_of_bool (by rw [PyData.shown] at q; exact ⟨.str _, H, I.tok _, ⟨_, rfl⟩, q⟩)
  | int i => obtain ⟨t, rfl⟩ := ru; exact PySem.P.repr_of_int (by simpa [PyData.showable] using hs) (by rw [PyData.shown] at q; exact ⟨.str _, H, I.tok _, ⟨_, rfl⟩, q⟩)
  | str y => obtain ⟨t, rfl⟩ := ru; exact PySem.P.repr_of_str (by rw [PyData.shown] at q; exact ⟨.str _, H, I.tok _, ⟨_, rfl⟩, q⟩) (by rw [PyData.shown] at hz; exact hz)
  | emp e =>
    cases ru
    obtain ⟨hsys, o, n, g1, g2, g3⟩ := emp_at e I.hok
    rw [PyData.shown, PyData.shownKv] at q hz
    refine call_repr_slot (by omega) ⟨o, g1, g2⟩ PySem.F.slot_dict_repr ?_
    exact call_dict_reprK (as := []) (d := 0) g1 g2 g3 hsys (by simp) (ps := []) (ReprEntriesK.of_two [] _ _ .nil .nil) (A := X.A.in1) hg (fun b _ => Clear.nil b) (by show X.A.units + 1 + (0 + 1) < cLine; omega) (fun _ _ z => z) (fun h' t tk hk => ⟨_, _, rfl, .str _, H, I.kept hk, ⟨_, rfl⟩, q⟩) hz
  | @lst a xs ps hq hl =>
    cases ru
    obtain ⟨its, rv, ⟨o, n, ho, hc, _, hdt⟩, _⟩ := I.list hq
    rw [PyData.shown] at q hz
    rw [PyData.depth] at hp
    obtain ⟨⟨as, ra⟩, bs, hb, hk⟩ := DeL.rk I ps _ its hl rv (by simpa [PyData.showable] using hs) fun t ht => Nat.le_trans (listText_mem_le ht) hz
    have rd : Reads s.heap (.ref a) (.list ps) _ := .list ho hc hdt ra
    have na : a ∉ bs := not_mem_of_deeper rd (by rw [PyData.depth]; omega) hb
    refine call_repr_slot (by omega) ⟨o, ho, hc⟩ PySem.F.slot_list_repr.toG ?_
    cases its with
    | nil =>
      cases (show ReadsAll s.heap [] ps as from ra)
      rw [PyData.shownAll, listText_nil] at q
      exact call_list_repr_empty ⟨o, ho, hc⟩ ho hdt ⟨_, _, rfl, .str _, H, I.tok _, ⟨_, rfl⟩, q⟩
    | cons y its =>
      exact call_list_reprK (A := X.A.in1) ho hc hdt na (by simpa using hk.length_eq) (fun i z e => hk.item i z (by simpa using e)) hg (fun b _ => Clear.nil b) (by show X.A.units + 1 + (PyData.depthAll ps + 1) < cLine; omega) (fun _ _ z => z) (fun h' t tk hk => ⟨_, _, rfl, .str _, H, I.kept hk, ⟨_, rfl⟩, q⟩) hz
  | @tup a xs ps hq hl =>
    cases ru
    obtain ⟨its, rv, ⟨o, ho, hc, n, hdt⟩, _⟩ := I.tuple hq
    rw [PyData.shown] at q hz
    rw [PyData.depth] at hp
    obtain ⟨⟨as, ra⟩, bs, hb, hk⟩ := DeL.rk I ps _ its hl rv (by simpa [PyData.showable] using hs) fun t ht => Nat.le_trans (tupleText_mem_le ht) hz
    have rd : Reads s.heap (.ref a) (.tuple ps) _ := .tuple ho hc hdt ra
    have na : a ∉ bs := not_mem_of_deeper rd (by rw [PyData.depth]; omega) hb
    refine call_repr_slot (by omega) ⟨o, ho, hc⟩ PySem.F.slot_tuple_repr ?_
    exact call_tuple_reprK (A := X.A.in1) ho hc hdt na hk hg (fun b _ => Clear.nil b) (by show X.A.units + 1 + (PyData.depthAll ps + 1) < cLine; omega) (fun _ _ z => z) (fun h' t tk hk => ⟨_, _, rfl, .str _, H, I.kept hk, ⟨_, rfl⟩, q⟩) hz
/-- a sequence against an empty one -/
def rNil (K : PySem.W.Frag) (neg : Bool) : R2 := fun x y H Q => ∃ (a b : Addr) (xs : List V), x = .ref a ∧ y = .ref b ∧ (SqL K H a xs ∧ SqL K H b [] ∨ SqT K H a xs ∧ SqT K H b []) ∧ Q (.bl (if neg then !xs.isEmpty else xs.isEmpty)) H
theorem nil_ne {its : List Value} {y : Value} : ((y :: its).toArray.size != (#[] : Array Value).size) = true := by simp
theorem op_eqNil (hu : X.A.units + 64 < cLine) : OpR X (compareOp .Eq) (rNil X.K false) := by
  intro pins s σ H x y v u Q I rx ry h
  obtain ⟨a, b, xs, rfl, rfl, h | h, q⟩ := h
  · obtain ⟨its, rv, ⟨o, n, e1, e2, _, e3⟩, _⟩ := I.list h.1
    obtain ⟨its', rv', ⟨o', n', g1, g2, _, g3⟩, _⟩ := I.list h.2
    cases rx; cases ry
    cases rv'
    cases rv with
    | nil => exact SeqAt.RcAt.lists (e := fun _ => true) ⟨o, e1, e2, n, e3⟩ ⟨o', g1, g2, n', g3⟩ rfl (by omega) (fun j h1 => absurd h1 (Nat.not_lt_zero j)) _ _ _ _ ⟨.bl _, H, I, rfl, q⟩
    | cons _ _ => exact SeqAt.RcAt.lists_lengths ⟨o, e1, e2, n, e3⟩ ⟨o', g1, g2, n', g3⟩ nil_ne (by omega) _ _ _ _ ⟨.bl _, H, I, rfl, q⟩
  · obtain ⟨its, rv, ⟨o, e1, e2, n, e3⟩, _⟩ := I.tuple h.1
    obtain ⟨its', rv', ⟨o', g1, g2, n', g3⟩, _⟩ := I.tuple h.2
    cases rx; cases ry
    cases rv'
    refine SeqAt.RcAt.tuples (e := fun _ => true) ⟨o, e1, e2, n, e3⟩ ⟨o', g1, g2, n', g3⟩ (by omega) (fun j _ h2 => absurd h2 (Nat.not_lt_zero j)) _ _ _ _ ⟨.bl _, H, I, ?_, q⟩
    cases rv with
    | nil => rfl
    | cons _ _ => rfl
theorem op_neNil (hu : X.A.units + 64 < cLine) : OpR X (compareOp .NotEq) (rNil X.K true) := by
  intro pins s σ H x y v u Q I rx ry h
  obtain ⟨a, b, xs, rfl, rfl, h | h, q⟩ := h
  · obtain ⟨its, rv, ⟨o, n, e1, e2, _, e3⟩, _⟩ := I.list h.1
    obtain ⟨its', rv', ⟨o', n', g1, g2, _, g3⟩, _⟩ := I.list h.2
    cases rx; cases ry
    cases rv'
    cases rv with
    | nil => exact SeqAt.RcNeAt.lists (e := fun _ => true) ⟨o, e1, e2, n, e3⟩ ⟨o', g1, g2, n', g3⟩ rfl (by omega) (fun j h1 => absurd h1 (Nat.not_lt_zero j)) _ _ _ _ ⟨.bl _, H, I, rfl, q⟩
    | cons _ _ => exact SeqAt.RcNeAt.lists_lengths ⟨o, e1, e2, n, e3⟩ ⟨o', g1, g2, n', g3⟩ nil_ne (by omega) _ _ _ _ ⟨.bl _, H, I, rfl, q⟩
  · obtain ⟨its, rv, ⟨o, e1, e2, n, e3⟩, _⟩ := I.tuple h.1
    obtain ⟨its', rv', ⟨o', g1, g2, n', g3⟩, _⟩ := I.tuple h.2
    cases rx; cases ry
    cases rv'
    refine SeqAt.RcNeAt.tuples (e := fun _ => true) ⟨o, e1, e2, n, e3⟩ ⟨o', g1, g2, n', g3⟩ (by omega) (fun j _ h2 => absurd h2 (Nat.not_lt_zero j)) _ _ _ _ ⟨.bl _, H, I, ?_, q⟩
    cases rv with
    | nil => rfl
    | cons _ _ => rfl
end
/-! ### t[::-1], t a tuple -/
section
variable {prog : Program} {w : World} {A : Around} {E : Value → Shared → Prop} {s : Shared}
theorem applied_back {sl : Addr} {vl vu vs : Value} {n : Nat} {Q : Int × Int × Nat → Shared → Prop} (hs : s.heap.IsSliceOf sl vl vu vs) (pl : IsPart vl none) (pu : IsPart vu none) (ps : IsPart vs (some (-1)))
    (h : Q ((n : Int) - 1, -1, n) s) : wpAny (model prog w) A (Builtin.Slice.sliceApplied (.ref sl) (pure (n : Int))) Q E s := by
  obtain ⟨os, h1, h2, h3⟩ := id hs
  unfold Builtin.Slice.sliceApplied Builtin.Slice.sliceFields
  refine wpAny_bind (wpAny_bind (wpAny_field h1 h3 (x := vl) rfl (wpAny_bind (wpAny_field h1 h3 (x := vu) rfl (wpAny_bind (wpAny_field h1 h3 (x := vs) rfl (wpAny_pure ?_)))))))
  refine wpAny_bind (HT.slicePart_ ps ?_)
  show wpAny _ _ (if ((-1 : Int) == 0) = true then _ else _) _ _ s
  rw [if_neg (by decide)]
  refine wpAny_bind (HT.slicePart_ pl (wpAny_bind (HT.slicePart_ pu (wpAny_bind (wpAny_pure ?_)))))
  show wpAny _ _ (pure ((n : Int) - 1, (-1 : Int), Builtin.Slice.slicePlaces ((n : Int) - 1) (-1) (-1))) _ _ s
  have e : Builtin.Slice.slicePlaces ((n : Int) - 1) (-1) (-1) = n := by
    unfold Builtin.Slice.slicePlaces
    rw [if_neg (by decide)]
    by_cases z : n = 0
    · subst z; rfl
    · rw [if_pos (by omega)]
      have : ((n : Int) - 1 - -1 - 1) / (- -1) = (n : Int) - 1 := by rw [show (- -1 : Int) = 1 by decide, Int.ediv_one]; omega
      rw [this]; omega
  rw [e]
  exact wpAny_pure h
theorem fmx_congr {α β : Type} {f g : α → Option β} : ∀ {l : List α}, (∀ a ∈ l, f a = g a) → l.filterMap f = l.filterMap g
  | [], _ => rfl
  | a :: r, h => by rw [List.filterMap_cons, List.filterMap_cons, h a List.mem_cons_self, fmx_congr fun x hx => h x (List.mem_cons_of_mem _ hx)]
theorem pick_back (xs : Array Value) : ((List.range xs.size).filterMap fun (m : Nat) => xs[(((xs.size : Int) - 1) + (m : Int) * (-1)).toNat]?).toArray = xs.toList.reverse.toArray := by
  rw [← PySem.W.krv_pick]
  unfold slicePick
  rw [PySem.W.krv_bounds]
  show _ = ((sliceRange ((xs.size : Int) - 1) (-1) (-1)).filterMap (xs[·]?)).toArray
  rw [PySem.W.krv_sliceRange, List.filterMap_map]
  rw [fmx_congr (g := (fun x => xs[x]?) ∘ fun k => xs.size - 1 - k) fun m hm => ?_]
  have := List.mem_range.mp hm
  have e : (((xs.size : Int) - 1) + (m : Int) * (-1)).toNat = xs.size - 1 - m := by omega
  rw [e]; rfl
theorem item_back {t sl : Addr} {items : Array Value} {vl vu vs : Value} {Q : Value → Shared → Prop} (ht : IsTup s.heap t items) (hs : s.heap.IsSliceOf sl vl vu vs) (pl : IsPart vl none) (pu : IsPart vu none) (ps : IsPart vs (some (-1)))
    (h : Q (.ref s.heap.objs.size) { s with heap := s.heap.push { cls := .type "tuple", data := .seq items.toList.reverse.toArray } }) (hz : items.size ≤ sizeLine) : wpAny (model prog w) A (getItem (.ref t) (.ref sl)) Q E s := by
  have ok : sizeOk (.seq items.toList.reverse.toArray) := by
    show items.toList.reverse.toArray.size ≤ sizeLine
    rw [List.size_toArray, List.length_reverse, Array.length_toList]
    exact hz
  obtain ⟨os, h1, h2, h3⟩ := id hs
  have isS : s.TypeIs (.ref sl) "slice" := ⟨os, h1, h2⟩
  unfold getItem
  try with_reducible refine wpAny_holding ?_
  first | refine wpAny_bind (wpAny_pure ?_) | skip
  refine wpAny_bind (wpAny_sequenceKey ht.typeIs (by decide) ?_)
  refine wpAny_bind (wpAny_callSpecial?_slot (name := Str.ofString "__getitem__") ht.typeIs PyProof.Rows.slot_tuple_getitem (wpAny_call_entry PyProof.Rows.slot_tuple_getitem ht.typeIs entry_tuple_getitem ?_ (args_tuple_getitem _ _)))
  show wpAny _ _ (Builtin.Tuple.tupleItemsOf (.ref t) >>= _) _ _ s
  refine wpAny_bind (tupleItemsOf_ ht ?_)
  refine wpAny_bind (wpAny_typeOf isS ?_)
  rw [if_pos (by decide)]
  refine wpAny_bind (applied_back hs pl pu ps ?_)
  show wpAny _ _ (if (((items.size : Int) - 1) == 0 && (-1 : Int) == 1 && items.size == items.size) = true then _ else _) _ _ s
  rw [if_neg (by simp), pick_back]
  first
    | exact wpAny_bind (m := Builtin.Tuple.tupleExact _) (wpAny_newObj_type (wpAny_pure ⟨_, rfl, wpAny_pure h⟩) ok)
    | exact wpAny_bind (wpAny_bind (m := Builtin.Tuple.tupleExact _) (wpAny_newObj_type (wpAny_pure (wpAny_pure ⟨_, rfl, wpAny_pure h⟩)) ok))
    | exact wpAny_bind (wpAny_bind (m := Builtin.Tuple.tupleExact _) (wpAny_newObj_type (wpAny_pure ⟨_, rfl, wpAny_pure h⟩) ok))
end
def tRevT (K : PySem.W.Frag) (te : TE) : TE := fun σ H Q => te σ H fun x H1 => ∃ a xs, x = .ref a ∧ SqT K H1 a xs ∧ ∀ p, H1 p = none → Q (.ref p) (upd H1 p (.tup xs.reverse))
section
variable {X : Cx}
theorem pe_revT {e : Expr} {te : TE} {k : Nat} {p1 p2 p3 pos : Pos} (he : PE X e te) : PE X (.Subscript e (.Slice none none (some (.UnaryOp .USub (.Constant (.int 1) k p1) p2)) p3) pos) (tRevT X.K te) := by
  refine ⟨fun pins s σ H Q I h => ?_⟩
  refine Subscript_ (thn (he.run pins s σ H _ I h) fun v s1 ⟨x, H1, I1, r1, a, xs, ex, hx, q⟩ => ?_)
  subst ex
  cases r1
  have hst : PO X (some (.UnaryOp .USub (.Constant (.int 1) k p1) p2)) (tPart (tUn (rU fun i => .int (-i)) (tC (.int 1)))) := po_some (pe_un un_neg pe_int)
  refine wpAny_Slice (thn (po_none.run pins s1 σ H1 (fun o H2 => o = none ∧ H2 = H1) I1 ⟨rfl, rfl⟩) fun vl s2 ⟨l, H2, I2, pl, el, e2⟩ => ?_)
  subst el e2
  refine thn (po_none.run pins s2 σ H2 (fun o H3 => o = none ∧ H3 = H2) I2 ⟨rfl, rfl⟩) fun vu s3 ⟨u, H3, I3, pu, eu, e3⟩ => ?_
  subst eu e3
  refine thn (hst.run pins s3 σ H3 (fun o H4 => o = some (-1) ∧ H4 = H3) I3 ⟨1, rfl, -1, rfl, rfl, rfl⟩) fun vs s4 ⟨o, H4, I4, ps, eo, e4⟩ => ?_
  subst eo e4
  have I5 : Inv X pins σ H4 { s4 with heap := s4.heap.push { cls := .type "slice", data := .fields #[vl, vu, vs] } } := I4.kept (t' := s4.toks) fun b ob q => Heap.get?_push_of_some _ q
  obtain ⟨its, r, ht, hz⟩ := I5.tuple hx
  have hlen := r.length
  show wpAny (model X.prog X.w) X.A (subscriptTail e (.Slice none none (some (.UnaryOp .USub (.Constant (.int 1) k p1) p2)) p3) (.ref a) (.ref s4.heap.objs.size)) (EP X pins σ Q) X.xe _
  refine tail_any (ops := [.ref a, .ref s4.heap.objs.size]) ht.typeIs PyProof.Rows.slot_tuple_getitem.lookup ?_ (by with_unfolding_all rfl)
  refine item_back ht (Heap.IsSliceOf.new _ vl vu vs) pl pu ps ?_ (by rw [List.size_toArray]; omega)
  exact ⟨.ref _, _, I5.laid (t' := s4.toks) (o := .tup xs.reverse) (fun b ob q => Heap.get?_push_of_some _ q) (Nat.le_refl _) ⟨by rw [List.length_reverse]; exact hz, _, r.reverse, IsTup.new _ _⟩, rfl, q _ (I5.hok.fresh (Nat.le_refl _))⟩
end
end CD
/-! lifted readings 22: repr of things with empty dicts, a sequence against an empty one -/
namespace DL
open PySem PySem.Spec PyProof.Rows L2 CD
variable {K : PySem.W.Frag}
mutual
inductive PyE : D → PyData → Prop
  | non : PyE .non .none
  | bl (b : Bool) : PyE (.bl b) (.bool b)
  | int (i : Int) : PyE (.int i) (.int i)
  | str (x : Str) : PyE (.str x) (.str x)
  | emp : PyE (.dk []) (.dict [])
  | list {ds : List D} {ps : List PyData} : PyEL ds ps → PyE (.list ds) (.list ps)
  | tup {ds : List D} {ps : List PyData} : PyEL ds ps → PyE (.tup ds) (.tuple ps)
inductive PyEL : List D → List PyData → Prop
  | nil : PyEL [] []
  | cons {d : D} {ds : List D} {p : PyData} {ps : List PyData} : PyE d p → PyEL ds ps → PyEL (d :: ds) (p :: ps)
end
section
variable {F H : Hp}
mutual
theorem Dd.de (s : Same F H) : ∀ {d : D} {p : PyData}, PyE d p → ∀ {v : V}, Dd K F v d → De K H v p
  | _, _, .non, _, h => by cases h; exact .non
  | _, _, .bl b, _, h => by cases h; exact .bl b
  | _, _, .int i, _, h => by cases h; exact .int i
  | _, _, .str x, _, h => by cases h; exact .str x
  | _, _, .emp, _, h => by
    cases h with
    | dK h g => cases g; exact .emp (s _ _ h)
  | _, _, .list q, _, h => by
    cases h with
    | lst h g => exact .lst (.inl (.inl (s _ _ h))) (DdL.de s q g)
  | _, _, .tup q, _, h => by
    cases h with
    | tup h g => exact .tup (.inl (.inl (s _ _ h))) (DdL.de s q g)
theorem DdL.de (s : Same F H) : ∀ {d : List D} {p : List PyData}, PyEL d p → ∀ {v : List V}, DdL K F v d → DeL K H v p
  | _, _, .nil, _, h => by cases h; exact .nil
  | _, _, .cons q r, _, h => by
    cases h with
    | cons h g => exact .cons (Dd.de s q h) (DdL.de s r g)
end
theorem Cnt.de {v : V} {d : D} {p : PyData} (s : Same F H) (c : Cnt K F H v d) (q : PyE d p) : De K H v p := by
  rcases c with h | ⟨a, rfl, h⟩ | ⟨a, xs, ds, rfl, rfl, h, g⟩
  · exact Dd.de s q h
  · cases h with
    | lst h g =>
      cases q with
      | list q => exact .lst (.inl (.inl h)) (DdL.de s q g)
    | dK h g =>
      cases q
      cases g
      exact .emp h
    | dT _ _ => cases q
    | set _ _ _ _ => cases q
  · cases q with
    | tup q => exact .tup ((same_none H).tup h) (DdL.de (same_none H) q g)
end
structure RepE (p : PyData) : Prop where
  s : p.showable = true
  z : p.shown.length ≤ sizeLine
  p : p.depth ≤ 60
def pReprE : PN := fun ds Q => match ds with
  | [d] => ∃ p, PyE d p ∧ RepE p ∧ Q (.val (.str p.shown))
  | _ => False
theorem lb_reprE : LB K (rReprE K) pReprE := by
  intro F H vs ds R Q s c p h
  unfold pReprE at p
  split at p
  · obtain ⟨v, rfl, k⟩ := cl1 c
    obtain ⟨q, h1, h2, h3⟩ := p
    exact ⟨v, q, rfl, k.de s h1, h2.s, h2.p, h2.z, h _ _ (.val _) (Same.refl _) (Dd.str _) h3⟩
  · exact p.elim
def pNil (neg : Bool) : P2 := fun x y Q => match x, y with
  | .list ds, .list [] => Q (.val (.bl (if neg then !ds.isEmpty else ds.isEmpty)))
  | .tup ds, .tup [] => Q (.val (.bl (if neg then !ds.isEmpty else ds.isEmpty)))
  | _, _ => False
theorem ddL_emp {F : Hp} {xs : List V} {ds : List D} (g : DdL K F xs ds) : xs.isEmpty = ds.isEmpty := by cases g <;> rfl
theorem lr_nil (neg : Bool) : LR K (rNil K neg) (pNil neg) := by
  intro F H x y dx dy R Q s c1 c2 p h
  unfold pNil at p
  split at p
  · obtain ⟨a, xs, rfl, hx, g⟩ := c1.list s
    obtain ⟨b, ys, rfl, hy, g'⟩ := c2.list s
    cases g'
    exact ⟨a, b, xs, rfl, rfl, .inl ⟨.inl (.inl hx), .inl (.inl hy)⟩, by rw [ddL_emp g]; exact h _ _ (.val _) (Same.refl _) (Dd.bl _) p⟩
  · obtain ⟨a, xs, rfl, hx, g⟩ := c1.tup s
    obtain ⟨b, ys, rfl, hy, g'⟩ := c2.tup s
    cases g'
    exact ⟨a, b, xs, rfl, rfl, .inr ⟨hx, hy⟩, by rw [ddL_emp g]; exact h _ _ (.val _) (Same.refl _) (Dd.bl _) p⟩
  · exact p.elim
section
variable {GP : GenP} {B : Hp × Hp × GAt}
/-- t[::-1], t a tuple -/
def uRevT (a : UE) : UE := fun ρ Q => a ρ fun x ρ1 => match ck ρ1 (sf x) with
  | some (.tup ds) => Q (.val (.tup ds.reverse)) ρ1
  | _ => False
theorem le_revT {te : TE} {ue : UE} (he : LE GP K B te ue) : LE GP K B (tRevT K te) (uRevT ue) := by
  intro H0 F0 γ0 _ γ σ H F ρ R Q r z k
  refine he _ _ r z fun H1 F1 γ1 ρ1 v x r1 s1 k1 u1 => ?_
  obtain ⟨F2, r2, s2, k2⟩ := sf_ok r1 k1
  split at u1
  · rename_i ds e
    obtain ⟨p, xs, rfl, hp, gp⟩ := ck_tup r2 k2.one e
    have S := s1.trans s2
    refine ⟨p, xs, rfl, .inl (.inl (r2.sub _ _ hp)), fun l nl => ?_⟩
    obtain ⟨F5, r5, s5, d5⟩ := new_tup r2 nl gp.reverse
    exact k _ _ _ _ _ (.val _) r5 (S.trans s5) d5 u1
  · exact u1.elim
end
theorem op_in_seqK {X : Cx} {K : PySem.W.Frag} (e : X.K = K) : OpR X (compareOp .In) (rIn K false) := by
  subst e
  exact op_in_seq
theorem op_notIn_seqK {X : Cx} {K : PySem.W.Frag} (e : X.K = K) : OpR X (compareOp .NotIn) (rIn K true) := by
  subst e
  exact op_notIn_seq
theorem sl_tupAK {X : Cx} {K : PySem.W.Frag} (e : X.K = K) : SlR X (rSlA K) := by
  subst e
  exact sl_tupA
/-- a promise that is never asked for -/
theorem calG_never {P : Program} {w : World} {mg : Str → Option Value} {base : Heap} {GP : GenP} {x : Str} {st : Stmt} {ps : List Str} {k : Nat} (D : Def K mg x st ps) : CalG P w K mg base k x ps (spL GP K ps.length fun _ _ => False) := by
  obtain ⟨f, fd, F, m, b⟩ := D
  refine ⟨f, fd, ⟨fun vs H Q E h => spL_len h, fun A outer s H args us vs Q E hg hr e0 hb r h => ?_⟩, m, F.kp, b⟩
  obtain ⟨_, _, _, _, _, _, _, _, _, _, _, z, _⟩ := h
  exact z.elim
/-- isinstance between own classes -/
theorem kit_own {K : PySem.W.Frag} {C D : Addr} {b : Bool} (t : PySem.W.typeIn K (.ref C) = some (.type "type")) (hd : PySem.W.hasDictIn K C = true) (s : PySem.W.subIn K (.ref D) (.ref C) = some b) (ss : PySem.W.subIn K (.ref C) (.ref C) = some true) : PySem.W.kitOne K (.ref D) (.ref C) = some b := by
  unfold PySem.W.kitOne
  split
  · rename_i h
    have e := eq_of_beq h
    rw [e, ss] at s
    exact s
  · obtain ⟨cd, hc, _⟩ := PySem.W.any_some hd
    unfold PySem.W.kitCls
    dsimp only
    rw [hc, t, if_pos (by simp)]
    exact s
end DL

namespace LK
open PySem PySem.Spec PyProof.Rows L2 CD DL
def topS (i : Nat) : Stmt := PySem.Challenge.pw_callsdown_k90_texts_refused.main.body.getD i (.Pass ⟨0, 0, 0, 0⟩)
abbrev s_is_integer : Stmt := topS 6
abbrev n_is_integer : List Str := ["thing"]
abbrev p_is_integer : List Str := ["thing"]
theorem sc_is_integer : FnScope n_is_integer p_is_integer (defScope s_is_integer) := ⟨rfl, rfl, rfl, by decide +kernel, rfl, by decide +kernel, by decide +kernel⟩
abbrev s_is_number : Stmt := topS 7
abbrev n_is_number : List Str := ["thing", "low", "high"]
abbrev p_is_number : List Str := ["thing", "low", "high"]
theorem sc_is_number : FnScope n_is_number p_is_number (defScope s_is_number) := ⟨rfl, rfl, rfl, by decide +kernel, rfl, by decide +kernel, by decide +kernel⟩
abbrev s_need_scaled : Stmt := topS 13
abbrev n_need_scaled : List Str := ["thing", "scale", "adds", "add"]
abbrev p_need_scaled : List Str := ["thing"]
theorem sc_need_scaled : FnScope n_need_scaled p_need_scaled (defScope s_need_scaled) := ⟨rfl, rfl, rfl, by decide +kernel, rfl, by decide +kernel, by decide +kernel⟩
abbrev s_need_kind : Stmt := topS 18
abbrev n_need_kind : List Str := ["thing", "fits"]
abbrev p_need_kind : List Str := ["thing"]
theorem sc_need_kind : FnScope n_need_kind p_need_kind (defScope s_need_kind) := ⟨rfl, rfl, rfl, by decide +kernel, rfl, by decide +kernel, by decide +kernel⟩
abbrev s_need_rule : Stmt := topS 22
abbrev n_need_rule : List Str := ["thing", "step"]
abbrev p_need_rule : List Str := ["thing"]
theorem sc_need_rule : FnScope n_need_rule p_need_rule (defScope s_need_rule) := ⟨rfl, rfl, rfl, by decide +kernel, rfl, by decide +kernel, by decide +kernel⟩
abbrev s_numbers_of : Stmt := topS 25
abbrev n_numbers_of : List Str := ["words", "word"]
abbrev p_numbers_of : List Str := ["words"]
theorem sc_numbers_of : FnScope n_numbers_of p_numbers_of (defScope s_numbers_of) := ⟨rfl, rfl, rfl, by decide +kernel, rfl, by decide +kernel, by decide +kernel⟩
abbrev s__is_decimal : Stmt := topS 26
abbrev n__is_decimal : List Str := ["word"]
abbrev p__is_decimal : List Str := ["word"]
theorem sc__is_decimal : FnScope n__is_decimal p__is_decimal (defScope s__is_decimal) := ⟨rfl, rfl, rfl, by decide +kernel, rfl, by decide +kernel, by decide +kernel⟩
abbrev s_rule_text : Stmt := topS 28
abbrev n_rule_text : List Str := ["rule"]
abbrev p_rule_text : List Str := ["rule"]
theorem sc_rule_text : FnScope n_rule_text p_rule_text (defScope s_rule_text) := ⟨rfl, rfl, rfl, by decide +kernel, rfl, by decide +kernel, by decide +kernel⟩
abbrev s_scaled_text : Stmt := topS 29
abbrev n_scaled_text : List Str := ["scaled", "scale", "adds"]
abbrev p_scaled_text : List Str := ["scaled"]
theorem sc_scaled_text : FnScope n_scaled_text p_scaled_text (defScope s_scaled_text) := ⟨rfl, rfl, rfl, by decide +kernel, rfl, by decide +kernel, by decide +kernel⟩
abbrev s_kind_text : Stmt := topS 30
abbrev n_kind_text : List Str := ["kind"]
abbrev p_kind_text : List Str := ["kind"]
theorem sc_kind_text : FnScope n_kind_text p_kind_text (defScope s_kind_text) := ⟨rfl, rfl, rfl, by decide +kernel, rfl, by decide +kernel, by decide +kernel⟩
abbrev s_read_rule : Stmt := topS 31
abbrev n_read_rule : List Str := ["string"]
abbrev p_read_rule : List Str := ["string"]
theorem sc_read_rule : FnScope n_read_rule p_read_rule (defScope s_read_rule) := ⟨rfl, rfl, rfl, by decide +kernel, rfl, by decide +kernel, by decide +kernel⟩
abbrev s_read_scaled : Stmt := topS 32
abbrev n_read_scaled : List Str := ["string"]
abbrev p_read_scaled : List Str := ["string"]
theorem sc_read_scaled : FnScope n_read_scaled p_read_scaled (defScope s_read_scaled) := ⟨rfl, rfl, rfl, by decide +kernel, rfl, by decide +kernel, by decide +kernel⟩
abbrev s_read_kind : Stmt := topS 33
abbrev n_read_kind : List Str := ["string"]
abbrev p_read_kind : List Str := ["string"]
theorem sc_read_kind : FnScope n_read_kind p_read_kind (defScope s_read_kind) := ⟨rfl, rfl, rfl, by decide +kernel, rfl, by decide +kernel, by decide +kernel⟩
abbrev s__row_of : Stmt := topS 34
abbrev n__row_of : List Str := ["things", "thing"]
abbrev p__row_of : List Str := ["things"]
theorem sc__row_of : FnScope n__row_of p__row_of (defScope s__row_of) := ⟨rfl, rfl, rfl, by decide +kernel, rfl, by decide +kernel, by decide +kernel⟩
abbrev s__read : Stmt := topS 35
abbrev n__read : List Str := ["string", "thing_of", "rows", "thing"]
abbrev p__read : List Str := ["string", "thing_of"]
theorem sc__read : FnScope n__read p__read (defScope s__read) := ⟨rfl, rfl, rfl, by decide +kernel, rfl, by decide +kernel, by decide +kernel⟩
abbrev s__rule_of : Stmt := topS 36
abbrev n__rule_of : List Str := ["row"]
abbrev p__rule_of : List Str := ["row"]
theorem sc__rule_of : FnScope n__rule_of p__rule_of (defScope s__rule_of) := ⟨rfl, rfl, rfl, by decide +kernel, rfl, by decide +kernel, by decide +kernel⟩
abbrev s__scaled_of : Stmt := topS 37
abbrev n__scaled_of : List Str := ["row", "scale", "_", "adds", "scales"]
abbrev p__scaled_of : List Str := ["row"]
theorem sc__scaled_of : FnScope n__scaled_of p__scaled_of (defScope s__scaled_of) := ⟨rfl, rfl, rfl, by decide +kernel, rfl, by decide +kernel, by decide +kernel⟩
abbrev s__kind_of : Stmt := topS 38
abbrev n__kind_of : List Str := ["row", "words", "numbers"]
abbrev p__kind_of : List Str := ["row"]
theorem sc__kind_of : FnScope n__kind_of p__kind_of (defScope s__kind_of) := ⟨rfl, rfl, rfl, by decide +kernel, rfl, by decide +kernel, by decide +kernel⟩
abbrev s__law_start : Stmt := topS 40
abbrev n__law_start : List Str := ["script", "cells", "cell"]
abbrev p__law_start : List Str := ["script"]
theorem sc__law_start : FnScope n__law_start p__law_start (defScope s__law_start) := ⟨rfl, rfl, rfl, by decide +kernel, rfl, by decide +kernel, by decide +kernel⟩
abbrev s__law_next : Stmt := topS 41
abbrev n__law_next : List Str := ["m", "total", "found", "cell"]
abbrev p__law_next : List Str := ["m", "total"]
theorem sc__law_next : FnScope n__law_next p__law_next (defScope s__law_next) := ⟨rfl, rfl, rfl, by decide +kernel, rfl, by decide +kernel, by decide +kernel⟩
abbrev s__law_of : Stmt := topS 42
abbrev n__law_of : List Str := ["m", "some"]
abbrev p__law_of : List Str := ["m", "some"]
theorem sc__law_of : FnScope n__law_of p__law_of (defScope s__law_of) := ⟨rfl, rfl, rfl, by decide +kernel, rfl, by decide +kernel, by decide +kernel⟩
abbrev s__law_unlike : Stmt := topS 43
abbrev n__law_unlike : List Str := ["m", "many_so", "first", "total", "left", "found", "k"]
abbrev p__law_unlike : List Str := ["m", "many_so", "first", "total"]
theorem sc__law_unlike : FnScope n__law_unlike p__law_unlike (defScope s__law_unlike) := ⟨rfl, rfl, rfl, by decide +kernel, rfl, by decide +kernel, by decide +kernel⟩
abbrev s__law_steps : Stmt := topS 44
abbrev n__law_steps : List Str := ["m"]
abbrev p__law_steps : List Str := ["m"]
theorem sc__law_steps : FnScope n__law_steps p__law_steps (defScope s__law_steps) := ⟨rfl, rfl, rfl, by decide +kernel, rfl, by decide +kernel, by decide +kernel⟩
abbrev s__law_adds : Stmt := topS 45
abbrev n__law_adds : List Str := ["m", "total"]
abbrev p__law_adds : List Str := ["m", "total"]
theorem sc__law_adds : FnScope n__law_adds p__law_adds (defScope s__law_adds) := ⟨rfl, rfl, rfl, by decide +kernel, rfl, by decide +kernel, by decide +kernel⟩
abbrev s__law_shape : Stmt := topS 46
abbrev n__law_shape : List Str := ["m", "word"]
abbrev p__law_shape : List Str := ["m"]
theorem sc__law_shape : FnScope n__law_shape p__law_shape (defScope s__law_shape) := ⟨rfl, rfl, rfl, by decide +kernel, rfl, by decide +kernel, by decide +kernel⟩
abbrev s__law_is_whole : Stmt := topS 47
abbrev n__law_is_whole : List Str := ["thing", "low", "high"]
abbrev p__law_is_whole : List Str := ["thing", "low", "high"]
theorem sc__law_is_whole : FnScope n__law_is_whole p__law_is_whole (defScope s__law_is_whole) := ⟨rfl, rfl, rfl, by decide +kernel, rfl, by decide +kernel, by decide +kernel⟩
abbrev s__law_part : Stmt := topS 48
abbrev n__law_part : List Str := ["some", "low", "high", "twice", "k", "one"]
abbrev p__law_part : List Str := ["some", "low", "high"]
theorem sc__law_part : FnScope n__law_part p__law_part (defScope s__law_part) := ⟨rfl, rfl, rfl, by decide +kernel, rfl, by decide +kernel, by decide +kernel⟩
abbrev s__law_steps_due : Stmt := topS 49
abbrev n__law_steps_due : List Str := ["thing"]
abbrev p__law_steps_due : List Str := ["thing"]
theorem sc__law_steps_due : FnScope n__law_steps_due p__law_steps_due (defScope s__law_steps_due) := ⟨rfl, rfl, rfl, by decide +kernel, rfl, by decide +kernel, by decide +kernel⟩
abbrev s__law_adds_due : Stmt := topS 50
abbrev n__law_adds_due : List Str := ["thing"]
abbrev p__law_adds_due : List Str := ["thing"]
theorem sc__law_adds_due : FnScope n__law_adds_due p__law_adds_due (defScope s__law_adds_due) := ⟨rfl, rfl, rfl, by decide +kernel, rfl, by decide +kernel, by decide +kernel⟩
abbrev s__law_shape_due : Stmt := topS 51
abbrev n__law_shape_due : List Str := ["thing"]
abbrev p__law_shape_due : List Str := ["thing"]
theorem sc__law_shape_due : FnScope n__law_shape_due p__law_shape_due (defScope s__law_shape_due) := ⟨rfl, rfl, rfl, by decide +kernel, rfl, by decide +kernel, by decide +kernel⟩
abbrev s__law_heard : Stmt := topS 52
abbrev n__law_heard : List Str := ["call", "caught", "e"]
abbrev p__law_heard : List Str := ["call"]
theorem sc__law_heard : FnScope n__law_heard p__law_heard (defScope s__law_heard) := ⟨rfl, rfl, rfl, by decide +kernel, rfl, by decide +kernel, by decide +kernel⟩
abbrev s__law_odd : Stmt := topS 53
abbrev n__law_odd : List Str := ["m", "some"]
abbrev p__law_odd : List Str := ["m"]
theorem sc__law_odd : FnScope n__law_odd p__law_odd (defScope s__law_odd) := ⟨rfl, rfl, rfl, by decide +kernel, rfl, by decide +kernel, by decide +kernel⟩
abbrev s__law_bent : Stmt := topS 54
abbrev n__law_bent : List Str := ["m", "thing", "spot", "way"]
abbrev p__law_bent : List Str := ["m", "thing"]
theorem sc__law_bent : FnScope n__law_bent p__law_bent (defScope s__law_bent) := ⟨rfl, rfl, rfl, by decide +kernel, rfl, by decide +kernel, by decide +kernel⟩
abbrev s__law_right : Stmt := topS 55
abbrev n__law_right : List Str := ["thing", "was", "due", "lap", "heard"]
abbrev p__law_right : List Str := ["thing"]
theorem sc__law_right : FnScope n__law_right p__law_right (defScope s__law_right) := ⟨rfl, rfl, rfl, by decide +kernel, rfl, by decide +kernel, by decide +kernel⟩
abbrev s_law : Stmt := topS 56
abbrev n_law : List Str := ["script", "m", "lap", "thing", "k", "bent", "some", "heard", "odd"]
abbrev p_law : List Str := ["script"]
theorem sc_law : FnScope n_law p_law (defScope s_law) := ⟨rfl, rfl, rfl, by decide +kernel, rfl, by decide +kernel, by decide +kernel⟩
abbrev vWORDS : List V := [(.str "parts"), (.str "half"), (.str "best"), (.str "heap")]
abbrev k_WORDS : List D := [(.str "parts"), (.str "half"), (.str "best"), (.str "heap")]
theorem d_WORDS {K : PySem.W.Frag} {F : Hp} : DdL K F vWORDS k_WORDS := (.cons (.str _) (.cons (.str _) (.cons (.str _) (.cons (.str _) .nil))))
abbrev errNames : List Str := ["BadRule", "BadText", "OutOfPlace", "BadKind"]

section
variable {P : Program} {w : World} {K : PySem.W.Frag} {mg : Str → Option Value} {base : Heap} {GP : GenP}
def u_is_integer : US := (uRet (uAndV (uIsi "int" (uVar 0)) (uNotV (uIsi "bool" (uVar 0)))))
structure W_is_integer (as : List SV) (Q : QD) : Prop where
  h : Wof 1 u_is_integer as Q
theorem lift_is_integer (z : Z mg) (hD : Def K mg "is_integer" s_is_integer p_is_integer) : CalG P w K mg base 1 "is_integer" p_is_integer (spL GP K 1 W_is_integer) := by
  refine CalG.impD (hD.calD sc_is_integer u_is_integer fun f cdv A outer s H E hgd hr => ?_) fun as Q h => h.h
  have hu := hu_of hr
  refine ⟨_, (pss_one (ps_ret (pe_and (pe_callB call_isi (by rfl) z.«isinstance» (by decide +kernel) (pa_cons (pv 0) (pa_cons (pe_bltn (v := .ty "int") (by rfl) z.«int» (by decide +kernel) rfl) pa_nil))) (pe_one (pe_not (pe_callB call_isi (by rfl) z.«isinstance» (by decide +kernel) (pa_cons (pv 0) (pa_cons (pe_bltn (v := .ty "bool") (by rfl) z.«bool» (by decide +kernel) rfl) pa_nil)))))))), ?_⟩
  intro B
  exact (ls_ret (le_and (le_isi (le_var 0)) (le_not (le_isi (le_var 0)))))
def u_is_number : US := (uRet (uAndV (uCall 1 W_is_integer (uCons (uVar 0) uNil)) (uChain (pI0 fun i j => D.bl (decide (i ≤ j))) (pI0 fun i j => D.bl (decide (i ≤ j))) (uVar 1) (uVar 0) (uVar 2))))
structure W_is_number (as : List SV) (Q : QD) : Prop where
  h : Wof 3 u_is_number as Q
theorem lift_is_number (z : Z mg) (c_is_integer : CalG P w K mg base 1 "is_integer" p_is_integer (spL GP K 1 W_is_integer)) (hD : Def K mg "is_number" s_is_number p_is_number) : CalG P w K mg base 2 "is_number" p_is_number (spL GP K 3 W_is_number) := by
  refine CalG.impD (hD.calD sc_is_number u_is_number fun f cdv A outer s H E hgd hr => ?_) fun as Q h => h.h
  have hu := hu_of hr
  refine ⟨_, (pss_one (ps_ret (pe_and (pe_calG c_is_integer hgd (hr.mono (by decide)) (by rfl) (pa_cons (pv 0) pa_nil)) (pe_one (pe_chain op_le op_le (pv 1) (pv 0) (pv 2)))))), ?_⟩
  intro B
  exact (ls_ret (le_and (le_call (la_cons (le_var 0) la_nil)) (le_chain (lr_I0 (g' := fun i j => D.bl (decide (i ≤ j))) fun _ _ => rfl) (lr_I0 (g' := fun i j => D.bl (decide (i ≤ j))) fun _ _ => rfl) (le_var 1) (le_var 0) (le_var 2))))
def u_need_scaled : (EX → Rho → Prop) → US := fun QE => (uSeq (uIfS (uOr (uNot (uTest (uIsi "tuple" (uVar 0)))) (uTest (uOp pNe (uCB pLen (uCons (uVar 0) uNil)) (uC (.int 2))))) (uRaise QE "BadRule" (some "part") (uCons (uC (.str "form")) uNil)) uNext)
    (uSeq (uAsg (uVar 0) (ugTup 2 (ugCons (ugName 1) (ugCons (ugName 2) ugNil))))
    (uSeq (uIfS (uOr (uNot (uTest (uIsi "tuple" (uVar 2)))) (uNot (uTest (uChain (pI0 fun i j => D.bl (decide (i ≤ j))) (pI0 fun i j => D.bl (decide (i ≤ j))) (uC (.int 1)) (uCB pLen (uCons (uVar 2) uNil)) (uC (.int (5))))))) (uRaise QE "BadRule" (some "part") (uCons (uC (.str "form")) uNil)) uNext)
    (uSeq (uIfS (uNot (uTest (uCall 3 W_is_number (uCons (uVar 1) (uCons (uC (.int (2))) (uCons (uC (.int (5))) uNil)))))) (uRaise QE "BadRule" (some "part") (uCons (uC (.str "step")) uNil)) uNext)
    (uSeq (uIfS (uNot (uTest (uCB pAll (uCons (uLc (uiSeq (uVar 2)) (ugName 3) uYes (uCall 3 W_is_number (uCons (uVar 3) (uCons (uC (.int 0)) (uCons (uC (.int (20))) uNil)))) [3]) uNil)))) (uRaise QE "BadRule" (some "part") (uCons (uC (.str "step")) uNil)) uNext)
    (uSeq (uIfS (uTest (uOp (pI0 fun i j => D.bl (decide (i < j))) (uLenSetA (uVar 2)) (uCB pLen (uCons (uVar 2) uNil)))) (uRaise QE "BadRule" (some "part") (uCons (uC (.str "same")) uNil)) uNext)
    (uRet (uVar 0))))))))
structure W_need_scaled (as : List SV) (Q : QD) (QE : QX) : Prop where
  h : WofX 4 u_need_scaled as Q QE
theorem lift_need_scaled (z : Z mg) (v_MOST_ADDS : ∃ t, mg "MOST_ADDS" = some (.int (5) t)) (v_LEAST_SCALE : ∃ t, mg "LEAST_SCALE" = some (.int (2) t)) (v_GREATEST_SCALE : ∃ t, mg "GREATEST_SCALE" = some (.int (5) t)) (v_GREATEST_ADD : ∃ t, mg "GREATEST_ADD" = some (.int (20) t)) (E_BadRule : ∃ C, ErrC P w K mg base "BadRule" C (some "part")) (c_is_number : CalG P w K mg base 2 "is_number" p_is_number (spL GP K 3 W_is_number)) (hD : Def K mg "need_scaled" s_need_scaled p_need_scaled) : CalX P w K mg base 3 "need_scaled" p_need_scaled (spX GP K mg 1 W_need_scaled) := by
  obtain ⟨t_MOST_ADDS, m_MOST_ADDS⟩ := v_MOST_ADDS
  obtain ⟨t_LEAST_SCALE, m_LEAST_SCALE⟩ := v_LEAST_SCALE
  obtain ⟨t_GREATEST_SCALE, m_GREATEST_SCALE⟩ := v_GREATEST_SCALE
  obtain ⟨t_GREATEST_ADD, m_GREATEST_ADD⟩ := v_GREATEST_ADD
  obtain ⟨C_BadRule, T_BadRule⟩ := E_BadRule
  refine CalX.impD (hD.calDX sc_need_scaled u_need_scaled fun f cdv A outer s H E hgd hr => ?_) fun as Q QE h => h.h
  have hu := hu_of hr
  refine ⟨_, (pss_cons (ps_if (PW.pt (pw_or (pt_not (pt_val (pe_callB call_isi (by rfl) z.«isinstance» (by decide +kernel) (pa_cons (pv 0) (pa_cons (pe_bltn (v := .ty "tuple") (by rfl) z.«tuple» (by decide +kernel) rfl) pa_nil))))) (pw_or1 (pt_cmpR op_ne (pe_callB (call_len_seq) (by rfl) z.«len» (by decide +kernel) (pa_cons (pv 0) pa_nil)) pe_int (nomark _))))) (pss_one (ps_raiseE T_BadRule rfl (takes_of (E := E) rfl rfl rfl rfl) (hr.mono (by decide)) (by rfl) (pa_cons pe_str pa_nil))) pss_nil)
    (pss_cons (ps_asg (pv 0) (pg_tup rfl (pgs_cons (pg_name (i := 1) sc_need_scaled.nd rfl (Or.inl rfl)) (pgs_cons (pg_name (i := 2) sc_need_scaled.nd rfl (Or.inl rfl)) pgs_nil))))
    (pss_cons (ps_if (PW.pt (pw_or (pt_not (pt_val (pe_callB call_isi (by rfl) z.«isinstance» (by decide +kernel) (pa_cons (pv 2) (pa_cons (pe_bltn (v := .ty "tuple") (by rfl) z.«tuple» (by decide +kernel) rfl) pa_nil))))) (pw_or1 (pt_not (pt_chain op_le op_le pe_int (pe_callB (call_len_seq) (by rfl) z.«len» (by decide +kernel) (pa_cons (pv 2) pa_nil)) (pe_globI (by rfl) m_MOST_ADDS)))))) (pss_one (ps_raiseE T_BadRule rfl (takes_of (E := E) rfl rfl rfl rfl) (hr.mono (by decide)) (by rfl) (pa_cons pe_str pa_nil))) pss_nil)
    (pss_cons (ps_if (pt_not (pt_val (pe_calG c_is_number hgd (hr.mono (by decide)) (by rfl) (pa_cons (pv 1) (pa_cons (pe_globI (by rfl) m_LEAST_SCALE) (pa_cons (pe_globI (by rfl) m_GREATEST_SCALE) pa_nil)))))) (pss_one (ps_raiseE T_BadRule rfl (takes_of (E := E) rfl rfl rfl rfl) (hr.mono (by decide)) (by rfl) (pa_cons pe_str pa_nil))) pss_nil)
    (pss_cons (ps_if (pt_not (pt_val (pe_callB (cr_all rfl) (by rfl) z.«all» (by decide +kernel) (pa_cons (pe_lc (own := [("add", 3)]) (g := (gName 3)) (tt := tYes) rfl sc_need_scaled.nd (pi_tup (pv 2)) (blkOk_by (N := n_need_scaled) (sc := defScope s_need_scaled) (by decide +kernel)) (fun _ _ _ _ _ => (pg_name (i := 3) sc_need_scaled.nd rfl (Or.inl rfl))) (fun _ _ _ _ _ => pts_nil) (fun _ _ _ _ _ => (pe_calG c_is_number hgd (hr.mono (by decide)) (by rfl) (pa_cons (pv 3) (pa_cons pe_int (pa_cons (pe_globI (by rfl) m_GREATEST_ADD) pa_nil)))))) pa_nil)))) (pss_one (ps_raiseE T_BadRule rfl (takes_of (E := E) rfl rfl rfl rfl) (hr.mono (by decide)) (by rfl) (pa_cons pe_str pa_nil))) pss_nil)
    (pss_cons (ps_if (pt_cmpR op_lt (pe_lenSetA (by rfl) z.«len» (by rfl) z.«set» (pv 2)) (pe_callB (call_len_seq) (by rfl) z.«len» (by decide +kernel) (pa_cons (pv 2) pa_nil)) (nomark _)) (pss_one (ps_raiseE T_BadRule rfl (takes_of (E := E) rfl rfl rfl rfl) (hr.mono (by decide)) (by rfl) (pa_cons pe_str pa_nil))) pss_nil)
    (pss_one (ps_ret (pv 0))))))))), ?_⟩
  intro B QE hW
  exact (ls_seq (ls_if (lt_or (lt_not (lt_B (le_isi (le_var 0)))) (lt_test (le_op lr_ne (le_cb lb_len (la_cons (le_var 0) la_nil)) (le_int _)))) (ls_raise T_BadRule hW (la_cons (le_str _) la_nil)) ls_next)
    (ls_seq (ls_asg (le_var 0) (lg_tup (lgs_cons (lg_name 1) (lgs_cons (lg_name 2) lgs_nil))))
    (ls_seq (ls_if (lt_or (lt_not (lt_B (le_isi (le_var 2)))) (lt_not (lt_test (le_chain (lr_I0 (g' := fun i j => D.bl (decide (i ≤ j))) fun _ _ => rfl) (lr_I0 (g' := fun i j => D.bl (decide (i ≤ j))) fun _ _ => rfl) (le_int _) (le_cb lb_len (la_cons (le_var 2) la_nil)) (le_int _))))) (ls_raise T_BadRule hW (la_cons (le_str _) la_nil)) ls_next)
    (ls_seq (ls_if (lt_not (lt_B (le_call (la_cons (le_var 1) (la_cons (le_int _) (la_cons (le_int _) la_nil)))))) (ls_raise T_BadRule hW (la_cons (le_str _) la_nil)) ls_next)
    (ls_seq (ls_if (lt_not (lt_B (le_cb lb_all (la_cons (le_lc (li_tup (le_var 2)) (lg_name 3) (gw_name (by decide)) lt_yes (le_call (la_cons (le_var 3) (la_cons (le_int _) (la_cons (le_int _) la_nil))))) la_nil)))) (ls_raise T_BadRule hW (la_cons (le_str _) la_nil)) ls_next)
    (ls_seq (ls_if (lt_test (le_op (lr_I0 (g' := fun i j => D.bl (decide (i < j))) fun _ _ => rfl) (le_lenSetA (le_var 2)) (le_cb lb_len (la_cons (le_var 2) la_nil)))) (ls_raise T_BadRule hW (la_cons (le_str _) la_nil)) ls_next)
    (ls_ret (le_var 0))))))))
def u_need_kind : (EX → Rho → Prop) → US := fun QE => (uSeq (uIfS (uOr (uNot (uTest (uIsi "tuple" (uVar 0)))) (uTest (uOp pEq (uCB pLen (uCons (uVar 0) uNil)) (uC (.int 0))))) (uRaise QE "BadKind" (some "part") (uCons (uC (.str "form")) uNil)) uNext)
    (uSeq (uIfS (uOr (uNot (uTest (uIsi "str" (uOp pIxT (uVar 0) (uC (.int 0)))))) (uTest (uOp (pIn true) (uOp pIxT (uVar 0) (uC (.int 0))) (uK (.tup k_WORDS))))) (uRaise QE "BadKind" (some "part") (uCons (uC (.str "form")) uNil)) uNext)
    (uSeq (uIfS (uTest (uOp pEq (uOp pIxT (uVar 0) (uC (.int 0))) (uC (.str "half")))) (uSet 1 (uOp pEq (uCB pLen (uCons (uVar 0) uNil)) (uC (.int 1)))) (uSet 1 (uAndV (uOp pEq (uCB pLen (uCons (uVar 0) uNil)) (uC (.int 2))) (uCall 3 W_is_number (uCons (uOp pIxT (uVar 0) (uC (.int 1))) (uCons (uC (.int (2))) (uCons (uC (.int (8))) uNil)))))))
    (uSeq (uIfS (uNot (uTest (uVar 1))) (uRaise QE "BadKind" (some "part") (uCons (uC (.str "number")) uNil)) uNext)
    (uRet (uVar 0))))))
structure W_need_kind (as : List SV) (Q : QD) (QE : QX) : Prop where
  h : WofX 2 u_need_kind as Q QE
theorem lift_need_kind (z : Z mg) (v_WORDS : ∃ a, mg "WORDS" = some (.ref a) ∧ SqT K (fun _ => none) a vWORDS) (v_LEAST_PARTS : ∃ t, mg "LEAST_PARTS" = some (.int (2) t)) (v_MOST_PARTS : ∃ t, mg "MOST_PARTS" = some (.int (8) t)) (E_BadKind : ∃ C, ErrC P w K mg base "BadKind" C (some "part")) (c_is_number : CalG P w K mg base 2 "is_number" p_is_number (spL GP K 3 W_is_number)) (hD : Def K mg "need_kind" s_need_kind p_need_kind) : CalX P w K mg base 3 "need_kind" p_need_kind (spX GP K mg 1 W_need_kind) := by
  obtain ⟨a_WORDS, m_WORDS, r_WORDS⟩ := v_WORDS
  obtain ⟨t_LEAST_PARTS, m_LEAST_PARTS⟩ := v_LEAST_PARTS
  obtain ⟨t_MOST_PARTS, m_MOST_PARTS⟩ := v_MOST_PARTS
  obtain ⟨C_BadKind, T_BadKind⟩ := E_BadKind
  refine CalX.impD (hD.calDX sc_need_kind u_need_kind fun f cdv A outer s H E hgd hr => ?_) fun as Q QE h => h.h
  have hu := hu_of hr
  refine ⟨_, (pss_cons (ps_if (PW.pt (pw_or (pt_not (pt_val (pe_callB call_isi (by rfl) z.«isinstance» (by decide +kernel) (pa_cons (pv 0) (pa_cons (pe_bltn (v := .ty "tuple") (by rfl) z.«tuple» (by decide +kernel) rfl) pa_nil))))) (pw_or1 (pt_cmpR op_eq (pe_callB (call_len_seq) (by rfl) z.«len» (by decide +kernel) (pa_cons (pv 0) pa_nil)) pe_int (nomark _))))) (pss_one (ps_raiseE T_BadKind rfl (takes_of (E := E) rfl rfl rfl rfl) (hr.mono (by decide)) (by rfl) (pa_cons pe_str pa_nil))) pss_nil)
    (pss_cons (ps_if (PW.pt (pw_or (pt_not (pt_val (pe_callB call_isi (by rfl) z.«isinstance» (by decide +kernel) (pa_cons (pe_ix ix_tup (pv 0) pe_int (fun _ _ => rfl)) (pa_cons (pe_bltn (v := .ty "str") (by rfl) z.«str» (by decide +kernel) rfl) pa_nil))))) (pw_or1 (pt_cmpR op_notIn_seq (pe_ix ix_tup (pv 0) pe_int (fun _ _ => rfl)) (pe_glob (v := .ref _) (by rfl) m_WORDS rfl) (by rfl))))) (pss_one (ps_raiseE T_BadKind rfl (takes_of (E := E) rfl rfl rfl rfl) (hr.mono (by decide)) (by rfl) (pa_cons pe_str pa_nil))) pss_nil)
    (pss_cons (ps_if (pt_cmpR op_eq (pe_ix ix_tup (pv 0) pe_int (fun _ _ => rfl)) pe_str (nomark _)) (pss_one (ps_set (i := 1) sc_need_kind.nd rfl (Or.inl rfl) (pe_cmpR op_eq (pe_callB (call_len_seq) (by rfl) z.«len» (by decide +kernel) (pa_cons (pv 0) pa_nil)) pe_int (nomark _)))) (pss_one (ps_set (i := 1) sc_need_kind.nd rfl (Or.inl rfl) (pe_and (pe_cmpR op_eq (pe_callB (call_len_seq) (by rfl) z.«len» (by decide +kernel) (pa_cons (pv 0) pa_nil)) pe_int (nomark _)) (pe_one (pe_calG c_is_number hgd (hr.mono (by decide)) (by rfl) (pa_cons (pe_ix ix_tup (pv 0) pe_int (fun _ _ => rfl)) (pa_cons (pe_globI (by rfl) m_LEAST_PARTS) (pa_cons (pe_globI (by rfl) m_MOST_PARTS) pa_nil)))))))))
    (pss_cons (ps_if (pt_not (pt_val (pv 1))) (pss_one (ps_raiseE T_BadKind rfl (takes_of (E := E) rfl rfl rfl rfl) (hr.mono (by decide)) (by rfl) (pa_cons pe_str pa_nil))) pss_nil)
    (pss_one (ps_ret (pv 0))))))), ?_⟩
  intro B QE hW
  exact (ls_seq (ls_if (lt_or (lt_not (lt_B (le_isi (le_var 0)))) (lt_test (le_op lr_eq (le_cb lb_len (la_cons (le_var 0) la_nil)) (le_int _)))) (ls_raise T_BadKind hW (la_cons (le_str _) la_nil)) ls_next)
    (ls_seq (ls_if (lt_or (lt_not (lt_B (le_isi (le_op lr_ixT (le_var 0) (le_int _))))) (lt_test (le_op (lr_in (neg := true)) (le_op lr_ixT (le_var 0) (le_int _)) (le_kon r_WORDS d_WORDS)))) (ls_raise T_BadKind hW (la_cons (le_str _) la_nil)) ls_next)
    (ls_seq (ls_if (lt_test (le_op lr_eq (le_op lr_ixT (le_var 0) (le_int _)) (le_str _))) (ls_set (le_op lr_eq (le_cb lb_len (la_cons (le_var 0) la_nil)) (le_int _))) (ls_set (le_and (le_op lr_eq (le_cb lb_len (la_cons (le_var 0) la_nil)) (le_int _)) (le_call (la_cons (le_op lr_ixT (le_var 0) (le_int _)) (la_cons (le_int _) (la_cons (le_int _) la_nil)))))))
    (ls_seq (ls_if (lt_not (lt_B (le_var 1))) (ls_raise T_BadKind hW (la_cons (le_str _) la_nil)) ls_next)
    (ls_ret (le_var 0))))))
def u_need_rule : (EX → Rho → Prop) → US := fun QE => (uSeq (uIfS (uOr (uNot (uTest (uIsi "tuple" (uVar 0)))) (uNot (uTest (uChain (pI0 fun i j => D.bl (decide (i ≤ j))) (pI0 fun i j => D.bl (decide (i ≤ j))) (uC (.int 1)) (uCB pLen (uCons (uVar 0) uNil)) (uC (.int (4))))))) (uRaise QE "BadRule" (some "part") (uCons (uC (.str "form")) uNil)) uNext)
    (uSeq (uIfS (uNot (uTest (uCB pAll (uCons (uLc (uiSeq (uVar 0)) (ugName 1) uYes (uCall 3 W_is_number (uCons (uVar 1) (uCons (uC (.int 1)) (uCons (uC (.int (6))) uNil)))) [1]) uNil)))) (uRaise QE "BadRule" (some "part") (uCons (uC (.str "step")) uNil)) uNext)
    (uSeq (uIfS (uTest (uOp (pI0 fun i j => D.bl (decide (i < j))) (uLenSetA (uVar 0)) (uCB pLen (uCons (uVar 0) uNil)))) (uRaise QE "BadRule" (some "part") (uCons (uC (.str "same")) uNil)) uNext)
    (uRet (uVar 0)))))
structure W_need_rule (as : List SV) (Q : QD) (QE : QX) : Prop where
  h : WofX 2 u_need_rule as Q QE
theorem lift_need_rule (z : Z mg) (v_MOST_STEPS : ∃ t, mg "MOST_STEPS" = some (.int (4) t)) (v_GREATEST_STEP : ∃ t, mg "GREATEST_STEP" = some (.int (6) t)) (E_BadRule : ∃ C, ErrC P w K mg base "BadRule" C (some "part")) (c_is_number : CalG P w K mg base 2 "is_number" p_is_number (spL GP K 3 W_is_number)) (hD : Def K mg "need_rule" s_need_rule p_need_rule) : CalX P w K mg base 3 "need_rule" p_need_rule (spX GP K mg 1 W_need_rule) := by
  obtain ⟨t_MOST_STEPS, m_MOST_STEPS⟩ := v_MOST_STEPS
  obtain ⟨t_GREATEST_STEP, m_GREATEST_STEP⟩ := v_GREATEST_STEP
  obtain ⟨C_BadRule, T_BadRule⟩ := E_BadRule
  refine CalX.impD (hD.calDX sc_need_rule u_need_rule fun f cdv A outer s H E hgd hr => ?_) fun as Q QE h => h.h
  have hu := hu_of hr
  refine ⟨_, (pss_cons (ps_if (PW.pt (pw_or (pt_not (pt_val (pe_callB call_isi (by rfl) z.«isinstance» (by decide +kernel) (pa_cons (pv 0) (pa_cons (pe_bltn (v := .ty "tuple") (by rfl) z.«tuple» (by decide +kernel) rfl) pa_nil))))) (pw_or1 (pt_not (pt_chain op_le op_le pe_int (pe_callB (call_len_seq) (by rfl) z.«len» (by decide +kernel) (pa_cons (pv 0) pa_nil)) (pe_globI (by rfl) m_MOST_STEPS)))))) (pss_one (ps_raiseE T_BadRule rfl (takes_of (E := E) rfl rfl rfl rfl) (hr.mono (by decide)) (by rfl) (pa_cons pe_str pa_nil))) pss_nil)
    (pss_cons (ps_if (pt_not (pt_val (pe_callB (cr_all rfl) (by rfl) z.«all» (by decide +kernel) (pa_cons (pe_lc (own := [("step", 1)]) (g := (gName 1)) (tt := tYes) rfl sc_need_rule.nd (pi_tup (pv 0)) (blkOk_by (N := n_need_rule) (sc := defScope s_need_rule) (by decide +kernel)) (fun _ _ _ _ _ => (pg_name (i := 1) sc_need_rule.nd rfl (Or.inl rfl))) (fun _ _ _ _ _ => pts_nil) (fun _ _ _ _ _ => (pe_calG c_is_number hgd (hr.mono (by decide)) (by rfl) (pa_cons (pv 1) (pa_cons pe_int (pa_cons (pe_globI (by rfl) m_GREATEST_STEP) pa_nil)))))) pa_nil)))) (pss_one (ps_raiseE T_BadRule rfl (takes_of (E := E) rfl rfl rfl rfl) (hr.mono (by decide)) (by rfl) (pa_cons pe_str pa_nil))) pss_nil)
    (pss_cons (ps_if (pt_cmpR op_lt (pe_lenSetA (by rfl) z.«len» (by rfl) z.«set» (pv 0)) (pe_callB (call_len_seq) (by rfl) z.«len» (by decide +kernel) (pa_cons (pv 0) pa_nil)) (nomark _)) (pss_one (ps_raiseE T_BadRule rfl (takes_of (E := E) rfl rfl rfl rfl) (hr.mono (by decide)) (by rfl) (pa_cons pe_str pa_nil))) pss_nil)
    (pss_one (ps_ret (pv 0)))))), ?_⟩
  intro B QE hW
  exact (ls_seq (ls_if (lt_or (lt_not (lt_B (le_isi (le_var 0)))) (lt_not (lt_test (le_chain (lr_I0 (g' := fun i j => D.bl (decide (i ≤ j))) fun _ _ => rfl) (lr_I0 (g' := fun i j => D.bl (decide (i ≤ j))) fun _ _ => rfl) (le_int _) (le_cb lb_len (la_cons (le_var 0) la_nil)) (le_int _))))) (ls_raise T_BadRule hW (la_cons (le_str _) la_nil)) ls_next)
    (ls_seq (ls_if (lt_not (lt_B (le_cb lb_all (la_cons (le_lc (li_tup (le_var 0)) (lg_name 1) (gw_name (by decide)) lt_yes (le_call (la_cons (le_var 1) (la_cons (le_int _) (la_cons (le_int _) la_nil))))) la_nil)))) (ls_raise T_BadRule hW (la_cons (le_str _) la_nil)) ls_next)
    (ls_seq (ls_if (lt_test (le_op (lr_I0 (g' := fun i j => D.bl (decide (i < j))) fun _ _ => rfl) (le_lenSetA (le_var 0)) (le_cb lb_len (la_cons (le_var 0) la_nil)))) (ls_raise T_BadRule hW (la_cons (le_str _) la_nil)) ls_next)
    (ls_ret (le_var 0)))))
def u__is_decimal : US := (uSeq (uIfS (uOr (uTest (uOp (pI0 fun i j => D.bl (decide (j < i))) (uCB pLenS (uCons (uVar 0) uNil)) (uC (.int (31))))) (uOr (uNot (uTest (uM0 (pNo Txt.isascii) (uVar 0)))) (uNot (uTest (uM0 (pNo Txt.isdigit) (uVar 0)))))) (uRet (uC (.bl false))) uNext)
    (uRet (uOrV (uOp pEq (uVar 0) (uC (.str "0"))) (uOp pNe (uOp pIxS (uVar 0) (uC (.int 0))) (uC (.str "0"))))))
structure W__is_decimal (as : List SV) (Q : QD) : Prop where
  h : Wof 1 u__is_decimal as Q
theorem lift__is_decimal (z : Z mg) (v_MOST_FIGURES : ∃ t, mg "MOST_FIGURES" = some (.int (31) t)) (hD : Def K mg "_is_decimal" s__is_decimal p__is_decimal) : CalG P w K mg base 1 "_is_decimal" p__is_decimal (spL GP K 1 W__is_decimal) := by
  obtain ⟨t_MOST_FIGURES, m_MOST_FIGURES⟩ := v_MOST_FIGURES
  refine CalG.impD (hD.calD sc__is_decimal u__is_decimal fun f cdv A outer s H E hgd hr => ?_) fun as Q h => h.h
  have hu := hu_of hr
  refine ⟨_, (pss_cons (ps_if (PW.pt (pw_or (pt_cmpR op_gt (pe_callB (call_len_str) (by rfl) z.«len» (by decide +kernel) (pa_cons (pv 0) pa_nil)) (pe_globI (by rfl) m_MOST_FIGURES) (nomark _)) (pw_or (pt_not (pt_val (pe_m0 PySem.F.slot_str_isascii PySem.F.type_str_isascii mt_isascii (pv 0)))) (pw_or1 (pt_not (pt_val (pe_m0 PySem.F.slot_str_isdigit PySem.F.type_str_isdigit mt_isdigit (pv 0)))))))) (pss_one (ps_ret pe_bl)) pss_nil)
    (pss_one (ps_ret (pe_or (pe_cmpR op_eq (pv 0) pe_str (nomark _)) (pe_one (pe_cmpR op_ne (pe_ix ix_str (pv 0) pe_int (fun _ _ => rfl)) pe_str (nomark _))))))), ?_⟩
  intro B
  exact (ls_seq (ls_if (lt_or (lt_test (le_op (lr_I0 (g' := fun i j => D.bl (decide (j < i))) fun _ _ => rfl) (le_cb lb_lenS (la_cons (le_var 0) la_nil)) (le_int _))) (lt_or (lt_not (lt_B (le_m0 lm_no (le_var 0)))) (lt_not (lt_B (le_m0 lm_no (le_var 0)))))) (ls_ret (le_bl _)) ls_next)
    (ls_ret (le_or (le_op lr_eq (le_var 0) (le_str _)) (le_op lr_ne (le_op lr_ixS (le_var 0) (le_int _)) (le_str _)))))
def u_numbers_of : US := (uSeq (uIfS (uNot (uTest (uCB pAll (uCons (uLc (uiLst (uVar 0)) (ugName 1) uYes (uCall 1 W__is_decimal (uCons (uVar 1) uNil)) [1]) uNil)))) (uRet (uC .non)) uNext)
    (uRet (uCB pTupOf (uCons (uLc (uiLst (uVar 0)) (ugName 1) uYes (uCB pIntS (uCons (uVar 1) uNil)) [1]) uNil))))
structure W_numbers_of (as : List SV) (Q : QD) : Prop where
  h : Wof 2 u_numbers_of as Q
theorem lift_numbers_of (z : Z mg) (c__is_decimal : CalG P w K mg base 1 "_is_decimal" p__is_decimal (spL GP K 1 W__is_decimal)) (hD : Def K mg "numbers_of" s_numbers_of p_numbers_of) : CalG P w K mg base 2 "numbers_of" p_numbers_of (spL GP K 1 W_numbers_of) := by
  refine CalG.impD (hD.calD sc_numbers_of u_numbers_of fun f cdv A outer s H E hgd hr => ?_) fun as Q h => h.h
  have hu := hu_of hr
  refine ⟨_, (pss_cons (ps_if (pt_not (pt_val (pe_callB (cr_all rfl) (by rfl) z.«all» (by decide +kernel) (pa_cons (pe_lc (own := [("word", 1)]) (g := (gName 1)) (tt := tYes) rfl sc_numbers_of.nd (pi_list (pv 0)) (blkOk_by (N := n_numbers_of) (sc := defScope s_numbers_of) (by decide +kernel)) (fun _ _ _ _ _ => (pg_name (i := 1) sc_numbers_of.nd rfl (Or.inl rfl))) (fun _ _ _ _ _ => pts_nil) (fun _ _ _ _ _ => (pe_calG c__is_decimal hgd (hr.mono (by decide)) (by rfl) (pa_cons (pv 1) pa_nil)))) pa_nil)))) (pss_one (ps_ret pe_non)) pss_nil)
    (pss_one (ps_ret (pe_callTy (call_tuple_of) (by rfl) z.«tuple» (by decide +kernel) (pa_cons (pe_lc (own := [("word", 1)]) (g := (gName 1)) (tt := tYes) rfl sc_numbers_of.nd (pi_list (pv 0)) (blkOk_by (N := n_numbers_of) (sc := defScope s_numbers_of) (by decide +kernel)) (fun _ _ _ _ _ => (pg_name (i := 1) sc_numbers_of.nd rfl (Or.inl rfl))) (fun _ _ _ _ _ => pts_nil) (fun _ _ _ _ _ => (pe_callTy (call_int_str) (by rfl) z.«int» (by decide +kernel) (pa_cons (pv 1) pa_nil)))) pa_nil))))), ?_⟩
  intro B
  exact (ls_seq (ls_if (lt_not (lt_B (le_cb lb_all (la_cons (le_lc (li_list (le_var 0)) (lg_name 1) (gw_name (by decide)) lt_yes (le_call (la_cons (le_var 1) la_nil))) la_nil)))) (ls_ret le_non) ls_next)
    (ls_ret (le_cb lb_tupOf (la_cons (le_lc (li_list (le_var 0)) (lg_name 1) (gw_name (by decide)) lt_yes (le_cb lb_intS (la_cons (le_var 1) la_nil))) la_nil))))
def u__row_of : US := (uRet (uM1 pJoin (uC (.str " ")) (uLc (uiSeq (uVar 0)) (ugName 1) uYes (uCB pStr (uCons (uVar 1) uNil)) [1])))
structure W__row_of (as : List SV) (Q : QD) : Prop where
  h : Wof 2 u__row_of as Q
theorem lift__row_of (z : Z mg) (hD : Def K mg "_row_of" s__row_of p__row_of) : CalG P w K mg base 1 "_row_of" p__row_of (spL GP K 1 W__row_of) := by
  refine CalG.impD (hD.calD sc__row_of u__row_of fun f cdv A outer s H E hgd hr => ?_) fun as Q h => h.h
  have hu := hu_of hr
  refine ⟨_, (pss_one (ps_ret (pe_join pe_str (pe_lc (own := [("thing", 1)]) (g := (gName 1)) (tt := tYes) rfl sc__row_of.nd (pi_tup (pv 0)) (blkOk_by (N := n__row_of) (sc := defScope s__row_of) (by decide +kernel)) (fun _ _ _ _ _ => (pg_name (i := 1) sc__row_of.nd rfl (Or.inl rfl))) (fun _ _ _ _ _ => pts_nil) (fun _ _ _ _ _ => (pe_callTy (call_strU) (by rfl) z.«str» (by decide +kernel) (pa_cons (pv 1) pa_nil))))))), ?_⟩
  intro B
  exact (ls_ret (le_m1 lm_join (le_str _) (le_lc (li_tup (le_var 0)) (lg_name 1) (gw_name (by decide)) lt_yes (le_cb lb_str (la_cons (le_var 1) la_nil)))))
def u_rule_text : (EX → Rho → Prop) → US := fun QE => (uSeq (uDrop (uCallX 1 W_need_rule QE (uCons (uVar 0) uNil)))
    (uRet (uCall 1 W__row_of (uCons (uVar 0) uNil))))
structure W_rule_text (as : List SV) (Q : QD) (QE : QX) : Prop where
  h : WofX 1 u_rule_text as Q QE
theorem lift_rule_text (z : Z mg) (c_need_rule : CalX P w K mg base 3 "need_rule" p_need_rule (spX GP K mg 1 W_need_rule)) (c__row_of : CalG P w K mg base 1 "_row_of" p__row_of (spL GP K 1 W__row_of)) (hD : Def K mg "rule_text" s_rule_text p_rule_text) : CalX P w K mg base 4 "rule_text" p_rule_text (spX GP K mg 1 W_rule_text) := by
  refine CalX.impD (hD.calDX sc_rule_text u_rule_text fun f cdv A outer s H E hgd hr => ?_) fun as Q QE h => h.h
  have hu := hu_of hr
  refine ⟨_, (pss_cons (ps_expr (pe_calX c_need_rule hgd (hr.mono (by decide)) (fun σ => passAt (takes_of (E := E) rfl rfl rfl rfl) σ) (by rfl) (pa_cons (pv 0) pa_nil)))
    (pss_one (ps_ret (pe_calG c__row_of hgd (hr.mono (by decide)) (by rfl) (pa_cons (pv 0) pa_nil))))), ?_⟩
  intro B QE hW
  exact (ls_seq (ls_drop (le_callX hW (la_cons (le_var 0) la_nil)))
    (ls_ret (le_call (la_cons (le_var 0) la_nil))))
def u_scaled_text : (EX → Rho → Prop) → US := fun QE => (uSeq (uDrop (uCallX 1 W_need_scaled QE (uCons (uVar 0) uNil)))
    (uSeq (uAsg (uVar 0) (ugTup 2 (ugCons (ugName 1) (ugCons (ugName 2) ugNil))))
    (uRet (uOp pAddS (uOp pAddS (uCB pStr (uCons (uVar 1) uNil)) (uC (.str ":"))) (uCall 1 W__row_of (uCons (uVar 2) uNil))))))
structure W_scaled_text (as : List SV) (Q : QD) (QE : QX) : Prop where
  h : WofX 3 u_scaled_text as Q QE
theorem lift_scaled_text (z : Z mg) (c_need_scaled : CalX P w K mg base 3 "need_scaled" p_need_scaled (spX GP K mg 1 W_need_scaled)) (c__row_of : CalG P w K mg base 1 "_row_of" p__row_of (spL GP K 1 W__row_of)) (hD : Def K mg "scaled_text" s_scaled_text p_scaled_text) : CalX P w K mg base 4 "scaled_text" p_scaled_text (spX GP K mg 1 W_scaled_text) := by
  refine CalX.impD (hD.calDX sc_scaled_text u_scaled_text fun f cdv A outer s H E hgd hr => ?_) fun as Q QE h => h.h
  have hu := hu_of hr
  refine ⟨_, (pss_cons (ps_expr (pe_calX c_need_scaled hgd (hr.mono (by decide)) (fun σ => passAt (takes_of (E := E) rfl rfl rfl rfl) σ) (by rfl) (pa_cons (pv 0) pa_nil)))
    (pss_cons (ps_asg (pv 0) (pg_tup rfl (pgs_cons (pg_name (i := 1) sc_scaled_text.nd rfl (Or.inl rfl)) (pgs_cons (pg_name (i := 2) sc_scaled_text.nd rfl (Or.inl rfl)) pgs_nil))))
    (pss_one (ps_ret (pe_op op_add_str (pe_op op_add_str (pe_callTy (call_strU) (by rfl) z.«str» (by decide +kernel) (pa_cons (pv 1) pa_nil)) pe_str) (pe_calG c__row_of hgd (hr.mono (by decide)) (by rfl) (pa_cons (pv 2) pa_nil))))))), ?_⟩
  intro B QE hW
  exact (ls_seq (ls_drop (le_callX hW (la_cons (le_var 0) la_nil)))
    (ls_seq (ls_asg (le_var 0) (lg_tup (lgs_cons (lg_name 1) (lgs_cons (lg_name 2) lgs_nil))))
    (ls_ret (le_op lr_addS (le_op lr_addS (le_cb lb_str (la_cons (le_var 1) la_nil)) (le_str _)) (le_call (la_cons (le_var 2) la_nil))))))
def u_kind_text : (EX → Rho → Prop) → US := fun QE => (uSeq (uDrop (uCallX 1 W_need_kind QE (uCons (uVar 0) uNil)))
    (uRet (uCall 1 W__row_of (uCons (uVar 0) uNil))))
structure W_kind_text (as : List SV) (Q : QD) (QE : QX) : Prop where
  h : WofX 1 u_kind_text as Q QE
theorem lift_kind_text (z : Z mg) (c_need_kind : CalX P w K mg base 3 "need_kind" p_need_kind (spX GP K mg 1 W_need_kind)) (c__row_of : CalG P w K mg base 1 "_row_of" p__row_of (spL GP K 1 W__row_of)) (hD : Def K mg "kind_text" s_kind_text p_kind_text) : CalX P w K mg base 4 "kind_text" p_kind_text (spX GP K mg 1 W_kind_text) := by
  refine CalX.impD (hD.calDX sc_kind_text u_kind_text fun f cdv A outer s H E hgd hr => ?_) fun as Q QE h => h.h
  have hu := hu_of hr
  refine ⟨_, (pss_cons (ps_expr (pe_calX c_need_kind hgd (hr.mono (by decide)) (fun σ => passAt (takes_of (E := E) rfl rfl rfl rfl) σ) (by rfl) (pa_cons (pv 0) pa_nil)))
    (pss_one (ps_ret (pe_calG c__row_of hgd (hr.mono (by decide)) (by rfl) (pa_cons (pv 0) pa_nil))))), ?_⟩
  intro B QE hW
  exact (ls_seq (ls_drop (le_callX hW (la_cons (le_var 0) la_nil)))
    (ls_ret (le_call (la_cons (le_var 0) la_nil))))
def u__rule_of : US := (uTry errNames noX (fun QE => (uRet (uCallX 1 W_need_rule QE (uCons (uCall 1 W_numbers_of (uCons (uM1 pSplit (uVar 0) (uC (.str " "))) uNil)) uNil)))) (("BadRule", (fun _ => (uRet (uC .non)))) :: []))
structure W__rule_of (as : List SV) (Q : QD) : Prop where
  h : Wof 1 u__rule_of as Q
theorem lift__rule_of (z : Z mg) (eT : ErrT K mg errNames) (E_BadRule : ∃ C, ErrC P w K mg base "BadRule" C (some "part")) (c_need_rule : CalX P w K mg base 3 "need_rule" p_need_rule (spX GP K mg 1 W_need_rule)) (c_numbers_of : CalG P w K mg base 2 "numbers_of" p_numbers_of (spL GP K 1 W_numbers_of)) (hD : Def K mg "_rule_of" s__rule_of p__rule_of) : CalG P w K mg base 4 "_rule_of" p__rule_of (spL GP K 1 W__rule_of) := by
  obtain ⟨C_BadRule, T_BadRule⟩ := E_BadRule
  refine CalG.impD (hD.calD sc__rule_of u__rule_of fun f cdv A outer s H E hgd hr => ?_) fun as Q h => h.h
  have hu := hu_of hr
  refine ⟨_, (pss_one (ps_tryM rfl rfl takes0 (fun W pn xe tk po => (pss_one (ps_ret (pe_calX c_need_rule hgd (hr.mono (by decide)) (fun σ => passAt tk σ) (by rfl) (pa_cons (pe_calG c_numbers_of hgd (hr.mono (by decide)) (by rfl) (pa_cons (pe_split (pv 0) pe_str) pa_nil)) pa_nil))))) (.cons ⟨by rfl, by decide, Or.inl T_BadRule.m⟩ (fun a oe cls d pn hz hf => (pss_one (ps_ret pe_non))) .nil))), ?_⟩
  intro B
  exact (ls_try (Wout := fun _ _ _ _ => False) eT wok_no (fun B W QE hW => (ls_ret (le_callX hW (la_cons (le_call (la_cons (le_m1 lm_split (le_var 0) (le_str _)) la_nil)) la_nil)))) (.cons T_BadRule.m (by decide) (lsu_plain (ls_ret le_non)) .nil))
def u__scaled_of : US := (uSeq (uAsg (uM1 pPartition (uVar 0) (uC (.str ":"))) (ugTup 3 (ugCons (ugName 1) (ugCons (ugName 2) (ugCons (ugName 3) ugNil)))))
    (uSeq (uSet 4 (uCall 1 W_numbers_of (uCons (uLst (uCons (uVar 1) uNil)) uNil)))
    (uSeq (uIfS (uTest (uOp pIsN (uVar 4) (uC .non))) (uRet (uC .non)) uNext)
    (uTry errNames noX (fun QE => (uRet (uCallX 1 W_need_scaled QE (uCons (uOpT (fun x y Q => match x, y with | .tup a, .tup b => a.length + b.length ≤ sizeLine ∧ Q (.tup (a ++ b)) | _, _ => False) (uVar 4) (uTup (uCons (uCall 1 W_numbers_of (uCons (uM1 pSplit (uVar 3) (uC (.str " "))) uNil)) uNil))) uNil)))) (("BadRule", (fun _ => (uRet (uC .non)))) :: [])))))
structure W__scaled_of (as : List SV) (Q : QD) : Prop where
  h : Wof 5 u__scaled_of as Q
theorem lift__scaled_of (z : Z mg) (eT : ErrT K mg errNames) (E_BadRule : ∃ C, ErrC P w K mg base "BadRule" C (some "part")) (c_numbers_of : CalG P w K mg base 2 "numbers_of" p_numbers_of (spL GP K 1 W_numbers_of)) (c_need_scaled : CalX P w K mg base 3 "need_scaled" p_need_scaled (spX GP K mg 1 W_need_scaled)) (hD : Def K mg "_scaled_of" s__scaled_of p__scaled_of) : CalG P w K mg base 4 "_scaled_of" p__scaled_of (spL GP K 1 W__scaled_of) := by
  obtain ⟨C_BadRule, T_BadRule⟩ := E_BadRule
  refine CalG.impD (hD.calD sc__scaled_of u__scaled_of fun f cdv A outer s H E hgd hr => ?_) fun as Q h => h.h
  have hu := hu_of hr
  refine ⟨_, (pss_cons (ps_asg (pe_partition (pv 0) pe_str) (pg_tup rfl (pgs_cons (pg_name (i := 1) sc__scaled_of.nd rfl (Or.inl rfl)) (pgs_cons (pg_name (i := 2) sc__scaled_of.nd rfl (Or.inl rfl)) (pgs_cons (pg_name (i := 3) sc__scaled_of.nd rfl (Or.inl rfl)) pgs_nil)))))
    (pss_cons (ps_set (i := 4) sc__scaled_of.nd rfl (Or.inl rfl) (pe_calG c_numbers_of hgd (hr.mono (by decide)) (by rfl) (pa_cons (pe_lst (pa_cons (pv 1) pa_nil)) pa_nil)))
    (pss_cons (ps_if (pt_cmpR op_isN (pv 4) pe_non (nomark _)) (pss_one (ps_ret pe_non)) pss_nil)
    (pss_one (ps_tryM rfl rfl takes0 (fun W pn xe tk po => (pss_one (ps_ret (pe_calX c_need_scaled hgd (hr.mono (by decide)) (fun σ => passAt tk σ) (by rfl) (pa_cons (pe_op ((op_catAK (K := K) rfl)) (pv 4) (pe_tup (pa_cons (pe_calG c_numbers_of hgd (hr.mono (by decide)) (by rfl) (pa_cons (pe_split (pv 3) pe_str) pa_nil)) pa_nil))) pa_nil))))) (.cons ⟨by rfl, by decide, Or.inl T_BadRule.m⟩ (fun a oe cls d pn hz hf => (pss_one (ps_ret pe_non))) .nil)))))), ?_⟩
  intro B
  exact (ls_seq (ls_asg (le_m1 lm_partition (le_var 0) (le_str _)) (lg_tup (lgs_cons (lg_name 1) (lgs_cons (lg_name 2) (lgs_cons (lg_name 3) lgs_nil)))))
    (ls_seq (ls_set (le_call (la_cons (le_lst (la_cons (le_var 1) la_nil)) la_nil)))
    (ls_seq (ls_if (lt_test (le_op lr_isN (le_var 4) le_non)) (ls_ret le_non) ls_next)
    (ls_try (Wout := fun _ _ _ _ => False) eT wok_no (fun B W QE hW => (ls_ret (le_callX hW (la_cons (le_catT (le_var 4) (le_tup (la_cons (le_call (la_cons (le_m1 lm_split (le_var 3) (le_str _)) la_nil)) la_nil))) la_nil)))) (.cons T_BadRule.m (by decide) (lsu_plain (ls_ret le_non)) .nil)))))
def u__kind_of : US := (uSeq (uSet 1 (uM1 pSplit (uVar 0) (uC (.str " "))))
    (uSeq (uSet 2 (uCall 1 W_numbers_of (uCons (uSl pSlL (uVar 1) (uPart (uC (.int 1))) uNoPart) uNil)))
    (uSeq (uIfS (uTest (uOp pIsN (uVar 2) (uC .non))) (uRet (uC .non)) uNext)
    (uTry errNames noX (fun QE => (uRet (uCallX 1 W_need_kind QE (uCons (uOpT (fun x y Q => match x, y with | .tup a, .tup b => a.length + b.length ≤ sizeLine ∧ Q (.tup (a ++ b)) | _, _ => False) (uTup (uCons (uOp pIxL (uVar 1) (uC (.int 0))) uNil)) (uVar 2)) uNil)))) (("BadKind", (fun _ => (uRet (uC .non)))) :: [])))))
structure W__kind_of (as : List SV) (Q : QD) : Prop where
  h : Wof 3 u__kind_of as Q
theorem lift__kind_of (z : Z mg) (eT : ErrT K mg errNames) (E_BadKind : ∃ C, ErrC P w K mg base "BadKind" C (some "part")) (c_numbers_of : CalG P w K mg base 2 "numbers_of" p_numbers_of (spL GP K 1 W_numbers_of)) (c_need_kind : CalX P w K mg base 3 "need_kind" p_need_kind (spX GP K mg 1 W_need_kind)) (hD : Def K mg "_kind_of" s__kind_of p__kind_of) : CalG P w K mg base 4 "_kind_of" p__kind_of (spL GP K 1 W__kind_of) := by
  obtain ⟨C_BadKind, T_BadKind⟩ := E_BadKind
  refine CalG.impD (hD.calD sc__kind_of u__kind_of fun f cdv A outer s H E hgd hr => ?_) fun as Q h => h.h
  have hu := hu_of hr
  refine ⟨_, (pss_cons (ps_set (i := 1) sc__kind_of.nd rfl (Or.inl rfl) (pe_split (pv 0) pe_str))
    (pss_cons (ps_set (i := 2) sc__kind_of.nd rfl (Or.inl rfl) (pe_calG c_numbers_of hgd (hr.mono (by decide)) (by rfl) (pa_cons (pe_slice sl_list (pv 1) (po_some pe_int) po_none) pa_nil)))
    (pss_cons (ps_if (pt_cmpR op_isN (pv 2) pe_non (nomark _)) (pss_one (ps_ret pe_non)) pss_nil)
    (pss_one (ps_tryM rfl rfl takes0 (fun W pn xe tk po => (pss_one (ps_ret (pe_calX c_need_kind hgd (hr.mono (by decide)) (fun σ => passAt tk σ) (by rfl) (pa_cons (pe_op ((op_catAK (K := K) rfl)) (pe_tup (pa_cons (pe_ix (ix_listK (K := K) rfl) (pv 1) pe_int (fun _ _ => rfl)) pa_nil)) (pv 2)) pa_nil))))) (.cons ⟨by rfl, by decide, Or.inl T_BadKind.m⟩ (fun a oe cls d pn hz hf => (pss_one (ps_ret pe_non))) .nil)))))), ?_⟩
  intro B
  exact (ls_seq (ls_set (le_m1 lm_split (le_var 0) (le_str _)))
    (ls_seq (ls_set (le_call (la_cons (le_sl lsl_L (le_var 1) (lo_some (le_int _)) lo_none) la_nil)))
    (ls_seq (ls_if (lt_test (le_op lr_isN (le_var 2) le_non)) (ls_ret le_non) ls_next)
    (ls_try (Wout := fun _ _ _ _ => False) eT wok_no (fun B W QE hW => (ls_ret (le_callX hW (la_cons (le_catT (le_tup (la_cons (le_op lr_ixL (le_var 1) (le_int _)) la_nil)) (le_var 2)) la_nil)))) (.cons T_BadKind.m (by decide) (lsu_plain (ls_ret le_non)) .nil)))))
def u__read_rule (f__rule_of : Addr) : (EX → Rho → Prop) → US := fun QE => (uSeq (uIfS (uNot (uTest (uIsi "str" (uVar 0)))) (uRaise QE "BadText" (some "line") (uCons (uC (.int 0)) uNil)) uNext)
    (uSeq (uSet 2 (uM1 pSplit (uVar 0) (uC (.str "\n"))))
    (uSeq (uSet 3 (uCallV 1 f__rule_of 1 W__rule_of (uCons (uOp pIxL (uVar 2) (uC (.int 0))) uNil)))
    (uSeq (uIfS (uTest (uOp pIsN (uVar 3) (uC .non))) (uRaise QE "BadText" (some "line") (uCons (uC (.int 1)) uNil)) uNext)
    (uSeq (uIfS (uTest (uOp (pI0 fun i j => D.bl (decide (j < i))) (uCB pLen (uCons (uVar 2) uNil)) (uC (.int 1)))) (uRaise QE "BadText" (some "line") (uCons (uC (.int 2)) uNil)) uNext)
    (uRet (uVar 3)))))))
structure W__read_rule (f__rule_of : Addr) (as : List SV) (Q : QD) (QE : QX) : Prop where
  h : WofX 4 (u__read_rule f__rule_of) as Q QE
theorem lift__read_rule (z : Z mg) (E_BadText : ∃ C, ErrC P w K mg base "BadText" C (some "line")) {f__rule_of : Addr} {fd__rule_of : FuncData} (G__rule_of : GOk P w K mg base 4 f__rule_of fd__rule_of p__rule_of (spL GP K 1 W__rule_of)) (k__rule_of : PySem.W.keepIn K (.ref f__rule_of) = true) (b__rule_of : Binds K fd__rule_of p__rule_of []) (hD : Def K mg "_read" s__read p__read) : CalX P w K mg base 5 "_read" p__read (spX GP K mg 2 (W__read_rule f__rule_of)) := by
  obtain ⟨C_BadText, T_BadText⟩ := E_BadText
  refine CalX.impD (hD.calDX sc__read (u__read_rule f__rule_of) fun f cdv A outer s H E hgd hr => ?_) fun as Q QE h => h.h
  have hu := hu_of hr
  refine ⟨_, (pss_cons (ps_if (pt_not (pt_val (pe_callB call_isi (by rfl) z.«isinstance» (by decide +kernel) (pa_cons (pv 0) (pa_cons (pe_bltn (v := .ty "str") (by rfl) z.«str» (by decide +kernel) rfl) pa_nil))))) (pss_one (ps_raiseE T_BadText rfl (takes_of (E := E) rfl rfl rfl rfl) (hr.mono (by decide)) (by rfl) (pa_cons pe_int pa_nil))) pss_nil)
    (pss_cons (ps_set (i := 2) sc__read.nd rfl (Or.inl rfl) (pe_split (pv 0) pe_str))
    (pss_cons (ps_set (i := 3) sc__read.nd rfl (Or.inl rfl) (pe_callLG (i := 1) G__rule_of k__rule_of b__rule_of hgd (hr.mono (by decide)) rfl (Or.inl rfl) (pa_cons (pe_ix ix_list (pv 2) pe_int (fun _ _ => rfl)) pa_nil)))
    (pss_cons (ps_if (pt_cmpR op_isN (pv 3) pe_non (nomark _)) (pss_one (ps_raiseE T_BadText rfl (takes_of (E := E) rfl rfl rfl rfl) (hr.mono (by decide)) (by rfl) (pa_cons pe_int pa_nil))) pss_nil)
    (pss_cons (ps_if (pt_cmpR op_gt (pe_callB (call_len_seq) (by rfl) z.«len» (by decide +kernel) (pa_cons (pv 2) pa_nil)) pe_int (nomark _)) (pss_one (ps_raiseE T_BadText rfl (takes_of (E := E) rfl rfl rfl rfl) (hr.mono (by decide)) (by rfl) (pa_cons pe_int pa_nil))) pss_nil)
    (pss_one (ps_ret (pv 3)))))))), ?_⟩
  intro B QE hW
  exact (ls_seq (ls_if (lt_not (lt_B (le_isi (le_var 0)))) (ls_raise T_BadText hW (la_cons (le_int _) la_nil)) ls_next)
    (ls_seq (ls_set (le_m1 lm_split (le_var 0) (le_str _)))
    (ls_seq (ls_set (le_callV (la_cons (le_op lr_ixL (le_var 2) (le_int _)) la_nil)))
    (ls_seq (ls_if (lt_test (le_op lr_isN (le_var 3) le_non)) (ls_raise T_BadText hW (la_cons (le_int _) la_nil)) ls_next)
    (ls_seq (ls_if (lt_test (le_op (lr_I0 (g' := fun i j => D.bl (decide (j < i))) fun _ _ => rfl) (le_cb lb_len (la_cons (le_var 2) la_nil)) (le_int _))) (ls_raise T_BadText hW (la_cons (le_int _) la_nil)) ls_next)
    (ls_ret (le_var 3)))))))
def u_read_rule (f__rule_of : Addr) : (EX → Rho → Prop) → US := fun QE => (uRet (uCallX 2 (W__read_rule f__rule_of) QE (uCons (uVar 0) (uCons (uC (.fn f__rule_of)) uNil))))
structure W_read_rule (as : List SV) (Q : QD) (QE : QX) : Prop where
  h : ∀ f__rule_of, WofX 1 (u_read_rule f__rule_of) as Q QE
theorem lift_read_rule (z : Z mg) (c__rule_of : CalG P w K mg base 4 "_rule_of" p__rule_of (spL GP K 1 W__rule_of)) (c__read_rule : ∀ (f : Addr) (fd : FuncData), GOk P w K mg base 4 f fd p__rule_of (spL GP K 1 W__rule_of) → PySem.W.keepIn K (.ref f) = true → Binds K fd p__rule_of [] → CalX P w K mg base 5 "_read" p__read (spX GP K mg 2 (W__read_rule f))) (hD : Def K mg "read_rule" s_read_rule p_read_rule) : CalX P w K mg base 6 "read_rule" p_read_rule (spX GP K mg 1 (W_read_rule)) := by
  obtain ⟨f__rule_of, fd__rule_of, G__rule_of, m__rule_of, k__rule_of, b__rule_of⟩ := c__rule_of
  have c__read := c__read_rule f__rule_of fd__rule_of G__rule_of k__rule_of b__rule_of
  refine CalX.impD (hD.calDX sc_read_rule (u_read_rule f__rule_of) fun f cdv A outer s H E hgd hr => ?_) fun as Q QE h => h.h f__rule_of
  have hu := hu_of hr
  refine ⟨_, (pss_one (ps_ret (pe_calX c__read hgd (hr.mono (by decide)) (fun σ => passAt (takes_of (E := E) rfl rfl rfl rfl) σ) (by rfl) (pa_cons (pv 0) (pa_cons (pe_glob (v := .ref _) (by rfl) m__rule_of rfl) pa_nil))))), ?_⟩
  intro B QE hW
  exact (ls_ret (le_callX hW (la_cons (le_var 0) (la_cons le_fn la_nil))))
def u__read_scaled (f__scaled_of : Addr) : (EX → Rho → Prop) → US := fun QE => (uSeq (uIfS (uNot (uTest (uIsi "str" (uVar 0)))) (uRaise QE "BadText" (some "line") (uCons (uC (.int 0)) uNil)) uNext)
    (uSeq (uSet 2 (uM1 pSplit (uVar 0) (uC (.str "\n"))))
    (uSeq (uSet 3 (uCallV 1 f__scaled_of 1 W__scaled_of (uCons (uOp pIxL (uVar 2) (uC (.int 0))) uNil)))
    (uSeq (uIfS (uTest (uOp pIsN (uVar 3) (uC .non))) (uRaise QE "BadText" (some "line") (uCons (uC (.int 1)) uNil)) uNext)
    (uSeq (uIfS (uTest (uOp (pI0 fun i j => D.bl (decide (j < i))) (uCB pLen (uCons (uVar 2) uNil)) (uC (.int 1)))) (uRaise QE "BadText" (some "line") (uCons (uC (.int 2)) uNil)) uNext)
    (uRet (uVar 3)))))))
structure W__read_scaled (f__scaled_of : Addr) (as : List SV) (Q : QD) (QE : QX) : Prop where
  h : WofX 4 (u__read_scaled f__scaled_of) as Q QE
theorem lift__read_scaled (z : Z mg) (E_BadText : ∃ C, ErrC P w K mg base "BadText" C (some "line")) {f__scaled_of : Addr} {fd__scaled_of : FuncData} (G__scaled_of : GOk P w K mg base 4 f__scaled_of fd__scaled_of p__scaled_of (spL GP K 1 W__scaled_of)) (k__scaled_of : PySem.W.keepIn K (.ref f__scaled_of) = true) (b__scaled_of : Binds K fd__scaled_of p__scaled_of []) (hD : Def K mg "_read" s__read p__read) : CalX P w K mg base 5 "_read" p__read (spX GP K mg 2 (W__read_scaled f__scaled_of)) := by
  obtain ⟨C_BadText, T_BadText⟩ := E_BadText
  refine CalX.impD (hD.calDX sc__read (u__read_scaled f__scaled_of) fun f cdv A outer s H E hgd hr => ?_) fun as Q QE h => h.h
  have hu := hu_of hr
  refine ⟨_, (pss_cons (ps_if (pt_not (pt_val (pe_callB call_isi (by rfl) z.«isinstance» (by decide +kernel) (pa_cons (pv 0) (pa_cons (pe_bltn (v := .ty "str") (by rfl) z.«str» (by decide +kernel) rfl) pa_nil))))) (pss_one (ps_raiseE T_BadText rfl (takes_of (E := E) rfl rfl rfl rfl) (hr.mono (by decide)) (by rfl) (pa_cons pe_int pa_nil))) pss_nil)
    (pss_cons (ps_set (i := 2) sc__read.nd rfl (Or.inl rfl) (pe_split (pv 0) pe_str))
    (pss_cons (ps_set (i := 3) sc__read.nd rfl (Or.inl rfl) (pe_callLG (i := 1) G__scaled_of k__scaled_of b__scaled_of hgd (hr.mono (by decide)) rfl (Or.inl rfl) (pa_cons (pe_ix ix_list (pv 2) pe_int (fun _ _ => rfl)) pa_nil)))
    (pss_cons (ps_if (pt_cmpR op_isN (pv 3) pe_non (nomark _)) (pss_one (ps_raiseE T_BadText rfl (takes_of (E := E) rfl rfl rfl rfl) (hr.mono (by decide)) (by rfl) (pa_cons pe_int pa_nil))) pss_nil)
    (pss_cons (ps_if (pt_cmpR op_gt (pe_callB (call_len_seq) (by rfl) z.«len» (by decide +kernel) (pa_cons (pv 2) pa_nil)) pe_int (nomark _)) (pss_one (ps_raiseE T_BadText rfl (takes_of (E := E) rfl rfl rfl rfl) (hr.mono (by decide)) (by rfl) (pa_cons pe_int pa_nil))) pss_nil)
    (pss_one (ps_ret (pv 3)))))))), ?_⟩
  intro B QE hW
  exact (ls_seq (ls_if (lt_not (lt_B (le_isi (le_var 0)))) (ls_raise T_BadText hW (la_cons (le_int _) la_nil)) ls_next)
    (ls_seq (ls_set (le_m1 lm_split (le_var 0) (le_str _)))
    (ls_seq (ls_set (le_callV (la_cons (le_op lr_ixL (le_var 2) (le_int _)) la_nil)))
    (ls_seq (ls_if (lt_test (le_op lr_isN (le_var 3) le_non)) (ls_raise T_BadText hW (la_cons (le_int _) la_nil)) ls_next)
    (ls_seq (ls_if (lt_test (le_op (lr_I0 (g' := fun i j => D.bl (decide (j < i))) fun _ _ => rfl) (le_cb lb_len (la_cons (le_var 2) la_nil)) (le_int _))) (ls_raise T_BadText hW (la_cons (le_int _) la_nil)) ls_next)
    (ls_ret (le_var 3)))))))
def u_read_scaled (f__scaled_of : Addr) : (EX → Rho → Prop) → US := fun QE => (uRet (uCallX 2 (W__read_scaled f__scaled_of) QE (uCons (uVar 0) (uCons (uC (.fn f__scaled_of)) uNil))))
structure W_read_scaled (as : List SV) (Q : QD) (QE : QX) : Prop where
  h : ∀ f__scaled_of, WofX 1 (u_read_scaled f__scaled_of) as Q QE
theorem lift_read_scaled (z : Z mg) (c__scaled_of : CalG P w K mg base 4 "_scaled_of" p__scaled_of (spL GP K 1 W__scaled_of)) (c__read_scaled : ∀ (f : Addr) (fd : FuncData), GOk P w K mg base 4 f fd p__scaled_of (spL GP K 1 W__scaled_of) → PySem.W.keepIn K (.ref f) = true → Binds K fd p__scaled_of [] → CalX P w K mg base 5 "_read" p__read (spX GP K mg 2 (W__read_scaled f))) (hD : Def K mg "read_scaled" s_read_scaled p_read_scaled) : CalX P w K mg base 6 "read_scaled" p_read_scaled (spX GP K mg 1 (W_read_scaled)) := by
  obtain ⟨f__scaled_of, fd__scaled_of, G__scaled_of, m__scaled_of, k__scaled_of, b__scaled_of⟩ := c__scaled_of
  have c__read := c__read_scaled f__scaled_of fd__scaled_of G__scaled_of k__scaled_of b__scaled_of
  refine CalX.impD (hD.calDX sc_read_scaled (u_read_scaled f__scaled_of) fun f cdv A outer s H E hgd hr => ?_) fun as Q QE h => h.h f__scaled_of
  have hu := hu_of hr
  refine ⟨_, (pss_one (ps_ret (pe_calX c__read hgd (hr.mono (by decide)) (fun σ => passAt (takes_of (E := E) rfl rfl rfl rfl) σ) (by rfl) (pa_cons (pv 0) (pa_cons (pe_glob (v := .ref _) (by rfl) m__scaled_of rfl) pa_nil))))), ?_⟩
  intro B QE hW
  exact (ls_ret (le_callX hW (la_cons (le_var 0) (la_cons le_fn la_nil))))
def u__read_kind (f__kind_of : Addr) : (EX → Rho → Prop) → US := fun QE => (uSeq (uIfS (uNot (uTest (uIsi "str" (uVar 0)))) (uRaise QE "BadText" (some "line") (uCons (uC (.int 0)) uNil)) uNext)
    (uSeq (uSet 2 (uM1 pSplit (uVar 0) (uC (.str "\n"))))
    (uSeq (uSet 3 (uCallV 1 f__kind_of 1 W__kind_of (uCons (uOp pIxL (uVar 2) (uC (.int 0))) uNil)))
    (uSeq (uIfS (uTest (uOp pIsN (uVar 3) (uC .non))) (uRaise QE "BadText" (some "line") (uCons (uC (.int 1)) uNil)) uNext)
    (uSeq (uIfS (uTest (uOp (pI0 fun i j => D.bl (decide (j < i))) (uCB pLen (uCons (uVar 2) uNil)) (uC (.int 1)))) (uRaise QE "BadText" (some "line") (uCons (uC (.int 2)) uNil)) uNext)
    (uRet (uVar 3)))))))
structure W__read_kind (f__kind_of : Addr) (as : List SV) (Q : QD) (QE : QX) : Prop where
  h : WofX 4 (u__read_kind f__kind_of) as Q QE
theorem lift__read_kind (z : Z mg) (E_BadText : ∃ C, ErrC P w K mg base "BadText" C (some "line")) {f__kind_of : Addr} {fd__kind_of : FuncData} (G__kind_of : GOk P w K mg base 4 f__kind_of fd__kind_of p__kind_of (spL GP K 1 W__kind_of)) (k__kind_of : PySem.W.keepIn K (.ref f__kind_of) = true) (b__kind_of : Binds K fd__kind_of p__kind_of []) (hD : Def K mg "_read" s__read p__read) : CalX P w K mg base 5 "_read" p__read (spX GP K mg 2 (W__read_kind f__kind_of)) := by
  obtain ⟨C_BadText, T_BadText⟩ := E_BadText
  refine CalX.impD (hD.calDX sc__read (u__read_kind f__kind_of) fun f cdv A outer s H E hgd hr => ?_) fun as Q QE h => h.h
  have hu := hu_of hr
  refine ⟨_, (pss_cons (ps_if (pt_not (pt_val (pe_callB call_isi (by rfl) z.«isinstance» (by decide +kernel) (pa_cons (pv 0) (pa_cons (pe_bltn (v := .ty "str") (by rfl) z.«str» (by decide +kernel) rfl) pa_nil))))) (pss_one (ps_raiseE T_BadText rfl (takes_of (E := E) rfl rfl rfl rfl) (hr.mono (by decide)) (by rfl) (pa_cons pe_int pa_nil))) pss_nil)
    (pss_cons (ps_set (i := 2) sc__read.nd rfl (Or.inl rfl) (pe_split (pv 0) pe_str))
    (pss_cons (ps_set (i := 3) sc__read.nd rfl (Or.inl rfl) (pe_callLG (i := 1) G__kind_of k__kind_of b__kind_of hgd (hr.mono (by decide)) rfl (Or.inl rfl) (pa_cons (pe_ix ix_list (pv 2) pe_int (fun _ _ => rfl)) pa_nil)))
    (pss_cons (ps_if (pt_cmpR op_isN (pv 3) pe_non (nomark _)) (pss_one (ps_raiseE T_BadText rfl (takes_of (E := E) rfl rfl rfl rfl) (hr.mono (by decide)) (by rfl) (pa_cons pe_int pa_nil))) pss_nil)
    (pss_cons (ps_if (pt_cmpR op_gt (pe_callB (call_len_seq) (by rfl) z.«len» (by decide +kernel) (pa_cons (pv 2) pa_nil)) pe_int (nomark _)) (pss_one (ps_raiseE T_BadText rfl (takes_of (E := E) rfl rfl rfl rfl) (hr.mono (by decide)) (by rfl) (pa_cons pe_int pa_nil))) pss_nil)
    (pss_one (ps_ret (pv 3)))))))), ?_⟩
  intro B QE hW
  exact (ls_seq (ls_if (lt_not (lt_B (le_isi (le_var 0)))) (ls_raise T_BadText hW (la_cons (le_int _) la_nil)) ls_next)
    (ls_seq (ls_set (le_m1 lm_split (le_var 0) (le_str _)))
    (ls_seq (ls_set (le_callV (la_cons (le_op lr_ixL (le_var 2) (le_int _)) la_nil)))
    (ls_seq (ls_if (lt_test (le_op lr_isN (le_var 3) le_non)) (ls_raise T_BadText hW (la_cons (le_int _) la_nil)) ls_next)
    (ls_seq (ls_if (lt_test (le_op (lr_I0 (g' := fun i j => D.bl (decide (j < i))) fun _ _ => rfl) (le_cb lb_len (la_cons (le_var 2) la_nil)) (le_int _))) (ls_raise T_BadText hW (la_cons (le_int _) la_nil)) ls_next)
    (ls_ret (le_var 3)))))))
def u_read_kind (f__kind_of : Addr) : (EX → Rho → Prop) → US := fun QE => (uRet (uCallX 2 (W__read_kind f__kind_of) QE (uCons (uVar 0) (uCons (uC (.fn f__kind_of)) uNil))))
structure W_read_kind (as : List SV) (Q : QD) (QE : QX) : Prop where
  h : ∀ f__kind_of, WofX 1 (u_read_kind f__kind_of) as Q QE
theorem lift_read_kind (z : Z mg) (c__kind_of : CalG P w K mg base 4 "_kind_of" p__kind_of (spL GP K 1 W__kind_of)) (c__read_kind : ∀ (f : Addr) (fd : FuncData), GOk P w K mg base 4 f fd p__kind_of (spL GP K 1 W__kind_of) → PySem.W.keepIn K (.ref f) = true → Binds K fd p__kind_of [] → CalX P w K mg base 5 "_read" p__read (spX GP K mg 2 (W__read_kind f))) (hD : Def K mg "read_kind" s_read_kind p_read_kind) : CalX P w K mg base 6 "read_kind" p_read_kind (spX GP K mg 1 (W_read_kind)) := by
  obtain ⟨f__kind_of, fd__kind_of, G__kind_of, m__kind_of, k__kind_of, b__kind_of⟩ := c__kind_of
  have c__read := c__read_kind f__kind_of fd__kind_of G__kind_of k__kind_of b__kind_of
  refine CalX.impD (hD.calDX sc_read_kind (u_read_kind f__kind_of) fun f cdv A outer s H E hgd hr => ?_) fun as Q QE h => h.h f__kind_of
  have hu := hu_of hr
  refine ⟨_, (pss_one (ps_ret (pe_calX c__read hgd (hr.mono (by decide)) (fun σ => passAt (takes_of (E := E) rfl rfl rfl rfl) σ) (by rfl) (pa_cons (pv 0) (pa_cons (pe_glob (v := .ref _) (by rfl) m__kind_of rfl) pa_nil))))), ?_⟩
  intro B QE hW
  exact (ls_ret (le_callX hW (la_cons (le_var 0) (la_cons le_fn la_nil))))
end
end LK
namespace LK
open PySem PySem.Spec PyProof.Rows L2 CD DL
section
variable {P : Program} {w : World} {K : PySem.W.Frag} {mg : Str → Option Value} {base : Heap}
/-! ### draws -/
abbrev kC : Key := .inr "cells"
abbrev kG : Key := .inr "great"
abbrev kT : Key := .inr "turn"
abbrev kS : Key := .inr "sum"
theorem nCG : ¬ kC = kG := by decide
theorem nCT : ¬ kC = kT := by decide
theorem nCS : ¬ kC = kS := by decide
theorem nGT : ¬ kG = kT := by decide
theorem nGS : ¬ kG = kS := by decide
theorem nTS : ¬ kT = kS := by decide
def kvM (c g k s : V) : List (Key × V) := [(kC, c), (kG, g), (kT, k), (kS, s)]
theorem getM1 (c g k s : V) : valV (kvM c g k s) kC = some c := by simp [valV, kvM]
theorem getM2 (c g k s : V) : valV (kvM c g k s) kG = some g := by
  have h := nCG
  simp [valV, kvM, h]
theorem getM3 (c g k s : V) : valV (kvM c g k s) kT = some k := by
  have h := nCT
  have h2 := nGT
  simp [valV, kvM, h, h2]
theorem getM4 (c g k s : V) : valV (kvM c g k s) kS = some s := by
  have h := nCS
  have h2 := nGS
  have h3 := nTS
  simp [valV, kvM, h, h2, h3]
theorem putM2 (c g k s v : V) : putK (kvM c g k s) kG v = kvM c v k s := by
  have h := nCG
  have h2 : ¬ kT = kG := fun e => nGT e.symm
  have h3 : ¬ kS = kG := fun e => nGS e.symm
  simp [putK, kvM, h, h2, h3]
theorem putM3 (c g k s v : V) : putK (kvM c g k s) kT v = kvM c g v s := by
  have h := nCT
  have h2 := nGT
  have h3 : ¬ kS = kT := fun e => nTS e.symm
  simp [putK, kvM, h, h2, h3]
theorem putM4 (c g k s v : V) : putK (kvM c g k s) kS v = kvM c g k v := by
  have h := nCS
  have h2 := nGS
  have h3 := nTS
  simp [putK, kvM, h, h2, h3]
/-- the state of the draws at d, what is left of great cells at g; at most n drawn -/
structure Draw (H : Hp) (d g c : Addr) (n : Nat) : Prop where
  ex : ∃ (cells greats : List Int) (spot : Nat) (sm : Int), H d = some (.dK (kvM (.ref c) (.ref g) (.int spot) (.int sm))) ∧ H c = some (.lst (cells.map V.int)) ∧ H g = some (.lst (greats.map V.int)) ∧ c ≠ g ∧ cells.length ≤ 1000 ∧ greats.length ≤ 1000 ∧ spot ≤ n ∧ cells ≠ []
/-- all that was tracked stays, but the draws -/
structure But (H H' : Hp) (d g : Addr) : Prop where
  st : ∀ b o, H b = some o → b ≠ d → b ≠ g → H' b = some o
  gg : ∃ u, H' g = some u
theorem gM1 {H : Hp} {d : Addr} {c g k s : V} (h : H d = some (.dK (kvM c g k s))) : DGet H d (.str "cells") (some c) := getM1 c g k s ▸ DGet.k (k := kC) h
theorem gM2 {H : Hp} {d : Addr} {c g k s : V} (h : H d = some (.dK (kvM c g k s))) : DGet H d (.str "great") (some g) := getM2 c g k s ▸ DGet.k (k := kG) h
theorem gM3 {H : Hp} {d : Addr} {c g k s : V} (h : H d = some (.dK (kvM c g k s))) : DGet H d (.str "turn") (some k) := getM3 c g k s ▸ DGet.k (k := kT) h
theorem gM4 {H : Hp} {d : Addr} {c g k s : V} (h : H d = some (.dK (kvM c g k s))) : DGet H d (.str "sum") (some s) := getM4 c g k s ▸ DGet.k (k := kS) h
theorem pM2 {H : Hp} {d : Addr} {c g k s v : V} (h : H d = some (.dK (kvM c g k s))) : DPut H d (.str "great") v (upd H d (.dK (kvM c v k s))) := putM2 c g k s v ▸ DPut.k (k := kG) (v := v) h (by decide : 4 < sizeLine)
theorem pM3 {H : Hp} {d : Addr} {c g k s v : V} (h : H d = some (.dK (kvM c g k s))) : DPut H d (.str "turn") v (upd H d (.dK (kvM c g v s))) := putM3 c g k s v ▸ DPut.k (k := kT) (v := v) h (by decide : 4 < sizeLine)
theorem pM4 {H : Hp} {d : Addr} {c g k s v : V} (h : H d = some (.dK (kvM c g k s))) : DPut H d (.str "sum") v (upd H d (.dK (kvM c g k v))) := putM4 c g k s v ▸ DPut.k (k := kS) (v := v) h (by decide : 4 < sizeLine)
def spBegun (K : PySem.W.Frag) : Sp := fun vs H Q _ => ∃ (a : Addr) (ns : List Int), vs = [.ref a] ∧ SqL K H a (ns.map V.int) ∧ ns.length ≤ 63 ∧ ∀ H' d g c, Same H H' → H d = none → H g = none → H c = none → Draw H' d g c 0 → Q (.ref d) H'
theorem cal_law_start (z : Z mg) (D : Def K mg "_law_start" s__law_start p__law_start) : Cal P w K mg base 2 "_law_start" p__law_start (spBegun K) := by
  refine D.cal sc__law_start (fun vs H Q E h => by obtain ⟨_, _, rfl, _⟩ := h; rfl) fun f cdv A outer s H vs Q E hr h => ?_
  obtain ⟨a, ns, rfl, hS, hl, q⟩ := h
  refine ⟨_, (pss_cons (ps_set (i := 1) sc__law_start.nd rfl (Or.inl rfl) (pe_op op_cat (pe_callTy (call_list_of) (by rfl) z.«list» (by decide +kernel) (pa_cons (pv 0) pa_nil)) (pe_lst (pa_cons pe_int pa_nil))))
        (pss_one (ps_ret (pe_disp (pps_cons pe_str (pv 1) (pps_cons pe_str (pe_lc (own := [("cell", 2)]) (g := (gName 2)) rfl sc__law_start.nd (pi_list (pv 0)) (blkOk_by (N := n__law_start) (sc := defScope s__law_start) (by decide +kernel)) (fun _ _ _ _ _ => (pg_name (i := 2) sc__law_start.nd rfl (Or.inl rfl))) (fun _ _ _ _ _ => (pts_one (pt_cmpR op_ge (pv 2) (pe_op op_pow pe_int pe_int) (nomark _)))) (fun _ _ _ _ _ => (pv 2))) (pps_cons pe_str pe_int (pps_cons pe_str (pe_callB (call_len_seq) (by rfl) z.«len» (by decide +kernel) (pa_cons (pv 1) pa_nil)) pps_nil)))) (by rfl) (by rfl) (fun z => by cases z) (by decide))))), ?_⟩
  refine ⟨.ref a, rfl, a, _, rfl, .inl hS, fun l0 n0 => ?_⟩
  have s0 : Same H (upd H l0 (.lst (ns.map V.int))) := same_upd n0
  have h0 : (upd H l0 (.lst (ns.map V.int))) l0 = some (.lst (ns.map V.int)) := upd_same
  generalize upd H l0 (.lst (ns.map V.int)) = H1 at s0 h0
  refine ⟨by decide, fun l1 n1 => ?_⟩
  have s1 : Same H1 (upd H1 l1 (.lst [.int 29])) := same_upd n1
  have h1 : (upd H1 l1 (.lst [.int 29])) l1 = some (.lst [.int 29]) := upd_same
  generalize upd H1 l1 (.lst [.int 29]) = H2 at s1 h1
  refine ⟨l0, l1, _, _, rfl, rfl, s1 _ _ h0, h1, by rw [sizeLine_eq, List.length_map]; simp; omega, fun c nc => ?_⟩
  have ec : ns.map V.int ++ [V.int 29] = (ns ++ [29]).map V.int := by rw [List.map_append]; rfl
  rw [ec]
  have s2 : Same H2 (upd H2 c (.lst ((ns ++ [29]).map V.int))) := same_upd nc
  have hc : (upd H2 c (.lst ((ns ++ [29]).map V.int))) c = some (.lst ((ns ++ [29]).map V.int)) := upd_same
  have sH : Same H (upd H2 c (.lst ((ns ++ [29]).map V.int))) := (s0.trans s1).trans s2
  have nc0 : H c = none := Same.free (s0.trans s1) nc
  generalize upd H2 c (.lst ((ns ++ [29]).map V.int)) = H3 at s2 hc sH
  intro d nd
  have sd : Same H3 (upd H3 d (.dK [])) := same_upd nd
  have hd0 : (upd H3 d (.dK [])) d = some (.dK []) := upd_same
  have nd0 : H d = none := Same.free sH nd
  have cd : c ≠ d := fun x => by rw [x, nd] at hc; cases hc
  replace sH := sH.trans sd
  replace hc := sd _ _ hc
  generalize upd H3 d (.dK []) = H4 at sd hd0 sH hc
  refine ⟨.ref c, rfl, .ref a, rfl, a, rfl, ⟨_, sH.seq hS⟩, fun g ng => ?_⟩
  have ng0 : H g = none := Same.free sH ng
  have gd : g ≠ d := fun x => by rw [x, hd0] at ng; cases ng
  have cg : c ≠ g := ne_of_none hc ng
  refine lc_std (walk_list (K := K) (a := a) (xs := ns.map V.int)) ns (fun n => if 10 ^ 18 ≤ n then some (.int n) else none) (by rw [List.length_map]) (small1000 (by rw [List.length_map]; omega)) ng (fun H2 s2 => s2.seq (sH.seq hS)) (fun i x H2 H3 n R hn s2 y hR => ?_) (fun H5 s5 e => ?_)
  · obtain ⟨rfl, gg⟩ := y
    obtain rfl := map_at hn gg
    refine ⟨rfl, .int n, rfl, 10, 18, rfl, rfl, ⟨by decide, by decide, by decide⟩, n, 10 ^ 18, rfl, rfl, _, rfl, ite2 (fun c => ?_) (fun c => ?_)⟩
    · have c' : (10 : Int) ^ 18 ≤ n := of_decide_eq_true c
      have z2 := hR _ (Same.refl _)
      rw [if_pos c'] at z2
      exact ⟨.int n, rfl, z2⟩
    · have c' : ¬ (10 : Int) ^ 18 ≤ n := fun x => c (decide_eq_true x)
      have z2 := hR _ (Same.refl _)
      rw [if_neg c'] at z2
      exact z2
  · have e2 : ns.filterMap (fun n => if 10 ^ 18 ≤ n then some (V.int n) else none) = (ns.filter fun n => decide (10 ^ 18 ≤ n)).map V.int := by
      clear e ec hl hS q ng sd sH s0 s1 s2 hc hd0 h0 h1 nc s5 n0 n1 nd
      induction ns with
      | nil => rfl
      | cons n r ih =>
        rw [List.filterMap_cons, List.filter_cons]
        by_cases c : (10 : Int) ^ 18 ≤ n
        · rw [if_pos c, if_pos (decide_eq_true c), List.map_cons, ← ih]
        · rw [if_neg c, if_neg (by simpa using c), ← ih]
    rw [e2] at e
    have em : ∀ s : V, mergeK [] (kvM (.ref c) (.ref g) (.int 0) s) = kvM (.ref c) (.ref g) (.int 0) s := fun s => by
      have h1 := nCG
      have h2 := nCS
      have h3 := nGS
      have h4 := nCT
      have h5 := nGT
      have h6 := nTS
      simp [mergeK, kvM, putK, h1, h2, h3, h4, h5, h6]
    refine ⟨.ref c, rfl, c, _, rfl, .inl (.inl (.inl (s5 _ _ hc))), ?_⟩
    refine ⟨s5 _ _ hd0, kvM (.ref c) (.ref g) (.int 0) _, rfl, (by decide : 4 ≤ 15), ?_⟩
    rw [em]
    refine q _ d g c (fun b o hb => ?_) nd0 ng0 nc0 ⟨ns ++ [29], ns.filter fun n => decide (10 ^ 18 ≤ n), 0, _, upd_same, ?_, ?_, cg, by simp; omega, Nat.le_trans (List.length_filter_le _ _) (by omega), Nat.le_refl _, by simp⟩
    · rw [upd_ne (ne_of_none hb nd0)]
      exact s5 _ _ (sH _ _ hb)
    · rw [upd_ne cd]
      exact s5 _ _ hc
    · rw [upd_ne gd]
      exact e
theorem log_small {t : Int} (h : t.natAbs < 2 ^ 100) : t.natAbs.log2 < 100 := by
  by_cases h0 : t.natAbs = 0
  · rw [h0]; decide
  · have := (Nat.log2_lt h0).mpr h
    omega
def spNext : Sp := fun vs H Q _ => ∃ (d g c : Addr) (n : Nat) (t : Int), vs = [.ref d, .int t] ∧ Draw H d g c n ∧ n < 2 ^ 40 ∧ 1 ≤ t ∧ t ≤ 10 ^ 30 ∧
  ∀ H' g' (v : Int), But H H' d g → (g' = g ∨ H g' = none) → Draw H' d g' c (n + 1) → 0 ≤ v → v < t → Q (.int v) H'
theorem But.refl {H : Hp} {d g : Addr} {u : HO} (h : H g = some u) : But H H d g := ⟨fun _ _ h _ _ => h, u, h⟩
theorem But.same {H H1 H2 : Hp} {d g : Addr} (h : But H H1 d g) (s : Same H1 H2) : But H H2 d g := ⟨fun b o e n1 n2 => s _ _ (h.st b o e n1 n2), let ⟨u, e⟩ := h.gg; ⟨u, s _ _ e⟩⟩
theorem ix0 {xs : List V} (h : xs ≠ []) : ixN xs.length 0 = some 0 := by
  have := List.length_pos_iff.mpr h
  unfold ixN
  rw [if_pos (Int.le_refl 0), if_pos (by omega)]
  rfl
theorem fmod_range {a t : Int} (h : 1 ≤ t) : 0 ≤ a.fmod t ∧ a.fmod t < t := by
  rw [Int.fmod_eq_emod_of_nonneg _ (by omega)]
  exact ⟨Int.emod_nonneg _ (by omega), Int.emod_lt_of_pos _ (by omega)⟩
theorem cut_ints (g0 : Int) (gs : List Int) : cutV ((g0 :: gs).map V.int) (some 1) none = gs.map V.int := by
  rw [cut_tail]
  rfl
theorem cal_law_next (z : Z mg) (D : Def K mg "_law_next" s__law_next p__law_next) : Cal P w K mg base 2 "_law_next" p__law_next spNext := by
  refine D.cal sc__law_next (fun vs H Q E h => by obtain ⟨_, _, _, _, _, rfl, _⟩ := h; rfl) fun f cdv A outer s H vs Q E hr h => ?_
  obtain ⟨d, g, c, n, t, rfl, ⟨cells, greats, spot, sm, hd, hc, hg, ncg, lc, lg, hs, ne⟩, hn, t1, t2, q⟩ := h
  have hu := hu_of hr
  have ncd : c ≠ d := ne_of hc hd (fun e => nomatch e)
  have ngd : g ≠ d := ne_of hg hd (fun e => nomatch e)
  refine ⟨_, (pss_cons (ps_dput hu (pv 0) pe_str (pe_op op_add (pe_dget hu (pv 0) pe_str (fun _ _ => rfl)) pe_int) rfl)
        (pss_cons (ps_while PassesOwn.never (PW.pt (pw_and (pt_cmpR (op_neD hr.units) (pe_dget hu (pv 0) pe_str (fun _ _ => rfl)) (pe_lst pa_nil) (nomark _)) (pw_and1 (pt_cmpR op_eq (pe_ix ix_list (pe_dget hu (pv 0) pe_str (fun _ _ => rfl)) pe_int (fun _ _ => rfl)) pe_int (nomark _))))) (pss_one (ps_dput hu (pv 0) pe_str (pe_slice sl_list (pe_dget hu (pv 0) pe_str (fun _ _ => rfl)) (po_some pe_int) po_none) rfl)))
        (pss_cons (ps_if (pt_cmpR (op_neD hr.units) (pe_dget hu (pv 0) pe_str (fun _ _ => rfl)) (pe_lst pa_nil) (nomark _)) (pss_cons (ps_asg (pe_tup (pa_cons (pe_op op_modN (pe_callTy (call_int1) (by rfl) z.«int» (by decide +kernel) (pa_cons (pe_ix ix_list (pe_dget hu (pv 0) pe_str (fun _ _ => rfl)) pe_int (fun _ _ => rfl)) pa_nil)) (pv 1)) (pa_cons (pe_op op_fdivW (pe_callTy (call_int1) (by rfl) z.«int» (by decide +kernel) (pa_cons (pe_ix ix_list (pe_dget hu (pv 0) pe_str (fun _ _ => rfl)) pe_int (fun _ _ => rfl)) pa_nil)) (pv 1)) pa_nil))) (pg_tup rfl (pgs_cons (pg_name (i := 2) sc__law_next.nd rfl (Or.inl rfl)) (pgs_cons (pg_sub (pe_dget hu (pv 0) pe_str (fun _ _ => rfl)) pe_int set_list) pgs_nil))))
        (pss_one (ps_ret (pv 2)))) pss_nil)
        (pss_cons (ps_set (i := 3) sc__law_next.nd rfl (Or.inl rfl) (pe_ix ix_list (pe_dget hu (pv 0) pe_str (fun _ _ => rfl)) (pe_op op_modN (pe_callTy (call_int1) (by rfl) z.«int» (by decide +kernel) (pa_cons (pe_dget hu (pv 0) pe_str (fun _ _ => rfl)) pa_nil)) (pe_callB (call_len_seq) (by rfl) z.«len» (by decide +kernel) (pa_cons (pe_dget hu (pv 0) pe_str (fun _ _ => rfl)) pa_nil))) (fun _ _ => rfl)))
        (pss_cons (ps_dput hu (pv 0) pe_str (pe_op op_modN (pe_callTy (call_int1) (by rfl) z.«int» (by decide +kernel) (pa_cons (pe_op op_add (pe_op op_add (pe_op op_mul (pe_dget hu (pv 0) pe_str (fun _ _ => rfl)) pe_int) (pe_op op_modN (pe_callTy (call_int1) (by rfl) z.«int» (by decide +kernel) (pa_cons (pv 3) pa_nil)) pe_int)) (pe_op op_mul pe_int (pe_dget hu (pv 0) pe_str (fun _ _ => rfl)))) pa_nil)) pe_int) rfl)
        (pss_one (ps_ret (pe_op op_modN (pe_op op_fdivN (pe_op op_modN (pe_callTy (call_int1) (by rfl) z.«int» (by decide +kernel) (pa_cons (pe_op op_add (pe_op op_mul (pe_dget hu (pv 0) pe_str (fun _ _ => rfl)) pe_int) (pe_dget hu (pv 0) pe_str (fun _ _ => rfl))) pa_nil)) pe_int) pe_int) (pv 1))))))))), ?_⟩
  -- m['turn'] = m['turn'] + 1
  refine ⟨.ref d, rfl, d, _, rfl, gM3 hd, spot, 1, rfl, rfl, .ref d, rfl, d, _, rfl, pM3 hd, ?_⟩
  have but0 : But H (upd H d (.dK (kvM (.ref c) (.ref g) (.int ((spot : Int) + 1)) (.int sm)))) d g := ⟨fun b o e n1 _ => by rw [upd_ne n1]; exact e, _, by rw [upd_ne ngd]; exact hg⟩
  have hd0 : (upd H d (.dK (kvM (.ref c) (.ref g) (.int ((spot : Int) + 1)) (.int sm)))) d = some (.dK (kvM (.ref c) (.ref g) (.int ((spot : Int) + 1)) (.int sm))) := upd_same
  have hc0 : (upd H d (.dK (kvM (.ref c) (.ref g) (.int ((spot : Int) + 1)) (.int sm)))) c = some (.lst (cells.map V.int)) := by rw [upd_ne ncd]; exact hc
  have hg0 : (upd H d (.dK (kvM (.ref c) (.ref g) (.int ((spot : Int) + 1)) (.int sm)))) g = some (.lst (greats.map V.int)) := by rw [upd_ne ngd]; exact hg
  show tSeq _ _ _ _ (upd H d (.dK (kvM (.ref c) (.ref g) (.int ((spot : Int) + 1)) (.int sm))))
  generalize upd H d (.dK (kvM (.ref c) (.ref g) (.int ((spot : Int) + 1)) (.int sm))) = H1 at but0 hd0 hc0 hg0
  refine ⟨fun m σ H2 => ∃ g2 gs2, m = gs2.length ∧ σ = [some (.ref d), some (.int t), none, none] ∧ H2 d = some (.dK (kvM (.ref c) (.ref g2) (.int ((spot : Int) + 1)) (.int sm))) ∧ H2 c = some (.lst (cells.map V.int)) ∧ H2 g2 = some (.lst (gs2.map V.int)) ∧ c ≠ g2 ∧ gs2.length ≤ 1000 ∧
      But H H2 d g ∧ (g2 = g ∨ H g2 = none),
    ⟨greats.length, g, greats, rfl, rfl, hd0, hc0, hg0, ncg, lg, but0, .inl rfl⟩, ?_⟩
  clear hd0 hc0 hg0 but0
  clear H1
  intro m σ H2 hW
  obtain ⟨g2, gs2, rfl, rfl, hd2, hc2, hg2, ncg2, lg2, but, hfr⟩ := hW
  have ngd2 : g2 ≠ d := ne_of hg2 hd2 (fun e => nomatch e)
  -- m['great'] != []
  refine ⟨.ref d, rfl, d, _, rfl, gM2 hd2, by decide, fun p np => ?_⟩
  have s1 : Same H2 (upd H2 p (.lst [])) := same_upd np
  refine ne_nil (.inl (.inl (s1 _ _ hg2))) upd_same ⟨_, rfl, ?_⟩
  generalize upd H2 p (.lst []) = H3 at s1
  replace hd2 := s1 _ _ hd2
  replace hc2 := s1 _ _ hc2
  replace hg2 := s1 _ _ hg2
  replace but := but.same s1
  clear s1 np
  cases gs2 with
  | nil =>
    refine iteF (iteF ?_)
    refine ⟨.ref d, rfl, d, _, rfl, gM2 hd2, by decide, fun p np => ?_⟩
    have s1 : Same H3 (upd H3 p (.lst [])) := same_upd np
    refine ne_nil (ns := []) (.inl (.inl (s1 _ _ hg2))) upd_same ⟨_, rfl, iteF ?_⟩
    generalize upd H3 p (.lst []) = H4 at s1
    replace hd2 := s1 _ _ hd2
    replace hc2 := s1 _ _ hc2
    replace hg2 := s1 _ _ hg2
    replace but := but.same s1
    have hlen : 0 < cells.length := List.length_pos_iff.mpr ne
    obtain ⟨r1, r2⟩ := fmod_range (a := (spot : Int) + 1) (t := (cells.length : Int)) (by omega)
    obtain ⟨j, hj⟩ : ∃ j : Nat, ((spot : Int) + 1).fmod (cells.length : Int) = j := ⟨_, (Int.toNat_of_nonneg r1).symm⟩
    have hjl : j < cells.length := by omega
    have ha : atI (cells.map V.int) (((spot : Int) + 1).fmod ((cells.map V.int).length : Int)) = some (.int cells[j]) := by
      rw [List.length_map, hj]
      refine atI_nat ?_
      rw [List.getElem?_map, List.getElem?_eq_getElem hjl]
      rfl
    -- cell
    refine ⟨.ref d, rfl, d, _, rfl, gM1 hd2, .ref d, rfl, d, _, rfl, gM3 hd2, .inl ⟨_, rfl, .ref d, rfl, d, _, rfl, gM1 hd2, c, _, rfl, .inl (.inl (.inl hc2)), _, _, rfl, rfl, by rw [List.length_map]; omega, c, _, _, _, rfl, rfl, .inl (.inl hc2), ha, ?_⟩⟩
    refine ⟨.ref d, rfl, d, _, rfl, gM4 hd2, sm, 75364, rfl, rfl, .inr ⟨by decide, by decide⟩, .int cells[j], rfl, .inl ⟨cells[j], rfl, cells[j], 2147483587, rfl, rfl, (by decide : (2147483587 : Int) ≠ 0), _, _, rfl, rfl, .ref d, rfl, d, _, rfl, gM3 hd2, 977, _, rfl, rfl, .inl ⟨by decide, by decide⟩, _, _, rfl, rfl, .inl ⟨_, rfl, _, 4294967291, rfl, rfl, (by decide : (4294967291 : Int) ≠ 0), .ref d, rfl, d, _, rfl, pM4 hd2, ?_⟩⟩⟩
    dsimp only
    generalize hs2 : (sm * 75364 + cells[j].fmod 2147483587 + 977 * ((spot : Int) + 1)).fmod 4294967291 = s2
    have hd5 : (upd H4 d (.dK (kvM (.ref c) (.ref g2) (.int ((spot : Int) + 1)) (.int s2)))) d = some (.dK (kvM (.ref c) (.ref g2) (.int ((spot : Int) + 1)) (.int s2))) := upd_same
    have hc5 : (upd H4 d (.dK (kvM (.ref c) (.ref g2) (.int ((spot : Int) + 1)) (.int s2)))) c = some (.lst (cells.map V.int)) := by rw [upd_ne ncd]; exact hc2
    have hg5 : (upd H4 d (.dK (kvM (.ref c) (.ref g2) (.int ((spot : Int) + 1)) (.int s2)))) g2 = some (.lst ([].map V.int)) := by rw [upd_ne ngd2]; exact hg2
    have but5 : But H (upd H4 d (.dK (kvM (.ref c) (.ref g2) (.int ((spot : Int) + 1)) (.int s2)))) d g := ⟨fun b o e n1 n2 => by rw [upd_ne n1]; exact but.st b o e n1 n2, let ⟨u, e⟩ := but.gg; ⟨u, by rw [upd_ne ngd]; exact e⟩⟩
    refine ⟨.ref d, rfl, d, _, rfl, gM4 hd5, _, 40692, rfl, rfl, .inr ⟨by decide, by decide⟩, .ref d, rfl, d, _, rfl, gM3 hd5, _, _, rfl, rfl, .inl ⟨_, rfl, _, 4294967279, rfl, rfl, (by decide : (4294967279 : Int) ≠ 0), _, 128, rfl, rfl, ⟨by decide, by decide⟩, .int t, rfl, _, t, rfl, rfl, by omega, ?_⟩⟩
    exact q _ g2 _ but5 hfr ⟨cells, [], spot + 1, s2, hd5, hc5, hg5, ncg2, lc, by decide, by omega, ne⟩ (fmod_range t1).1 (fmod_range t1).2
  | cons g0 gr =>
    have hat : atI ((g0 :: gr).map V.int) 0 = some (.int g0) := atI_nat (j := 0) rfl
    refine iteT ⟨.ref d, rfl, d, _, rfl, gM2 hd2, g2, _, 0, _, rfl, rfl, .inl (.inl hg2), hat, rfl, _, rfl, ?_⟩
    by_cases e0 : g0 = 0
    · subst e0
      refine iteT ?_
      refine ⟨fun σ H4 => ∃ g4, σ = [some (.ref d), some (.int t), none, none] ∧ H4 d = some (.dK (kvM (.ref c) (.ref g4) (.int ((spot : Int) + 1)) (.int sm))) ∧ H4 c = some (.lst (cells.map V.int)) ∧ H4 g4 = some (.lst (gr.map V.int)) ∧ c ≠ g4 ∧ gr.length ≤ 1000 ∧
          But H H4 d g ∧ (g4 = g ∨ H g4 = none), fun σ H4 hN => ?_, ?_⟩
      · obtain ⟨g4, r⟩ := hN
        exact ⟨gr.length, by rw [List.length_cons]; omega, g4, gr, rfl, r⟩
      · refine ⟨.ref d, rfl, d, _, rfl, gM2 hd2, 1, rfl, ?_⟩
        dsimp only [tNoPart]
        refine ⟨g2, _, rfl, .inl (.inl hg2), fun p np => ?_⟩
        rw [cut_ints]
        have s1 : Same H3 (upd H3 p (.lst (gr.map V.int))) := same_upd np
        have ngp : p ≠ d := fun x => by rw [x, hd2] at np; cases np
        have ncp : c ≠ p := ne_of_none hc2 np
        refine ⟨.ref d, rfl, d, _, rfl, pM2 (s1 _ _ hd2), ?_⟩
        refine ⟨p, rfl, upd_same, ?_, ?_, ncp, by rw [List.length_cons] at lg2; omega, ⟨fun b o e n1 n2 => ?_, ?_⟩, ?_⟩
        · rw [upd_ne ncd]; exact s1 _ _ hc2
        · rw [upd_ne ngp]; exact upd_same
        · rw [upd_ne n1]; exact s1 _ _ (but.st b o e n1 n2)
        · obtain ⟨u, e⟩ := but.gg
          exact ⟨u, by rw [upd_ne ngd]; exact s1 _ _ e⟩
        · by_cases hp : p = g
          · exact .inl hp
          · refine .inr ?_
            cases hq : H p with
            | none => rfl
            | some o =>
              have := but.st p o hq ngp hp
              rw [np] at this
              cases this
    · have e1 : decide (V.int g0 = V.int 0) = false := decide_eq_false (fun x => e0 (by injection x))
      rw [e1]
      refine iteF ?_
      refine ⟨.ref d, rfl, d, _, rfl, gM2 hd2, by decide, fun p np => ?_⟩
      have s1 : Same H3 (upd H3 p (.lst [])) := same_upd np
      refine ne_nil (.inl (.inl (s1 _ _ hg2))) upd_same ⟨_, rfl, iteT ?_⟩
      generalize upd H3 p (.lst []) = H4 at s1
      replace hd2 := s1 _ _ hd2
      replace hc2 := s1 _ _ hc2
      replace hg2 := s1 _ _ hg2
      replace but := but.same s1
      -- both parts
      refine ⟨.ref d, rfl, d, _, rfl, gM2 hd2, g2, _, 0, _, rfl, rfl, .inl (.inl hg2), hat, .inl ⟨g0, rfl, .int t, rfl, g0, t, rfl, rfl, by omega, ?_⟩⟩
      refine ⟨.ref d, rfl, d, _, rfl, gM2 hd2, g2, _, 0, _, rfl, rfl, .inl (.inl hg2), hat, .inl ⟨g0, rfl, .int t, rfl, g0, t, rfl, rfl, ⟨by omega, by have := log_small (t := t) (by omega); omega⟩, ?_⟩⟩
      refine ⟨(by decide : 2 ≤ sizeLine), fun p2 np2 => ?_⟩
      have s3 : Same H4 (upd H4 p2 (.tup [.int (g0.fmod t), .int (g0 / t)])) := same_upd np2
      refine ⟨p2, _, rfl, .inl (.inl upd_same), rfl, _, _, rfl, _, _, rfl, .ref d, rfl, d, _, rfl, gM2 (s3 _ _ hd2), g2, _, 0, 0, rfl, rfl, s3 _ _ hg2, ix0 (by simp), rfl, ?_⟩
      have hd6 := s3 _ _ hd2
      have hc6 := s3 _ _ hc2
      have but6 := but.same s3
      generalize upd H4 p2 (.tup [.int (g0.fmod t), .int (g0 / t)]) = H5 at hd6 hc6 but6
      have sw : ((g0 :: gr).map V.int).set 0 (.int (g0 / t)) = (g0 / t :: gr).map V.int := rfl
      refine ⟨_, rfl, q _ g2 _ ⟨fun b o e n1 n2 => ?_, ?_⟩ hfr ⟨cells, g0 / t :: gr, spot + 1, sm, ?_, ?_, upd_same, ncg2, lc, by rw [List.length_cons] at lg2 ⊢; exact lg2, by omega, ne⟩ (fmod_range t1).1 (fmod_range t1).2⟩
      · have nb : b ≠ g2 := by
          rcases hfr with x | x
          · rw [x]; exact n2
          · exact fun y => by rw [y, x] at e; cases e
        rw [upd_ne nb]; exact but6.st b o e n1 n2
      · by_cases x : g = g2
        · rw [x]; exact ⟨_, upd_same⟩
        · obtain ⟨u, e⟩ := but6.gg
          exact ⟨u, by rw [upd_ne x]; exact e⟩
      · rw [upd_ne (Ne.symm ngd2)]; exact hd6
      · rw [upd_ne ncg2]; exact hc6

/-! ### the draws over data -/
/-- the state of the draws: at most n drawn -/
def GD : GenP where
  D := Draw
  stab := fun {H H' d g c n} ⟨cells, greats, spot, sm, h1, h2, h3, r⟩ e1 e2 e3 => ⟨cells, greats, spot, sm, e1.trans h1, e3.trans h2, e2.trans h3, r⟩
  dd := fun {H d g c n} ⟨cells, greats, spot, sm, h1, h2, h3, r⟩ => ⟨by rw [h1]; exact nofun, by rw [h3]; exact nofun, by rw [h2]; exact nofun, fun e => by rw [e, h3] at h1; cases h1⟩
  nt := fun {H d g c n xs} ⟨cells, greats, spot, sm, h1, h2, h3, r⟩ => ⟨by rw [h1]; exact nofun, by rw [h3]; exact nofun⟩
  nx := fun {H d g c n o} ⟨cells, greats, spot, sm, h1, h2, h3, r⟩ e => by
    rcases e with e | e
    · rw [h1] at e; cases e; exact ⟨nofun, nofun⟩
    · rw [h3] at e; cases e; exact ⟨nofun, nofun⟩
structure W__law_next (as : List SV) (Q : QD) : Prop where
  h : ∃ (n : Nat) (t : Int), as = [.gen n, .val (.int t)] ∧ n < 2 ^ 40 ∧ 1 ≤ t ∧ t ≤ 10 ^ 30 ∧ ∀ v, 0 ≤ v → v < t → Q (.int v) (some (n + 1))
theorem lift__law_next (z : Z mg) (hD : Def K mg "_law_next" s__law_next p__law_next) : CalG P w K mg base 2 "_law_next" p__law_next (spL GD K 2 W__law_next) := by
  refine toG (cal_law_next z hD) fun vs H Q E h => ?_
  obtain ⟨F, γ, as, Qd, h1, h2, h3, _, _, h6, _, ⟨n, t, rfl, hn, t1, t2, q⟩, h8⟩ := h
  match vs, h2 with
  | [v1, v2], ⟨⟨p, hp, e1, dr, fc⟩, e2, _⟩ =>
    subst e1
    cases e2
    obtain ⟨f1, f2⟩ := h6 p hp
    refine ⟨p.1, p.2.1, p.2.2, n, t, rfl, dr, hn, t1, t2, fun H' g' v but fr dr' v1 v2 => ?_⟩
    have keep : ∀ a o, H a = some o → ¬ GA GD γ a → H' a = some o := fun a o e na => but.st a o e (fun x => na (.inl ⟨p, hp, .inl x⟩)) (fun x => na (.inl ⟨p, hp, .inr x⟩))
    have sub : Same F H' := fun a o e => keep a o (h1 _ _ e) fun z => by
      rcases z with ⟨p', hp', x⟩ | ⟨_, z⟩
      case inr => exact nomatch (show (_, _) ∈ ([] : List (Addr × Str)) from z)
      rw [hp] at hp'
      cases hp'
      rcases x with rfl | rfl
      · rw [f1] at e; cases e
      · rw [f2] at e; cases e
    obtain ⟨_, _, _, _, d1, _, _, _⟩ := id dr'
    refine h8 (.int v) H' F (some (p.1, g', p.2.2)) (.int v) (some (n + 1)) (fun _ z => nomatch (show _ ∈ ([] : List (Addr × Str)) from z)) keep (fun a o e => ?_) (Same.refl _) sub (fun a o e => .inl e) (.int v) ⟨p, (p.1, g', p.2.2), hp, rfl, rfl, rfl, fr, dr', f1, ?_⟩ (q v v1 v2)
    · by_cases x1 : a = p.1
      · exact ⟨_, by rw [x1]; exact d1⟩
      · by_cases x2 : a = p.2.1
        · obtain ⟨u, hu⟩ := but.gg
          exact ⟨u, by rw [x2]; exact hu⟩
        · exact ⟨o, but.st a o e x1 x2⟩
    · rcases fr with x | x
      · show F g' = none
        rw [x]; exact f2
      · exact Same.free h1 x
/-- m = _law_start(script) -/
def uBegin (i j : Nat) : US := fun Q ρ => ∃ ns, ρ[i]? = some (some (.val (.scr ns))) ∧ ns.length ≤ 63 ∧ gN ρ = none ∧ Q.nx (ρ.set j (some (.gen 0)))
theorem gN_none : ∀ {ρ : Rho}, gN ρ = none → ∀ (i n : Nat), ρ[i]? ≠ some (some (.gen n))
  | [], _, i, n => by simp
  | none :: r, h, i, n => by
    cases i with
    | zero => exact fun e => by cases e
    | succ i => exact gN_none (ρ := r) h i n
  | some (.val d) :: r, h, i, n => by
    cases i with
    | zero => exact fun e => by cases e
    | succ i => exact gN_none (ρ := r) h i n
  | some (.own d) :: r, h, i, n => by
    cases i with
    | zero => exact fun e => by cases e
    | succ i => exact gN_none (ρ := r) h i n
  | some (.gen _) :: r, h, i, n => by cases h
theorem ls_beginT (T : List (Addr × Str)) {B : Hp × Hp × GAt} (hB : B.2.2 = none) {i j : Nat} : LS (GD.tb T) K B (tAsg (tCall (spBegun K) [] E0 (tCons (tVar i) tNil)) (gName j)) (uBegin i j) := by
  intro H0 F0 γ0 fi γ σ H F ρ E Q r ⟨ns, e, hl, hg, z⟩ n _ _ _
  have g0 : γ0 = none := (FinerC.g (GP := GD.tb T) (K := K) (B := B) H0 F0).trans hB
  obtain ⟨v, e1, e2⟩ := r.val i _ e
  cases e2 with
  | @scr a _ hs =>
    refine ⟨.ref a, e1, a, ns, rfl, r.sub.seq hs, hl, fun H' d g c s nd ng nc dr => ?_⟩
    have r1 := r.same s
    obtain ⟨cells, greats, spot, sm, h1, h2, h3, ncg, h4⟩ := id dr
    have ncd : c ≠ d := fun x => by rw [x, h1] at h2; cases h2
    obtain ⟨c1, c2, c3, c4⟩ := r.newAt nc
    obtain ⟨d1, d2, d3, d4⟩ := r.newAt nd
    obtain ⟨g1, g2, g3, g4⟩ := r.newAt ng
    have sc : Same F (upd F c (.lst (cells.map V.int))) := same_upd c1
    have own4 : ∀ {b l : _}, OwnAt (σ.set j (some (.ref d))) (ρ.set j (some (.gen 0))) b l → OwnAt σ ρ b l := fun {b l} ⟨⟨e, he⟩, h⟩ => by
      by_cases x : l = j
      · subst x; cases (set_at he).1
      · rw [set_none x] at he h; exact ⟨⟨e, he⟩, h⟩
    refine n _ _ (upd F c (.lst (cells.map V.int))) (some (d, g, c)) _ ?_ z
    have nc' : ∀ {b : Addr}, b ≠ c → upd F c (.lst (cells.map V.int)) b = F b := fun h => upd_ne h
    constructor
    · exact r1.f0.trans sc
    · intro b o x
      by_cases y : b = c
      · subst y; rw [upd_same] at x; cases x; exact h2
      · rw [nc' y] at x; exact r1.sub _ _ x
    · exact r1.keep
    · intro b o x
      by_cases y : b = c
      · subst y; exact .inr (.inl c2)
      · rw [nc' y] at x; exact r1.fnew _ _ x
    · exact r1.tr
    · rw [List.length_set, List.length_set]; exact r.len
    · intro l d' x
      by_cases y : l = j
      · subst y; cases (set_at x).1
      · rw [set_none y] at x ⊢
        obtain ⟨w, w1, w2⟩ := r.val l d' x
        exact ⟨w, w1, w2.same sc⟩
    · intro l d' x
      by_cases y : l = j
      · subst y; cases (set_at x).1
      · rw [set_none y] at x
        obtain ⟨b, b1, b2, b3, b4, b5, b6⟩ := r.own l d' x
        obtain ⟨ob, hb⟩ := b2.there
        have off : ∀ {q : Addr}, H q = none → b ≠ q := fun hq e => by rw [e, hq] at hb; cases hb
        refine ⟨b, by rw [set_none y]; exact b1, (b2.move (Same.refl _) ((s _ _ hb).trans hb.symm)).move sc rfl, (nc' (off nc)).trans b3, b4, fun z => ?_, fun l' h => b6 l' (own4 h)⟩
        rcases z with ⟨p, hp, h⟩ | z
        case inr => exact b5 (.inr z)
        cases hp
        rcases h with h | h
        · exact off nd h
        · exact off ng h
    · intro l m x
      by_cases y : l = j
      · subst y
        obtain ⟨e3, e4⟩ := set_at x
        cases e3
        exact ⟨_, rfl, List.getElem?_set_self (by rw [r.len]; exact e4), dr, by show upd F c _ c ≠ none; rw [upd_same]; exact nofun⟩
      · rw [set_none y] at x
        exact absurd x (gN_none hg l m)
    · intro l l' m m' x y
      have at_ : ∀ {l m : Nat}, (ρ.set j (some (.gen 0)))[l]? = some (some (.gen m)) → l = j := fun {l m} h => by
        by_cases q : l = j
        · exact q
        · rw [set_none q] at h; exact absurd h (gN_none hg l m)
      rw [at_ x, at_ y]
    · intro p hp
      rw [g0] at hp; cases hp
    · intro _ p hp
      cases hp
      exact ⟨d2, g2⟩
    · intro p hp
      rw [g0] at hp; cases hp
    · intro p hp
      cases hp
      exact ⟨_, _, h1, h3, fun xs => ⟨nofun, nofun⟩⟩
    · intro p hp
      cases hp
      exact ⟨(nc' (fun e => ncd e.symm)).trans d1, (nc' (fun e => ncg e.symm)).trans g1⟩
    · exact r1.tabs
    · intro b z
      have y : b ≠ c := fun y => c3 (.inr (y ▸ z))
      obtain ⟨z1, z2⟩ := r1.tin b z
      exact ⟨(nc' y).trans z1, z2⟩
    · intro p hp
      cases hp
      exact ⟨fun z => d3 (.inr z), fun z => g3 (.inr z)⟩
theorem ls_begin {B : Hp × Hp × GAt} (hB : B.2.2 = none) {i j : Nat} : LS GD K B (tAsg (tCall (spBegun K) [] E0 (tCons (tVar i) tNil)) (gName j)) (uBegin i j) := ls_beginT [] hB
end
end LK
namespace LK
open PySem PySem.Spec PyProof.Rows L2 CD DL
/-! ### what _law_heard makes of a call -/
/-- the classes that are heard: name, field, word -/
def hears : List (Str × Str × Str) := [("BadRule", "part", "rule"), ("BadKind", "part", "kind"), ("BadText", "line", "text")]
def NH__law_heard : V → Hp → VK → Prop := fun _ G Q => ∀ l, G l = none → Q (.ref l) (upd G l (.lst [.str "told"]))
def CH__law_heard (_ : PySem.W.Frag) (mg : Str → Option Value) : Value → Option Addr → Hp → VK → Prop := fun cls d G Q => ∃ (t : Str × Str × Str) (C dd : Addr) (fs : List (Str × V)) (v : V), t ∈ hears ∧ mg t.1 = some (.ref C) ∧ cls = .ref C ∧ d = some dd ∧ G dd = some (.xd fs) ∧ fs.lookup t.2.1 = some v ∧
  ∀ a, G a = none → ∀ l, upd G a (ExK a (.ref C) (some dd)) l = none → Q (.ref l) (upd (upd G a (ExK a (.ref C) (some dd))) l (.lst [.str t.2.2, v]))
def uN__law_heard : UN := fun _ ρ Q => Q (.fr (.list [.str "told"])) ρ
def uC__law_heard : UC := fun x ρ Q => ∃ (t : Str × Str × Str) (y : D), t ∈ hears ∧ x.1 = t.1 ∧ x.2 = some (t.2.1, y) ∧ Q (.fr (.list [.str t.2.2, y])) ρ
section
variable {GP : GenP} {K : PySem.W.Frag} {mg : Str → Option Value}
theorem hvN_heard : NOk GP K NH__law_heard uN__law_heard := by
  intro H0 F0 γ0 γ σ H F ρ v x R Q r k u h a na
  exact h _ _ _ _ _ _ (r.same (same_upd na)) (Same.refl _) (fr_new r na (.lst upd_same (.cons (.str _) .nil))) u
theorem hvC_heard : COk GP K mg (CH__law_heard K mg) uC__law_heard := by
  intro H0 F0 γ0 γ σ H F ρ nm c d x R Q r ex hm u h
  obtain ⟨t, y, ht, e1, e2, q⟩ := u
  dsimp only at e1 e2
  subst e1 e2
  cases d with
  | none => exact ex.elim
  | some dd =>
    obtain ⟨v, e3, dv⟩ := ex
    refine ⟨t, c, dd, _, v, ht, hm, rfl, rfl, r.sub _ _ e3, (by simp), fun a na l nl => ?_⟩
    have sA := same_upd (H := H) (o := ExK a (.ref c) (some dd)) na
    have r2 := r.same sA
    exact h _ _ _ _ _ _ (r2.same (same_upd nl)) (Same.refl _) (fr_new r2 nl (.lst upd_same (.cons (.str _) (.cons dv .nil)))) q
/-- what is known of the classes -/
structure Hears (P : Program) (w : World) (K : PySem.W.Frag) (mg : Str → Option Value) (base : Heap) (cR cK cT cO : Addr) : Prop where
  tR : ErrC P w K mg base "BadRule" cR (some "part")
  tK : ErrC P w K mg base "BadKind" cK (some "part")
  tT : ErrC P w K mg base "BadText" cT (some "line")
  tO : ErrC P w K mg base "OutOfPlace" cO none
  xR : ExcC K cR
  xK : ExcC K cK
  xT : ExcC K cT
  kRR : PySem.W.kitOne K (.ref cR) (.ref cR) = some true
  kKR : PySem.W.kitOne K (.ref cK) (.ref cR) = some false
  kKK : PySem.W.kitOne K (.ref cK) (.ref cK) = some true
  kTR : PySem.W.kitOne K (.ref cT) (.ref cR) = some false
  kTK : PySem.W.kitOne K (.ref cT) (.ref cK) = some false
  kTT : PySem.W.kitOne K (.ref cT) (.ref cT) = some true
  eR : PySem.W.exmAny K (.ref cR) [.ref cK, .ref cR, .ref cT, .ref cO] = some true
  eK : PySem.W.exmAny K (.ref cK) [.ref cK, .ref cR, .ref cT, .ref cO] = some true
  eT : PySem.W.exmAny K (.ref cT) [.ref cK, .ref cR, .ref cT, .ref cO] = some true
theorem hvG_heard {P : Program} {w : World} {base : Heap} {cR cK cT cO : Addr} (T : Hears P w K mg base cR cK cT cO) (hz : mg "isinstance" = none) (X : Cx) (eK : X.K = K) (em : X.mg = mg) (g : Addr) (cdv : Value) (q : Str) :
    LamX.GivesTo X n__law_heard "_law_heard" (defScope s__law_heard) g cdv (defBody s__law_heard) "call" q (TTg NH__law_heard (CH__law_heard K mg)) := by
  subst eK em
  intro f c' s H Q tl act hc h
  have mR := T.tR.m
  have mK := T.tK.m
  have mT := T.tT.m
  have mO := T.tO.m
  refine ⟨_, pss_cons (ps_set (i := 1) sc__law_heard.nd rfl (Or.inl rfl) pe_non)
    (pss_cons (ps_tryK (i := 2) (ask := fun cls => PySem.W.exmAny X.K cls [.ref cK, .ref cR, .ref cT, .ref cO]) (ts := fun a cls d => tAsg (tVar 2) (gName 1)) (tb := fun W D σ H => ∃ Ech : XK, (∀ cls d σ' H', Ech cls d H' → W cls d σ' H') ∧ σ[0]? = some (some (.ref f)) ∧ H c' = some (LamX.CodeO c' q) ∧ tl Ech H fun v H' => D.nx σ H') rfl rfl rfl LamX.takes0
      (fun W pn xe tk _ => ?_) (fun cls b e => asks_four ⟨by rfl, by decide, mK⟩ ⟨by rfl, by decide, mR⟩ ⟨by rfl, by decide, mT⟩ ⟨by rfl, by decide, mO⟩ e) ⟨sc__law_heard.nd, rfl, rfl⟩ (fun a cls d pn => pss_one (ps_set (i := 1) sc__law_heard.nd rfl (Or.inl rfl) (pv 2))))
    (pss_cons (ps_if (pt_cmpR op_isN (pv 1) pe_non (nomark _)) (pss_one (ps_ret (pe_lst (pa_cons pe_str pa_nil)))) pss_nil)
    (pss_cons (ps_if (pt_val (pe_callB call_isK (by rfl) hz (by decide +kernel) (pa_cons (pv 1) (pa_cons (pe_glob (v := .ref cR) (by rfl) mR rfl) pa_nil)))) (pss_one (ps_ret (pe_lst (pa_cons pe_str (pa_cons (pe_xk (pv 1)) pa_nil))))) pss_nil)
    (pss_cons (ps_if (pt_val (pe_callB call_isK (by rfl) hz (by decide +kernel) (pa_cons (pv 1) (pa_cons (pe_glob (v := .ref cK) (by rfl) mK rfl) pa_nil)))) (pss_one (ps_ret (pe_lst (pa_cons pe_str (pa_cons (pe_xk (pv 1)) pa_nil))))) pss_nil)
    (pss_one (ps_ret (pe_ifExp (pt_val (pe_callB call_isK (by rfl) hz (by decide +kernel) (pa_cons (pv 1) (pa_cons (pe_glob (v := .ref cT) (by rfl) mT rfl) pa_nil)))) (pe_lst (pa_cons pe_str (pa_cons (pe_xk (pv 1)) pa_nil))) (pe_lst (pa_cons pe_str pa_nil))))))))), ?_⟩
  · refine ⟨fun pins s' σ H' D I ⟨Ech, hW, h1, h2, h3⟩ => ?_⟩
    exact (pss_one (ps_expr (act W pn xe Ech _ _ tk hW))).run pins s' σ H' D I ⟨h1, h2, h3⟩
  · refine ⟨fun cls d G => CH__law_heard X.K X.mg cls d G Q, fun cls d σ' G ⟨t, C, dd, fs, v, ht, e1, e2, e3, e4, e5, e6⟩ hl => ?_, rfl, hc, ?_⟩
    · simp only [hears, List.mem_cons, List.not_mem_nil, or_false] at ht
      have ne : ∀ b, G b = none → dd ≠ b := fun b nb z => by rw [z, nb] at e4; cases e4
      have at4 : ∀ b, G b = none → ∀ {o : HO}, upd G b o dd = some (.xd fs) := fun b nb o => by rw [upd_ne (ne b nb)]; exact e4
      have has : ∀ b, G b = none → ∀ {o : HO}, ∀ d', some dd = some d' → ∃ fs, upd G b o d' = some (.xd fs) := fun b nb o d' e => by cases e; exact ⟨fs, at4 b nb⟩
      match σ', hl with
      | [x0, x1, x2], _ =>
        subst e2 e3
        rcases ht with rfl | rfl | rfl
        · rw [mR] at e1
          cases e1
          refine ⟨true, T.eR, fun _ b nb => ?_, fun z => nomatch z⟩
          exact ⟨.ref b, rfl, .ref b, rfl, rfl, false, rfl, .ref b, rfl, b, cR, cR, some dd, true, rfl, upd_same, T.xR, has b nb, T.kRR, true, rfl, .ref b, rfl, b, cR, dd, fs, v, rfl, upd_same, T.tR.xf, T.tR.no _ rfl, at4 b nb, e5, (by decide : 2 ≤ sizeLine), e6 b nb⟩
        · rw [mK] at e1
          cases e1
          refine ⟨true, T.eK, fun _ b nb => ?_, fun z => nomatch z⟩
          exact ⟨.ref b, rfl, .ref b, rfl, rfl, false, rfl, .ref b, rfl, b, cK, cR, some dd, false, rfl, upd_same, T.xK, has b nb, T.kKR, false, rfl, .ref b, rfl, b, cK, cK, some dd, true, rfl, upd_same, T.xK, has b nb, T.kKK, true, rfl, .ref b, rfl, b, cK, dd, fs, v, rfl, upd_same, T.tK.xf, T.tK.no _ rfl, at4 b nb, e5, (by decide : 2 ≤ sizeLine), e6 b nb⟩
        · rw [mT] at e1
          cases e1
          refine ⟨true, T.eT, fun _ b nb => ?_, fun z => nomatch z⟩
          exact ⟨.ref b, rfl, .ref b, rfl, rfl, false, rfl, .ref b, rfl, b, cT, cR, some dd, false, rfl, upd_same, T.xT, has b nb, T.kTR, false, rfl, .ref b, rfl, b, cT, cK, some dd, false, rfl, upd_same, T.xT, has b nb, T.kTK, false, rfl, .ref b, rfl, b, cT, cT, some dd, true, rfl, upd_same, T.xT, has b nb, T.kTT, true, rfl, .ref b, rfl, b, cT, dd, fs, v, rfl, upd_same, T.tT.xf, T.tT.no _ rfl, at4 b nb, e5, (by decide : 2 ≤ sizeLine), e6 b nb⟩
    · refine h _ (Same.refl _) _ _ (fun _ _ _ z => z) fun v G z => ?_
      exact ⟨.non, rfl, rfl, true, rfl, (by decide : 1 ≤ sizeLine), z⟩
end
end LK

namespace LK
open PySem PySem.Spec PyProof.Rows L2 CD DL


section
variable {P : Program} {w : World} {K : PySem.W.Frag} {mg : Str → Option Value} {base : Heap} {T : List (Addr × Str)}
def u__law_of : US := (uRet (uOp pIxL (uVar 1) (uCall 2 W__law_next (uCons (uVar 0) (uCons (uCB pLen (uCons (uVar 1) uNil)) uNil)))))
structure W__law_of (as : List SV) (Q : QD) : Prop where
  h : Wof 2 u__law_of as Q
theorem lift__law_of (z : Z mg) (c__law_next : CalG P w K mg base 2 "_law_next" p__law_next (spL (GD.tb T) K 2 W__law_next)) (hD : Def K mg "_law_of" s__law_of p__law_of) : CalG P w K mg base 3 "_law_of" p__law_of (spL (GD.tb T) K 2 W__law_of) := by
  refine CalG.impD (hD.calD sc__law_of u__law_of fun f cdv A outer s H E hgd hr => ?_) fun as Q h => h.h
  have hu := hu_of hr
  refine ⟨_, (pss_one (ps_ret (pe_ix ix_list (pv 1) (pe_calG c__law_next hgd (hr.mono (by decide)) (by rfl) (pa_cons (pv 0) (pa_cons (pe_callB (call_len_seq) (by rfl) z.«len» (by decide +kernel) (pa_cons (pv 1) pa_nil)) pa_nil))) (fun _ _ => rfl)))), ?_⟩
  intro B
  exact (ls_ret (le_op lr_ixL (le_var 1) (le_call (la_cons (le_var 0) (la_cons (le_cb lb_len (la_cons (le_var 1) la_nil)) la_nil)))))
def u__law_unlike : US := (uSeq (uPar 4 5 (uLstRg2 (uVar 2) (uOp (pI0 fun i j => D.int (i + j)) (uVar 2) (uVar 3))) (uLst uNil))
    (uSeq (uFor (uiRng1 (uCons (uVar 1) uNil)) (ugName 6) (uDrop (uAppend 5 (uPopAt 4 (uCall 2 W__law_next (uCons (uVar 0) (uCons (uCB pLen (uCons (uVar 4) uNil)) uNil)))))))
    (uRet (uCB pTupOf (uCons (uVar 5) uNil)))))
structure W__law_unlike (as : List SV) (Q : QD) : Prop where
  h : Wof 7 u__law_unlike as Q
theorem lift__law_unlike (z : Z mg) (c__law_next : CalG P w K mg base 2 "_law_next" p__law_next (spL (GD.tb T) K 2 W__law_next)) (hD : Def K mg "_law_unlike" s__law_unlike p__law_unlike) : CalG P w K mg base 3 "_law_unlike" p__law_unlike (spL (GD.tb T) K 4 W__law_unlike) := by
  refine CalG.impD (hD.calD sc__law_unlike u__law_unlike fun f cdv A outer s H E hgd hr => ?_) fun as Q h => h.h
  have hu := hu_of hr
  refine ⟨_, (pss_cons (ps_par (i := 4) (j := 5) rfl sc__law_unlike.nd rfl rfl (by decide) rfl rfl (pa_cons (pe_listRg rfl (by rfl) z.«list» (prg_2 (by rfl) z.«range» (pv 2) (pe_op op_add (pv 2) (pv 3)))) (pa_cons (pe_lst pa_nil) pa_nil)) (by rfl))
    (pss_cons (ps_for PassesOwn.never rfl (pi_range1 (by rfl) z.«range» (pa_cons (pv 1) pa_nil)) (pg_name (i := 6) sc__law_unlike.nd rfl (Or.inl rfl)) (pss_one (ps_expr (pe_bm PySem.F.plainAttrs_list PySem.F.slot_list_append PySem.F.type_list_append mt_append (pv 5) (pa_cons (pe_bm PySem.F.plainAttrs_list PySem.F.slot_list_pop PySem.F.type_list_pop mt_popAt (pv 4) (pa_cons (pe_calG c__law_next hgd (hr.mono (by decide)) (by rfl) (pa_cons (pv 0) (pa_cons (pe_callB (call_len_seq) (by rfl) z.«len» (by decide +kernel) (pa_cons (pv 4) pa_nil)) pa_nil))) pa_nil)) pa_nil)))))
    (pss_one (ps_ret (pe_callTy (call_tuple_of) (by rfl) z.«tuple» (by decide +kernel) (pa_cons (pv 5) pa_nil)))))), ?_⟩
  intro B
  exact (ls_seq (ls_par (le_lstRg2 (le_var 2) (le_op (lr_I0 (g' := fun i j => D.int (i + j)) fun _ _ => rfl) (le_var 2) (le_var 3))) (le_lst la_nil))
    (ls_seq (ls_for (li_rng1 (la_cons (le_var 1) la_nil)) (lg_name 6) (ls_drop (le_append (le_popAt (le_call (la_cons (le_var 0) (la_cons (le_cb lb_len (la_cons (le_var 4) la_nil)) la_nil)))))))
    (ls_ret (le_cb lb_tupOf (la_cons (le_var 5) la_nil)))))
def u__law_steps : US := (uRet (uCall 4 W__law_unlike (uCons (uVar 0) (uCons (uOp (pI0 fun i j => D.int (i + j)) (uC (.int 1)) (uCall 2 W__law_next (uCons (uVar 0) (uCons (uC (.int 4)) uNil)))) (uCons (uC (.int 1)) (uCons (uC (.int 6)) uNil))))))
structure W__law_steps (as : List SV) (Q : QD) : Prop where
  h : Wof 1 u__law_steps as Q
theorem lift__law_steps (z : Z mg) (c__law_unlike : CalG P w K mg base 3 "_law_unlike" p__law_unlike (spL (GD.tb T) K 4 W__law_unlike)) (c__law_next : CalG P w K mg base 2 "_law_next" p__law_next (spL (GD.tb T) K 2 W__law_next)) (hD : Def K mg "_law_steps" s__law_steps p__law_steps) : CalG P w K mg base 4 "_law_steps" p__law_steps (spL (GD.tb T) K 1 W__law_steps) := by
  refine CalG.impD (hD.calD sc__law_steps u__law_steps fun f cdv A outer s H E hgd hr => ?_) fun as Q h => h.h
  have hu := hu_of hr
  refine ⟨_, (pss_one (ps_ret (pe_calG c__law_unlike hgd (hr.mono (by decide)) (by rfl) (pa_cons (pv 0) (pa_cons (pe_op op_add pe_int (pe_calG c__law_next hgd (hr.mono (by decide)) (by rfl) (pa_cons (pv 0) (pa_cons pe_int pa_nil)))) (pa_cons pe_int (pa_cons pe_int pa_nil))))))), ?_⟩
  intro B
  exact (ls_ret (le_call (la_cons (le_var 0) (la_cons (le_op (lr_I0 (g' := fun i j => D.int (i + j)) fun _ _ => rfl) (le_int _) (le_call (la_cons (le_var 0) (la_cons (le_int _) la_nil)))) (la_cons (le_int _) (la_cons (le_int _) la_nil))))))
def u__law_adds : US := (uRet (uTup (uCons (uOp (pI0 fun i j => D.int (i + j)) (uC (.int 2)) (uCall 2 W__law_next (uCons (uVar 0) (uCons (uC (.int 4)) uNil)))) (uCons (uCall 4 W__law_unlike (uCons (uVar 0) (uCons (uOp (pI0 fun i j => D.int (i + j)) (uC (.int 1)) (uCall 2 W__law_next (uCons (uVar 0) (uCons (uCB pMin2 (uCons (uC (.int 5)) (uCons (uVar 1) uNil))) uNil)))) (uCons (uC (.int 0)) (uCons (uVar 1) uNil))))) uNil))))
structure W__law_adds (as : List SV) (Q : QD) : Prop where
  h : Wof 2 u__law_adds as Q
theorem lift__law_adds (z : Z mg) (c__law_next : CalG P w K mg base 2 "_law_next" p__law_next (spL (GD.tb T) K 2 W__law_next)) (c__law_unlike : CalG P w K mg base 3 "_law_unlike" p__law_unlike (spL (GD.tb T) K 4 W__law_unlike)) (hD : Def K mg "_law_adds" s__law_adds p__law_adds) : CalG P w K mg base 4 "_law_adds" p__law_adds (spL (GD.tb T) K 2 W__law_adds) := by
  refine CalG.impD (hD.calD sc__law_adds u__law_adds fun f cdv A outer s H E hgd hr => ?_) fun as Q h => h.h
  have hu := hu_of hr
  refine ⟨_, (pss_one (ps_ret (pe_tup (pa_cons (pe_op op_add pe_int (pe_calG c__law_next hgd (hr.mono (by decide)) (by rfl) (pa_cons (pv 0) (pa_cons pe_int pa_nil)))) (pa_cons (pe_calG c__law_unlike hgd (hr.mono (by decide)) (by rfl) (pa_cons (pv 0) (pa_cons (pe_op op_add pe_int (pe_calG c__law_next hgd (hr.mono (by decide)) (by rfl) (pa_cons (pv 0) (pa_cons (pe_callB (call_min2 rfl) (by rfl) z.«min» (by decide +kernel) (pa_cons pe_int (pa_cons (pv 1) pa_nil))) pa_nil)))) (pa_cons pe_int (pa_cons (pv 1) pa_nil))))) pa_nil))))), ?_⟩
  intro B
  exact (ls_ret (le_tup (la_cons (le_op (lr_I0 (g' := fun i j => D.int (i + j)) fun _ _ => rfl) (le_int _) (le_call (la_cons (le_var 0) (la_cons (le_int _) la_nil)))) (la_cons (le_call (la_cons (le_var 0) (la_cons (le_op (lr_I0 (g' := fun i j => D.int (i + j)) fun _ _ => rfl) (le_int _) (le_call (la_cons (le_var 0) (la_cons (le_cb lb_min2 (la_cons (le_int _) (la_cons (le_var 1) la_nil))) la_nil)))) (la_cons (le_int _) (la_cons (le_var 1) la_nil))))) la_nil))))
def u__law_shape : US := (uSeq (uSet 1 (uCall 2 W__law_of (uCons (uVar 0) (uCons (uLst (uCons (uC (.str "parts")) (uCons (uC (.str "half")) (uCons (uC (.str "best")) (uCons (uC (.str "heap")) uNil))))) uNil))))
    (uRet (uIfE (uTest (uOp pEq (uVar 1) (uC (.str "half")))) (uTup (uCons (uC (.str "half")) uNil)) (uTup (uCons (uVar 1) (uCons (uOp (pI0 fun i j => D.int (i + j)) (uC (.int 2)) (uCall 2 W__law_next (uCons (uVar 0) (uCons (uC (.int 7)) uNil)))) uNil))))))
structure W__law_shape (as : List SV) (Q : QD) : Prop where
  h : Wof 2 u__law_shape as Q
theorem lift__law_shape (z : Z mg) (c__law_of : CalG P w K mg base 3 "_law_of" p__law_of (spL (GD.tb T) K 2 W__law_of)) (c__law_next : CalG P w K mg base 2 "_law_next" p__law_next (spL (GD.tb T) K 2 W__law_next)) (hD : Def K mg "_law_shape" s__law_shape p__law_shape) : CalG P w K mg base 4 "_law_shape" p__law_shape (spL (GD.tb T) K 1 W__law_shape) := by
  refine CalG.impD (hD.calD sc__law_shape u__law_shape fun f cdv A outer s H E hgd hr => ?_) fun as Q h => h.h
  have hu := hu_of hr
  refine ⟨_, (pss_cons (ps_set (i := 1) sc__law_shape.nd rfl (Or.inl rfl) (pe_calG c__law_of hgd (hr.mono (by decide)) (by rfl) (pa_cons (pv 0) (pa_cons (pe_lst (pa_cons pe_str (pa_cons pe_str (pa_cons pe_str (pa_cons pe_str pa_nil))))) pa_nil))))
    (pss_one (ps_ret (pe_ifExp (pt_cmpR op_eq (pv 1) pe_str (nomark _)) (pe_tup (pa_cons pe_str pa_nil)) (pe_tup (pa_cons (pv 1) (pa_cons (pe_op op_add pe_int (pe_calG c__law_next hgd (hr.mono (by decide)) (by rfl) (pa_cons (pv 0) (pa_cons pe_int pa_nil)))) pa_nil))))))), ?_⟩
  intro B
  exact (ls_seq (ls_set (le_call (la_cons (le_var 0) (la_cons (le_lst (la_cons (le_str _) (la_cons (le_str _) (la_cons (le_str _) (la_cons (le_str _) la_nil))))) la_nil))))
    (ls_ret (le_if (lt_test (le_op lr_eq (le_var 1) (le_str _))) (le_tup (la_cons (le_str _) la_nil)) (le_tup (la_cons (le_var 1) (la_cons (le_op (lr_I0 (g' := fun i j => D.int (i + j)) fun _ _ => rfl) (le_int _) (le_call (la_cons (le_var 0) (la_cons (le_int _) la_nil)))) la_nil))))))
def u__law_is_whole : US := (uRet (uAndV (uIsi "int" (uVar 0)) (uAndV (uNotV (uIsi "bool" (uVar 0))) (uChain (pI0 fun i j => D.bl (decide (i ≤ j))) (pI0 fun i j => D.bl (decide (i ≤ j))) (uVar 1) (uVar 0) (uVar 2)))))
structure W__law_is_whole (as : List SV) (Q : QD) : Prop where
  h : Wof 3 u__law_is_whole as Q
theorem lift__law_is_whole (z : Z mg) (hD : Def K mg "_law_is_whole" s__law_is_whole p__law_is_whole) : CalG P w K mg base 1 "_law_is_whole" p__law_is_whole (spL (GD.tb T) K 3 W__law_is_whole) := by
  refine CalG.impD (hD.calD sc__law_is_whole u__law_is_whole fun f cdv A outer s H E hgd hr => ?_) fun as Q h => h.h
  have hu := hu_of hr
  refine ⟨_, (pss_one (ps_ret (pe_and (pe_callB call_isi (by rfl) z.«isinstance» (by decide +kernel) (pa_cons (pv 0) (pa_cons (pe_bltn (v := .ty "int") (by rfl) z.«int» (by decide +kernel) rfl) pa_nil))) (pe_and (pe_not (pe_callB call_isi (by rfl) z.«isinstance» (by decide +kernel) (pa_cons (pv 0) (pa_cons (pe_bltn (v := .ty "bool") (by rfl) z.«bool» (by decide +kernel) rfl) pa_nil)))) (pe_one (pe_chain op_le op_le (pv 1) (pv 0) (pv 2))))))), ?_⟩
  intro B
  exact (ls_ret (le_and (le_isi (le_var 0)) (le_and (le_not (le_isi (le_var 0))) (le_chain (lr_I0 (g' := fun i j => D.bl (decide (i ≤ j))) fun _ _ => rfl) (lr_I0 (g' := fun i j => D.bl (decide (i ≤ j))) fun _ _ => rfl) (le_var 1) (le_var 0) (le_var 2)))))
abbrev i__law_part_1 : US := (uRet (uLst (uCons (uC (.str "rule")) (uCons (uC (.str "step")) uNil))))
abbrev i__law_part_2 : US := (uIfS (uTest (uOp (pNil true) (uLc (uiSeq (uVar 0)) (ugName 5) (uNot (uTest (uCall 3 W__law_is_whole (uCons (uVar 5) (uCons (uVar 1) (uCons (uVar 2) uNil)))))) (uVar 5) [5]) (uLst uNil))) i__law_part_1 uNext)
abbrev i__law_part_3 : US := (uSet 3 (uLc (uiEnum1 (uCons (uVar 0) uNil)) (ugTup 2 (ugCons (ugName 4) (ugCons (ugName 5) ugNil))) (uTest (uOp (pIn false) (uVar 5) (uSlT (uVar 0) uNoPart (uPart (uVar 4))))) (uVar 5) [4, 5]))
abbrev i__law_part_4 : US := (uRet (uIfE (uTest (uOp (pNil false) (uVar 3) (uLst uNil))) (uLst (uCons (uC (.str "told")) uNil)) (uLst (uCons (uC (.str "rule")) (uCons (uC (.str "same")) uNil)))))
def u__law_part : US := (uSeq i__law_part_2
    (uSeq i__law_part_3
    i__law_part_4))
structure W__law_part (as : List SV) (Q : QD) : Prop where
  h : Wof 6 u__law_part as Q
theorem lift__law_part (z : Z mg) (c__law_is_whole : CalG P w K mg base 1 "_law_is_whole" p__law_is_whole (spL (GD.tb T) K 3 W__law_is_whole)) (hD : Def K mg "_law_part" s__law_part p__law_part) : CalG P w K mg base 2 "_law_part" p__law_part (spL (GD.tb T) K 3 W__law_part) := by
  refine CalG.impD (hD.calD sc__law_part u__law_part fun f cdv A outer s H E hgd hr => ?_) fun as Q h => h.h
  have hu := hu_of hr
  refine ⟨_, (pss_cons (ps_if (pt_cmpR (op_neNil hr.units) (pe_lc (own := [("one", 5)]) (g := (gName 5)) rfl sc__law_part.nd (pi_tup (pv 0)) (blkOk_by (N := n__law_part) (sc := defScope s__law_part) (by decide +kernel)) (fun _ _ _ _ _ => (pg_name (i := 5) sc__law_part.nd rfl (Or.inl rfl))) (fun _ _ _ _ _ => (pts_one (pt_not (pt_val (pe_calG c__law_is_whole hgd (hr.mono (by decide)) (by rfl) (pa_cons (pv 5) (pa_cons (pv 1) (pa_cons (pv 2) pa_nil)))))))) (fun _ _ _ _ _ => (pv 5))) (pe_lst pa_nil) (nomark _)) (pss_one (ps_ret (pe_lst (pa_cons pe_str (pa_cons pe_str pa_nil))))) pss_nil)
    (pss_cons (ps_setLc (i := 3) (own := [("k", 4), ("one", 5)]) (g := (gTup K 2 (gCons (gName 4) (gCons (gName 5) gNil)))) rfl sc__law_part.nd rfl rfl (sw_true rfl rfl rfl (by decide +kernel)) (pi_enum1 (by rfl) z.«enumerate» (pa_cons (pv 0) pa_nil)) (blkOk_by (N := n__law_part) (sc := defScope s__law_part) (by decide +kernel)) (fun _ _ _ _ _ => (pg_tup rfl (pgs_cons (pg_name (i := 4) sc__law_part.nd rfl (Or.inl rfl)) (pgs_cons (pg_name (i := 5) sc__law_part.nd rfl (Or.inl rfl)) pgs_nil)))) (fun _ _ _ _ _ => (pts_one (pt_cmpR (op_in_seqK (K := K) rfl) (pv 5) (pe_slice (sl_tupAK (K := K) rfl) (pv 0) po_none (po_some (pv 4))) (by rfl)))) (fun _ _ _ _ _ => (pv 5)))
    (pss_one (ps_ret (pe_ifExp (pt_cmpR (op_eqNil hr.units) (pv 3) (pe_lst pa_nil) (nomark _)) (pe_lst (pa_cons pe_str pa_nil)) (pe_lst (pa_cons pe_str (pa_cons pe_str pa_nil)))))))), ?_⟩
  intro B
  exact (ls_seq (ls_if (lt_test (le_op (lr_nil true) (le_lc (li_tup (le_var 0)) (lg_name 5) (gw_name (by decide)) (lt_not (lt_B (le_call (la_cons (le_var 5) (la_cons (le_var 1) (la_cons (le_var 2) la_nil)))))) (le_var 5)) (le_lst la_nil))) (ls_ret (le_lst (la_cons (le_str _) (la_cons (le_str _) la_nil)))) ls_next)
    (ls_seq (ls_set (le_lc (li_enum1 (la_cons (le_var 0) la_nil)) (lg_tup (lgs_cons (lg_name 4) (lgs_cons (lg_name 5) lgs_nil))) (gw_tup (gws_cons (gw_name (by decide)) (gws_cons (gw_name (by decide)) gws_nil))) (lt_test (le_op (lr_in (neg := false)) (le_var 5) (le_slT (le_var 0) lo_none (lo_some (le_var 4))))) (le_var 5)))
    (ls_ret (le_if (lt_test (le_op (lr_nil false) (le_var 3) (le_lst la_nil))) (le_lst (la_cons (le_str _) la_nil)) (le_lst (la_cons (le_str _) (la_cons (le_str _) la_nil)))))))
def u__law_steps_due : US := (uSeq (uIfS (uOr (uNot (uTest (uIsi "tuple" (uVar 0)))) (uNot (uTest (uChain (pI0 fun i j => D.bl (decide (i ≤ j))) (pI0 fun i j => D.bl (decide (i ≤ j))) (uC (.int 1)) (uCB pLen (uCons (uVar 0) uNil)) (uC (.int 4)))))) (uRet (uLst (uCons (uC (.str "rule")) (uCons (uC (.str "form")) uNil)))) uNext)
    (uRet (uCall 3 W__law_part (uCons (uVar 0) (uCons (uC (.int 1)) (uCons (uC (.int 6)) uNil))))))
structure W__law_steps_due (as : List SV) (Q : QD) : Prop where
  h : Wof 1 u__law_steps_due as Q
theorem lift__law_steps_due (z : Z mg) (c__law_part : CalG P w K mg base 2 "_law_part" p__law_part (spL (GD.tb T) K 3 W__law_part)) (hD : Def K mg "_law_steps_due" s__law_steps_due p__law_steps_due) : CalG P w K mg base 3 "_law_steps_due" p__law_steps_due (spL (GD.tb T) K 1 W__law_steps_due) := by
  refine CalG.impD (hD.calD sc__law_steps_due u__law_steps_due fun f cdv A outer s H E hgd hr => ?_) fun as Q h => h.h
  have hu := hu_of hr
  refine ⟨_, (pss_cons (ps_if (PW.pt (pw_or (pt_not (pt_val (pe_callB call_isi (by rfl) z.«isinstance» (by decide +kernel) (pa_cons (pv 0) (pa_cons (pe_bltn (v := .ty "tuple") (by rfl) z.«tuple» (by decide +kernel) rfl) pa_nil))))) (pw_or1 (pt_not (pt_chain op_le op_le pe_int (pe_callB (call_len_seq) (by rfl) z.«len» (by decide +kernel) (pa_cons (pv 0) pa_nil)) pe_int))))) (pss_one (ps_ret (pe_lst (pa_cons pe_str (pa_cons pe_str pa_nil))))) pss_nil)
    (pss_one (ps_ret (pe_calG c__law_part hgd (hr.mono (by decide)) (by rfl) (pa_cons (pv 0) (pa_cons pe_int (pa_cons pe_int pa_nil))))))), ?_⟩
  intro B
  exact (ls_seq (ls_if (lt_or (lt_not (lt_B (le_isi (le_var 0)))) (lt_not (lt_test (le_chain (lr_I0 (g' := fun i j => D.bl (decide (i ≤ j))) fun _ _ => rfl) (lr_I0 (g' := fun i j => D.bl (decide (i ≤ j))) fun _ _ => rfl) (le_int _) (le_cb lb_len (la_cons (le_var 0) la_nil)) (le_int _))))) (ls_ret (le_lst (la_cons (le_str _) (la_cons (le_str _) la_nil)))) ls_next)
    (ls_ret (le_call (la_cons (le_var 0) (la_cons (le_int _) (la_cons (le_int _) la_nil))))))
abbrev i__law_adds_due_1 : US := (uRet (uLst (uCons (uC (.str "rule")) (uCons (uC (.str "form")) uNil))))
abbrev i__law_adds_due_2 : US := (uIfS (uOr (uNot (uTest (uIsi "tuple" (uVar 0)))) (uOr (uTest (uOp pNe (uCB pLen (uCons (uVar 0) uNil)) (uC (.int 2)))) (uNot (uTest (uIsi "tuple" (uOp pIxT (uVar 0) (uC (.int 1)))))))) i__law_adds_due_1 uNext)
abbrev i__law_adds_due_3 : US := (uRet (uLst (uCons (uC (.str "rule")) (uCons (uC (.str "form")) uNil))))
abbrev i__law_adds_due_4 : US := (uIfS (uNot (uTest (uChain (pI0 fun i j => D.bl (decide (i ≤ j))) (pI0 fun i j => D.bl (decide (i ≤ j))) (uC (.int 1)) (uCB pLen (uCons (uOp pIxT (uVar 0) (uC (.int 1))) uNil)) (uC (.int 5))))) i__law_adds_due_3 uNext)
abbrev i__law_adds_due_5 : US := (uRet (uIfE (uTest (uCall 3 W__law_is_whole (uCons (uOp pIxT (uVar 0) (uC (.int 0))) (uCons (uC (.int 2)) (uCons (uC (.int 5)) uNil))))) (uCall 3 W__law_part (uCons (uOp pIxT (uVar 0) (uC (.int 1))) (uCons (uC (.int 0)) (uCons (uC (.int 20)) uNil)))) (uLst (uCons (uC (.str "rule")) (uCons (uC (.str "step")) uNil)))))
def u__law_adds_due : US := (uSeq i__law_adds_due_2
    (uSeq i__law_adds_due_4
    i__law_adds_due_5))
structure W__law_adds_due (as : List SV) (Q : QD) : Prop where
  h : Wof 1 u__law_adds_due as Q
theorem lift__law_adds_due (z : Z mg) (c__law_is_whole : CalG P w K mg base 1 "_law_is_whole" p__law_is_whole (spL (GD.tb T) K 3 W__law_is_whole)) (c__law_part : CalG P w K mg base 2 "_law_part" p__law_part (spL (GD.tb T) K 3 W__law_part)) (hD : Def K mg "_law_adds_due" s__law_adds_due p__law_adds_due) : CalG P w K mg base 3 "_law_adds_due" p__law_adds_due (spL (GD.tb T) K 1 W__law_adds_due) := by
  refine CalG.impD (hD.calD sc__law_adds_due u__law_adds_due fun f cdv A outer s H E hgd hr => ?_) fun as Q h => h.h
  have hu := hu_of hr
  refine ⟨_, (pss_cons (ps_if (PW.pt (pw_or (pt_not (pt_val (pe_callB call_isi (by rfl) z.«isinstance» (by decide +kernel) (pa_cons (pv 0) (pa_cons (pe_bltn (v := .ty "tuple") (by rfl) z.«tuple» (by decide +kernel) rfl) pa_nil))))) (pw_or (pt_cmpR op_ne (pe_callB (call_len_seq) (by rfl) z.«len» (by decide +kernel) (pa_cons (pv 0) pa_nil)) pe_int (nomark _)) (pw_or1 (pt_not (pt_val (pe_callB call_isi (by rfl) z.«isinstance» (by decide +kernel) (pa_cons (pe_ix ix_tup (pv 0) pe_int (fun _ _ => rfl)) (pa_cons (pe_bltn (v := .ty "tuple") (by rfl) z.«tuple» (by decide +kernel) rfl) pa_nil))))))))) (pss_one (ps_ret (pe_lst (pa_cons pe_str (pa_cons pe_str pa_nil))))) pss_nil)
    (pss_cons (ps_if (pt_not (pt_chain op_le op_le pe_int (pe_callB (call_len_seq) (by rfl) z.«len» (by decide +kernel) (pa_cons (pe_ix ix_tup (pv 0) pe_int (fun _ _ => rfl)) pa_nil)) pe_int)) (pss_one (ps_ret (pe_lst (pa_cons pe_str (pa_cons pe_str pa_nil))))) pss_nil)
    (pss_one (ps_ret (pe_ifExp (pt_val (pe_calG c__law_is_whole hgd (hr.mono (by decide)) (by rfl) (pa_cons (pe_ix ix_tup (pv 0) pe_int (fun _ _ => rfl)) (pa_cons pe_int (pa_cons pe_int pa_nil))))) (pe_calG c__law_part hgd (hr.mono (by decide)) (by rfl) (pa_cons (pe_ix ix_tup (pv 0) pe_int (fun _ _ => rfl)) (pa_cons pe_int (pa_cons pe_int pa_nil)))) (pe_lst (pa_cons pe_str (pa_cons pe_str pa_nil)))))))), ?_⟩
  intro B
  exact (ls_seq (ls_if (lt_or (lt_not (lt_B (le_isi (le_var 0)))) (lt_or (lt_test (le_op lr_ne (le_cb lb_len (la_cons (le_var 0) la_nil)) (le_int _))) (lt_not (lt_B (le_isi (le_op lr_ixT (le_var 0) (le_int _))))))) (ls_ret (le_lst (la_cons (le_str _) (la_cons (le_str _) la_nil)))) ls_next)
    (ls_seq (ls_if (lt_not (lt_test (le_chain (lr_I0 (g' := fun i j => D.bl (decide (i ≤ j))) fun _ _ => rfl) (lr_I0 (g' := fun i j => D.bl (decide (i ≤ j))) fun _ _ => rfl) (le_int _) (le_cb lb_len (la_cons (le_op lr_ixT (le_var 0) (le_int _)) la_nil)) (le_int _)))) (ls_ret (le_lst (la_cons (le_str _) (la_cons (le_str _) la_nil)))) ls_next)
    (ls_ret (le_if (lt_B (le_call (la_cons (le_op lr_ixT (le_var 0) (le_int _)) (la_cons (le_int _) (la_cons (le_int _) la_nil))))) (le_call (la_cons (le_op lr_ixT (le_var 0) (le_int _)) (la_cons (le_int _) (la_cons (le_int _) la_nil)))) (le_lst (la_cons (le_str _) (la_cons (le_str _) la_nil)))))))
abbrev i__law_shape_due_1 : US := (uRet (uLst (uCons (uC (.str "kind")) (uCons (uC (.str "form")) uNil))))
abbrev i__law_shape_due_2 : US := (uIfS (uOr (uNot (uTest (uIsi "tuple" (uVar 0)))) (uOr (uTest (uOp (pNil false) (uVar 0) (uTup uNil))) (uNot (uTest (uIsi "str" (uOp pIxT (uVar 0) (uC (.int 0)))))))) i__law_shape_due_1 uNext)
abbrev i__law_shape_due_3 : US := (uRet (uLst (uCons (uC (.str "kind")) (uCons (uC (.str "form")) uNil))))
abbrev i__law_shape_due_4 : US := (uIfS (uTest (uOp (pIn true) (uOp pIxT (uVar 0) (uC (.int 0))) (uTup (uCons (uC (.str "parts")) (uCons (uC (.str "half")) (uCons (uC (.str "best")) (uCons (uC (.str "heap")) uNil))))))) i__law_shape_due_3 uNext)
abbrev i__law_shape_due_5 : US := (uRet (uIfE (uTest (uOp pEq (uCB pLen (uCons (uVar 0) uNil)) (uC (.int 1)))) (uLst (uCons (uC (.str "told")) uNil)) (uLst (uCons (uC (.str "kind")) (uCons (uC (.str "number")) uNil)))))
abbrev i__law_shape_due_6 : US := (uIfS (uTest (uOp pEq (uOp pIxT (uVar 0) (uC (.int 0))) (uC (.str "half")))) i__law_shape_due_5 uNext)
abbrev i__law_shape_due_7 : US := (uRet (uIfE (uAnd (uTest (uOp pEq (uCB pLen (uCons (uVar 0) uNil)) (uC (.int 2)))) (uTest (uCall 3 W__law_is_whole (uCons (uOp pIxT (uVar 0) (uC (.int 1))) (uCons (uC (.int 2)) (uCons (uC (.int 8)) uNil)))))) (uLst (uCons (uC (.str "told")) uNil)) (uLst (uCons (uC (.str "kind")) (uCons (uC (.str "number")) uNil)))))
def u__law_shape_due : US := (uSeq i__law_shape_due_2
    (uSeq i__law_shape_due_4
    (uSeq i__law_shape_due_6
    i__law_shape_due_7)))
structure W__law_shape_due (as : List SV) (Q : QD) : Prop where
  h : Wof 1 u__law_shape_due as Q
theorem lift__law_shape_due (z : Z mg) (c__law_is_whole : CalG P w K mg base 1 "_law_is_whole" p__law_is_whole (spL (GD.tb T) K 3 W__law_is_whole)) (hD : Def K mg "_law_shape_due" s__law_shape_due p__law_shape_due) : CalG P w K mg base 2 "_law_shape_due" p__law_shape_due (spL (GD.tb T) K 1 W__law_shape_due) := by
  refine CalG.impD (hD.calD sc__law_shape_due u__law_shape_due fun f cdv A outer s H E hgd hr => ?_) fun as Q h => h.h
  have hu := hu_of hr
  refine ⟨_, (pss_cons (ps_if (PW.pt (pw_or (pt_not (pt_val (pe_callB call_isi (by rfl) z.«isinstance» (by decide +kernel) (pa_cons (pv 0) (pa_cons (pe_bltn (v := .ty "tuple") (by rfl) z.«tuple» (by decide +kernel) rfl) pa_nil))))) (pw_or (pt_cmpR (op_eqNil hr.units) (pv 0) (pe_tup pa_nil) (nomark _)) (pw_or1 (pt_not (pt_val (pe_callB call_isi (by rfl) z.«isinstance» (by decide +kernel) (pa_cons (pe_ix ix_tup (pv 0) pe_int (fun _ _ => rfl)) (pa_cons (pe_bltn (v := .ty "str") (by rfl) z.«str» (by decide +kernel) rfl) pa_nil))))))))) (pss_one (ps_ret (pe_lst (pa_cons pe_str (pa_cons pe_str pa_nil))))) pss_nil)
    (pss_cons (ps_if (pt_cmpR op_notIn_seq (pe_ix ix_tup (pv 0) pe_int (fun _ _ => rfl)) (pe_tup (pa_cons pe_str (pa_cons pe_str (pa_cons pe_str (pa_cons pe_str pa_nil))))) (by rfl)) (pss_one (ps_ret (pe_lst (pa_cons pe_str (pa_cons pe_str pa_nil))))) pss_nil)
    (pss_cons (ps_if (pt_cmpR op_eq (pe_ix ix_tup (pv 0) pe_int (fun _ _ => rfl)) pe_str (nomark _)) (pss_one (ps_ret (pe_ifExp (pt_cmpR op_eq (pe_callB (call_len_seq) (by rfl) z.«len» (by decide +kernel) (pa_cons (pv 0) pa_nil)) pe_int (nomark _)) (pe_lst (pa_cons pe_str pa_nil)) (pe_lst (pa_cons pe_str (pa_cons pe_str pa_nil)))))) pss_nil)
    (pss_one (ps_ret (pe_ifExp (PW.pt (pw_and (pt_cmpR op_eq (pe_callB (call_len_seq) (by rfl) z.«len» (by decide +kernel) (pa_cons (pv 0) pa_nil)) pe_int (nomark _)) (pw_and1 (pt_val (pe_calG c__law_is_whole hgd (hr.mono (by decide)) (by rfl) (pa_cons (pe_ix ix_tup (pv 0) pe_int (fun _ _ => rfl)) (pa_cons pe_int (pa_cons pe_int pa_nil)))))))) (pe_lst (pa_cons pe_str pa_nil)) (pe_lst (pa_cons pe_str (pa_cons pe_str pa_nil))))))))), ?_⟩
  intro B
  exact (ls_seq (ls_if (lt_or (lt_not (lt_B (le_isi (le_var 0)))) (lt_or (lt_test (le_op (lr_nil false) (le_var 0) (le_tup la_nil))) (lt_not (lt_B (le_isi (le_op lr_ixT (le_var 0) (le_int _))))))) (ls_ret (le_lst (la_cons (le_str _) (la_cons (le_str _) la_nil)))) ls_next)
    (ls_seq (ls_if (lt_test (le_op (lr_in (neg := true)) (le_op lr_ixT (le_var 0) (le_int _)) (le_tup (la_cons (le_str _) (la_cons (le_str _) (la_cons (le_str _) (la_cons (le_str _) la_nil))))))) (ls_ret (le_lst (la_cons (le_str _) (la_cons (le_str _) la_nil)))) ls_next)
    (ls_seq (ls_if (lt_test (le_op lr_eq (le_op lr_ixT (le_var 0) (le_int _)) (le_str _))) (ls_ret (le_if (lt_test (le_op lr_eq (le_cb lb_len (la_cons (le_var 0) la_nil)) (le_int _))) (le_lst (la_cons (le_str _) la_nil)) (le_lst (la_cons (le_str _) (la_cons (le_str _) la_nil))))) ls_next)
    (ls_ret (le_if (lt_and (lt_test (le_op lr_eq (le_cb lb_len (la_cons (le_var 0) la_nil)) (le_int _))) (lt_B (le_call (la_cons (le_op lr_ixT (le_var 0) (le_int _)) (la_cons (le_int _) (la_cons (le_int _) la_nil)))))) (le_lst (la_cons (le_str _) la_nil)) (le_lst (la_cons (le_str _) (la_cons (le_str _) la_nil))))))))
def u__law_odd : US := (uSeq (uSet 1 (uLst (uCons (uC .non) (uCons (uC (.int 0)) (uCons (uC (.int 1)) (uCons (uUn pNeg (uC (.int 1))) (uCons (uC (.int 2)) (uCons (uC (.int 5)) (uCons (uC (.int 6)) (uCons (uC (.int 7)) (uCons (uC (.int 8)) (uCons (uC (.int 9)) (uCons (uC (.int 20)) (uCons (uC (.int 21)) (uCons (uC (.bl true)) (uCons (uC (.bl false)) (uCons (uC (.str "")) (uCons (uC (.str "half")) (uCons (uC (.str "heap")) (uCons (uC (.str "tree")) uNil))))))))))))))))))))
    (uSeq (uSet 1 (uOp pCat (uVar 1) (uLst (uCons (uTup uNil) (uCons (uLst uNil) (uCons uDNewK (uCons (uTup (uCons (uC (.int 1)) uNil)) (uCons (uTup (uCons (uC (.int 2)) uNil)) (uCons (uTup (uCons (uC (.int 0)) uNil)) (uCons (uTup (uCons (uC (.int 1)) (uCons (uC (.int 1)) uNil))) (uCons (uLst (uCons (uC (.int 1)) uNil)) (uCons (uTup (uCons (uC (.str "half")) uNil)) (uCons (uTup (uCons (uC (.str "heap")) (uCons (uC (.int 2)) uNil))) (uCons (uTup (uCons (uC (.str "heap")) uNil)) uNil))))))))))))))
    (uSeq (uSet 1 (uOp pCat (uVar 1) (uLst (uCons (uTup (uCons (uC (.int 2)) (uCons (uTup (uCons (uC (.int 0)) uNil)) uNil))) (uCons (uTup (uCons (uC (.int 2)) (uCons (uTup uNil) uNil))) (uCons (uTup (uCons (uC (.int 2)) (uCons (uLst (uCons (uC (.int 0)) uNil)) uNil))) (uCons (uTup (uCons (uC (.bl true)) (uCons (uTup (uCons (uC (.int 1)) uNil)) uNil))) (uCons (uOp (pI CPow fun i j => D.int (i ^ j.toNat)) (uC (.int 10)) (uC (.int 30))) (uCons (uOpT (fun x y Q => match x, y with | .tup a, .int k => a ≠ [] ∧ 0 ≤ k ∧ k ≤ 1000 ∧ a.length ≤ 1000 ∧ Q (.tup (List.replicate k.toNat a).flatten) | _, _ => False) (uTup (uCons (uC .non) uNil)) (uC (.int 4))) uNil)))))))))
    (uRet (uCall 2 W__law_of (uCons (uVar 0) (uCons (uOp pCat (uVar 1) (uLst (uCons (uTup (uCons (uC (.int 1)) (uCons (uC (.int 2)) (uCons (uC (.int 3)) (uCons (uC (.int 4)) (uCons (uC (.int 5)) uNil)))))) uNil))) uNil)))))))
structure W__law_odd (as : List SV) (Q : QD) : Prop where
  h : Wof 2 u__law_odd as Q
theorem lift__law_odd (z : Z mg) (c__law_of : CalG P w K mg base 3 "_law_of" p__law_of (spL (GD.tb T) K 2 W__law_of)) (hD : Def K mg "_law_odd" s__law_odd p__law_odd) : CalG P w K mg base 4 "_law_odd" p__law_odd (spL (GD.tb T) K 1 W__law_odd) := by
  refine CalG.impD (hD.calD sc__law_odd u__law_odd fun f cdv A outer s H E hgd hr => ?_) fun as Q h => h.h
  have hu := hu_of hr
  refine ⟨_, (pss_cons (ps_set (i := 1) sc__law_odd.nd rfl (Or.inl rfl) (pe_lst (pa_cons pe_non (pa_cons pe_int (pa_cons pe_int (pa_cons (pe_un un_neg pe_int) (pa_cons pe_int (pa_cons pe_int (pa_cons pe_int (pa_cons pe_int (pa_cons pe_int (pa_cons pe_int (pa_cons pe_int (pa_cons pe_int (pa_cons pe_bl (pa_cons pe_bl (pa_cons pe_str (pa_cons pe_str (pa_cons pe_str (pa_cons pe_str pa_nil))))))))))))))))))))
    (pss_cons (ps_set (i := 1) sc__law_odd.nd rfl (Or.inl rfl) (pe_op op_cat (pv 1) (pe_lst (pa_cons (pe_tup pa_nil) (pa_cons (pe_lst pa_nil) (pa_cons pe_dnewK (pa_cons (pe_tup (pa_cons pe_int pa_nil)) (pa_cons (pe_tup (pa_cons pe_int pa_nil)) (pa_cons (pe_tup (pa_cons pe_int pa_nil)) (pa_cons (pe_tup (pa_cons pe_int (pa_cons pe_int pa_nil))) (pa_cons (pe_lst (pa_cons pe_int pa_nil)) (pa_cons (pe_tup (pa_cons pe_str pa_nil)) (pa_cons (pe_tup (pa_cons pe_str (pa_cons pe_int pa_nil))) (pa_cons (pe_tup (pa_cons pe_str pa_nil)) pa_nil))))))))))))))
    (pss_cons (ps_set (i := 1) sc__law_odd.nd rfl (Or.inl rfl) (pe_op op_cat (pv 1) (pe_lst (pa_cons (pe_tup (pa_cons pe_int (pa_cons (pe_tup (pa_cons pe_int pa_nil)) pa_nil))) (pa_cons (pe_tup (pa_cons pe_int (pa_cons (pe_tup pa_nil) pa_nil))) (pa_cons (pe_tup (pa_cons pe_int (pa_cons (pe_lst (pa_cons pe_int pa_nil)) pa_nil))) (pa_cons (pe_tup (pa_cons pe_bl (pa_cons (pe_tup (pa_cons pe_int pa_nil)) pa_nil))) (pa_cons (pe_op op_pow pe_int pe_int) (pa_cons (pe_op op_repA (pe_tup (pa_cons pe_non pa_nil)) pe_int) pa_nil)))))))))
    (pss_one (ps_ret (pe_calG c__law_of hgd (hr.mono (by decide)) (by rfl) (pa_cons (pv 0) (pa_cons (pe_op op_cat (pv 1) (pe_lst (pa_cons (pe_tup (pa_cons pe_int (pa_cons pe_int (pa_cons pe_int (pa_cons pe_int (pa_cons pe_int pa_nil)))))) pa_nil))) pa_nil)))))))), ?_⟩
  intro B
  exact (ls_seq (ls_set (le_lst (la_cons le_non (la_cons (le_int _) (la_cons (le_int _) (la_cons (le_un lu_neg (le_int _)) (la_cons (le_int _) (la_cons (le_int _) (la_cons (le_int _) (la_cons (le_int _) (la_cons (le_int _) (la_cons (le_int _) (la_cons (le_int _) (la_cons (le_int _) (la_cons (le_bl _) (la_cons (le_bl _) (la_cons (le_str _) (la_cons (le_str _) (la_cons (le_str _) (la_cons (le_str _) la_nil))))))))))))))))))))
    (ls_seq (ls_set (le_op lr_cat (le_var 1) (le_lst (la_cons (le_tup la_nil) (la_cons (le_lst la_nil) (la_cons le_dnewK (la_cons (le_tup (la_cons (le_int _) la_nil)) (la_cons (le_tup (la_cons (le_int _) la_nil)) (la_cons (le_tup (la_cons (le_int _) la_nil)) (la_cons (le_tup (la_cons (le_int _) (la_cons (le_int _) la_nil))) (la_cons (le_lst (la_cons (le_int _) la_nil)) (la_cons (le_tup (la_cons (le_str _) la_nil)) (la_cons (le_tup (la_cons (le_str _) (la_cons (le_int _) la_nil))) (la_cons (le_tup (la_cons (le_str _) la_nil)) la_nil))))))))))))))
    (ls_seq (ls_set (le_op lr_cat (le_var 1) (le_lst (la_cons (le_tup (la_cons (le_int _) (la_cons (le_tup (la_cons (le_int _) la_nil)) la_nil))) (la_cons (le_tup (la_cons (le_int _) (la_cons (le_tup la_nil) la_nil))) (la_cons (le_tup (la_cons (le_int _) (la_cons (le_lst (la_cons (le_int _) la_nil)) la_nil))) (la_cons (le_tup (la_cons (le_bl _) (la_cons (le_tup (la_cons (le_int _) la_nil)) la_nil))) (la_cons (le_op (lr_I (C := CPow) (g' := fun i j => D.int (i ^ j.toNat)) fun _ _ => rfl) (le_int _) (le_int _)) (la_cons (le_repT (le_tup (la_cons le_non la_nil)) (le_int _)) la_nil)))))))))
    (ls_ret (le_call (la_cons (le_var 0) (la_cons (le_op lr_cat (le_var 1) (le_lst (la_cons (le_tup (la_cons (le_int _) (la_cons (le_int _) (la_cons (le_int _) (la_cons (le_int _) (la_cons (le_int _) la_nil)))))) la_nil))) la_nil)))))))
abbrev i__law_bent_1 : US := (uRet (uCall 1 W__law_odd (uCons (uVar 0) uNil)))
abbrev i__law_bent_2 : US := (uIfS (uOr (uNot (uTest (uIsi "tuple" (uVar 1)))) (uOr (uTest (uOp (pNil false) (uVar 1) (uTup uNil))) (uTest (uOp pEq (uCall 2 W__law_next (uCons (uVar 0) (uCons (uC (.int 9)) uNil))) (uC (.int 0)))))) i__law_bent_1 uNext)
abbrev i__law_bent_3 : US := (uPar 2 3 (uCall 2 W__law_next (uCons (uVar 0) (uCons (uCB pLen (uCons (uVar 1) uNil)) uNil))) (uCall 2 W__law_next (uCons (uVar 0) (uCons (uC (.int 10)) uNil))))
abbrev i__law_bent_4 : US := (uRet (uOpT (fun x y Q => match x, y with | .tup a, .tup b => a.length + b.length ≤ sizeLine ∧ Q (.tup (a ++ b)) | _, _ => False) (uSlT (uVar 1) uNoPart (uPart (uVar 2))) (uSlT (uVar 1) (uPart (uOp (pI0 fun i j => D.int (i + j)) (uVar 2) (uC (.int 1)))) uNoPart)))
abbrev i__law_bent_5 : US := (uIfS (uTest (uOp pEq (uVar 3) (uC (.int 0)))) i__law_bent_4 uNext)
abbrev i__law_bent_6 : US := (uRet (uOpT (fun x y Q => match x, y with | .tup a, .tup b => a.length + b.length ≤ sizeLine ∧ Q (.tup (a ++ b)) | _, _ => False) (uOpT (fun x y Q => match x, y with | .tup a, .tup b => a.length + b.length ≤ sizeLine ∧ Q (.tup (a ++ b)) | _, _ => False) (uSlT (uVar 1) uNoPart (uPart (uVar 2))) (uTup (uCons (uCall 1 W__law_odd (uCons (uVar 0) uNil)) uNil))) (uSlT (uVar 1) (uPart (uVar 2)) uNoPart)))
abbrev i__law_bent_7 : US := (uIfS (uTest (uOp pEq (uVar 3) (uC (.int 1)))) i__law_bent_6 uNext)
abbrev i__law_bent_8 : US := (uIfS (uTest (uOp pEq (uVar 3) (uC (.int 2)))) (uRet (uRevT (uVar 1))) uNext)
abbrev i__law_bent_9 : US := (uRet (uCB pListOf (uCons (uVar 1) uNil)))
abbrev i__law_bent_10 : US := (uIfS (uTest (uOp pEq (uVar 3) (uC (.int 3)))) i__law_bent_9 uNext)
abbrev i__law_bent_11 : US := (uRet (uOpT (fun x y Q => match x, y with | .tup a, .tup b => a.length + b.length ≤ sizeLine ∧ Q (.tup (a ++ b)) | _, _ => False) (uVar 1) (uTup (uCons (uOp pIxT (uVar 1) (uVar 2)) uNil))))
abbrev i__law_bent_12 : US := (uIfS (uTest (uOp pEq (uVar 3) (uC (.int 4)))) i__law_bent_11 uNext)
abbrev i__law_bent_13 (WR : WD) : US := (uRet (uOpT (fun x y Q => match x, y with | .tup a, .tup b => a.length + b.length ≤ sizeLine ∧ Q (.tup (a ++ b)) | _, _ => False) (uOpT (fun x y Q => match x, y with | .tup a, .tup b => a.length + b.length ≤ sizeLine ∧ Q (.tup (a ++ b)) | _, _ => False) (uSlT (uVar 1) uNoPart (uPart (uVar 2))) (uTup (uCons (uCall 2 WR (uCons (uVar 0) (uCons (uOp pIxT (uVar 1) (uVar 2)) uNil))) uNil))) (uSlT (uVar 1) (uPart (uOp (pI0 fun i j => D.int (i + j)) (uVar 2) (uC (.int 1)))) uNoPart)))
def u__law_bent (WR : WD) : US := (uSeq i__law_bent_2
    (uSeq i__law_bent_3
    (uSeq i__law_bent_5
    (uSeq i__law_bent_7
    (uSeq i__law_bent_8
    (uSeq i__law_bent_10
    (uSeq i__law_bent_12
    (i__law_bent_13 WR))))))))
def W__law_bentN : Nat → WD
  | 0 => fun _ _ => False
  | n + 1 => Wof 4 (u__law_bent (W__law_bentN n))
structure W__law_bent (as : List SV) (Q : QD) : Prop where
  h : W__law_bentN 8 as Q
theorem liftS__law_bent (z : Z mg) (c__law_next : CalG P w K mg base 2 "_law_next" p__law_next (spL (GD.tb T) K 2 W__law_next)) (c__law_odd : CalG P w K mg base 4 "_law_odd" p__law_odd (spL (GD.tb T) K 1 W__law_odd)) (hD : Def K mg "_law_bent" s__law_bent p__law_bent) (j : Nat) {WR : WD} (c__law_bent : CalG P w K mg base (5 + j) "_law_bent" p__law_bent (spL (GD.tb T) K 2 WR)) : CalG P w K mg base (5 + j + 1) "_law_bent" p__law_bent (spL (GD.tb T) K 2 (Wof 4 (u__law_bent WR))) := by
  refine hD.calD sc__law_bent (u__law_bent WR) fun f cdv A outer s H E hgd hr => ?_
  have hu := hu_of hr
  refine ⟨_, (pss_cons (ps_if (PW.pt (pw_or (pt_not (pt_val (pe_callB call_isi (by rfl) z.«isinstance» (by decide +kernel) (pa_cons (pv 1) (pa_cons (pe_bltn (v := .ty "tuple") (by rfl) z.«tuple» (by decide +kernel) rfl) pa_nil))))) (pw_or (pt_cmpR (op_eqNil hr.units) (pv 1) (pe_tup pa_nil) (nomark _)) (pw_or1 (pt_cmpR op_eq (pe_calG c__law_next hgd (hr.mono (by omega)) (by rfl) (pa_cons (pv 0) (pa_cons pe_int pa_nil))) pe_int (nomark _)))))) (pss_one (ps_ret (pe_calG c__law_odd hgd (hr.mono (by omega)) (by rfl) (pa_cons (pv 0) pa_nil)))) pss_nil)
    (pss_cons (ps_par (i := 2) (j := 3) rfl sc__law_bent.nd rfl rfl (by decide) rfl rfl (pa_cons (pe_calG c__law_next hgd (hr.mono (by omega)) (by rfl) (pa_cons (pv 0) (pa_cons (pe_callB (call_len_seq) (by rfl) z.«len» (by decide +kernel) (pa_cons (pv 1) pa_nil)) pa_nil))) (pa_cons (pe_calG c__law_next hgd (hr.mono (by omega)) (by rfl) (pa_cons (pv 0) (pa_cons pe_int pa_nil))) pa_nil)) (by rfl))
    (pss_cons (ps_if (pt_cmpR op_eq (pv 3) pe_int (nomark _)) (pss_one (ps_ret (pe_op op_catA (pe_slice sl_tupA (pv 1) po_none (po_some (pv 2))) (pe_slice sl_tupA (pv 1) (po_some (pe_op op_add (pv 2) pe_int)) po_none)))) pss_nil)
    (pss_cons (ps_if (pt_cmpR op_eq (pv 3) pe_int (nomark _)) (pss_one (ps_ret (pe_op op_catA (pe_op op_catA (pe_slice sl_tupA (pv 1) po_none (po_some (pv 2))) (pe_tup (pa_cons (pe_calG c__law_odd hgd (hr.mono (by omega)) (by rfl) (pa_cons (pv 0) pa_nil)) pa_nil))) (pe_slice sl_tupA (pv 1) (po_some (pv 2)) po_none)))) pss_nil)
    (pss_cons (ps_if (pt_cmpR op_eq (pv 3) pe_int (nomark _)) (pss_one (ps_ret (pe_revT (pv 1)))) pss_nil)
    (pss_cons (ps_if (pt_cmpR op_eq (pv 3) pe_int (nomark _)) (pss_one (ps_ret (pe_callTy (call_list_of) (by rfl) z.«list» (by decide +kernel) (pa_cons (pv 1) pa_nil)))) pss_nil)
    (pss_cons (ps_if (pt_cmpR op_eq (pv 3) pe_int (nomark _)) (pss_one (ps_ret (pe_op op_catA (pv 1) (pe_tup (pa_cons (pe_ix ix_tup (pv 1) (pv 2) (fun _ _ => rfl)) pa_nil))))) pss_nil)
    (pss_one (ps_ret (pe_op op_catA (pe_op op_catA (pe_slice sl_tupA (pv 1) po_none (po_some (pv 2))) (pe_tup (pa_cons (pe_calG c__law_bent hgd (hr.mono (by omega)) (by rfl) (pa_cons (pv 0) (pa_cons (pe_ix ix_tup (pv 1) (pv 2) (fun _ _ => rfl)) pa_nil))) pa_nil))) (pe_slice sl_tupA (pv 1) (po_some (pe_op op_add (pv 2) pe_int)) po_none))))))))))), ?_⟩
  intro B
  exact (ls_seq (ls_if (lt_or (lt_not (lt_B (le_isi (le_var 1)))) (lt_or (lt_test (le_op (lr_nil false) (le_var 1) (le_tup la_nil))) (lt_test (le_op lr_eq (le_call (la_cons (le_var 0) (la_cons (le_int _) la_nil))) (le_int _))))) (ls_ret (le_call (la_cons (le_var 0) la_nil))) ls_next)
    (ls_seq (ls_par (le_call (la_cons (le_var 0) (la_cons (le_cb lb_len (la_cons (le_var 1) la_nil)) la_nil))) (le_call (la_cons (le_var 0) (la_cons (le_int _) la_nil))))
    (ls_seq (ls_if (lt_test (le_op lr_eq (le_var 3) (le_int _))) (ls_ret (le_catT (le_slT (le_var 1) lo_none (lo_some (le_var 2))) (le_slT (le_var 1) (lo_some (le_op (lr_I0 (g' := fun i j => D.int (i + j)) fun _ _ => rfl) (le_var 2) (le_int _))) lo_none))) ls_next)
    (ls_seq (ls_if (lt_test (le_op lr_eq (le_var 3) (le_int _))) (ls_ret (le_catT (le_catT (le_slT (le_var 1) lo_none (lo_some (le_var 2))) (le_tup (la_cons (le_call (la_cons (le_var 0) la_nil)) la_nil))) (le_slT (le_var 1) (lo_some (le_var 2)) lo_none))) ls_next)
    (ls_seq (ls_if (lt_test (le_op lr_eq (le_var 3) (le_int _))) (ls_ret (le_revT (le_var 1))) ls_next)
    (ls_seq (ls_if (lt_test (le_op lr_eq (le_var 3) (le_int _))) (ls_ret (le_cb lb_listOf (la_cons (le_var 1) la_nil))) ls_next)
    (ls_seq (ls_if (lt_test (le_op lr_eq (le_var 3) (le_int _))) (ls_ret (le_catT (le_var 1) (le_tup (la_cons (le_op lr_ixT (le_var 1) (le_var 2)) la_nil)))) ls_next)
    (ls_ret (le_catT (le_catT (le_slT (le_var 1) lo_none (lo_some (le_var 2))) (le_tup (la_cons (le_call (la_cons (le_var 0) (la_cons (le_op lr_ixT (le_var 1) (le_var 2)) la_nil))) la_nil))) (le_slT (le_var 1) (lo_some (le_op (lr_I0 (g' := fun i j => D.int (i + j)) fun _ _ => rfl) (le_var 2) (le_int _))) lo_none))))))))))
theorem liftR__law_bent (z : Z mg) (c__law_next : CalG P w K mg base 2 "_law_next" p__law_next (spL (GD.tb T) K 2 W__law_next)) (c__law_odd : CalG P w K mg base 4 "_law_odd" p__law_odd (spL (GD.tb T) K 1 W__law_odd)) (hD : Def K mg "_law_bent" s__law_bent p__law_bent) : ∀ j : Nat, CalG P w K mg base (5 + j) "_law_bent" p__law_bent (spL (GD.tb T) K 2 (W__law_bentN j))
  | 0 => calG_never hD
  | j + 1 => liftS__law_bent z c__law_next c__law_odd hD j (liftR__law_bent z c__law_next c__law_odd hD j)
theorem lift__law_bent (z : Z mg) (c__law_next : CalG P w K mg base 2 "_law_next" p__law_next (spL (GD.tb T) K 2 W__law_next)) (c__law_odd : CalG P w K mg base 4 "_law_odd" p__law_odd (spL (GD.tb T) K 1 W__law_odd)) (hD : Def K mg "_law_bent" s__law_bent p__law_bent) : CalG P w K mg base 13 "_law_bent" p__law_bent (spL (GD.tb T) K 2 W__law_bent) := CalG.impD (liftR__law_bent z c__law_next c__law_odd hD 8) fun as Q h => h.h
abbrev i__law_right_1 : US := (uPar 1 2 (uCB pReprE (uCons (uVar 0) uNil)) (uLst (uCons (uCall 1 W__law_steps_due (uCons (uVar 0) uNil)) (uCons (uCall 1 W__law_adds_due (uCons (uVar 0) uNil)) (uCons (uCall 1 W__law_shape_due (uCons (uVar 0) uNil)) uNil)))))
abbrev i__law_right_2 : US := (uSet 4 (uLst (uCons (uLam (fun QE => uCallX 1 W_rule_text QE (uCons (uVar 0) uNil)) uN__law_heard uC__law_heard) (uCons (uLam (fun QE => uCallX 1 W_scaled_text QE (uCons (uVar 0) uNil)) uN__law_heard uC__law_heard) uNil))))
abbrev i__law_right_3 : US := (uDrop (uAppend 4 (uLam (fun QE => uCallX 1 W_kind_text QE (uCons (uVar 0) uNil)) uN__law_heard uC__law_heard)))
abbrev i__law_right_4 : US := (uIfS (uTest (uOp pNe (uCB pReprE (uCons (uVar 4) uNil)) (uCB pReprE (uCons (uVar 2) uNil)))) (uRet (uC (.bl false))) uNext)
abbrev i__law_right_5 : US := (uFor (uiRng1 (uCons (uC (.int 2)) uNil)) (ugName 3) (uSeq i__law_right_2
    (uSeq i__law_right_3
    i__law_right_4)))
abbrev i__law_right_6 : US := (uRet (uOp pEq (uCB pReprE (uCons (uVar 0) uNil)) (uVar 1)))
def u__law_right : US := (uSeq i__law_right_1
    (uSeq i__law_right_5
    i__law_right_6))
structure W__law_right (as : List SV) (Q : QD) : Prop where
  h : Wof 5 u__law_right as Q
theorem lift__law_right (z : Z mg) (c__law_steps_due : CalG P w K mg base 3 "_law_steps_due" p__law_steps_due (spL (GD.tb T) K 1 W__law_steps_due)) (c__law_adds_due : CalG P w K mg base 3 "_law_adds_due" p__law_adds_due (spL (GD.tb T) K 1 W__law_adds_due)) (c__law_shape_due : CalG P w K mg base 2 "_law_shape_due" p__law_shape_due (spL (GD.tb T) K 1 W__law_shape_due)) (c_rule_text : CalX P w K mg base 4 "rule_text" p_rule_text (spX (GD.tb T) K mg 1 W_rule_text)) (c_scaled_text : CalX P w K mg base 4 "scaled_text" p_scaled_text (spX (GD.tb T) K mg 1 W_scaled_text)) (c_kind_text : CalX P w K mg base 4 "kind_text" p_kind_text (spX (GD.tb T) K mg 1 W_kind_text)) (hvD__law_heard : Def K mg "_law_heard" s__law_heard p__law_heard) (hvG__law_heard : ∀ X : Cx, X.prog = P → X.w = w → X.K = K → X.mg = mg → X.base = base → X.A.guards = some [] → ∀ (g : Addr) (cdv : Value) (q : Str), LamX.GivesTo X n__law_heard "_law_heard" (defScope s__law_heard) g cdv (defBody s__law_heard) "call" q (TTg NH__law_heard (CH__law_heard K mg))) (hvN__law_heard : NOk (GD.tb T) K NH__law_heard uN__law_heard) (hvC__law_heard : COk (GD.tb T) K mg (CH__law_heard K mg) uC__law_heard) {cL PL : Addr} (L__law_right : LamT K mg base (GD.tb T).T "_law_right" cL PL) (hD : Def K mg "_law_right" s__law_right p__law_right) : CalG P w K mg base 7 "_law_right" p__law_right (spL (GD.tb T) K 1 W__law_right) := by
  refine CalG.impD (hD.calDT sc__law_right L__law_right.code u__law_right fun f cdv A outer s H E hcd hgd hr => ?_) fun as Q h => h.h
  have hu := hu_of hr
  refine ⟨_, (pss_cons (ps_par (i := 1) (j := 2) rfl sc__law_right.nd rfl rfl (by decide) rfl rfl (pa_cons (pe_callB (call_reprE hgd hr.units) (by rfl) z.«repr» (by decide +kernel) (pa_cons (pv 0) pa_nil)) (pa_cons (pe_lst (pa_cons (pe_calG c__law_steps_due hgd (hr.mono (by decide)) (by rfl) (pa_cons (pv 0) pa_nil)) (pa_cons (pe_calG c__law_adds_due hgd (hr.mono (by decide)) (by rfl) (pa_cons (pv 0) pa_nil)) (pa_cons (pe_calG c__law_shape_due hgd (hr.mono (by decide)) (by rfl) (pa_cons (pv 0) pa_nil)) pa_nil)))) pa_nil)) (by rfl))
    (pss_cons (ps_for PassesOwn.never rfl (pi_range1 (by rfl) z.«range» (pa_cons pe_int pa_nil)) (pg_name (i := 3) sc__law_right.nd rfl (Or.inl rfl)) (pss_cons (ps_set (i := 4) sc__law_right.nd rfl (Or.inl rfl) (pe_lst (pa_cons (pe_lam0 (k := 4) L__law_right rfl hvD__law_heard sc__law_heard (fun g cdv => hvG__law_heard _ rfl rfl rfl rfl rfl hgd g cdv _) (by rfl) rfl (Or.inl rfl) hcd (hr.mono (by decide)) (lamD_by (out := defScope s__law_right) (by decide +kernel)) rfl (fun _ _ _ _ _ _ => rfl) hgd (fun A outer s H E f co hg2 hr2 => (pe_calX c_rule_text hg2 (hr2.mono (by decide)) (fun σ => passAt (takes_of (E := E) rfl rfl rfl rfl) σ) (by rfl) (pa_cons (pv 0) pa_nil)))) (pa_cons (pe_lamD (z := "x") (k := 4) L__law_right rfl hvD__law_heard sc__law_heard (fun g cdv => hvG__law_heard _ rfl rfl rfl rfl rfl hgd g cdv _) (by rfl) rfl (Or.inl rfl) hcd (hr.mono (by decide)) (lamD_by (out := defScope s__law_right) (by decide +kernel)) (show ("x" : Str) ∉ n__law_right from by decide +kernel) rfl rfl (fun _ _ _ _ _ _ _ _ => ⟨_, rfl, rfl⟩) hgd (fun A outer s H E f co hg2 hr2 => (pe_calX c_scaled_text hg2 (hr2.mono (by decide)) (fun σ => passAt (takes_of (E := E) rfl rfl rfl rfl) σ) (by rfl) (pa_cons (pv 0) pa_nil)))) pa_nil))))
    (pss_cons (ps_expr (pe_bm PySem.F.plainAttrs_list PySem.F.slot_list_append PySem.F.type_list_append mt_append (pv 4) (pa_cons (pe_lam0 (k := 4) L__law_right rfl hvD__law_heard sc__law_heard (fun g cdv => hvG__law_heard _ rfl rfl rfl rfl rfl hgd g cdv _) (by rfl) rfl (Or.inl rfl) hcd (hr.mono (by decide)) (lamD_by (out := defScope s__law_right) (by decide +kernel)) rfl (fun _ _ _ _ _ _ => rfl) hgd (fun A outer s H E f co hg2 hr2 => (pe_calX c_kind_text hg2 (hr2.mono (by decide)) (fun σ => passAt (takes_of (E := E) rfl rfl rfl rfl) σ) (by rfl) (pa_cons (pv 0) pa_nil)))) pa_nil)))
    (pss_one (ps_if (pt_cmpR op_ne (pe_callB (call_reprE hgd hr.units) (by rfl) z.«repr» (by decide +kernel) (pa_cons (pv 4) pa_nil)) (pe_callB (call_reprE hgd hr.units) (by rfl) z.«repr» (by decide +kernel) (pa_cons (pv 2) pa_nil)) (nomark _)) (pss_one (ps_ret pe_bl)) pss_nil)))))
    (pss_one (ps_ret (pe_cmpR op_eq (pe_callB (call_reprE hgd hr.units) (by rfl) z.«repr» (by decide +kernel) (pa_cons (pv 0) pa_nil)) (pv 1) (nomark _)))))), ?_⟩
  intro B
  exact (ls_seq (ls_par (le_cb lb_reprE (la_cons (le_var 0) la_nil)) (le_lst (la_cons (le_call (la_cons (le_var 0) la_nil)) (la_cons (le_call (la_cons (le_var 0) la_nil)) (la_cons (le_call (la_cons (le_var 0) la_nil)) la_nil)))))
    (ls_seq (ls_for (li_rng1 (la_cons (le_int _) la_nil)) (lg_name 3) (ls_seq (ls_set (le_lst (la_cons (le_lam hvN__law_heard hvC__law_heard (lex_call (la_cons (le_var 0) la_nil))) (la_cons (le_lam hvN__law_heard hvC__law_heard (lex_call (la_cons (le_var 0) la_nil))) la_nil))))
    (ls_seq (ls_drop (le_append (le_lam hvN__law_heard hvC__law_heard (lex_call (la_cons (le_var 0) la_nil)))))
    (ls_if (lt_test (le_op lr_ne (le_cb lb_reprE (la_cons (le_var 4) la_nil)) (le_cb lb_reprE (la_cons (le_var 2) la_nil)))) (ls_ret (le_bl _)) ls_next))))
    (ls_ret (le_op lr_eq (le_cb lb_reprE (la_cons (le_var 0) la_nil)) (le_var 1)))))
abbrev i_law_1 : US := (uIfS (uOr (uNot (uTest (uCall 1 W__law_right (uCons (uVar 3) uNil)))) (uOr (uNot (uTest (uCall 1 W__law_right (uCons (uCB pListOf (uCons (uVar 3) uNil)) uNil)))) (uNot (uTest (uCall 1 W__law_right (uCons (uCall 1 W__law_odd (uCons (uVar 1) uNil)) uNil)))))) (uRet (uC (.bl false))) uNext)
abbrev i_law_2 : US := (uSet 5 (uCall 2 W__law_bent (uCons (uVar 1) (uCons (uVar 3) uNil))))
abbrev i_law_3 : US := (uIfS (uOr (uNot (uTest (uCall 1 W__law_right (uCons (uVar 5) uNil)))) (uNot (uTest (uCall 1 W__law_right (uCons (uCall 2 W__law_bent (uCons (uVar 1) (uCons (uVar 5) uNil))) uNil))))) (uRet (uC (.bl false))) uNext)
abbrev i_law_4 : US := (uFor (uiRng1 (uCons (uC (.int 7)) uNil)) (ugName 4) (uSeq i_law_2
    i_law_3))
abbrev i_law_5 : US := (uFor (uiSeq (uTup (uCons (uCall 1 W__law_steps (uCons (uVar 1) uNil)) (uCons (uCall 2 W__law_adds (uCons (uVar 1) (uCons (uC (.int 21)) uNil))) (uCons (uCall 1 W__law_shape (uCons (uVar 1) uNil)) uNil))))) (ugName 3) (uSeq i_law_1
    i_law_4))
abbrev i_law_6 : US := (uFor (uiRng1 (uCons (uOp (pI0 fun i j => D.int (i + j)) (uC (.int 3)) (uCB pMin2 (uCons (uCB pLen (uCons (uVar 0) uNil)) (uCons (uC (.int 6)) uNil)))) uNil)) (ugName 2) i_law_5)
abbrev i_law_7 : US := (uSet 6 (uLst (uCons (uTup (uCons (uC (.int 1)) (uCons (uC (.int 7)) uNil))) (uCons (uTup (uCons (uC (.int 0)) (uCons (uC (.int 1)) uNil))) (uCons (uTup (uCons (uC (.int 1)) (uCons (uC (.int 1)) (uCons (uC (.int 7)) uNil)))) (uCons (uTup (uCons (uC (.int 7)) (uCons (uC (.int 7)) uNil))) (uCons (uTup (uCons (uC (.int 1)) (uCons (uC (.int 2)) (uCons (uC (.int 1)) uNil)))) (uCons (uTup (uCons (uC (.int 1)) (uCons (uC (.bl true)) uNil))) (uCons (uTup (uCons (uC (.int 1)) (uCons (uC (.int 2)) (uCons (uC (.int 3)) (uCons (uC (.int 4)) uNil))))) (uCons (uTup (uCons (uC (.int 1)) (uCons (uC (.int 2)) (uCons (uC (.int 3)) (uCons (uC (.int 4)) (uCons (uC (.int 5)) uNil)))))) uNil))))))))))
abbrev i_law_8 : US := (uSet 6 (uOp pCat (uVar 6) (uLst (uCons (uTup uNil) (uCons (uTup (uCons (uC (.int 6)) uNil)) (uCons (uTup (uCons (uC (.int 6)) (uCons (uTup (uCons (uC (.int 1)) uNil)) uNil))) (uCons (uTup (uCons (uC (.int 1)) (uCons (uTup (uCons (uC (.int 1)) uNil)) uNil))) (uCons (uTup (uCons (uC (.int 2)) (uCons (uTup (uCons (uC (.int 21)) uNil)) uNil))) (uCons (uTup (uCons (uC (.int 2)) (uCons (uTup (uCons (uUn pNeg (uC (.int 1))) uNil)) uNil))) (uCons (uTup (uCons (uC (.int 2)) (uCons (uTup (uCons (uC (.int 1)) (uCons (uC (.int 1)) uNil))) uNil))) (uCons (uTup (uCons (uC (.int 2)) (uCons (uTup (uCons (uC (.int 21)) (uCons (uC (.int 1)) (uCons (uC (.int 1)) uNil)))) uNil))) uNil)))))))))))
abbrev i_law_9 : US := (uSet 6 (uOp pCat (uVar 6) (uLst (uCons (uTup (uCons (uC (.int 6)) (uCons (uTup (uCons (uC (.int 1)) (uCons (uC (.int 1)) uNil))) uNil))) (uCons (uTup (uCons (uC (.int 2)) (uCons (uTup (uCons (uC (.bl true)) uNil)) uNil))) (uCons (uTup (uCons (uC (.int 2)) (uCons (uTup (uCons (uC (.int 0)) (uCons (uC (.int 1)) (uCons (uC (.int 2)) (uCons (uC (.int 3)) (uCons (uC (.int 4)) uNil)))))) uNil))) (uCons (uTup (uCons (uC (.int 2)) (uCons (uTup (uCons (uC (.int 0)) (uCons (uC (.int 1)) (uCons (uC (.int 2)) (uCons (uC (.int 3)) (uCons (uC (.int 4)) (uCons (uC (.int 5)) uNil))))))) uNil))) (uCons (uTup (uCons (uC (.int 5)) (uCons (uTup (uCons (uC (.int 20)) uNil)) uNil))) uNil))))))))
abbrev i_law_10 : US := (uSet 6 (uOp pCat (uVar 6) (uLst (uCons (uTup (uCons (uC (.int 2)) (uCons (uC (.int 1)) uNil))) (uCons (uTup (uCons (uC (.int 2)) (uCons (uTup (uCons (uC (.int 1)) uNil)) (uCons (uC (.int 1)) uNil)))) (uCons (uTup (uCons (uC (.str "half")) (uCons (uC (.int 2)) uNil))) (uCons (uTup (uCons (uC (.str "parts")) (uCons (uC (.int 1)) uNil))) (uCons (uTup (uCons (uC (.str "parts")) (uCons (uC (.int 9)) uNil))) (uCons (uTup (uCons (uC (.str "best")) (uCons (uC (.bl true)) uNil))) uNil)))))))))
abbrev i_law_11 : US := (uSet 6 (uOp pCat (uVar 6) (uLst (uCons (uTup (uCons (uC (.str "heap")) (uCons (uC (.int 2)) (uCons (uC (.int 2)) uNil)))) (uCons (uTup (uCons (uC (.str "heap")) (uCons (uC (.str "2")) uNil))) (uCons (uTup (uCons (uLst (uCons (uC (.str "half")) uNil)) uNil)) (uCons (uTup (uCons (uC (.str "Half")) uNil)) uNil)))))))
abbrev i_law_12 : US := (uIfS (uTest (uOp (pNil true) (uLc (uiLst (uVar 6)) (ugName 3) (uNot (uTest (uCall 1 W__law_right (uCons (uVar 3) uNil)))) (uVar 3) [3]) (uLst uNil))) (uRet (uC (.bl false))) uNext)
abbrev i_law_13 : US := (uSet 7 (uLst (uCons (uLam (fun QE => uCallX 1 W_read_rule QE (uCons (uVar 8) uNil)) uN__law_heard uC__law_heard) (uCons (uLam (fun QE => uCallX 1 W_read_scaled QE (uCons (uVar 8) uNil)) uN__law_heard uC__law_heard) uNil))))
abbrev i_law_14 : US := (uIfS (uTest (uOp pNe (uCB pReprE (uCons (uOp pCat (uVar 7) (uLst (uCons (uLam (fun QE => uCallX 1 W_read_kind QE (uCons (uVar 8) uNil)) uN__law_heard uC__law_heard) uNil))) uNil)) (uCB pReprE (uCons (uOp pRep (uLst (uCons (uLst (uCons (uC (.str "text")) (uCons (uC (.int 0)) uNil))) uNil)) (uC (.int 3))) uNil)))) (uRet (uC (.bl false))) uNext)
abbrev i_law_15 : US := (uFor (uiSeq (uTup (uCons (uC .non) (uCons (uC (.int 5)) (uCons (uC (.bl true)) (uCons (uTup uNil) (uCons (uTup (uCons (uC (.str "1")) uNil)) (uCons (uLst (uCons (uC (.str "half")) uNil)) (uCons uDNewK (uCons (uOp (pI CPow fun i j => D.int (i ^ j.toNat)) (uC (.int 10)) (uC (.int 30))) uNil)))))))))) (ugName 8) (uSeq i_law_13
    i_law_14))
def u_law : US := (uSeq (uBegin 0 1)
    (uSeq i_law_6
    (uSeq i_law_7
    (uSeq i_law_8
    (uSeq i_law_9
    (uSeq i_law_10
    (uSeq i_law_11
    (uSeq i_law_12
    (uSeq i_law_15
    (uRet (uC (.bl true))))))))))))
def W_law : WD := Wof 9 u_law
theorem lift_law (z : Z mg) (c__law_steps : CalG P w K mg base 4 "_law_steps" p__law_steps (spL (GD.tb T) K 1 W__law_steps)) (c__law_adds : CalG P w K mg base 4 "_law_adds" p__law_adds (spL (GD.tb T) K 2 W__law_adds)) (c__law_shape : CalG P w K mg base 4 "_law_shape" p__law_shape (spL (GD.tb T) K 1 W__law_shape)) (c__law_right : CalG P w K mg base 7 "_law_right" p__law_right (spL (GD.tb T) K 1 W__law_right)) (c__law_odd : CalG P w K mg base 4 "_law_odd" p__law_odd (spL (GD.tb T) K 1 W__law_odd)) (c__law_bent : CalG P w K mg base 13 "_law_bent" p__law_bent (spL (GD.tb T) K 2 W__law_bent)) (c_read_rule : CalX P w K mg base 6 "read_rule" p_read_rule (spX (GD.tb T) K mg 1 W_read_rule)) (c_read_scaled : CalX P w K mg base 6 "read_scaled" p_read_scaled (spX (GD.tb T) K mg 1 W_read_scaled)) (c_read_kind : CalX P w K mg base 6 "read_kind" p_read_kind (spX (GD.tb T) K mg 1 W_read_kind)) (hvD__law_heard : Def K mg "_law_heard" s__law_heard p__law_heard) (hvG__law_heard : ∀ X : Cx, X.prog = P → X.w = w → X.K = K → X.mg = mg → X.base = base → X.A.guards = some [] → ∀ (g : Addr) (cdv : Value) (q : Str), LamX.GivesTo X n__law_heard "_law_heard" (defScope s__law_heard) g cdv (defBody s__law_heard) "call" q (TTg NH__law_heard (CH__law_heard K mg))) (hvN__law_heard : NOk (GD.tb T) K NH__law_heard uN__law_heard) (hvC__law_heard : COk (GD.tb T) K mg (CH__law_heard K mg) uC__law_heard) {cL PL : Addr} (L_law : LamT K mg base (GD.tb T).T "law" cL PL) (c__law_begun : Cal P w K mg base 2 "_law_start" p__law_start (spBegun K)) (hD : Def K mg "law" s_law p_law) : CalG P w K mg base 14 "law" p_law (spL (GD.tb T) K 1 fun as Q => hasG as = false ∧ W_law as Q) := by
  refine hD.calDLT sc_law L_law.code u_law fun f cdv A outer s H E hcd hgd hr => ?_
  have hu := hu_of hr
  refine ⟨_, (pss_cons (ps_set (i := 1) sc_law.nd rfl (Or.inl rfl) (pe_cal c__law_begun (hr.mono (by decide)) (by rfl) (pa_cons (pv 0) pa_nil)))
    (pss_cons (ps_for PassesOwn.never rfl (pi_range1 (by rfl) z.«range» (pa_cons (pe_op op_add pe_int (pe_callB (call_min2 rfl) (by rfl) z.«min» (by decide +kernel) (pa_cons (pe_callB (call_len_seq) (by rfl) z.«len» (by decide +kernel) (pa_cons (pv 0) pa_nil)) (pa_cons pe_int pa_nil)))) pa_nil)) (pg_name (i := 2) sc_law.nd rfl (Or.inl rfl)) (pss_one (ps_for PassesOwn.never rfl (pi_tup (pe_tup (pa_cons (pe_calG c__law_steps hgd (hr.mono (by decide)) (by rfl) (pa_cons (pv 1) pa_nil)) (pa_cons (pe_calG c__law_adds hgd (hr.mono (by decide)) (by rfl) (pa_cons (pv 1) (pa_cons pe_int pa_nil))) (pa_cons (pe_calG c__law_shape hgd (hr.mono (by decide)) (by rfl) (pa_cons (pv 1) pa_nil)) pa_nil))))) (pg_name (i := 3) sc_law.nd rfl (Or.inl rfl)) (pss_cons (ps_if (PW.pt (pw_or (pt_not (pt_val (pe_calG c__law_right hgd (hr.mono (by decide)) (by rfl) (pa_cons (pv 3) pa_nil)))) (pw_or (pt_not (pt_val (pe_calG c__law_right hgd (hr.mono (by decide)) (by rfl) (pa_cons (pe_callTy (call_list_of) (by rfl) z.«list» (by decide +kernel) (pa_cons (pv 3) pa_nil)) pa_nil)))) (pw_or1 (pt_not (pt_val (pe_calG c__law_right hgd (hr.mono (by decide)) (by rfl) (pa_cons (pe_calG c__law_odd hgd (hr.mono (by decide)) (by rfl) (pa_cons (pv 1) pa_nil)) pa_nil)))))))) (pss_one (ps_ret pe_bl)) pss_nil)
    (pss_one (ps_for PassesOwn.never rfl (pi_range1 (by rfl) z.«range» (pa_cons pe_int pa_nil)) (pg_name (i := 4) sc_law.nd rfl (Or.inl rfl)) (pss_cons (ps_set (i := 5) sc_law.nd rfl (Or.inl rfl) (pe_calG c__law_bent hgd (hr.mono (by decide)) (by rfl) (pa_cons (pv 1) (pa_cons (pv 3) pa_nil))))
    (pss_one (ps_if (PW.pt (pw_or (pt_not (pt_val (pe_calG c__law_right hgd (hr.mono (by decide)) (by rfl) (pa_cons (pv 5) pa_nil)))) (pw_or1 (pt_not (pt_val (pe_calG c__law_right hgd (hr.mono (by decide)) (by rfl) (pa_cons (pe_calG c__law_bent hgd (hr.mono (by decide)) (by rfl) (pa_cons (pv 1) (pa_cons (pv 5) pa_nil))) pa_nil))))))) (pss_one (ps_ret pe_bl)) pss_nil)))))))))
    (pss_cons (ps_set (i := 6) sc_law.nd rfl (Or.inl rfl) (pe_lst (pa_cons (pe_tup (pa_cons pe_int (pa_cons pe_int pa_nil))) (pa_cons (pe_tup (pa_cons pe_int (pa_cons pe_int pa_nil))) (pa_cons (pe_tup (pa_cons pe_int (pa_cons pe_int (pa_cons pe_int pa_nil)))) (pa_cons (pe_tup (pa_cons pe_int (pa_cons pe_int pa_nil))) (pa_cons (pe_tup (pa_cons pe_int (pa_cons pe_int (pa_cons pe_int pa_nil)))) (pa_cons (pe_tup (pa_cons pe_int (pa_cons pe_bl pa_nil))) (pa_cons (pe_tup (pa_cons pe_int (pa_cons pe_int (pa_cons pe_int (pa_cons pe_int pa_nil))))) (pa_cons (pe_tup (pa_cons pe_int (pa_cons pe_int (pa_cons pe_int (pa_cons pe_int (pa_cons pe_int pa_nil)))))) pa_nil))))))))))
    (pss_cons (ps_set (i := 6) sc_law.nd rfl (Or.inl rfl) (pe_op op_cat (pv 6) (pe_lst (pa_cons (pe_tup pa_nil) (pa_cons (pe_tup (pa_cons pe_int pa_nil)) (pa_cons (pe_tup (pa_cons pe_int (pa_cons (pe_tup (pa_cons pe_int pa_nil)) pa_nil))) (pa_cons (pe_tup (pa_cons pe_int (pa_cons (pe_tup (pa_cons pe_int pa_nil)) pa_nil))) (pa_cons (pe_tup (pa_cons pe_int (pa_cons (pe_tup (pa_cons pe_int pa_nil)) pa_nil))) (pa_cons (pe_tup (pa_cons pe_int (pa_cons (pe_tup (pa_cons (pe_un un_neg pe_int) pa_nil)) pa_nil))) (pa_cons (pe_tup (pa_cons pe_int (pa_cons (pe_tup (pa_cons pe_int (pa_cons pe_int pa_nil))) pa_nil))) (pa_cons (pe_tup (pa_cons pe_int (pa_cons (pe_tup (pa_cons pe_int (pa_cons pe_int (pa_cons pe_int pa_nil)))) pa_nil))) pa_nil)))))))))))
    (pss_cons (ps_set (i := 6) sc_law.nd rfl (Or.inl rfl) (pe_op op_cat (pv 6) (pe_lst (pa_cons (pe_tup (pa_cons pe_int (pa_cons (pe_tup (pa_cons pe_int (pa_cons pe_int pa_nil))) pa_nil))) (pa_cons (pe_tup (pa_cons pe_int (pa_cons (pe_tup (pa_cons pe_bl pa_nil)) pa_nil))) (pa_cons (pe_tup (pa_cons pe_int (pa_cons (pe_tup (pa_cons pe_int (pa_cons pe_int (pa_cons pe_int (pa_cons pe_int (pa_cons pe_int pa_nil)))))) pa_nil))) (pa_cons (pe_tup (pa_cons pe_int (pa_cons (pe_tup (pa_cons pe_int (pa_cons pe_int (pa_cons pe_int (pa_cons pe_int (pa_cons pe_int (pa_cons pe_int pa_nil))))))) pa_nil))) (pa_cons (pe_tup (pa_cons pe_int (pa_cons (pe_tup (pa_cons pe_int pa_nil)) pa_nil))) pa_nil))))))))
    (pss_cons (ps_set (i := 6) sc_law.nd rfl (Or.inl rfl) (pe_op op_cat (pv 6) (pe_lst (pa_cons (pe_tup (pa_cons pe_int (pa_cons pe_int pa_nil))) (pa_cons (pe_tup (pa_cons pe_int (pa_cons (pe_tup (pa_cons pe_int pa_nil)) (pa_cons pe_int pa_nil)))) (pa_cons (pe_tup (pa_cons pe_str (pa_cons pe_int pa_nil))) (pa_cons (pe_tup (pa_cons pe_str (pa_cons pe_int pa_nil))) (pa_cons (pe_tup (pa_cons pe_str (pa_cons pe_int pa_nil))) (pa_cons (pe_tup (pa_cons pe_str (pa_cons pe_bl pa_nil))) pa_nil)))))))))
    (pss_cons (ps_set (i := 6) sc_law.nd rfl (Or.inl rfl) (pe_op op_cat (pv 6) (pe_lst (pa_cons (pe_tup (pa_cons pe_str (pa_cons pe_int (pa_cons pe_int pa_nil)))) (pa_cons (pe_tup (pa_cons pe_str (pa_cons pe_str pa_nil))) (pa_cons (pe_tup (pa_cons (pe_lst (pa_cons pe_str pa_nil)) pa_nil)) (pa_cons (pe_tup (pa_cons pe_str pa_nil)) pa_nil)))))))
    (pss_cons (ps_if (pt_cmpR (op_neNil hr.units) (pe_lc (own := [("thing", 3)]) (g := (gName 3)) rfl sc_law.nd (pi_list (pv 6)) (blkOk_by (N := n_law) (sc := defScope s_law) (by decide +kernel)) (fun _ _ _ _ _ => (pg_name (i := 3) sc_law.nd rfl (Or.inl rfl))) (fun _ _ _ _ _ => (pts_one (pt_not (pt_val (pe_calG c__law_right hgd (hr.mono (by decide)) (by rfl) (pa_cons (pv 3) pa_nil)))))) (fun _ _ _ _ _ => (pv 3))) (pe_lst pa_nil) (nomark _)) (pss_one (ps_ret pe_bl)) pss_nil)
    (pss_cons (ps_for PassesOwn.never rfl (pi_tup (pe_tup (pa_cons pe_non (pa_cons pe_int (pa_cons pe_bl (pa_cons (pe_tup pa_nil) (pa_cons (pe_tup (pa_cons pe_str pa_nil)) (pa_cons (pe_lst (pa_cons pe_str pa_nil)) (pa_cons pe_dnewK (pa_cons (pe_op op_pow pe_int pe_int) pa_nil)))))))))) (pg_name (i := 8) sc_law.nd rfl (Or.inr rfl)) (pss_cons (ps_set (i := 7) sc_law.nd rfl (Or.inl rfl) (pe_lst (pa_cons (pe_lam0 (k := 6) L_law rfl hvD__law_heard sc__law_heard (fun g cdv => hvG__law_heard _ rfl rfl rfl rfl rfl hgd g cdv _) (by rfl) rfl (Or.inl rfl) hcd (hr.mono (by decide)) (lamD_by (out := defScope s_law) (by decide +kernel)) rfl (fun _ _ _ _ _ _ => rfl) hgd (fun A outer s H E f co hg2 hr2 => (pe_calX c_read_rule hg2 (hr2.mono (by decide)) (fun σ => passAt (takes_of (E := E) rfl rfl rfl rfl) σ) (by rfl) (pa_cons (pv 8) pa_nil)))) (pa_cons (pe_lamD (z := "x") (k := 6) L_law rfl hvD__law_heard sc__law_heard (fun g cdv => hvG__law_heard _ rfl rfl rfl rfl rfl hgd g cdv _) (by rfl) rfl (Or.inl rfl) hcd (hr.mono (by decide)) (lamD_by (out := defScope s_law) (by decide +kernel)) (show ("x" : Str) ∉ n_law from by decide +kernel) rfl rfl (fun _ _ _ _ _ _ _ _ => ⟨_, rfl, rfl⟩) hgd (fun A outer s H E f co hg2 hr2 => (pe_calX c_read_scaled hg2 (hr2.mono (by decide)) (fun σ => passAt (takes_of (E := E) rfl rfl rfl rfl) σ) (by rfl) (pa_cons (pv 8) pa_nil)))) pa_nil))))
    (pss_one (ps_if (pt_cmpR op_ne (pe_callB (call_reprE hgd hr.units) (by rfl) z.«repr» (by decide +kernel) (pa_cons (pe_op op_cat (pv 7) (pe_lst (pa_cons (pe_lam0 (k := 6) L_law rfl hvD__law_heard sc__law_heard (fun g cdv => hvG__law_heard _ rfl rfl rfl rfl rfl hgd g cdv _) (by rfl) rfl (Or.inl rfl) hcd (hr.mono (by decide)) (lamD_by (out := defScope s_law) (by decide +kernel)) rfl (fun _ _ _ _ _ _ => rfl) hgd (fun A outer s H E f co hg2 hr2 => (pe_calX c_read_kind hg2 (hr2.mono (by decide)) (fun σ => passAt (takes_of (E := E) rfl rfl rfl rfl) σ) (by rfl) (pa_cons (pv 8) pa_nil)))) pa_nil))) pa_nil)) (pe_callB (call_reprE hgd hr.units) (by rfl) z.«repr» (by decide +kernel) (pa_cons (pe_op op_rep (pe_lst (pa_cons (pe_lst (pa_cons pe_str (pa_cons pe_int pa_nil))) pa_nil)) pe_int) pa_nil)) (nomark _)) (pss_one (ps_ret pe_bl)) pss_nil))))
    (pss_one (ps_ret pe_bl))))))))))), ?_⟩
  intro B hB
  exact (ls_seq (ls_beginT T hB)
    (ls_seq (ls_for (li_rng1 (la_cons (le_op (lr_I0 (g' := fun i j => D.int (i + j)) fun _ _ => rfl) (le_int _) (le_cb lb_min2 (la_cons (le_cb lb_len (la_cons (le_var 0) la_nil)) (la_cons (le_int _) la_nil)))) la_nil)) (lg_name 2) (ls_for (li_tup (le_tup (la_cons (le_call (la_cons (le_var 1) la_nil)) (la_cons (le_call (la_cons (le_var 1) (la_cons (le_int _) la_nil))) (la_cons (le_call (la_cons (le_var 1) la_nil)) la_nil))))) (lg_name 3) (ls_seq (ls_if (lt_or (lt_not (lt_B (le_call (la_cons (le_var 3) la_nil)))) (lt_or (lt_not (lt_B (le_call (la_cons (le_cb lb_listOf (la_cons (le_var 3) la_nil)) la_nil)))) (lt_not (lt_B (le_call (la_cons (le_call (la_cons (le_var 1) la_nil)) la_nil)))))) (ls_ret (le_bl _)) ls_next)
    (ls_for (li_rng1 (la_cons (le_int _) la_nil)) (lg_name 4) (ls_seq (ls_set (le_call (la_cons (le_var 1) (la_cons (le_var 3) la_nil))))
    (ls_if (lt_or (lt_not (lt_B (le_call (la_cons (le_var 5) la_nil)))) (lt_not (lt_B (le_call (la_cons (le_call (la_cons (le_var 1) (la_cons (le_var 5) la_nil))) la_nil))))) (ls_ret (le_bl _)) ls_next))))))
    (ls_seq (ls_set (le_lst (la_cons (le_tup (la_cons (le_int _) (la_cons (le_int _) la_nil))) (la_cons (le_tup (la_cons (le_int _) (la_cons (le_int _) la_nil))) (la_cons (le_tup (la_cons (le_int _) (la_cons (le_int _) (la_cons (le_int _) la_nil)))) (la_cons (le_tup (la_cons (le_int _) (la_cons (le_int _) la_nil))) (la_cons (le_tup (la_cons (le_int _) (la_cons (le_int _) (la_cons (le_int _) la_nil)))) (la_cons (le_tup (la_cons (le_int _) (la_cons (le_bl _) la_nil))) (la_cons (le_tup (la_cons (le_int _) (la_cons (le_int _) (la_cons (le_int _) (la_cons (le_int _) la_nil))))) (la_cons (le_tup (la_cons (le_int _) (la_cons (le_int _) (la_cons (le_int _) (la_cons (le_int _) (la_cons (le_int _) la_nil)))))) la_nil))))))))))
    (ls_seq (ls_set (le_op lr_cat (le_var 6) (le_lst (la_cons (le_tup la_nil) (la_cons (le_tup (la_cons (le_int _) la_nil)) (la_cons (le_tup (la_cons (le_int _) (la_cons (le_tup (la_cons (le_int _) la_nil)) la_nil))) (la_cons (le_tup (la_cons (le_int _) (la_cons (le_tup (la_cons (le_int _) la_nil)) la_nil))) (la_cons (le_tup (la_cons (le_int _) (la_cons (le_tup (la_cons (le_int _) la_nil)) la_nil))) (la_cons (le_tup (la_cons (le_int _) (la_cons (le_tup (la_cons (le_un lu_neg (le_int _)) la_nil)) la_nil))) (la_cons (le_tup (la_cons (le_int _) (la_cons (le_tup (la_cons (le_int _) (la_cons (le_int _) la_nil))) la_nil))) (la_cons (le_tup (la_cons (le_int _) (la_cons (le_tup (la_cons (le_int _) (la_cons (le_int _) (la_cons (le_int _) la_nil)))) la_nil))) la_nil)))))))))))
    (ls_seq (ls_set (le_op lr_cat (le_var 6) (le_lst (la_cons (le_tup (la_cons (le_int _) (la_cons (le_tup (la_cons (le_int _) (la_cons (le_int _) la_nil))) la_nil))) (la_cons (le_tup (la_cons (le_int _) (la_cons (le_tup (la_cons (le_bl _) la_nil)) la_nil))) (la_cons (le_tup (la_cons (le_int _) (la_cons (le_tup (la_cons (le_int _) (la_cons (le_int _) (la_cons (le_int _) (la_cons (le_int _) (la_cons (le_int _) la_nil)))))) la_nil))) (la_cons (le_tup (la_cons (le_int _) (la_cons (le_tup (la_cons (le_int _) (la_cons (le_int _) (la_cons (le_int _) (la_cons (le_int _) (la_cons (le_int _) (la_cons (le_int _) la_nil))))))) la_nil))) (la_cons (le_tup (la_cons (le_int _) (la_cons (le_tup (la_cons (le_int _) la_nil)) la_nil))) la_nil))))))))
    (ls_seq (ls_set (le_op lr_cat (le_var 6) (le_lst (la_cons (le_tup (la_cons (le_int _) (la_cons (le_int _) la_nil))) (la_cons (le_tup (la_cons (le_int _) (la_cons (le_tup (la_cons (le_int _) la_nil)) (la_cons (le_int _) la_nil)))) (la_cons (le_tup (la_cons (le_str _) (la_cons (le_int _) la_nil))) (la_cons (le_tup (la_cons (le_str _) (la_cons (le_int _) la_nil))) (la_cons (le_tup (la_cons (le_str _) (la_cons (le_int _) la_nil))) (la_cons (le_tup (la_cons (le_str _) (la_cons (le_bl _) la_nil))) la_nil)))))))))
    (ls_seq (ls_set (le_op lr_cat (le_var 6) (le_lst (la_cons (le_tup (la_cons (le_str _) (la_cons (le_int _) (la_cons (le_int _) la_nil)))) (la_cons (le_tup (la_cons (le_str _) (la_cons (le_str _) la_nil))) (la_cons (le_tup (la_cons (le_lst (la_cons (le_str _) la_nil)) la_nil)) (la_cons (le_tup (la_cons (le_str _) la_nil)) la_nil)))))))
    (ls_seq (ls_if (lt_test (le_op (lr_nil true) (le_lc (li_list (le_var 6)) (lg_name 3) (gw_name (by decide)) (lt_not (lt_B (le_call (la_cons (le_var 3) la_nil)))) (le_var 3)) (le_lst la_nil))) (ls_ret (le_bl _)) ls_next)
    (ls_seq (ls_for (li_tup (le_tup (la_cons le_non (la_cons (le_int _) (la_cons (le_bl _) (la_cons (le_tup la_nil) (la_cons (le_tup (la_cons (le_str _) la_nil)) (la_cons (le_lst (la_cons (le_str _) la_nil)) (la_cons le_dnewK (la_cons (le_op (lr_I (C := CPow) (g' := fun i j => D.int (i ^ j.toNat)) fun _ _ => rfl) (le_int _) (le_int _)) la_nil)))))))))) (lg_name 8) (ls_seq (ls_set (le_lst (la_cons (le_lam hvN__law_heard hvC__law_heard (lex_call (la_cons (le_var 8) la_nil))) (la_cons (le_lam hvN__law_heard hvC__law_heard (lex_call (la_cons (le_var 8) la_nil))) la_nil))))
    (ls_if (lt_test (le_op lr_ne (le_cb lb_reprE (la_cons (le_op lr_cat (le_var 7) (le_lst (la_cons (le_lam hvN__law_heard hvC__law_heard (lex_call (la_cons (le_var 8) la_nil))) la_nil))) la_nil)) (le_cb lb_reprE (la_cons (le_op lr_rep (le_lst (la_cons (le_lst (la_cons (le_str _) (la_cons (le_int _) la_nil))) la_nil)) (le_int _)) la_nil)))) (ls_ret (le_bl _)) ls_next)))
    (ls_ret (le_bl _)))))))))))
end
end LK
namespace LK
open PySem PySem.Spec PyProof.Rows L2 CD DL
/-! ### things of many kinds -/
def odS : List Str := ["parts", "half", "best", "heap", "tree", "", "Half", "1", "2", "told", "rule", "kind", "form", "step", "same", "number", "text"]
/-- things no deeper, no longer -/
inductive Bd (L : Nat) : Nat → D → Prop
  | non {k : Nat} : Bd L k .non
  | bl {k : Nat} (b : Bool) : Bd L k (.bl b)
  | int {k : Nat} {i : Int} (h : -1 ≤ i ∧ i ≤ 30 ∨ i = 10 ^ 30) : Bd L k (.int i)
  | str {k : Nat} {s : Str} (h : s ∈ odS) : Bd L k (.str s)
  | emp {k : Nat} : Bd L k (.dk [])
  | list {k : Nat} {ds : List D} (h : ∀ d ∈ ds, Bd L k d) (l : ds.length ≤ L) : Bd L (k + 1) (.list ds)
  | tup {k : Nat} {ds : List D} (h : ∀ d ∈ ds, Bd L k d) (l : ds.length ≤ L) : Bd L (k + 1) (.tup ds)
theorem Bd.mono {L L' : Nat} (hL : L ≤ L') : ∀ {k k' : Nat} {d : D}, Bd L k d → k ≤ k' → Bd L' k' d
  | _, _, _, .non, _ => .non
  | _, _, _, .bl b, _ => .bl b
  | _, _, _, .int h, _ => .int h
  | _, _, _, .str h, _ => .str h
  | _, _, _, .emp, _ => .emp
  | _, k' + 1, _, .list h l, e => .list (fun d hd => (h d hd).mono hL (by omega)) (by omega)
  | _, k' + 1, _, .tup h l, e => .tup (fun d hd => (h d hd).mono hL (by omega)) (by omega)
  | _, 0, _, .list h l, e => absurd e (by omega)
  | _, 0, _, .tup h l, e => absurd e (by omega)
def inB (lo hi : Int) (n : Int) : Bool := decide (lo ≤ n) && decide (n ≤ hi)
theorem inB_iff {lo hi n : Int} : inB lo hi n = true ↔ lo ≤ n ∧ n ≤ hi := by unfold inB; simp
def whole (lo hi : Int) : D → Bool
  | .int i => inB lo hi i
  | _ => false
theorem ite_two {c : Prop} [Decidable c] {A : Prop} (h : A) : if c then A else A := by
  split <;> exact h
theorem w_whole {L k : Nat} {d : D} {lo hi : Int} {Q : QD} (h : Bd L k d) (q : Q (.bl (whole lo hi d)) none) : W__law_is_whole [.val d, .val (.int lo), .val (.int hi)] Q := by
  cases h with
  | int hi' =>
    rename_i i
    refine ⟨⟨by decide, by decide, ?_⟩⟩
    have q : Q (.bl (decide (lo ≤ i) && decide (i ≤ hi))) none := q
    conv => whnf
    refine drec (fun x => ?_) (fun x => ?_)
    · rw [show decide (lo ≤ i) = true from x, Bool.true_and] at q
      exact q
    · rw [show decide (lo ≤ i) = false from Bool.eq_false_iff.mpr x, Bool.false_and] at q
      exact q
  | bl b => exact ⟨⟨by decide, by decide, q⟩⟩
  | non => exact ⟨⟨by decide, q⟩⟩
  | str _ => exact ⟨⟨by decide, q⟩⟩
  | emp => exact ⟨⟨by decide, q⟩⟩
  | list _ _ => exact ⟨⟨by decide, q⟩⟩
  | tup _ _ => exact ⟨⟨by decide, q⟩⟩
theorem w_num {L k : Nat} {d : D} {lo hi : Int} {Q : QD} (h : Bd L k d) (q : Q (.bl (whole lo hi d)) none) : W_is_number [.val d, .val (.int lo), .val (.int hi)] Q := by
  cases h with
  | int hi' =>
    rename_i i
    refine ⟨rfl, rfl, ⟨⟨by decide, by decide, ?_⟩⟩⟩
    have q : Q (.bl (decide (lo ≤ i) && decide (i ≤ hi))) none := q
    conv => whnf
    refine drec (fun x => ?_) (fun x => ?_)
    · rw [show decide (lo ≤ i) = true from x, Bool.true_and] at q
      exact q
    · rw [show decide (lo ≤ i) = false from Bool.eq_false_iff.mpr x, Bool.false_and] at q
      exact q
  | bl b => exact ⟨rfl, rfl, ⟨⟨by decide, by decide, q⟩⟩⟩
  | non => exact ⟨rfl, rfl, ⟨⟨by decide, q⟩⟩⟩
  | str _ => exact ⟨rfl, rfl, ⟨⟨by decide, q⟩⟩⟩
  | emp => exact ⟨rfl, rfl, ⟨⟨by decide, q⟩⟩⟩
  | list _ _ => exact ⟨rfl, rfl, ⟨⟨by decide, q⟩⟩⟩
  | tup _ _ => exact ⟨rfl, rfl, ⟨⟨by decide, q⟩⟩⟩
end LK
namespace LK
open PySem PySem.Spec PyProof.Rows L2 CD DL
def iv : D → Int
  | .int i => i
  | _ => 0
theorem whole_int {lo hi : Int} : ∀ {ds : List D}, ds.all (whole lo hi) = true → ds = (ds.map iv).map D.int ∧ ∀ n ∈ ds.map iv, lo ≤ n ∧ n ≤ hi
  | [], _ => ⟨rfl, nofun⟩
  | d :: r, h => by
    rw [List.all_cons, Bool.and_eq_true] at h
    obtain ⟨h1, h2⟩ := whole_int h.2
    match d, h.1 with
    | .int i, h3 =>
      refine ⟨by rw [List.map_cons, List.map_cons, ← h1]; rfl, fun n hn => ?_⟩
      rw [List.map_cons] at hn
      rcases List.mem_cons.mp hn with rfl | hn
      · exact inB_iff.mp h3
      · exact h2 n hn
/-- the first wrong part of integers -/
def partI (lo hi : Int) (ds : List D) : Option Str := if ds.all (whole lo hi) = true then (if (ds.map iv).Nodup then none else some "same") else some "step"
def ruleBad : D → Option Str
  | .tup ds => if 1 ≤ ds.length ∧ ds.length ≤ 4 then partI 1 6 ds else some "form"
  | _ => some "form"
theorem lc_1 {L j : Nat} {th : Option SV} {lo hi : Int} {k : List D → Rho → Prop} {ds : List D} (h : ∀ d ∈ ds, Bd L j d) (hl : ds.length ≤ 100) (q : k (ds.map fun d => D.bl (whole lo hi d)) [th, none]) :
    goLc (ugName 1) uYes (uCall 3 W_is_number (uCons (uVar 1) (uCons (uC (.int lo)) (uCons (uC (.int hi)) uNil)))) [1] k ds [] [th, none] :=
  goLc_map (f := fun d => D.bl (whole lo hi d)) (fun d => Bd L j d) rfl (fun d K hd hK => ⟨rfl, rfl, w_num hd hK⟩) _ [] h (by rw [sizeLine_eq]; simp; omega) q
theorem lc_3 {L j : Nat} {a b c : Option SV} {lo hi : Int} {k : List D → Rho → Prop} {ds : List D} (h : ∀ d ∈ ds, Bd L j d) (hl : ds.length ≤ 100) (q : k (ds.map fun d => D.bl (whole lo hi d)) [a, b, c, none]) :
    goLc (ugName 3) uYes (uCall 3 W_is_number (uCons (uVar 3) (uCons (uC (.int lo)) (uCons (uC (.int hi)) uNil)))) [3] k ds [] [a, b, c, none] :=
  goLc_map (f := fun d => D.bl (whole lo hi d)) (fun d => Bd L j d) rfl (fun d K hd hK => ⟨rfl, rfl, w_num hd hK⟩) _ [] h (by rw [sizeLine_eq]; simp; omega) q
theorem fewer : ∀ {ns : List Int}, ¬ ns.Nodup → ∃ ks : List Int, ks.length < ns.length ∧ ∀ j ∈ ns, j ∈ ks
  | [], h => absurd List.nodup_nil h
  | a :: r, h => by
    by_cases m : a ∈ r
    · exact ⟨r, by simp, fun j hj => (List.mem_cons.mp hj).elim (fun e => e ▸ m) id⟩
    · have hr : ¬ r.Nodup := fun z => h (List.nodup_cons.mpr ⟨m, z⟩)
      obtain ⟨ks, h1, h2⟩ := fewer hr
      exact ⟨a :: ks, by simp; exact h1, fun j hj => (List.mem_cons.mp hj).elim (fun e => e ▸ List.mem_cons_self) fun z => List.mem_cons_of_mem _ (h2 j z)⟩
theorem len_set {ns ms : List Int} (n1 : ms.Nodup) (n2 : ∀ j, j ∈ ms ↔ j ∈ ns) : (ms.length < ns.length) ↔ ¬ ns.Nodup := by
  constructor
  · intro h nd
    have := ((List.perm_ext_iff_of_nodup nd n1).mpr fun j => (n2 j).symm).length_eq
    omega
  · intro h
    obtain ⟨ks, h1, h2⟩ := fewer h
    have := List.Nodup.length_le_of_subset n1 (l₂ := ks) fun j hj => h2 j ((n2 j).mp hj)
    omega
theorem all_bl {lo hi : Int} (ds : List D) : (ds.map fun d => D.bl (whole lo hi d)) = (ds.map (whole lo hi)).map D.bl ∧ (ds.map (whole lo hi)).all id = ds.all (whole lo hi) := by
  rw [List.map_map, List.all_map]
  exact ⟨rfl, rfl⟩
theorem not_t {b : Bool} (h : b = true) (x : (!b) = true) : False := by rw [h] at x; cases x
theorem not_f {b : Bool} (h : b = false) (x : ¬ (!b) = true) : False := x (by rw [h]; rfl)
theorem w_need_rule {L k : Nat} {d : D} {Q : QD} {QE : QX} (hL : L ≤ 100) (h : Bd L k d) (q : ruleBad d = none → Q d none) (qx : ∀ p, ruleBad d = some p → QE ("BadRule", some ("part", .str p)) none) : W_need_rule [.val d] Q QE := by
  cases h with
  | non => exact ⟨⟨by decide, qx "form" rfl⟩⟩
  | bl _ => exact ⟨⟨by decide, qx "form" rfl⟩⟩
  | int _ => exact ⟨⟨by decide, qx "form" rfl⟩⟩
  | str _ => exact ⟨⟨by decide, qx "form" rfl⟩⟩
  | emp => exact ⟨⟨by decide, qx "form" rfl⟩⟩
  | list _ _ => exact ⟨⟨by decide, qx "form" rfl⟩⟩
  | tup h l =>
    rename_i k ds
    have q : (if 1 ≤ ds.length ∧ ds.length ≤ 4 then partI 1 6 ds else some "form") = none → Q (.tup ds) none := q
    have qx : ∀ p, (if 1 ≤ ds.length ∧ ds.length ≤ 4 then partI 1 6 ds else some "form") = some p → QE ("BadRule", some ("part", .str p)) none := qx
    refine ⟨⟨by decide, ?_⟩⟩
    conv => whnf
    refine drec (fun x1 => ?_) (fun x1 => ?_)
    · conv => whnf
      have y1 := of_decide_eq_true x1
      refine drec (fun x2 => ?_) (fun x2 => ?_)
      · exact qx "form" (if_neg fun z => not_t (decide_eq_true (by omega)) x2)
      have y2 : (ds.length : Int) ≤ 4 := Classical.byContradiction fun z => not_f (decide_eq_false z) x2
      rw [if_pos ⟨by omega, by omega⟩] at q qx
      refine lc_1 h (by omega) ?_
      obtain ⟨e1, e2⟩ := all_bl (lo := 1) (hi := 6) ds
      refine ⟨ds.map (whole 1 6), e1, ?_⟩
      rw [e2]
      unfold partI at q qx
      cases e3 : ds.all (whole 1 6) with
      | false =>
        rw [e3] at qx
        exact qx "step" rfl
      | true =>
        rw [e3] at q qx
        obtain ⟨ei, _⟩ := whole_int e3
        refine ⟨ds.map iv, ei, by rw [List.length_map]; omega, fun ms n1 n2 => ?_⟩
        conv => whnf
        have sl := len_set n1 n2
        rw [List.length_map] at sl
        refine drec (fun x => ?_) (fun x => ?_)
        · have y := of_decide_eq_true x
          exact qx "same" (by rw [if_pos rfl, if_neg (sl.mp (by omega))])
        · have y := of_decide_eq_false (Bool.eq_false_iff.mpr x)
          exact q (by rw [if_pos rfl, if_pos (Classical.byContradiction fun z => y (by have := sl.mpr z; omega))])
    · exact qx "form" (if_neg fun z => x1 (decide_eq_true (by omega)))
def scaledBad : D → Option Str
  | .tup [s, .tup ds] => if 1 ≤ ds.length ∧ ds.length ≤ 5 then (if whole 2 5 s = true then partI 0 20 ds else some "step") else some "form"
  | _ => some "form"
theorem w_need_scaled {L k : Nat} {d : D} {Q : QD} {QE : QX} (hL : L ≤ 100) (h : Bd L k d) (q : scaledBad d = none → Q d none) (qx : ∀ p, scaledBad d = some p → QE ("BadRule", some ("part", .str p)) none) : W_need_scaled [.val d] Q QE := by
  cases h with
  | non => exact ⟨⟨by decide, qx "form" rfl⟩⟩
  | bl _ => exact ⟨⟨by decide, qx "form" rfl⟩⟩
  | int _ => exact ⟨⟨by decide, qx "form" rfl⟩⟩
  | str _ => exact ⟨⟨by decide, qx "form" rfl⟩⟩
  | emp => exact ⟨⟨by decide, qx "form" rfl⟩⟩
  | list _ _ => exact ⟨⟨by decide, qx "form" rfl⟩⟩
  | tup h l =>
    rename_i k ds
    match ds, h, l, q, qx with
    | [], _, _, q, qx => exact ⟨⟨by decide, qx "form" rfl⟩⟩
    | [_], _, _, q, qx => exact ⟨⟨by decide, qx "form" rfl⟩⟩
    | a :: b :: c :: r, _, _, q, qx =>
      exact ⟨⟨by decide, qx "form" (by cases b <;> rfl)⟩⟩
    | [a, b], h, l, q, qx =>
      have ha := h a (by simp)
      have hb := h b (by simp)
      cases hb with
      | non => exact ⟨⟨by decide, rfl, by decide, qx "form" rfl⟩⟩
      | bl _ => exact ⟨⟨by decide, rfl, by decide, qx "form" rfl⟩⟩
      | int _ => exact ⟨⟨by decide, rfl, by decide, qx "form" rfl⟩⟩
      | str _ => exact ⟨⟨by decide, rfl, by decide, qx "form" rfl⟩⟩
      | emp => exact ⟨⟨by decide, rfl, by decide, qx "form" rfl⟩⟩
      | list _ _ => exact ⟨⟨by decide, rfl, by decide, qx "form" rfl⟩⟩
      | @tup _ es h2 l2 =>
        have q : (if 1 ≤ es.length ∧ es.length ≤ 5 then (if whole 2 5 a = true then partI 0 20 es else some "step") else some "form") = none → Q (.tup [a, .tup es]) none := q
        have qx : ∀ p, (if 1 ≤ es.length ∧ es.length ≤ 5 then (if whole 2 5 a = true then partI 0 20 es else some "step") else some "form") = some p → QE ("BadRule", some ("part", .str p)) none := qx
        refine ⟨⟨by decide, rfl, by decide, ?_⟩⟩
        conv => whnf
        refine drec (fun x1 => ?_) (fun x1 => ?_)
        · conv => whnf
          have y1 := of_decide_eq_true x1
          refine drec (fun x2 => ?_) (fun x2 => ?_)
          · exact qx "form" (if_neg fun z => not_t (decide_eq_true (by omega)) x2)
          have y2 : (es.length : Int) ≤ 5 := Classical.byContradiction fun z => not_f (decide_eq_false z) x2
          rw [if_pos ⟨by omega, by omega⟩] at q qx
          refine ⟨rfl, rfl, w_num ha ?_⟩
          cases e4 : whole 2 5 a with
          | false =>
            rw [e4] at qx
            exact qx "step" rfl
          | true =>
            rw [e4] at q qx
            rw [if_pos rfl] at q qx
            refine lc_3 h2 (by omega) ?_
            obtain ⟨e1, e2⟩ := all_bl (lo := 0) (hi := 20) es
            refine ⟨es.map (whole 0 20), e1, ?_⟩
            rw [e2]
            unfold partI at q qx
            cases e3 : es.all (whole 0 20) with
            | false =>
              rw [e3] at qx
              exact qx "step" rfl
            | true =>
              rw [e3] at q qx
              obtain ⟨ei, _⟩ := whole_int e3
              refine ⟨es.map iv, ei, by rw [List.length_map]; omega, fun ms n1 n2 => ?_⟩
              conv => whnf
              have sl := len_set n1 n2
              rw [List.length_map] at sl
              refine drec (fun x => ?_) (fun x => ?_)
              · have y := of_decide_eq_true x
                exact qx "same" (by rw [if_pos rfl, if_neg (sl.mp (by omega))])
              · have y := of_decide_eq_false (Bool.eq_false_iff.mpr x)
                exact q (by rw [if_pos rfl, if_pos (Classical.byContradiction fun z => y (by have := sl.mpr z; omega))])
        · exact qx "form" (if_neg fun z => x1 (decide_eq_true (by omega)))
def kindBad : D → Option Str
  | .tup (.str w :: r) => if w = "half" then (if r = [] then none else some "number") else if w = "parts" ∨ w = "best" ∨ w = "heap" then (match r with
    | [d] => if whole 2 8 d = true then none else some "number"
    | _ => some "number") else some "form"
  | _ => some "form"
theorem kindB {w : Str} {r : List D} : kindBad (.tup (.str w :: r)) = if w = "half" then (if r = [] then (none : Option Str) else some "number") else if w = "parts" ∨ w = "best" ∨ w = "heap" then (match r with
    | [d] => if whole 2 8 d = true then none else some "number"
    | _ => some "number") else some "form" := rfl
theorem inF_words (w : Str) : inF (.str w) k_WORDS = some (decide (w = "parts") || (decide (w = "half") || (decide (w = "best") || (decide (w = "heap") || false)))) := by
  have e : ∀ a b : Str, (a == b) = decide (b = a) := fun a b => by
    by_cases h : b = a
    · subst h; simp
    · rw [decide_eq_false h]
      exact beq_eq_false_iff_ne.mpr fun z => h z.symm
  show some (("parts" == w) || (("half" == w) || (("best" == w) || (("heap" == w) || false)))) = _
  rw [e, e, e, e]
theorem w_need_kind {L k : Nat} {d : D} {Q : QD} {QE : QX} (h : Bd L k d) (q : kindBad d = none → Q d none) (qx : ∀ p, kindBad d = some p → QE ("BadKind", some ("part", .str p)) none) : W_need_kind [.val d] Q QE := by
  cases h with
  | non => exact ⟨⟨by decide, qx "form" rfl⟩⟩
  | bl _ => exact ⟨⟨by decide, qx "form" rfl⟩⟩
  | int _ => exact ⟨⟨by decide, qx "form" rfl⟩⟩
  | str _ => exact ⟨⟨by decide, qx "form" rfl⟩⟩
  | emp => exact ⟨⟨by decide, qx "form" rfl⟩⟩
  | list _ _ => exact ⟨⟨by decide, qx "form" rfl⟩⟩
  | tup h l =>
    rename_i k ds
    match ds, h, l, q, qx with
    | [], _, _, q, qx => exact ⟨⟨by decide, qx "form" rfl⟩⟩
    | a :: r, h, l, q, qx =>
      have ha := h a (by simp)
      refine ⟨⟨by decide, ?_⟩⟩
      conv => whnf
      rw [at0]
      cases ha with
      | non => exact ⟨by decide, qx "form" rfl⟩
      | bl _ => exact ⟨by decide, qx "form" rfl⟩
      | int _ => exact ⟨by decide, qx "form" rfl⟩
      | emp => exact ⟨by decide, qx "form" rfl⟩
      | list _ _ => exact ⟨by decide, qx "form" rfl⟩
      | tup _ _ => exact ⟨by decide, qx "form" rfl⟩
      | @str _ w hs =>
        rw [kindB] at q qx
        refine ⟨by decide, ?_⟩
        conv => whnf
        rw [at0]
        refine ⟨rfl, ?_⟩
        have eW := Option.some.inj (inF_words w)
        by_cases hh : w = "half"
        · rw [if_pos hh] at q qx
          conv => whnf
          refine drec (fun x => ?_) (fun _ => ?_)
          · have x : (!(("parts" == w) || (("half" == w) || (("best" == w) || (("heap" == w) || false))))) = true := x
            rw [eW, decide_eq_true hh, Bool.true_or, Bool.or_true] at x
            cases x
          conv => whnf
          rw [at0]
          subst hh
          cases r with
          | nil => exact q rfl
          | cons x r => exact qx "number" rfl
        · rw [if_neg hh] at q qx
          by_cases hw : w = "parts" ∨ w = "best" ∨ w = "heap"
          · rw [if_pos hw] at q qx
            have e : ((decide (w = "parts") || (decide (w = "half") || (decide (w = "best") || (decide (w = "heap") || false))))) = true := by
              rcases hw with rfl | rfl | rfl <;> decide
            conv => whnf
            refine drec (fun x => ?_) (fun _ => ?_)
            · have x : (!(("parts" == w) || (("half" == w) || (("best" == w) || (("heap" == w) || false))))) = true := x
              rw [eW, e] at x
              cases x
            conv => whnf
            rw [at0]
            conv => whnf
            refine drec (fun x => absurd (of_decide_eq_true x) hh) (fun _ => ?_)
            match r, h, q, qx with
            | [], _, q, qx => exact qx "number" rfl
            | [x], h, q, qx =>
              refine ⟨rfl, rfl, w_num (h x (by simp)) ?_⟩
              cases e8 : whole 2 8 x with
              | true => exact q (if_pos e8)
              | false => exact qx "number" (if_neg (by rw [e8]; decide))
            | x :: y :: z, _, q, qx => exact qx "number" rfl
          · rw [if_neg hw] at qx
            have e : ((decide (w = "parts") || (decide (w = "half") || (decide (w = "best") || (decide (w = "heap") || false))))) = false := by
              rw [not_or, not_or] at hw
              rw [decide_eq_false hh, decide_eq_false hw.1, decide_eq_false hw.2.1, decide_eq_false hw.2.2]; rfl
            conv => whnf
            refine drec (fun _ => qx "form" rfl) (fun x => (x ?_).elim)
            show (!(("parts" == w) || (("half" == w) || (("best" == w) || (("heap" == w) || false))))) = true
            rw [eW, e]
            rfl
end LK
namespace LK
open PySem PySem.Spec PyProof.Rows L2 CD DL
/-! ### the law's own look -/
theorem cutD_to {ds : List D} {k : Nat} (h : k ≤ ds.length) : DL.cutD ds none (some (k : Int)) = ds.take k := by
  unfold DL.cutD
  rw [show HT.sIx ds.length ds.length (some (k : Int)) = min k ds.length from HT.sIx_nat ds.length ds.length k, HT.sIx_none, Nat.min_eq_left h]
  rfl
theorem cutD_from {ds : List D} {k : Nat} (h : k ≤ ds.length) : DL.cutD ds (some (k : Int)) none = ds.drop k := by
  unfold DL.cutD
  rw [show HT.sIx ds.length 0 (some (k : Int)) = min k ds.length from HT.sIx_nat ds.length 0 k, HT.sIx_none, Nat.min_eq_left h]
  exact List.take_of_length_le (by rw [List.length_drop]; exact Nat.le_refl _)
theorem inF_ints (n : Int) : ∀ ns : List Int, inF (.int n) (ns.map D.int) = some (decide (n ∈ ns))
  | [] => by simp [inF]
  | x :: r => by
    rw [List.map_cons]
    unfold inF
    rw [inF_ints n r]
    show some (decide (x = n) || decide (n ∈ r)) = some (decide (n ∈ x :: r))
    by_cases c : x = n
    · simp [c]
    · have c' : ¬ n = x := fun e => c e.symm
      simp [c, c']
theorem goLc_filt {i : Nat} {t : UT} {k : List D → Rho → Prop} {f : D → Bool} {ρ : Rho} (p : D → Prop) (hl : i < ρ.length) (hi : okW ρ [i] = true) (ht : ∀ d K, p d → K (f d) (ρ.set i (some (.val d))) → t (ρ.set i (some (.val d))) K) : ∀ (ds acc : List D), (∀ d ∈ ds, p d) → acc.length + ds.length ≤ sizeLine → k (acc ++ ds.filter f) ρ → goLc (ugName i) t (uVar i) [i] k ds acc ρ
  | [], acc, _, _, q => by
    rw [List.filter_nil, List.append_nil] at q
    exact q
  | d :: r, acc, hp, hs, q => by
    refine ⟨hi, ?_⟩
    dsimp only [ugName, wipeR]
    rw [List.set_set]
    refine ht d _ (hp d List.mem_cons_self) ?_
    rw [List.length_cons] at hs
    have er : restR ρ (ρ.set i (some (.val d))) [i] = ρ := set_back
    cases e : f d with
    | true =>
      rw [if_pos rfl]
      unfold uVar
      rw [List.getElem?_set_self hl]
      refine ⟨by omega, ?_⟩
      rw [er]
      refine goLc_filt p hl hi ht r _ (fun x hx => hp x (List.mem_cons_of_mem _ hx)) (by rw [List.length_append, List.length_singleton]; omega) ?_
      rw [List.filter_cons, e, if_pos rfl] at q
      rw [List.append_assoc]
      exact q
    | false =>
      rw [if_neg (by decide), er]
      refine goLc_filt p hl hi ht r _ (fun x hx => hp x (List.mem_cons_of_mem _ hx)) (by omega) ?_
      rw [List.filter_cons, e, if_neg (by decide)] at q
      exact q
abbrev RP (ds : List D) (lo hi : Int) (tw : Option SV) : Rho := [some (.val (.tup ds)), some (.val (.int lo)), some (.val (.int hi)), tw, none, none]
theorem p_2 {L k : Nat} {ds : List D} {lo hi : Int} {Q : UEnds} (h : ∀ d ∈ ds, Bd L k d) (hl : ds.length ≤ 100) (q : ds.all (whole lo hi) = true → Q.nx (RP ds lo hi none)) (q1 : ds.all (whole lo hi) = false → ∀ ρ, Q.rt (.list [.str "rule", .str "step"]) ρ) : i__law_part_2 Q (RP ds lo hi none) := by
  refine goLc_filt (f := fun d => !whole lo hi d) (fun d => Bd L k d) (show 5 < 6 by decide) rfl (fun d K hd hK => ⟨rfl, rfl, w_whole hd hK⟩) ds [] h (by rw [sizeLine_eq]; simp; omega) ?_
  rw [List.nil_append]
  refine ⟨sz rfl, ?_⟩
  have e : (ds.filter fun d => !whole lo hi d).isEmpty = ds.all (whole lo hi) := by
    clear q q1 h hl
    induction ds with
    | nil => rfl
    | cons d r ih =>
      rw [List.filter_cons, List.all_cons]
      cases whole lo hi d with
      | true => exact ih
      | false => rfl
  conv => whnf
  refine drec (fun x => ?_) (fun x => ?_)
  · have x : (!(ds.filter fun d => !whole lo hi d).isEmpty) = true := x
    rw [e] at x
    exact ⟨sz rfl, q1 (by cases z : ds.all (whole lo hi) with | false => rfl | true => rw [z] at x; cases x) _⟩
  · have x : ¬ (!(ds.filter fun d => !whole lo hi d).isEmpty) = true := x
    rw [e] at x
    exact q (by cases z : ds.all (whole lo hi) with | true => rfl | false => rw [z] at x; exact absurd rfl x)
/-- whether some stands twice -/
theorem tw_go {lo hi : Int} {k : List D → Rho → Prop} {ns : List Int} : ∀ (suf pre : List Int) (acc : List D), pre ++ suf = ns → acc.length + suf.length ≤ 200 → ns.length ≤ 100 → (acc = [] ↔ pre.Nodup) → (∀ acc', (acc' = [] ↔ ns.Nodup) → acc'.length ≤ 200 → k acc' (RP (ns.map .int) lo hi none)) →
    goLc (ugTup 2 (ugCons (ugName 4) (ugCons (ugName 5) ugNil))) (uTest (uOp (pIn false) (uVar 5) (uSlT (uVar 0) uNoPart (uPart (uVar 4))))) (uVar 5) [4, 5] k (enumD ((pre.length : Nat) : Int) (suf.map .int)) acc (RP (ns.map .int) lo hi none)
  | [], pre, acc, e, hl, _, ha, q => by
    rw [List.append_nil] at e
    subst e
    exact q acc ha (by simp at hl; omega)
  | n :: suf, pre, acc, e, hl, h100, ha, q => by
    rw [List.length_cons] at hl
    have ne : pre.length ≤ (ns.map D.int).length := by rw [List.length_map, ← e, List.length_append]; omega
    have ec : DL.cutD (ns.map D.int) none (some ((pre.length : Nat) : Int)) = pre.map D.int := by
      rw [cutD_to ne, ← e, List.map_append, List.take_left' (List.length_map _)]
    have ei : inF (.int n) (DL.cutD (ns.map D.int) none (some ((pre.length : Nat) : Int))) = some (decide (n ∈ pre)) := by rw [ec, inF_ints]
    have en : ((pre.length : Nat) : Int) + 1 = (((pre ++ [n]).length : Nat) : Int) := by rw [List.length_append]; rfl
    have e2 : (pre ++ [n]) ++ suf = ns := by rw [← e]; simp
    refine ⟨rfl, rfl, rfl, ?_⟩
    show (match inF (.int n) (DL.cutD (ns.map D.int) none (some ((pre.length : Nat) : Int))) with | some b => _ | none => False)
    rw [ei]
    have step : ∀ acc2 : List D, acc2.length + suf.length ≤ 200 → (acc2 = [] ↔ (pre ++ [n]).Nodup) → goLc (ugTup 2 (ugCons (ugName 4) (ugCons (ugName 5) ugNil))) (uTest (uOp (pIn false) (uVar 5) (uSlT (uVar 0) uNoPart (uPart (uVar 4))))) (uVar 5) [4, 5] k (enumD (((pre.length : Nat) : Int) + 1) (suf.map .int)) acc2 (RP (ns.map .int) lo hi none) := fun acc2 h1 h2 => by
      rw [en]
      exact tw_go suf (pre ++ [n]) acc2 e2 h1 h100 h2 q
    have nd : (pre ++ [n]).Nodup ↔ pre.Nodup ∧ n ∉ pre := by
      rw [List.nodup_append]
      constructor
      · rintro ⟨h1, _, h3⟩
        exact ⟨h1, fun m => h3 n m n (by simp) rfl⟩
      · rintro ⟨h1, h2⟩
        exact ⟨h1, by simp, fun a ha b hb => by rw [List.mem_singleton.mp hb]; exact fun z => h2 (z ▸ ha)⟩
    by_cases c : n ∈ pre
    · rw [decide_eq_true c]
      refine ⟨by rw [sizeLine_eq]; omega, step _ (by rw [List.length_append, List.length_singleton]; omega) ⟨fun z => absurd z (by simp), fun z => absurd c (nd.mp z).2⟩⟩
    · rw [decide_eq_false c]
      exact step acc (by omega) ⟨fun z => nd.mpr ⟨ha.mp z, c⟩, fun z => ha.mpr (nd.mp z).1⟩
def wordP (p : Option Str) : D := match p with
  | none => .list [.str "told"]
  | some p => .list [.str "rule", .str p]
theorem w_part {L k : Nat} {ds : List D} {lo hi : Int} {Q : QD} (h : ∀ d ∈ ds, Bd L k d) (hl : ds.length ≤ 100) (q : Q (wordP (partI lo hi ds)) none) : W__law_part [.val (.tup ds), .val (.int lo), .val (.int hi)] Q := by
  refine ⟨?_⟩
  show uSeq i__law_part_2 (uSeq i__law_part_3 i__law_part_4) _ (RP ds lo hi none)
  unfold partI at q
  refine seq_of (p_2 h hl (fun e => ?_) fun e ρ => ?_)
  · dsimp only
    rw [if_pos e] at q
    obtain ⟨ei, _⟩ := whole_int e
    generalize ds.map iv = ns at ei q
    subst ei
    rw [List.length_map] at hl
    refine tw_go (k := fun acc ρ => uSeq (fun Q ρ => Q.nx (ρ.set 3 (some (.own (.list acc))))) i__law_part_4 _ ρ) ns [] [] (by simp) (by simp; omega) hl (by simp) fun acc ha hc => ?_
    refine ⟨sz rfl, ?_⟩
    conv => whnf
    refine drec (fun x => ?_) (fun x => ?_)
    · have x : acc.isEmpty = true := x
      rw [if_pos (ha.mp (List.isEmpty_iff.mp x))] at q
      exact ⟨sz rfl, q⟩
    · have x : ¬ acc.isEmpty = true := x
      rw [if_neg fun z => x (List.isEmpty_iff.mpr (ha.mpr z))] at q
      exact ⟨sz rfl, q⟩
  · rw [if_neg (by rw [e]; decide)] at q
    exact q
theorem w_steps_due {L k : Nat} {d : D} {Q : QD} (hL : L ≤ 100) (h : Bd L k d) (q : Q (wordP (ruleBad d)) none) : W__law_steps_due [.val d] Q := by
  cases h with
  | non => exact ⟨⟨by decide, sz rfl, q⟩⟩
  | bl _ => exact ⟨⟨by decide, sz rfl, q⟩⟩
  | int _ => exact ⟨⟨by decide, sz rfl, q⟩⟩
  | str _ => exact ⟨⟨by decide, sz rfl, q⟩⟩
  | emp => exact ⟨⟨by decide, sz rfl, q⟩⟩
  | list _ _ => exact ⟨⟨by decide, sz rfl, q⟩⟩
  | tup h l =>
    rename_i k ds
    have q : Q (wordP (if 1 ≤ ds.length ∧ ds.length ≤ 4 then partI 1 6 ds else some "form")) none := q
    refine ⟨⟨by decide, ?_⟩⟩
    conv => whnf
    refine drec (fun x1 => ?_) (fun x1 => ?_)
    · conv => whnf
      have y1 := of_decide_eq_true x1
      refine drec (fun x2 => ?_) (fun x2 => ?_)
      · rw [if_neg fun z => not_t (decide_eq_true (by omega)) x2] at q
        exact ⟨sz rfl, q⟩
      have y2 : (ds.length : Int) ≤ 4 := Classical.byContradiction fun z => not_f (decide_eq_false z) x2
      rw [if_pos ⟨by omega, by omega⟩] at q
      refine ⟨rfl, rfl, w_part h (by omega) ?_⟩
      unfold wordP at q ⊢
      split at q <;> exact q
    · rw [if_neg fun z => x1 (decide_eq_true (by omega))] at q
      exact ⟨sz rfl, q⟩
theorem w_adds_due {L k : Nat} {d : D} {Q : QD} (hL : L ≤ 100) (h : Bd L k d) (q : Q (wordP (scaledBad d)) none) : W__law_adds_due [.val d] Q := by
  cases h with
  | non => exact ⟨⟨by decide, sz rfl, q⟩⟩
  | bl _ => exact ⟨⟨by decide, sz rfl, q⟩⟩
  | int _ => exact ⟨⟨by decide, sz rfl, q⟩⟩
  | str _ => exact ⟨⟨by decide, sz rfl, q⟩⟩
  | emp => exact ⟨⟨by decide, sz rfl, q⟩⟩
  | list _ _ => exact ⟨⟨by decide, sz rfl, q⟩⟩
  | tup h l =>
    rename_i k ds
    match ds, h, l, q with
    | [], _, _, q => exact ⟨⟨by decide, sz rfl, q⟩⟩
    | [_], _, _, q => exact ⟨⟨by decide, sz rfl, q⟩⟩
    | a :: b :: c :: r, _, _, q =>
      have e : scaledBad (.tup (a :: b :: c :: r)) = some "form" := by cases b <;> rfl
      rw [e] at q
      exact ⟨⟨by decide, sz rfl, q⟩⟩
    | [a, b], h, l, q =>
      have ha := h a (by simp)
      have hb := h b (by simp)
      cases hb with
      | non => exact ⟨⟨by decide, by decide, sz rfl, q⟩⟩
      | bl _ => exact ⟨⟨by decide, by decide, sz rfl, q⟩⟩
      | int _ => exact ⟨⟨by decide, by decide, sz rfl, q⟩⟩
      | str _ => exact ⟨⟨by decide, by decide, sz rfl, q⟩⟩
      | emp => exact ⟨⟨by decide, by decide, sz rfl, q⟩⟩
      | list _ _ => exact ⟨⟨by decide, by decide, sz rfl, q⟩⟩
      | @tup _ es h2 l2 =>
        have q : Q (wordP (if 1 ≤ es.length ∧ es.length ≤ 5 then (if whole 2 5 a = true then partI 0 20 es else some "step") else some "form")) none := q
        refine ⟨⟨by decide, by decide, ?_⟩⟩
        conv => whnf
        refine drec (fun x1 => ?_) (fun x1 => ?_)
        · conv => whnf
          have y1 := of_decide_eq_true x1
          refine drec (fun x2 => ?_) (fun x2 => ?_)
          · rw [if_neg fun z => not_t (decide_eq_true (by omega)) x2] at q
            exact ⟨sz rfl, q⟩
          have y2 : (es.length : Int) ≤ 5 := Classical.byContradiction fun z => not_f (decide_eq_false z) x2
          rw [if_pos ⟨by omega, by omega⟩] at q
          refine ⟨rfl, rfl, w_whole ha ?_⟩
          cases e4 : whole 2 5 a with
          | false =>
            rw [e4, if_neg (by decide)] at q
            exact ⟨sz rfl, q⟩
          | true =>
            rw [e4, if_pos rfl] at q
            refine ⟨rfl, rfl, w_part h2 (by omega) ?_⟩
            unfold wordP at q ⊢
            split at q <;> exact q
        · rw [if_neg fun z => x1 (decide_eq_true (by omega))] at q
          exact ⟨sz rfl, q⟩
def wordK (p : Option Str) : D := match p with
  | none => .list [.str "told"]
  | some p => .list [.str "kind", .str p]
theorem w_shape_due {L k : Nat} {d : D} {Q : QD} (h : Bd L k d) (q : Q (wordK (kindBad d)) none) : W__law_shape_due [.val d] Q := by
  cases h with
  | non => exact ⟨⟨by decide, sz rfl, q⟩⟩
  | bl _ => exact ⟨⟨by decide, sz rfl, q⟩⟩
  | int _ => exact ⟨⟨by decide, sz rfl, q⟩⟩
  | str _ => exact ⟨⟨by decide, sz rfl, q⟩⟩
  | emp => exact ⟨⟨by decide, sz rfl, q⟩⟩
  | list _ _ => exact ⟨⟨by decide, sz rfl, q⟩⟩
  | tup h l =>
    rename_i k ds
    match ds, h, l, q with
    | [], _, _, q => exact ⟨⟨by decide, sz rfl, sz rfl, q⟩⟩
    | a :: r, h, l, q =>
      have ha := h a (by simp)
      refine ⟨⟨by decide, sz rfl, ?_⟩⟩
      conv => whnf
      rw [at0]
      cases ha with
      | non => exact ⟨by decide, sz rfl, q⟩
      | bl _ => exact ⟨by decide, sz rfl, q⟩
      | int _ => exact ⟨by decide, sz rfl, q⟩
      | emp => exact ⟨by decide, sz rfl, q⟩
      | list _ _ => exact ⟨by decide, sz rfl, q⟩
      | tup _ _ => exact ⟨by decide, sz rfl, q⟩
      | @str _ w hs =>
        rw [kindB] at q
        have eW := Option.some.inj (inF_words w)
        refine ⟨by decide, ?_⟩
        show i__law_shape_due_4 _ [some (.val (.tup (.str w :: r)))]
        conv => whnf
        rw [at0]
        refine ⟨sz rfl, rfl, ?_⟩
        by_cases hh : w = "half"
        · rw [if_pos hh] at q
          conv => whnf
          refine drec (fun x => ?_) (fun _ => ?_)
          · have x : (!(("parts" == w) || (("half" == w) || (("best" == w) || (("heap" == w) || false))))) = true := x
            rw [eW, decide_eq_true hh, Bool.true_or, Bool.or_true] at x
            cases x
          conv => whnf
          rw [at0]
          subst hh
          cases r with
          | nil => exact ⟨sz rfl, q⟩
          | cons x r => exact ⟨sz rfl, q⟩
        · rw [if_neg hh] at q
          by_cases hw : w = "parts" ∨ w = "best" ∨ w = "heap"
          · rw [if_pos hw] at q
            have e : ((decide (w = "parts") || (decide (w = "half") || (decide (w = "best") || (decide (w = "heap") || false))))) = true := by
              rcases hw with rfl | rfl | rfl <;> decide
            conv => whnf
            refine drec (fun x => ?_) (fun _ => ?_)
            · have x : (!(("parts" == w) || (("half" == w) || (("best" == w) || (("heap" == w) || false))))) = true := x
              rw [eW, e] at x
              cases x
            conv => whnf
            rw [at0]
            conv => whnf
            refine drec (fun x => absurd (of_decide_eq_true x) hh) (fun _ => ?_)
            match r, h, q with
            | [], _, q => exact ⟨sz rfl, q⟩
            | [x], h, q =>
              refine ⟨rfl, rfl, w_whole (h x (by simp)) ?_⟩
              have q : Q (wordK (if whole 2 8 x = true then none else some "number")) none := q
              cases e8 : whole 2 8 x with
              | true => rw [e8, if_pos rfl] at q; exact ⟨sz rfl, q⟩
              | false => rw [e8, if_neg (by decide)] at q; exact ⟨sz rfl, q⟩
            | x :: y :: z, _, q => exact ⟨sz rfl, q⟩
          · rw [if_neg hw] at q
            have e : ((decide (w = "parts") || (decide (w = "half") || (decide (w = "best") || (decide (w = "heap") || false))))) = false := by
              rw [not_or, not_or] at hw
              rw [decide_eq_false hh, decide_eq_false hw.1, decide_eq_false hw.2.1, decide_eq_false hw.2.2]; rfl
            conv => whnf
            refine drec (fun _ => ⟨sz rfl, q⟩) (fun x => (x ?_).elim)
            show (!(("parts" == w) || (("half" == w) || (("best" == w) || (("heap" == w) || false))))) = true
            rw [eW, e]
            rfl
end LK
namespace LK
open PySem PySem.Spec PyProof.Rows L2 CD DL
/-- ints between two bounds, none twice, so many -/
structure InR (ns : List Int) (lo hi : Int) (m : Nat) : Prop where
  one : 1 ≤ ns.length
  most : ns.length ≤ m
  rng : ∀ n ∈ ns, lo ≤ n ∧ n ≤ hi
  nd : ns.Nodup
/-! ### words and rows of them -/
def sOf : D → Str
  | .int i => toString i
  | .str s => s
  | _ => ""
def rowS (ds : List D) : Str := Txt.join " " (ds.map sOf)
/-- a word: short, without a blank, a row's end, a colon -/
def goodW (w : Str) : Bool := decide ((TL.tl w).length ≤ 8) && (TL.tl w).all (fun c => decide (c ≠ 32) && decide (c ≠ 10) && decide (c ≠ 58) && decide (c < 128)) && decide (w ≠ "")
theorem good_int : ((List.range 31).all fun n => goodW (toString ((n : Nat) : Int))) = true := by decide +kernel
theorem good_kinds : (["parts", "half", "best", "heap"] : List Str).all goodW = true := by decide +kernel
/-- what may stand in a row -/
def okD (d : D) : Prop := (∃ i : Int, d = .int i ∧ 0 ≤ i ∧ i ≤ 30) ∨ ∃ w ∈ (["parts", "half", "best", "heap"] : List Str), d = .str w
theorem okD_good {d : D} (h : okD d) : goodW (sOf d) = true := by
  rcases h with ⟨i, rfl, h0, h1⟩ | ⟨w, hw, rfl⟩
  · obtain ⟨n, rfl⟩ : ∃ n : Nat, i = (n : Int) := ⟨i.toNat, (Int.toNat_of_nonneg h0).symm⟩
    exact List.all_eq_true.mp good_int n (List.mem_range.mpr (by omega))
  · exact List.all_eq_true.mp good_kinds w hw
theorem good_no {w : Str} (h : goodW w = true) : 32 ∉ TL.tl w ∧ 10 ∉ TL.tl w ∧ 58 ∉ TL.tl w ∧ (TL.tl w).length ≤ 8 := by
  unfold goodW at h
  rw [Bool.and_eq_true, Bool.and_eq_true] at h
  obtain ⟨⟨h1, h2⟩, _⟩ := h
  have z := List.all_eq_true.mp h2
  refine ⟨fun e => ?_, fun e => ?_, fun e => ?_, of_decide_eq_true h1⟩ <;>
  · have := z _ e
    simp at this
theorem good_lt {w : Str} (h : goodW w = true) : ∀ c ∈ TL.tl w, c < 128 := fun c hc => by
  unfold goodW at h
  rw [Bool.and_eq_true, Bool.and_eq_true] at h
  have z := List.all_eq_true.mp h.1.2 c hc
  rw [Bool.and_eq_true] at z
  exact of_decide_eq_true z.2
theorem mem_joinL {S : List Nat} {c : Nat} : ∀ {ps : List (List Nat)}, c ∈ TL.joinL S ps → c ∈ S ∨ ∃ p ∈ ps, c ∈ p
  | [], h => by cases h
  | [p], h => .inr ⟨p, List.mem_cons_self, h⟩
  | p :: q :: r, h => by
    rcases List.mem_append.mp h with h | h
    · exact .inr ⟨p, List.mem_cons_self, h⟩
    · rcases List.mem_append.mp h with h | h
      · exact .inl h
      · rcases mem_joinL h with h | ⟨x, hx, hc⟩
        · exact .inl h
        · exact .inr ⟨x, List.mem_cons_of_mem _ hx, hc⟩
theorem len_joinL {S : List Nat} {m : Nat} : ∀ {ps : List (List Nat)}, (∀ p ∈ ps, p.length ≤ m) → (TL.joinL S ps).length ≤ ps.length * (m + S.length)
  | [], _ => Nat.zero_le _
  | [p], h => by
    have := h p List.mem_cons_self
    show p.length ≤ _
    simp only [List.length_cons, List.length_nil]
    omega
  | p :: q :: r, h => by
    have h1 := h p List.mem_cons_self
    have h2 := len_joinL (S := S) (m := m) (ps := q :: r) fun x hx => h x (List.mem_cons_of_mem _ hx)
    show (p ++ (S ++ TL.joinL S (q :: r))).length ≤ _
    rw [List.length_append, List.length_append]
    simp only [List.length_cons] at h2 ⊢
    have e : (r.length + 1 + 1) * (m + S.length) = (r.length + 1) * (m + S.length) + (m + S.length) := Nat.succ_mul _ _
    omega
theorem tl_row (ds : List D) : TL.tl (rowS ds) = TL.joinL [32] ((ds.map sOf).map TL.tl) := by
  unfold rowS
  rw [TL.join_eq, TL.tl_join]
  rfl
theorem row_split {ds : List D} (hne : ds ≠ []) (h : ∀ d ∈ ds, okD d) : Txt.split (rowS ds) " " = ds.map sOf :=
  TL.split_join (y := " ") (s := 32) (S := []) rfl (by decide +kernel) (fun e => hne (List.map_eq_nil_iff.mp e)) fun p hp => by
    obtain ⟨d, hd, rfl⟩ := List.mem_map.mp hp
    exact (good_no (okD_good (h d hd))).1
theorem row_no {ds : List D} {c : Nat} (hc : c = 10 ∨ c = 58) (h : ∀ d ∈ ds, okD d) : c ∉ TL.tl (rowS ds) := by
  rw [tl_row]
  intro e
  rcases mem_joinL e with e | ⟨p, hp, e⟩
  · rw [List.mem_singleton] at e
    omega
  · obtain ⟨w, hw, rfl⟩ := List.mem_map.mp hp
    obtain ⟨d, hd, rfl⟩ := List.mem_map.mp hw
    obtain ⟨_, g1, g2, _⟩ := good_no (okD_good (h d hd))
    rcases hc with rfl | rfl
    · exact g1 e
    · exact g2 e
theorem row_lt {ds : List D} (h : ∀ d ∈ ds, okD d) : ∀ c ∈ TL.tl (rowS ds), c < 128 := fun c e => by
  rw [tl_row] at e
  rcases mem_joinL e with e | ⟨p, hp, e⟩
  · rw [List.mem_singleton] at e
    omega
  · obtain ⟨w, hw, rfl⟩ := List.mem_map.mp hp
    obtain ⟨d, hd, rfl⟩ := List.mem_map.mp hw
    exact good_lt (okD_good (h d hd)) c e
theorem row_len {ds : List D} (hl : ds.length ≤ 5) (h : ∀ d ∈ ds, okD d) : (rowS ds).length ≤ 45 := by
  rw [TL.len_tl, tl_row]
  have := len_joinL (S := [32]) (m := 8) (ps := (ds.map sOf).map TL.tl) fun p hp => by
    obtain ⟨w, hw, rfl⟩ := List.mem_map.mp hp
    obtain ⟨d, hd, rfl⟩ := List.mem_map.mp hw
    exact (good_no (okD_good (h d hd))).2.2.2
  simp only [List.length_map, List.length_singleton] at this
  omega
/-- a text of one row is cut into itself -/
theorem one_row {s : Str} (h : 10 ∉ TL.tl s) : Txt.split s "\n" = [s] := by
  have e : Txt.join "\n" [s] = s := by
    rw [TL.join_eq]
    rfl
  have z := TL.split_join (y := "\n") (s := 10) (S := []) rfl (by decide +kernel) (parts := [s]) (by simp) (fun p hp => by rw [List.mem_singleton.mp hp]; exact h)
  rw [e] at z
  exact z
theorem sum_le {α : Type} {f : α → Nat} {m : Nat} : ∀ {l : List α}, (∀ x ∈ l, f x ≤ m) → (l.map f).sum ≤ l.length * m
  | [], _ => Nat.zero_le _
  | x :: r, h => by
    rw [List.map_cons, List.sum_cons, List.length_cons, Nat.succ_mul]
    have h1 := h x List.mem_cons_self
    have h2 := sum_le (f := f) (m := m) (l := r) fun y hy => h y (List.mem_cons_of_mem _ hy)
    omega
theorem log_30 {i : Int} (h0 : 0 ≤ i) (h1 : i ≤ 30) : i.natAbs.log2 < 1920 := by
  have : i.natAbs ≤ 30 := by omega
  by_cases e : i.natAbs = 0
  · rw [e]; decide
  · have := (Nat.log2_lt e (k := 5)).mpr (by omega)
    omega
theorem len_app (a b : Str) : (a ++ b).length = a.length + b.length := by
  rw [TL.len_tl, TL.tl_append, List.length_append, ← TL.len_tl, ← TL.len_tl]
theorem str_of {d : D} (h : okD d) {Q : RV → Prop} (q : Q (.val (.str (sOf d)))) : pStr [d] Q := by
  rcases h with ⟨i, rfl, h0, h1⟩ | ⟨w, hw, rfl⟩
  · exact ⟨log_30 h0 h1, q⟩
  · exact q
theorem join_ok {ds : List D} (hl : ds.length ≤ 5) (h : ∀ d ∈ ds, okD d) {Q : RV → Prop} (q : Q (.val (.str (rowS ds)))) : pJoin " " [.list (ds.map fun d => D.str (sOf d))] Q := by
  refine ⟨ds.map sOf, by rw [List.map_map]; rfl, ?_, q⟩
  have := sum_le (f := Str.length) (m := 8) (l := ds.map sOf) fun w hw => by
    obtain ⟨d, hd, rfl⟩ := List.mem_map.mp hw
    rw [TL.len_tl]
    exact (good_no (okD_good (h d hd))).2.2.2
  have e : (" " : Str).length = 1 := by decide +kernel
  rw [e]
  show (List.map Str.length (ds.map sOf)).sum + _ ≤ _
  simp only [List.length_map] at this ⊢
  omega
/-- a kind -/
def IsK (ds : List D) : Prop := ds = [.str "half"] ∨ ∃ (w : Str) (i : Int), (w = "parts" ∨ w = "best" ∨ w = "heap") ∧ 2 ≤ i ∧ i ≤ 8 ∧ ds = [.str w, .int i]
theorem isK_ok {ds : List D} (h : IsK ds) : ds.length ≤ 5 ∧ ∀ d ∈ ds, okD d := by
  rcases h with rfl | ⟨w, i, hw, i2, i8, rfl⟩
  · exact ⟨by decide, fun d hd => by rw [List.mem_singleton.mp hd]; exact .inr ⟨_, by decide, rfl⟩⟩
  · refine ⟨(show 2 ≤ 5 by decide), fun d hd => ?_⟩
    rcases List.mem_cons.mp hd with rfl | hd
    · refine .inr ⟨w, ?_, rfl⟩
      rcases hw with rfl | rfl | rfl <;> decide
    · rw [List.mem_singleton.mp hd]
      exact .inl ⟨i, rfl, by omega, by omega⟩
theorem ints_ok {ns : List Int} {lo hi : Int} {m : Nat} (h : InR ns lo hi m) (h0 : 0 ≤ lo) (h1 : hi ≤ 30) : ∀ d ∈ ns.map D.int, okD d := fun d hd => by
  obtain ⟨n, hn, rfl⟩ := List.mem_map.mp hd
  have := h.rng n hn
  exact .inl ⟨n, rfl, by omega, by omega⟩
def scT (N : Int) (ns : List Int) : Str := toString N ++ ":" ++ rowS (ns.map .int)
/-! ### small data: their repr -/
structure Sm (d : PyData) (dp w : Nat) : Prop where
  can : d.canLay0 = true
  dep : d.depth ≤ dp
  wt : d.weight ≤ w
  sh : d.intsShort 13 = true
  sb : d.showable = true
structure SmL (ds : List PyData) (dp w : Nat) : Prop where
  can : PyData.canLayAll0 ds = true
  dep : PyData.depthAll ds ≤ dp
  wt : PyData.weightAll ds ≤ ds.length * (w + 1)
  sh : PyData.intsShortAll 13 ds = true
  sb : PyData.showableAll ds = true
theorem SmL.nil {dp w : Nat} : SmL [] dp w := ⟨rfl, Nat.zero_le _, Nat.zero_le _, rfl, rfl⟩
theorem SmL.cons {d : PyData} {ds : List PyData} {dp w : Nat} (h : Sm d dp w) (g : SmL ds dp w) : SmL (d :: ds) dp w := by
  refine ⟨?_, ?_, ?_, ?_, ?_⟩
  · rw [PyData.canLayAll0, h.can, g.can]; rfl
  · rw [PyData.depthAll]; exact Nat.max_le.mpr ⟨h.dep, g.dep⟩
  · rw [PyData.weightAll, List.length_cons, Nat.succ_mul]
    have := h.wt
    have := g.wt
    omega
  · rw [PyData.intsShortAll, h.sh, g.sh]; rfl
  · rw [PyData.showableAll, h.sb, g.sb]; rfl
theorem Sm.list {ds : List PyData} {dp w W : Nat} (g : SmL ds dp w) (hW : ds.length * (w + 1) ≤ W) : Sm (.list ds) (dp + 1) W :=
  ⟨by rw [PyData.canLay0]; exact g.can, by rw [PyData.depth]; have := g.dep; omega, by rw [PyData.weight]; exact Nat.le_trans g.wt hW, by rw [PyData.intsShort]; exact g.sh, by rw [PyData.showable]; exact g.sb⟩
theorem Sm.tup {ds : List PyData} {dp w W : Nat} (g : SmL ds dp w) (hW : ds.length * (w + 1) ≤ W) : Sm (.tuple ds) (dp + 1) W :=
  ⟨by rw [PyData.canLay0]; exact g.can, by rw [PyData.depth]; have := g.dep; omega, by rw [PyData.weight]; exact Nat.le_trans g.wt hW, by rw [PyData.intsShort]; exact g.sh, by rw [PyData.showable]; exact g.sb⟩
theorem Sm.up {d : PyData} {dp dp' w w' : Nat} (h : Sm d dp w) (a : dp ≤ dp') (b : w ≤ w') : Sm d dp' w' := ⟨h.can, Nat.le_trans h.dep a, Nat.le_trans h.wt b, h.sh, h.sb⟩
theorem sm_int {i : Int} (h0 : 0 ≤ i) (h1 : i ≤ 30) : Sm (.int i) 0 8 := by
  have g := (good_no (okD_good (d := .int i) (.inl ⟨i, rfl, h0, h1⟩))).2.2.2
  have g2 : (toString i : Str).length ≤ 8 := by rw [TL.len_tl]; exact g
  refine ⟨rfl, Nat.le_refl _, ?_, ?_, ?_⟩
  · rw [PyData.weight]
    split
    · omega
    · rename_i hz
      have e : i.natAbs ≠ 0 := fun e => hz (by simp; omega)
      have := (Nat.log2_lt e (k := 5)).mpr (by omega)
      omega
  · rw [PyData.intsShort]
    exact decide_eq_true (by rw [PyData.shown]; omega)
  · rw [PyData.showable]
    exact decide_eq_true (log_30 h0 h1)
theorem sm_str {s : Str} {w : Nat} (h : ∀ c ∈ TL.tl s, c < 128) (l : s.length ≤ w) : Sm (.str s) 0 w := by
  refine ⟨?_, Nat.le_refl _, ?_, rfl, rfl⟩
  · rw [PyData.canLay0]
    show s.cps.all (fun c => decide (c < 0x110000)) = true
    rw [← Array.all_toList]
    refine List.all_eq_true.mpr fun c hc => decide_eq_true ?_
    have := h c hc
    omega
  · rw [PyData.weight]
    exact l
theorem sm_ints : ∀ {ns : List Int}, (∀ n ∈ ns, 0 ≤ n ∧ n ≤ 30) → SmL (ns.map PyData.int) 0 8
  | [], _ => .nil
  | n :: r, h => .cons (sm_int (h n List.mem_cons_self).1 (h n List.mem_cons_self).2) (sm_ints fun x hx => h x (List.mem_cons_of_mem _ hx))
theorem rep_ok {d : PyData} {dp w : Nat} (h : Sm d dp w) (a : dp ≤ 60) (b : w ≤ 2 ^ 20) : RepOk d := by
  have dd := h.dep
  have ww := h.wt
  refine ⟨h.sb, PyData.hasDict_of_canLay _ h.can, by omega, ?_⟩
  have := shown_le13 (d := d) (by
    show (PyData.canLay0 d && decide (PyData.depth d ≤ 64) && decide (PyData.weight d ≤ 2 ^ 20)) = true
    rw [h.can, decide_eq_true (by omega : d.depth ≤ 64), decide_eq_true (by omega : d.weight ≤ 2 ^ 20)]
    rfl) h.sh
  rw [sizeLine_eq]
  omega
theorem w_next {n : Nat} {t : Int} {Q : QD} (h : n < 2 ^ 40) (t1 : 1 ≤ t) (t2 : t ≤ 1000) (q : ∀ v, 0 ≤ v → v < t → Q (.int v) (some (n + 1))) : W__law_next [.gen n, .val (.int t)] Q := ⟨n, t, rfl, h, t1, by omega, q⟩
theorem er_map : ∀ (L : List Int) (i : Nat), (L.map D.int).eraseIdx i = (L.eraseIdx i).map D.int
  | [], _ => rfl
  | _ :: _, 0 => rfl
  | x :: r, i + 1 => by
    show D.int x :: (r.map D.int).eraseIdx i = D.int x :: (r.eraseIdx i).map D.int
    rw [er_map r i]
theorem not_er : ∀ {L : List Int} {i : Nat} (h : i < L.length), L.Nodup → L[i] ∉ L.eraseIdx i
  | x :: r, 0, _, nd => (List.nodup_cons.mp nd).1
  | x :: r, i + 1, h, nd => fun e => by
    obtain ⟨n1, n2⟩ := List.nodup_cons.mp nd
    have h' : i < r.length := by simpa using h
    have e : r[i] ∈ x :: r.eraseIdx i := e
    rcases List.mem_cons.mp e with e | e
    · exact n1 (e ▸ List.getElem_mem h')
    · exact not_er h' n2 e
/-- so many of the numbers from first on, none twice -/
theorem w_unlike {n : Nat} {many first total : Int} {Q : QD} (hn : n + 100 < 2 ^ 40) (h1 : 1 ≤ many) (h2 : many ≤ total) (h3 : total ≤ 30) (f0 : 0 ≤ first) (f1 : first ≤ 10)
    (q : ∀ F : List Int, F.length = many.toNat → (∀ x ∈ F, first ≤ x ∧ x < first + total) → F.Nodup → Q (.tup (F.map .int)) (some (n + many.toNat))) : W__law_unlike [.gen n, .val (.int many), .val (.int first), .val (.int total)] Q := by
  have hr : rgD first (first + total - first).toNat = ((List.range total.toNat).map fun i => first + ((i : Nat) : Int)).map D.int := by
    unfold rgD
    rw [List.map_map, show first + total - first = total by omega]
    rfl
  refine ⟨⟨?_, sz rfl, ?_, ?_, ?_⟩⟩
  · exact RgOk.of_le (by omega) (by omega) (by omega) (by omega)
  · omega
  · omega
  rw [hr]
  show goFor (ugName 6) (uDrop (uAppend 5 (uPopAt 4 (uCall 2 W__law_next (uCons (uVar 0) (uCons (uCB pLen (uCons (uVar 4) uNil)) uNil)))))) _ (rgD 0 many.toNat) [some (.gen n), some (.val (.int many)), some (.val (.int first)), some (.val (.int total)), some (.own (.list (((List.range total.toNat).map fun i => first + ((i : Nat) : Int)).map D.int))), some (.own (.list [])), none]
  refine goFor_inv (I := fun j ρ => ∃ (L F : List Int) (x : Option SV), ρ = [some (.gen (n + j)), some (.val (.int many)), some (.val (.int first)), some (.val (.int total)), some (.own (.list (L.map D.int))), some (.own (.list (F.map D.int))), x] ∧ L.length + j = total.toNat ∧ F.length = j ∧ (∀ y ∈ L, first ≤ y ∧ y < first + total) ∧ (∀ y ∈ F, first ≤ y ∧ y < first + total) ∧ L.Nodup ∧ F.Nodup ∧ (∀ y ∈ F, y ∉ L)) (fun _ => True) many.toNat (fun j d ρ Q' hj _ hI hq => ?_) _ 0 _ (by rw [rg_len]; omega) (fun _ _ => trivial) ?_ (fun ρ' hI => ?_)
  · obtain ⟨L, F, x, rfl, l1, l2, l3, l4, l5, l6, l7⟩ := hI
    have el : (L.map D.int).length = L.length := List.length_map _
    refine ⟨rfl, rfl, w_next (by omega) (by rw [el]; omega) (by rw [el]; omega) fun v v0 v1 => ?_⟩
    rw [el] at v1
    have hv : v.toNat < L.length := by omega
    have hx : (L.map D.int)[v.toNat]? = some (.int L[v.toNat]) := by rw [List.getElem?_map, List.getElem?_eq_getElem hv]; rfl
    refine ⟨v0, by omega, ?_⟩
    rw [hx]
    refine ⟨by rw [sizeLine_eq, List.length_map]; omega, ?_⟩
    have e1 := er_map L v.toNat
    have e2 : F.map D.int ++ [D.int L[v.toNat]] = (F ++ [L[v.toNat]]).map D.int := by rw [List.map_append]; rfl
    have lm := List.getElem_mem hv
    refine hq _ ⟨L.eraseIdx v.toNat, F ++ [L[v.toNat]], some (.val d), ?_, ?_, ?_, ?_, ?_, ?_, ?_, ?_⟩
    · show ([some (SV.gen (n + j + 1)), some (SV.val (.int many)), some (SV.val (.int first)), some (SV.val (.int total)), some (SV.own (.list ((L.map D.int).eraseIdx v.toNat))), some (SV.own (.list (F.map D.int ++ [D.int L[v.toNat]]))), some (SV.val d)] : Rho) = _
      rw [e1, e2]
      rfl
    · rw [List.length_eraseIdx_of_lt hv]
      omega
    · rw [List.length_append, List.length_singleton, l2]
    · exact fun y hy => l3 y (List.mem_of_mem_eraseIdx hy)
    · intro y hy
      rcases List.mem_append.mp hy with hy | hy
      · exact l4 y hy
      · rw [List.mem_singleton.mp hy]
        exact l3 _ lm
    · exact List.Nodup.sublist (List.eraseIdx_sublist ..) l5
    · refine List.nodup_append.mpr ⟨l6, by simp, fun a ha b hb => ?_⟩
      rw [List.mem_singleton.mp hb]
      exact fun e => l7 a ha (e ▸ lm)
    · intro y hy e
      rcases List.mem_append.mp hy with hy | hy
      · exact l7 y hy (List.mem_of_mem_eraseIdx e)
      · rw [List.mem_singleton.mp hy] at e
        exact not_er hv l5 e
  · refine ⟨(List.range total.toNat).map fun i => first + ((i : Nat) : Int), [], none, rfl, ?_, rfl, fun y hy => ?_, nofun, ?_, List.nodup_nil, nofun⟩
    · rw [List.length_map, List.length_range]
      rfl
    · obtain ⟨i, hi, rfl⟩ := List.mem_map.mp hy
      have := List.mem_range.mp hi
      omega
    · refine List.Pairwise.map _ (fun a b h e => ?_) List.nodup_range
      have : a = b := by omega
      exact h this
  · obtain ⟨L, F, x, rfl, l1, l2, l3, l4, l5, l6, l7⟩ := hI
    rw [rg_len, Nat.zero_add] at l2
    rw [rg_len, Nat.zero_add]
    exact q F l2 l4 l6
theorem w_steps {n : Nat} {Q : QD} (hn : n + 200 < 2 ^ 40) (q : ∀ (F : List Int) (k : Nat), InR F 1 6 4 → k ≤ n + 10 → Q (.tup (F.map .int)) (some k)) : W__law_steps [.gen n] Q := by
  refine ⟨⟨rfl, rfl, w_next (by omega) (by decide) (by decide) fun v v0 v1 => ⟨rfl, rfl, w_unlike (by omega) (by omega) (by omega) (by decide) (by decide) (by decide) fun F l r nd => ?_⟩⟩⟩
  have l : F.length = (1 + v).toNat := l
  exact q F _ ⟨by omega, by omega, fun x hx => by have := r x hx; omega, nd⟩ (by show n + 1 + (1 + v).toNat ≤ _; omega)
theorem w_adds {n : Nat} {t : Int} {Q : QD} (hn : n + 200 < 2 ^ 40) (t2 : 2 ≤ t) (t21 : t ≤ 21) (q : ∀ (N : Int) (F : List Int) (k : Nat), 2 ≤ N → N ≤ 5 → InR F 0 20 5 → k ≤ n + 10 → Q (.tup [.int N, .tup (F.map .int)]) (some k)) : W__law_adds [.gen n, .val (.int t)] Q := by
  refine ⟨⟨rfl, rfl, w_next (by omega) (by decide) (by decide) fun N N0 N1 => ⟨rfl, rfl, w_next (by omega) ?_ ?_ fun v v0 v1 => ⟨rfl, rfl, w_unlike (by omega) (by omega) ?_ (by omega) (by decide) (by decide) fun F l r nd => ?_⟩⟩⟩⟩
  · split <;> omega
  · split <;> omega
  · split at v1 <;> omega
  · have l : F.length = (1 + v).toNat := l
    have m5 : 1 + v ≤ 5 := by split at v1 <;> omega
    exact ⟨sz rfl, q (2 + N) F _ (by omega) (by omega) ⟨by omega, by omega, fun x hx => by have := r x hx; omega, nd⟩ (by show n + 1 + 1 + (1 + v).toNat ≤ _; omega)⟩
theorem w_of {n : Nat} {ds : List D} {Q : QD} (hn : n + 1 < 2 ^ 40) (l1 : 1 ≤ ds.length) (l2 : ds.length ≤ 100) (q : ∀ (j : Nat) (d : D), ds[j]? = some d → Q d (some (n + 1))) : W__law_of [.gen n, .val (.list ds)] Q := by
  refine ⟨⟨rfl, rfl, w_next (by omega) (by omega) (by omega) fun v v0 v1 => ?_⟩⟩
  have hv : v.toNat < ds.length := by omega
  have hx : atI ds v = some ds[v.toNat] := by
    obtain ⟨j, rfl⟩ : ∃ j : Nat, v = (j : Int) := ⟨v.toNat, (Int.toNat_of_nonneg v0).symm⟩
    exact atI_nat (List.getElem?_eq_getElem hv)
  conv => whnf
  rw [hx]
  exact q v.toNat _ (List.getElem?_eq_getElem hv)
theorem w_shape {n : Nat} {Q : QD} (hn : n + 200 < 2 ^ 40) (q : ∀ (ds : List D) (k : Nat), IsK ds → k ≤ n + 10 → Q (.tup ds) (some k)) : W__law_shape [.gen n] Q := by
  refine ⟨⟨sz rfl, rfl, rfl, w_of (by omega) (by decide) (by decide) fun j d hd => ?_⟩⟩
  have hd : ([D.str "parts", D.str "half", D.str "best", D.str "heap"] : List D)[j]? = some d := hd
  have fin : ∀ w : Str, (w = "parts" ∨ w = "best" ∨ w = "heap") → ∀ v : Int, 0 ≤ v → v < 7 → Q (.tup [.str w, .int (2 + v)]) (some (n + 1 + 1)) := fun w hw v v0 v1 => q _ _ (.inr ⟨w, 2 + v, hw, by omega, by omega, rfl⟩) (by omega)
  match j, hd with
  | 0, hd => cases hd; exact ⟨rfl, rfl, w_next (by omega) (by decide) (by decide) fun v v0 v1 => ⟨sz rfl, fin _ (.inl rfl) v v0 v1⟩⟩
  | 1, hd => cases hd; exact ⟨sz rfl, q _ _ (.inl rfl) (by omega)⟩
  | 2, hd => cases hd; exact ⟨rfl, rfl, w_next (by omega) (by decide) (by decide) fun v v0 v1 => ⟨sz rfl, fin _ (.inr (.inl rfl)) v v0 v1⟩⟩
  | 3, hd => cases hd; exact ⟨rfl, rfl, w_next (by omega) (by decide) (by decide) fun v v0 v1 => ⟨sz rfl, fin _ (.inr (.inr rfl)) v v0 v1⟩⟩
  | j + 4, hd => cases hd
theorem shp {p : PyData} {dp w : Nat} (h : Sm p dp w) (l : dp ≤ 64) : SeqAt.shaped p = true := by
  have := h.dep
  show (PyData.canLay0 p && decide (PyData.depth p ≤ 64)) = true
  rw [h.can, decide_eq_true (by omega : p.depth ≤ 64)]
  rfl
end LK
namespace LK
open PySem PySem.Spec PyProof.Rows L2 CD DL
/-! ### the texts -/
theorem w_row {ds : List D} {Q : QD} (hl : ds.length ≤ 5) (h : ∀ d ∈ ds, okD d) (q : Q (.str (rowS ds)) none) : W__row_of [.val (.tup ds)] Q := by
  refine ⟨?_⟩
  refine goLc_map (f := fun d => .str (sOf d)) okD rfl (fun d K hd hK => str_of (Q := fun z => K (nrm z) _) hd hK) ds [] h (by rw [sizeLine_eq, List.length_nil]; omega) ?_
  rw [List.nil_append]
  exact join_ok hl h q
theorem w_rule_text {L k : Nat} {d : D} {Q : QD} {QE : QX} (hL : L ≤ 100) (h : Bd L k d) (q : ruleBad d = none → ∀ y, Q y none) (qx : ∀ p, ruleBad d = some p → QE ("BadRule", some ("part", .str p)) none) : W_rule_text [.val d] Q QE := by
  refine ⟨⟨rfl, rfl, w_need_rule hL h (fun e => ?_) fun p e => qx p e⟩⟩
  have hd : ∃ ds, d = .tup ds ∧ ds.length ≤ 4 ∧ ∀ x ∈ ds, okD x := by
    match d, e with
    | .tup ds, e =>
      have e : (if 1 ≤ ds.length ∧ ds.length ≤ 4 then partI 1 6 ds else some "form") = none := e
      by_cases c : 1 ≤ ds.length ∧ ds.length ≤ 4
      · rw [if_pos c] at e
        unfold partI at e
        cases e3 : ds.all (whole 1 6) with
        | false => rw [e3] at e; cases e
        | true =>
          obtain ⟨ei, er⟩ := whole_int e3
          refine ⟨ds, rfl, c.2, fun x hx => ?_⟩
          rw [ei] at hx
          obtain ⟨n, hn, rfl⟩ := List.mem_map.mp hx
          have := er n hn
          exact .inl ⟨n, rfl, by omega, by omega⟩
      · rw [if_neg c] at e; cases e
  obtain ⟨ds, rfl, l4, ok⟩ := hd
  refine ⟨rfl, rfl, w_row (by omega) ok ?_⟩
  exact q e _
theorem w_scaled_text {L k : Nat} {d : D} {Q : QD} {QE : QX} (hL : L ≤ 100) (h : Bd L k d) (q : scaledBad d = none → ∀ y, Q y none) (qx : ∀ p, scaledBad d = some p → QE ("BadRule", some ("part", .str p)) none) : W_scaled_text [.val d] Q QE := by
  refine ⟨⟨rfl, rfl, w_need_scaled hL h (fun e => ?_) fun p e => qx p e⟩⟩
  have hd : ∃ s ds, d = .tup [.int s, .tup ds] ∧ 2 ≤ s ∧ s ≤ 5 ∧ ds.length ≤ 5 ∧ ∀ x ∈ ds, okD x := by
    match d, e with
    | .tup [s, .tup ds], e =>
      have e : (if 1 ≤ ds.length ∧ ds.length ≤ 5 then (if whole 2 5 s = true then partI 0 20 ds else some "step") else some "form") = none := e
      by_cases c : 1 ≤ ds.length ∧ ds.length ≤ 5
      · rw [if_pos c] at e
        cases e4 : whole 2 5 s with
        | false => rw [e4, if_neg (by decide)] at e; cases e
        | true =>
          rw [e4, if_pos rfl] at e
          unfold partI at e
          cases e3 : ds.all (whole 0 20) with
          | false => rw [e3] at e; cases e
          | true =>
            obtain ⟨ei, er⟩ := whole_int e3
            match s, e4 with
            | .int s, e4 =>
              have b := inB_iff.mp e4
              refine ⟨s, ds, rfl, b.1, b.2, c.2, fun x hx => ?_⟩
              rw [ei] at hx
              obtain ⟨n, hn, rfl⟩ := List.mem_map.mp hx
              have := er n hn
              exact .inl ⟨n, rfl, by omega, by omega⟩
      · rw [if_neg c] at e; cases e
  obtain ⟨s, ds, rfl, s2, s5, l5, ok⟩ := hd
  have okN : okD (.int s) := .inl ⟨s, rfl, by omega, by omega⟩
  have gN := (good_no (okD_good okN)).2.2.2
  have lN : (toString s : Str).length ≤ 8 := by rw [TL.len_tl]; exact gN
  have lc : (":" : Str).length = 1 := by decide +kernel
  have lr := row_len l5 ok
  refine ⟨rfl, log_30 (by omega) (by omega), by rw [sizeLine_eq]; omega, rfl, rfl, w_row l5 ok ?_⟩
  refine ⟨by rw [sizeLine_eq, len_app]; omega, ?_⟩
  exact q e _
theorem w_kind_text {L k : Nat} {d : D} {Q : QD} {QE : QX} (h : Bd L k d) (q : kindBad d = none → ∀ y, Q y none) (qx : ∀ p, kindBad d = some p → QE ("BadKind", some ("part", .str p)) none) : W_kind_text [.val d] Q QE := by
  refine ⟨⟨rfl, rfl, w_need_kind h (fun e => ?_) fun p e => qx p e⟩⟩
  have hd : ∃ ds, d = .tup ds ∧ ds.length ≤ 2 ∧ ∀ x ∈ ds, okD x := by
    match d, e with
    | .tup (.str w :: r), e =>
      rw [kindB] at e
      by_cases hh : w = "half"
      · rw [if_pos hh] at e
        cases r with
        | nil => exact ⟨_, rfl, by simp, fun x hx => by rw [List.mem_singleton.mp hx, hh]; exact .inr ⟨"half", by decide, rfl⟩⟩
        | cons _ _ => cases e
      · rw [if_neg hh] at e
        by_cases hw : w = "parts" ∨ w = "best" ∨ w = "heap"
        · rw [if_pos hw] at e
          match r, e with
          | [x], e =>
            have e : (if whole 2 8 x = true then (none : Option Str) else some "number") = none := e
            cases e8 : whole 2 8 x with
            | false => rw [e8, if_neg (by decide)] at e; cases e
            | true =>
              match x, e8 with
              | .int n, e8 =>
                have b := inB_iff.mp e8
                refine ⟨_, rfl, by simp, fun y hy => ?_⟩
                rcases List.mem_cons.mp hy with rfl | hy
                · exact .inr ⟨w, by rcases hw with rfl | rfl | rfl <;> decide, rfl⟩
                · rw [List.mem_singleton.mp hy]
                  exact .inl ⟨n, rfl, by omega, by omega⟩
        · rw [if_neg hw] at e; cases e
  obtain ⟨ds, rfl, l2, ok⟩ := hd
  refine ⟨rfl, rfl, w_row (by omega) ok ?_⟩
  exact q e _
end LK
namespace LK
open PySem PySem.Spec PyProof.Rows L2 CD DL
/-! ### what repr tells of a thing -/
def BL (L : Nat) : Nat → Nat
  | 0 => 40
  | k + 1 => L * (BL L k + 2) + 40
theorem BL_40 (L : Nat) : ∀ k, 40 ≤ BL L k
  | 0 => Nat.le_refl _
  | k + 1 => by unfold BL; omega
theorem str_40 : odS.all (fun s => decide ((reprText s).length ≤ 40)) = true := by decide +kernel
theorem int_40 : ((List.range 32).all fun n => decide ((toString (((n : Nat) : Int) - 1) : Str).length ≤ 40)) = true := by decide +kernel
theorem int_big : (toString ((10 : Int) ^ 30) : Str).length ≤ 40 := by decide +kernel
theorem bl_40 : (PyData.bool true).shown.length ≤ 40 ∧ (PyData.bool false).shown.length ≤ 40 := by
  constructor <;> (rw [PyData.shown]; decide +kernel)
theorem non_40 : (PyData.none).shown.length ≤ 40 := by rw [PyData.shown]; decide +kernel
theorem emp_40 : (PyData.dict []).shown.length ≤ 40 := by rw [PyData.shown, PyData.shownKv]; decide +kernel
/-- data of so many levels, told in so many signs -/
structure Py (d : D) (k M : Nat) (p : PyData) : Prop where
  py : PyE d p
  sh : p.showable = true
  dp : p.depth ≤ k + 1
  len : p.shown.length ≤ M
theorem pys {k M : Nat} : ∀ {ds : List D}, (∀ d ∈ ds, ∃ p, Py d k M p) → ∃ ps, PyEL ds ps ∧ PyData.showableAll ps = true ∧ PyData.depthAll ps ≤ k + 1 ∧ ((PyData.shownAll ps).map (·.length)).sum ≤ ds.length * M ∧ (PyData.shownAll ps).length = ds.length
  | [], _ => ⟨[], .nil, rfl, Nat.zero_le _, Nat.zero_le _, rfl⟩
  | d :: r, h => by
    obtain ⟨p, hp⟩ := h d List.mem_cons_self
    obtain ⟨ps, h1, h2, h3, h4, h5⟩ := pys (ds := r) fun x hx => h x (List.mem_cons_of_mem _ hx)
    have := hp.dp
    have := hp.len
    refine ⟨p :: ps, .cons hp.py h1, ?_, ?_, ?_, ?_⟩
    · rw [PyData.showableAll, hp.sh, h2]; rfl
    · rw [PyData.depthAll]; omega
    · rw [PyData.shownAll, List.map_cons, List.sum_cons, List.length_cons, Nat.succ_mul]; omega
    · rw [PyData.shownAll, List.length_cons, List.length_cons, h5]
theorem py_list {k M L : Nat} {ds : List D} (h : ∀ d ∈ ds, ∃ p, Py d k M p) (l : ds.length ≤ L) : ∃ p, Py (.list ds) (k + 1) (L * (M + 2) + 40) p := by
  obtain ⟨ps, h1, h2, h3, h4, h5⟩ := pys h
  refine ⟨.list ps, .list h1, by rw [PyData.showable]; exact h2, by rw [PyData.depth]; omega, ?_⟩
  have t := listText_len_le (PyData.shownAll ps)
  have m := Nat.mul_le_mul_right (M + 2) l
  have e : ds.length * (M + 2) = ds.length * M + ds.length * 2 := Nat.mul_add ..
  rw [PyData.shown]
  rw [h5] at t
  omega
theorem py_tup {k M L : Nat} {ds : List D} (h : ∀ d ∈ ds, ∃ p, Py d k M p) (l : ds.length ≤ L) : ∃ p, Py (.tup ds) (k + 1) (L * (M + 2) + 40) p := by
  obtain ⟨ps, h1, h2, h3, h4, h5⟩ := pys h
  refine ⟨.tuple ps, .tup h1, by rw [PyData.showable]; exact h2, by rw [PyData.depth]; omega, ?_⟩
  have t := tupleText_len_le (PyData.shownAll ps)
  have m := Nat.mul_le_mul_right (M + 2) l
  have e : ds.length * (M + 2) = ds.length * M + ds.length * 2 := Nat.mul_add ..
  rw [PyData.shown]
  rw [h5] at t
  omega
theorem Bd.py {L : Nat} : ∀ {k : Nat} {d : D}, Bd L k d → ∃ p, Py d k (BL L k) p
  | k, _, .non => ⟨.none, .non, rfl, Nat.zero_le _, Nat.le_trans non_40 (BL_40 L k)⟩
  | k, _, .bl true => ⟨.bool true, .bl _, rfl, Nat.zero_le _, Nat.le_trans bl_40.1 (BL_40 L k)⟩
  | k, _, .bl false => ⟨.bool false, .bl _, rfl, Nat.zero_le _, Nat.le_trans bl_40.2 (BL_40 L k)⟩
  | k, _, .int (i := i) h => by
    refine ⟨.int i, .int i, ?_, Nat.zero_le _, ?_⟩
    · rw [PyData.showable]
      refine decide_eq_true ?_
      have hb : i.natAbs ≤ 10 ^ 30 := by
        rcases h with h | rfl
        · have : i.natAbs ≤ 30 := by omega
          exact Nat.le_trans this (by decide)
        · decide
      by_cases z : i.natAbs = 0
      · rw [z]; decide
      · have h100 : (10 : Nat) ^ 30 < 2 ^ 100 := by decide
        have := (Nat.log2_lt z (k := 100)).mpr (by omega)
        omega
    · rw [PyData.shown]
      refine Nat.le_trans ?_ (BL_40 L k)
      rcases h with h | rfl
      · have := List.all_eq_true.mp int_40 (i + 1).toNat (List.mem_range.mpr (by omega))
        have e : (((i + 1).toNat : Nat) : Int) - 1 = i := by omega
        rw [e] at this
        exact of_decide_eq_true this
      · exact int_big
  | k, _, .str (s := s) h => ⟨.str s, .str s, rfl, Nat.zero_le _, by
      rw [PyData.shown]
      exact Nat.le_trans (of_decide_eq_true (List.all_eq_true.mp str_40 s h)) (BL_40 L k)⟩
  | k, _, .emp => ⟨.dict [], .emp, rfl, by rw [PyData.depth, PyData.depthKv]; omega, Nat.le_trans emp_40 (BL_40 L k)⟩
  | k + 1, _, .list h l => py_list (fun d hd => (h d hd).py) l
  | k + 1, _, .tup h l => py_tup (fun d hd => (h d hd).py) l
theorem bl_top : ∀ L ≤ 7, ∀ k ≤ 6, BL L k ≤ 16777216 := by
  have z : ((List.range 8).all fun L => (List.range 7).all fun k => decide (BL L k ≤ 16777216)) = true := by decide +kernel
  intro L hL k hk
  have := List.all_eq_true.mp z L (List.mem_range.mpr (by omega))
  exact of_decide_eq_true (List.all_eq_true.mp this k (List.mem_range.mpr (by omega)))
theorem rep_of {L k : Nat} {d : D} (hL : L ≤ 7) (hk : k ≤ 6) (h : Bd L k d) : ∃ p, PyE d p ∧ RepE p := by
  obtain ⟨p, hp⟩ := h.py
  have := hp.dp
  have := hp.len
  have := bl_top L hL k hk
  exact ⟨p, hp.py, hp.sh, by rw [sizeLine_eq]; omega, by omega⟩
end LK
namespace LK
open PySem PySem.Spec PyProof.Rows L2 CD DL
/-! ### a thing told right at all doors -/
theorem part_S {lo hi : Int} {ds : List D} {p : Str} (h : partI lo hi ds = some p) : p ∈ odS := by
  unfold partI at h
  split at h
  · split at h
    · cases h
    · cases h; decide
  · cases h; decide
theorem rule_S {d : D} {p : Str} (h : ruleBad d = some p) : p ∈ odS := by
  unfold ruleBad at h
  split at h
  · split at h
    · exact part_S h
    · cases h; decide
  · cases h; decide
theorem scaled_S {d : D} {p : Str} (h : scaledBad d = some p) : p ∈ odS := by
  unfold scaledBad at h
  split at h
  · split at h
    · split at h
      · exact part_S h
      · cases h; decide
    · cases h; decide
  · cases h; decide
theorem kind_S {d : D} {p : Str} (h : kindBad d = some p) : p ∈ odS := by
  unfold kindBad at h
  split at h
  · split at h
    · split at h
      · cases h
      · cases h; decide
    · split at h
      · split at h
        · split at h
          · cases h
          · cases h; decide
        · cases h; decide
      · cases h; decide
  · cases h; decide
/-- what is heard -/
def heardW (w : Str) (b : Option Str) : D := match b with
  | none => .list [.str "told"]
  | some p => .list [.str w, .str p]
theorem heard_bd {w : Str} {b : Option Str} (hw : w ∈ odS) (h : ∀ p, b = some p → p ∈ odS) : Bd 7 1 (heardW w b) := by
  cases b with
  | none => exact .list (fun d hd => by rw [List.mem_singleton.mp hd]; exact .str (by decide)) (by decide)
  | some p =>
    refine .list (fun d hd => ?_) (by show 2 ≤ 7; decide)
    rcases List.mem_cons.mp hd with rfl | hd
    · exact .str hw
    · rw [List.mem_singleton.mp hd]; exact .str (h p rfl)
theorem heard_of {d : D} {b : Option Str} {nm word : Str} {x1 x2 x3 x4 : Option SV} {W : WDX} {K : RV → Rho → Prop} (ht : (nm, ("part" : Str), word) ∈ hears) (hw : ∀ (Q : QD) (QE : QX), (b = none → ∀ y, Q y none) → (∀ p, b = some p → QE (nm, some ("part", .str p)) none) → W [.val d] Q QE)
    (q : K (.fr (heardW word b)) [some (.val d), x1, x2, x3, x4]) : uLam (fun QE => uCallX 1 W QE (uCons (uVar 0) uNil)) uN__law_heard uC__law_heard [some (.val d), x1, x2, x3, x4] K := by
  refine ⟨rfl, rfl, hw _ _ (fun h1 y => ?_) fun p h1 => ?_⟩
  · subst h1
    exact ite_two q
  · subst h1
    exact ⟨_, _, ht, rfl, rfl, q⟩
abbrev RT (d : D) (was due lap heard : Option SV) : Rho := [some (.val d), was, due, lap, heard]
def dueD (d : D) : D := .list [heardW "rule" (ruleBad d), heardW "rule" (scaledBad d), heardW "kind" (kindBad d)]
theorem due_bd (d : D) : Bd 7 2 (dueD d) := by
  refine .list (fun x hx => ?_) (by show 3 ≤ 7; decide)
  simp only [List.mem_cons, List.not_mem_nil, or_false] at hx
  rcases hx with rfl | rfl | rfl
  · exact heard_bd (by decide) fun p h => rule_S h
  · exact heard_bd (by decide) fun p h => scaled_S h
  · exact heard_bd (by decide) fun p h => kind_S h
section
variable {L k : Nat} {d : D} {Q : UEnds}
theorem r_1 (hL : L ≤ 7) (h : Bd L k d) {p : PyData} (hp : PyE d p) (ho : RepE p) (q : Q.nx (RT d (some (.val (.str p.shown))) (some (.own (dueD d))) none none)) : i__law_right_1 Q (RT d none none none none) := by
  refine ⟨p, hp, ho, ?_⟩
  refine ⟨rfl, rfl, w_steps_due (by omega) h (ite_two ?_)⟩
  refine ⟨rfl, rfl, w_adds_due (by omega) h (ite_two ?_)⟩
  refine ⟨rfl, rfl, w_shape_due h (ite_two ?_)⟩
  exact ⟨sz rfl, q⟩
theorem r_23 (hL : L ≤ 7) (h : Bd L k d) {a b c o : Option SV} (q : Q.nx (RT d a b c (some (.own (dueD d))))) : uSeq i__law_right_2 i__law_right_3 Q (RT d a b c o) := by
  refine heard_of (b := ruleBad d) (nm := "BadRule") (word := "rule") (by decide) (fun Q QE h1 h2 => w_rule_text (by omega) h h1 h2) ?_
  refine heard_of (b := scaledBad d) (nm := "BadRule") (word := "rule") (by decide) (fun Q QE h1 h2 => w_scaled_text (by omega) h h1 h2) ?_
  refine ⟨sz rfl, ?_⟩
  refine heard_of (b := kindBad d) (nm := "BadKind") (word := "kind") (by decide) (fun Q QE h1 h2 => w_kind_text h h1 h2) ?_
  exact ⟨sl rfl, q⟩
theorem r_4 {a c : Option SV} (q : Q.nx (RT d a (some (.own (dueD d))) c (some (.own (dueD d))))) : i__law_right_4 Q (RT d a (some (.own (dueD d))) c (some (.own (dueD d)))) := by
  obtain ⟨p, hp, ho⟩ := rep_of (by decide) (by decide) (due_bd d)
  refine ⟨p, hp, ho, p, hp, ho, ?_⟩
  show (if (!decide (p.shown = p.shown)) = true then _ else _)
  rw [decide_eq_true rfl]
  exact q
end
theorem w_right {L k : Nat} {d : D} {Q : QD} (hL : L ≤ 7) (hk : k ≤ 6) (h : Bd L k d) (q : Q (.bl true) none) : W__law_right [.val d] Q := by
  obtain ⟨p, hp, ho⟩ := rep_of hL hk h
  refine ⟨?_⟩
  show uSeq i__law_right_1 (uSeq i__law_right_5 i__law_right_6) _ (RT d none none none none)
  refine seq_of (r_1 hL h hp ho ?_)
  refine ⟨by decide, by decide, ?_⟩
  show goFor (ugName 3) (uSeq i__law_right_2 (uSeq i__law_right_3 i__law_right_4)) _ (rgD 0 2) (RT d (some (.val (.str p.shown))) (some (.own (dueD d))) none none)
  refine goFor_inv (I := fun j ρ => ∃ lap o, ρ = RT d (some (.val (.str p.shown))) (some (.own (dueD d))) lap o) (fun _ => True) 2 (fun j x ρ Q' hj _ hI hq => ?_) _ 0 _ (by show 0 + (rgD 0 2).length ≤ 2; rw [rg_len]; decide) (fun _ _ => trivial) ⟨_, _, rfl⟩ (fun ρ' hI => ?_)
  · obtain ⟨lap, o, rfl⟩ := hI
    show uSeq i__law_right_2 (uSeq i__law_right_3 i__law_right_4) Q' (RT d _ _ (some (.val x)) o)
    refine r_23 (Q := { Q' with nx := fun ρ => i__law_right_4 Q' ρ }) hL h ?_
    exact r_4 (hq _ ⟨_, _, rfl⟩)
  · obtain ⟨lap, o, rfl⟩ := hI
    refine ⟨p, hp, ho, ?_⟩
    show Q (.bl (decide (p.shown = p.shown))) none
    rw [decide_eq_true rfl]
    exact q
end LK
namespace LK
open PySem PySem.Spec PyProof.Rows L2 CD DL
/-! ### drawn things -/
def bdB (L : Nat) : Nat → D → Bool
  | _, .non => true
  | _, .bl _ => true
  | _, .int i => decide (-1 ≤ i ∧ i ≤ 30 ∨ i = 10 ^ 30)
  | _, .str s => decide (s ∈ odS)
  | _, .dk [] => true
  | k + 1, .list ds => ds.all (bdB L k) && decide (ds.length ≤ L)
  | k + 1, .tup ds => ds.all (bdB L k) && decide (ds.length ≤ L)
  | _, _ => false
theorem bd_of {L : Nat} : ∀ {k : Nat} {d : D}, bdB L k d = true → Bd L k d
  | _, .non, _ => .non
  | _, .bl b, _ => .bl b
  | 0, .int i, h => .int (of_decide_eq_true h)
  | _ + 1, .int i, h => .int (of_decide_eq_true h)
  | 0, .str s, h => .str (of_decide_eq_true h)
  | _ + 1, .str s, h => .str (of_decide_eq_true h)
  | _, .dk [], _ => .emp
  | 0, .dk (_ :: _), h => by cases h
  | _ + 1, .dk (_ :: _), h => by cases h
  | 0, .list _, h => by cases h
  | 0, .tup _, h => by cases h
  | k + 1, .list ds, h => by
    have h : (ds.all (bdB L k) && decide (ds.length ≤ L)) = true := h
    rw [Bool.and_eq_true, decide_eq_true_eq] at h
    exact .list (fun d hd => bd_of (List.all_eq_true.mp h.1 d hd)) h.2
  | k + 1, .tup ds, h => by
    have h : (ds.all (bdB L k) && decide (ds.length ≤ L)) = true := h
    rw [Bool.and_eq_true, decide_eq_true_eq] at h
    exact .tup (fun d hd => bd_of (List.all_eq_true.mp h.1 d hd)) h.2
  | 0, .dt _, h => by cases h
  | _ + 1, .dt _, h => by cases h
  | 0, .set _, h => by cases h
  | _ + 1, .set _, h => by cases h
  | 0, .scr _, h => by cases h
  | _ + 1, .scr _, h => by cases h
  | 0, .fn _, h => by cases h
  | _ + 1, .fn _, h => by cases h
theorem w_of_bd {n : Nat} {ds : List D} {Q : QD} (hn : n + 1 < 2 ^ 40) (l1 : 1 ≤ ds.length) (l2 : ds.length ≤ 100) (z : ds.all (bdB 5 2) = true) (q : ∀ d, Bd 5 2 d → Q d (some (n + 1))) : W__law_of [.gen n, .val (.list ds)] Q :=
  w_of hn l1 l2 fun _ d hd => q d (bd_of (List.all_eq_true.mp z d (List.mem_of_getElem? hd)))
theorem w_odd {n : Nat} {Q : QD} (hn : n + 1 < 2 ^ 40) (q : ∀ d, Bd 5 2 d → Q d (some (n + 1))) : W__law_odd [.gen n] Q := by
  refine ⟨⟨sz rfl, ?_⟩⟩
  repeat first
    | refine ⟨sz rfl, ?_⟩
    | refine ⟨by rw [sizeLine_eq]; decide, ?_⟩
    | refine ⟨by decide, ?_⟩
    | refine ⟨(show CPow 10 30 from ⟨by decide, by decide, by decide⟩), ?_⟩
    | refine ⟨(nofun : ([D.non] : List D) ≠ []), ?_⟩
  refine ⟨rfl, rfl, w_of_bd hn (by decide) (by decide) (by decide +kernel) fun d hd => ?_⟩
  split <;> exact q d hd
/-- a thing with something otherwise -/
abbrev RBt (n : Nat) (d : D) (a b : Option SV) : Rho := [some (.gen n), some (.val d), a, b]
theorem cat_bd {L k : Nat} {p r : List D} (hp : ∀ d ∈ p, Bd L k d) (hr : ∀ d ∈ r, Bd L k d) : ∀ d ∈ p ++ r, Bd L k d := fun d hd => (List.mem_append.mp hd).elim (hp d) (hr d)
theorem w_bent_flat {n L k : Nat} {d : D} {WR : WD} {Q : QD} (hn : n + 100 < 2 ^ 40) (nt : ∀ ds, d ≠ .tup ds) (h : Bd L k d) (q : ∀ x, Bd 5 2 x → Q x (some (n + 1))) : Wof 4 (u__law_bent WR) [.gen n, .val d] Q := by
  cases h with
  | non => exact ⟨by decide, rfl, rfl, w_odd (by omega) fun x hx => ite_two (q x hx)⟩
  | bl _ => exact ⟨by decide, rfl, rfl, w_odd (by omega) fun x hx => ite_two (q x hx)⟩
  | int _ => exact ⟨by decide, rfl, rfl, w_odd (by omega) fun x hx => ite_two (q x hx)⟩
  | str _ => exact ⟨by decide, rfl, rfl, w_odd (by omega) fun x hx => ite_two (q x hx)⟩
  | emp => exact ⟨by decide, rfl, rfl, w_odd (by omega) fun x hx => ite_two (q x hx)⟩
  | list _ _ => exact ⟨by decide, rfl, rfl, w_odd (by omega) fun x hx => ite_two (q x hx)⟩
  | tup _ _ => exact absurd rfl (nt _)
theorem cut_1 {p r : List D} {e : D} {k : Nat} (hp : p.length = k) : DL.cutD (p ++ e :: r) none (some (k : Int)) = p := by
  rw [cutD_to (by rw [List.length_append]; omega), ← hp, List.take_left]
theorem cut_3 {p r : List D} {e : D} {k : Nat} (hp : p.length = k) : DL.cutD (p ++ e :: r) (some (k : Int)) none = e :: r := by
  rw [cutD_from (by rw [List.length_append]; omega), ← hp, List.drop_left]
theorem cut_2 {p r : List D} {e : D} {k : Nat} (hp : p.length = k) : DL.cutD (p ++ e :: r) (some ((k : Int) + 1)) none = r := by
  rw [show ((k : Int) + 1) = ((k + 1 : Nat) : Int) by omega, cutD_from (by rw [List.length_append, List.length_cons]; omega), ← hp, ← List.drop_drop, List.drop_left]
  rfl
theorem w_bent {L : Nat} (hL : L ≤ 20) (h4 : 4 ≤ L) : ∀ {j k n : Nat} {d : D} {Q : QD}, k < j → n + 100 * j < 2 ^ 40 → Bd L k d → (∀ x m, Bd (L + 1) (k + 2) x → m ≤ n + 10 * j → Q x (some m)) → W__law_bentN j [.gen n, .val d] Q
  | 0, _, _, _, _, h, _, _, _ => absurd h (by omega)
  | j + 1, k, n, d, Q, hj, hn, h, q => by
    show Wof 4 (u__law_bent (W__law_bentN j)) [.gen n, .val d] Q
    have odd : ∀ x m, Bd 5 2 x → m ≤ n + 10 * (j + 1) → Q x (some m) := fun x m hx hm => q x m (hx.mono (by omega) (by omega)) hm
    by_cases nt : ∀ ds, d ≠ .tup ds
    · exact w_bent_flat (by omega) nt h fun x hx => odd x _ hx (by omega)
    cases h with
    | non => exact absurd nofun nt
    | bl _ => exact absurd nofun nt
    | int _ => exact absurd nofun nt
    | str _ => exact absurd nofun nt
    | emp => exact absurd nofun nt
    | list _ _ => exact absurd nofun nt
    | @tup k ds h l =>
      cases ds with
      | nil => exact ⟨by decide, sz rfl, rfl, rfl, w_odd (by omega) fun x hx => ite_two (odd x _ hx (by omega))⟩
      | cons e r =>
        refine ⟨by decide, sz rfl, rfl, rfl, w_next (by omega) (by decide) (by decide) fun v v0 v1 => ?_⟩
        conv => whnf
        refine drec (fun _ => ?_) (fun _ => ?_)
        · exact ⟨rfl, rfl, w_odd (by omega) fun x hx => ite_two (odd x _ hx (by omega))⟩
        have le : 1 ≤ (e :: r).length := by simp
        generalize e :: r = ds at h l le ⊢
        refine ⟨rfl, rfl, w_next (by omega) (by omega) (by omega) fun spot s0 s1 => ⟨rfl, rfl, w_next (by omega) (by decide) (by decide) fun way y0 y1 => ?_⟩⟩
        obtain ⟨a, rfl⟩ : ∃ a : Nat, spot = (a : Int) := ⟨spot.toNat, (Int.toNat_of_nonneg s0).symm⟩
        have ha : a < ds.length := by omega
        obtain ⟨p, e, r, rfl, hp⟩ : ∃ p e r, ds = p ++ e :: r ∧ p.length = a := ⟨ds.take a, ds[a], ds.drop (a + 1), by rw [← List.drop_eq_getElem_cons, List.take_append_drop], by rw [List.length_take]; omega⟩
        have hpp : ∀ x ∈ p, Bd (L + 1) (k + 2) x := fun x hx => (h x (List.mem_append_left _ hx)).mono (by omega) (by omega)
        have hrr : ∀ x ∈ r, Bd (L + 1) (k + 2) x := fun x hx => (h x (List.mem_append_right _ (List.mem_cons_of_mem _ hx))).mono (by omega) (by omega)
        have hee : Bd (L + 1) (k + 2) e := (h e (List.mem_append_right _ List.mem_cons_self)).mono (by omega) (by omega)
        have le2 := l
        rw [List.length_append, List.length_cons] at le2
        have fin : ∀ ds m, (∀ x ∈ ds, Bd (L + 1) (k + 2) x) → ds.length ≤ L + 1 → m ≤ n + 10 * (j + 1) → Q (.tup ds) (some m) := fun ds m hd hl hm => q _ m (.tup hd hl) hm
        have at' : atI (p ++ e :: r) (a : Int) = some e := atI_nat (by rw [← hp, List.getElem?_append_right (Nat.le_refl _), Nat.sub_self]; rfl)
        show uSeq i__law_bent_5 _ _ (RBt (n + 1 + 1 + 1) (.tup (p ++ e :: r)) (some (.val (.int a))) (some (.val (.int way))))
        conv => whnf
        refine drec (fun _ => ?_) (fun _ => ?_)
        · conv => whnf
          rw [cut_1 hp, cut_2 hp]
          refine ⟨by rw [sizeLine_eq]; omega, ?_⟩
          exact fin _ _ (cat_bd hpp hrr) (by rw [List.length_append]; omega) (by omega)
        conv => whnf
        refine drec (fun _ => ?_) (fun _ => ?_)
        · refine ⟨rfl, rfl, w_odd (by omega) fun x hx => ite_two ?_⟩
          refine ⟨sz rfl, ?_⟩
          conv => whnf
          rw [cut_1 hp]
          refine ⟨by rw [sizeLine_eq]; show p.length + 1 ≤ _; omega, ?_⟩
          conv => whnf
          rw [cut_3 hp]
          refine ⟨by rw [sizeLine_eq, List.length_append]; show p.length + 1 + (r.length + 1) ≤ _; omega, ?_⟩
          refine fin _ _ (cat_bd (cat_bd hpp fun y hy => by rw [List.mem_singleton.mp hy]; exact hx.mono (by omega) (by omega)) fun y hy => ?_) ?_ (by omega)
          · rcases List.mem_cons.mp hy with rfl | hy
            · exact hee
            · exact hrr y hy
          · rw [List.length_append, List.length_append, List.length_singleton, List.length_cons]; omega
        have hds : ∀ x ∈ p ++ e :: r, Bd (L + 1) (k + 2) x := fun x hx => (h x hx).mono (by omega) (by omega)
        conv => whnf
        refine drec (fun _ => ?_) (fun _ => ?_)
        · exact fin _ _ (fun x hx => hds x (List.mem_reverse.mp hx)) (by rw [List.length_reverse]; omega) (by omega)
        conv => whnf
        refine drec (fun _ => ?_) (fun _ => ?_)
        · exact q _ _ (.list hds (by omega)) (by omega)
        conv => whnf
        refine drec (fun _ => ?_) (fun _ => ?_)
        · conv => whnf
          rw [at']
          refine ⟨sz rfl, ?_⟩
          refine ⟨by rw [sizeLine_eq]; show (p ++ e :: r).length + 1 ≤ _; omega, ?_⟩
          exact fin _ _ (cat_bd hds fun y hy => by rw [List.mem_singleton.mp hy]; exact hee) (by rw [List.length_append, List.length_singleton]; omega) (by omega)
        conv => whnf
        rw [at']
        refine ⟨rfl, rfl, w_bent hL h4 (j := j) (k := k) (by omega) (by omega) (h e (by simp)) fun x m hx hm => ite_two ?_⟩
        conv => whnf
        refine ⟨sz rfl, ?_⟩
        conv => whnf
        rw [cut_1 hp]
        refine ⟨by rw [sizeLine_eq]; show p.length + 1 ≤ _; omega, ?_⟩
        conv => whnf
        rw [cut_2 hp]
        refine ⟨by rw [sizeLine_eq, List.length_append]; show p.length + 1 + r.length ≤ _; omega, ?_⟩
        exact fin _ _ (cat_bd (cat_bd hpp fun y hy => by rw [List.mem_singleton.mp hy]; exact hx) hrr) (by rw [List.length_append, List.length_append, List.length_singleton]; omega) (by omega)
end LK
namespace LK
open PySem PySem.Spec PyProof.Rows L2 CD DL
/-! ### the law -/
def sv (x : Option D) : Option SV := x.map SV.val
def gf (m : Nat) : Option SV → Option SV := fun s => match s with
  | some (.gen _) => some (.gen m)
  | s => s
theorem gf_sv {m : Nat} {x : Option D} : gf m (sv x) = sv x := by cases x <;> rfl
abbrev RA (ns : List Int) (n : Nat) (l t i b : Option D) : Rho := [some (.val (.scr ns)), some (.gen n), sv l, sv t, sv i, sv b, none, none, none]
theorem l_1 {ns : List Int} {n : Nat} {ds : List D} {l i b : Option D} {Q : UEnds} (hn : n < 200000) (ht : Bd 5 2 (.tup ds)) (q : ∀ m, m ≤ n + 1 → Q.nx (RA ns m l (some (.tup ds)) i b)) : i_law_1 Q (RA ns n l (some (.tup ds)) i b) := by
  have hl : Bd 5 2 (.list ds) := by
    cases ht with
    | tup h l => exact .list h l
  refine ⟨rfl, rfl, w_right (by decide) (by decide) ht ?_⟩
  refine ⟨rfl, rfl, w_right (by decide) (by decide) hl ?_⟩
  refine ⟨rfl, rfl, w_odd (by omega) fun x hx => ite_two ?_⟩
  refine ⟨rfl, rfl, w_right (by decide) (by decide) hx ?_⟩
  show Q.nx [some (.val (.scr ns)), some (.gen (n + 1)), gf (n + 1) (sv l), some (.val (.tup ds)), gf (n + 1) (sv i), gf (n + 1) (sv b), none, none, none]
  simp only [gf_sv]
  exact q _ (Nat.le_refl _)
theorem l_23 {ns : List Int} {n : Nat} {ds : List D} {l i b : Option D} {Q : UEnds} (hn : n < 200000) (ht : Bd 5 2 (.tup ds)) (q : ∀ m b, m ≤ n + 160 → Q.nx (RA ns m l (some (.tup ds)) i b)) : uSeq i_law_2 i_law_3 Q (RA ns n l (some (.tup ds)) i b) := by
  refine ⟨rfl, rfl, ⟨w_bent (L := 5) (by decide) (by decide) (by decide) (by omega) ht fun x m hx hm => ite_two ?_⟩⟩
  show i_law_3 Q [some (.val (.scr ns)), some (.gen m), gf m (sv l), some (.val (.tup ds)), gf m (sv i), some (.val x), none, none, none]
  simp only [gf_sv]
  refine ⟨rfl, rfl, w_right (by decide) (by decide) hx ?_⟩
  refine ⟨rfl, rfl, ⟨w_bent (L := 6) (by decide) (by decide) (by decide) (by omega) hx fun y m2 hy hm2 => ite_two ?_⟩⟩
  refine ⟨rfl, rfl, w_right (by decide) (by decide) hy ?_⟩
  show Q.nx [some (.val (.scr ns)), some (.gen m2), gf m2 (sv l), some (.val (.tup ds)), gf m2 (sv i), some (.val x), none, none, none]
  simp only [gf_sv]
  exact q m2 (some x) (by omega)
theorem l_4 {ns : List Int} {n : Nat} {ds : List D} {l i b : Option D} {Q : UEnds} (hn : n < 180000) (ht : Bd 5 2 (.tup ds)) (q : ∀ m i b, m ≤ n + 1120 → Q.nx (RA ns m l (some (.tup ds)) i b)) : i_law_4 Q (RA ns n l (some (.tup ds)) i b) := by
  refine ⟨by decide, by decide, ?_⟩
  show goFor (ugName 4) (uSeq i_law_2 i_law_3) Q (rgD 0 7) (RA ns n l (some (.tup ds)) i b)
  refine goFor_inv (I := fun j ρ => ∃ m i b, m ≤ n + 160 * j ∧ ρ = RA ns m l (some (.tup ds)) i b) (fun _ => True) 7 (fun j d ρ Q' hj _ hI hq => ?_) _ 0 _ (by show 0 + (rgD 0 7).length ≤ 7; rw [rg_len]; decide) (fun _ _ => trivial) ⟨n, i, b, by omega, rfl⟩ (fun ρ' hI => ?_)
  · obtain ⟨m, i, b, hm, rfl⟩ := hI
    show uSeq i_law_2 i_law_3 Q' (RA ns m l (some (.tup ds)) (some d) b)
    exact l_23 (by omega) ht fun m2 b2 hm2 => hq _ ⟨m2, some d, b2, by omega, rfl⟩
  · obtain ⟨m, i, b, hm, rfl⟩ := hI
    rw [rg_len] at hm
    exact q _ _ _ (by omega)
/-- a drawn thing -/
def T1 (d : D) : Prop := ∃ ds, d = .tup ds ∧ Bd 5 2 d
theorem ints_bd {F : List Int} {lo hi : Int} {m : Nat} (h : InR F lo hi m) (h0 : 0 ≤ lo) (h1 : hi ≤ 30) (m5 : m ≤ 5) : Bd 5 1 (.tup (F.map .int)) := by
  refine .tup (fun d hd => ?_) (by rw [List.length_map]; have := h.most; omega)
  obtain ⟨n, hn, rfl⟩ := List.mem_map.mp hd
  have := h.rng n hn
  exact .int (.inl ⟨by omega, by omega⟩)
theorem kind_bd {ds : List D} (h : IsK ds) : Bd 5 2 (.tup ds) := by
  rcases h with rfl | ⟨w, i, hw, i2, i8, rfl⟩
  · exact bd_of (by decide)
  · refine .tup (fun d hd => ?_) (by show 2 ≤ 5; decide)
    rcases List.mem_cons.mp hd with rfl | hd
    · exact .str (by rcases hw with rfl | rfl | rfl <;> decide)
    · rw [List.mem_singleton.mp hd]; exact .int (.inl ⟨by omega, by omega⟩)
theorem l_5 {ns : List Int} {n : Nat} {l t i b : Option D} {Q : UEnds} (hn : n < 120000) (q : ∀ m t i b, m ≤ n + 3600 → Q.nx (RA ns m l t i b)) : i_law_5 Q (RA ns n l t i b) := by
  refine ⟨rfl, rfl, w_steps (by omega) fun F k1 h1 hk1 => ⟨rfl, rfl, w_adds (by omega) (by decide) (by decide) fun N A k2 n2 n5 h2 hk2 => ⟨rfl, rfl, w_shape (by omega) fun ds k3 h3 hk3 => ⟨sz rfl, ?_⟩⟩⟩⟩
  show goFor (ugName 3) (uSeq i_law_1 i_law_4) Q [.tup (F.map .int), .tup [.int N, .tup (A.map .int)], .tup ds] [some (.val (.scr ns)), some (.gen k3), gf k3 (gf k2 (gf k1 (sv l))), gf k3 (gf k2 (gf k1 (sv t))), gf k3 (gf k2 (gf k1 (sv i))), gf k3 (gf k2 (gf k1 (sv b))), none, none, none]
  simp only [gf_sv]
  refine goFor_inv (I := fun j ρ => ∃ m t i b, m ≤ k3 + 1130 * j ∧ ρ = RA ns m l t i b) T1 3 (fun j d ρ Q' hj hd hI hq => ?_) _ 0 _ (by show 0 + 3 ≤ 3; decide) (fun d hd => ?_) ⟨k3, t, i, b, by omega, rfl⟩ (fun ρ' hI => ?_)
  · obtain ⟨m, t, i, b, hm, rfl⟩ := hI
    obtain ⟨es, rfl, hb⟩ := hd
    show uSeq i_law_1 i_law_4 Q' (RA ns m l (some (.tup es)) i b)
    refine seq_of (l_1 (by omega) hb fun m1 hm1 => ?_)
    dsimp only
    exact l_4 (by omega) hb fun m2 i2 b2 hm2 => hq _ ⟨m2, _, i2, b2, by omega, rfl⟩
  · simp only [List.mem_cons, List.not_mem_nil, or_false] at hd
    rcases hd with rfl | rfl | rfl
    · exact ⟨_, rfl, (ints_bd h1 (by decide) (by decide) (by decide)).mono (by decide) (by decide)⟩
    · refine ⟨_, rfl, .tup (fun d hd => ?_) (by show 2 ≤ 5; decide)⟩
      rcases List.mem_cons.mp hd with rfl | hd
      · exact .int (.inl ⟨by omega, by omega⟩)
      · rw [List.mem_singleton.mp hd]; exact ints_bd h2 (by decide) (by decide) (by decide)
    · exact ⟨_, rfl, kind_bd h3⟩
  · obtain ⟨m, t, i, b, hm, rfl⟩ := hI
    have hm : m ≤ k3 + 1130 * (0 + 3) := hm
    exact q _ _ _ _ (by omega)
theorem l_6 {ns : List Int} {Q : UEnds} (hn : ns.length ≤ 63) (q : ∀ n l t i b, Q.nx (RA ns n l t i b)) : i_law_6 Q (RA ns 0 none none none none) := by
  have key : ∀ c : Int, 0 ≤ c → c ≤ 9 → goFor (ugName 2) i_law_5 Q (rgD 0 c.toNat) (RA ns 0 none none none none) := fun c c0 c1 => by
    refine goFor_inv (I := fun j ρ => ∃ n l t i b, n ≤ 3600 * j ∧ ρ = RA ns n l t i b) (fun _ => True) 9 (fun j x ρ Q' hj _ hI hq => ?_) _ 0 _ (by rw [rg_len]; omega) (fun _ _ => trivial) ⟨0, none, none, none, none, by omega, rfl⟩ (fun ρ' hI => ?_)
    · obtain ⟨n, l, t, i, b, hm, rfl⟩ := hI
      exact l_5 (l := some x) (by omega) fun m t i b hm2 => hq _ ⟨m, some x, t, i, b, by omega, rfl⟩
    · obtain ⟨n, l, t, i, b, hm, rfl⟩ := hI
      exact q _ _ _ _ _
  refine ⟨?_, ?_, ?_⟩
  · split <;> omega
  · split <;> omega
  · exact key _ (by split <;> omega) (by split <;> omega)
abbrev RS (ns : List Int) (n : Nat) (l t i b : Option D) (o : Option (List D)) (hd : Option SV) (od : Option D) : Rho := [some (.val (.scr ns)), some (.gen n), sv l, sv t, sv i, sv b, o.map fun x => SV.own (.list x), hd, sv od]
/-- lists of things, all of them told right -/
def Hs (ds : List D) : Prop := ds.all (bdB 6 2) = true ∧ ds.length ≤ 100
section
variable {ns : List Int} {n : Nat} {l t i b : Option D} {Q : UEnds}
theorem l_7 (q : ∀ ds, Hs ds → ds.length ≤ 10 → Q.nx (RS ns n l t i b (some ds) none none)) : i_law_7 Q (RA ns n l t i b) := by
  repeat first
    | refine ⟨sz rfl, ?_⟩
  exact q _ ⟨by decide +kernel, by decide⟩ (by decide)
theorem add_hs {ds es : List D} (h : Hs ds) (z : es.all (bdB 6 2) = true) (l : ds.length + es.length ≤ 100) : Hs (ds ++ es) := ⟨by rw [List.all_append, h.1, z]; rfl, by rw [List.length_append]; exact l⟩
theorem l_8 {ds : List D} (h : Hs ds) (hl : ds.length ≤ 10) (q : ∀ ds, Hs ds → ds.length ≤ 20 → Q.nx (RS ns n l t i b (some ds) none none)) : i_law_8 Q (RS ns n l t i b (some ds) none none) := by
  repeat first
    | refine ⟨sz rfl, ?_⟩
  refine ⟨by rw [sizeLine_eq]; show ds.length + 8 ≤ _; omega, ?_⟩
  exact q _ (add_hs h (by decide +kernel) (by show ds.length + 8 ≤ 100; omega)) (by rw [List.length_append]; show ds.length + 8 ≤ 20; omega)
theorem l_9 {ds : List D} (h : Hs ds) (hl : ds.length ≤ 20) (q : ∀ ds, Hs ds → ds.length ≤ 30 → Q.nx (RS ns n l t i b (some ds) none none)) : i_law_9 Q (RS ns n l t i b (some ds) none none) := by
  repeat first
    | refine ⟨sz rfl, ?_⟩
  refine ⟨by rw [sizeLine_eq]; show ds.length + 5 ≤ _; omega, ?_⟩
  exact q _ (add_hs h (by decide +kernel) (by show ds.length + 5 ≤ 100; omega)) (by rw [List.length_append]; show ds.length + 5 ≤ 30; omega)
theorem l_10 {ds : List D} (h : Hs ds) (hl : ds.length ≤ 30) (q : ∀ ds, Hs ds → ds.length ≤ 40 → Q.nx (RS ns n l t i b (some ds) none none)) : i_law_10 Q (RS ns n l t i b (some ds) none none) := by
  repeat first
    | refine ⟨sz rfl, ?_⟩
  refine ⟨by rw [sizeLine_eq]; show ds.length + 6 ≤ _; omega, ?_⟩
  exact q _ (add_hs h (by decide +kernel) (by show ds.length + 6 ≤ 100; omega)) (by rw [List.length_append]; show ds.length + 6 ≤ 40; omega)
theorem l_11 {ds : List D} (h : Hs ds) (hl : ds.length ≤ 40) (q : ∀ ds, Hs ds → ds.length ≤ 50 → Q.nx (RS ns n l t i b (some ds) none none)) : i_law_11 Q (RS ns n l t i b (some ds) none none) := by
  repeat first
    | refine ⟨sz rfl, ?_⟩
  refine ⟨by rw [sizeLine_eq]; show ds.length + 4 ≤ _; omega, ?_⟩
  exact q _ (add_hs h (by decide +kernel) (by show ds.length + 4 ≤ 100; omega)) (by rw [List.length_append]; show ds.length + 4 ≤ 50; omega)
/-- [e for x in ds if ..], where none is asked for -/
theorem goLc_none {i : Nat} {t : UT} {e : UE} {k : List D → Rho → Prop} {ρ : Rho} (p : D → Prop) (hl : i < ρ.length) (hi : okW ρ [i] = true) (ht : ∀ d K, p d → K false (ρ.set i (some (.val d))) → t (ρ.set i (some (.val d))) K) : ∀ (ds acc : List D), (∀ d ∈ ds, p d) → k acc ρ → goLc (ugName i) t e [i] k ds acc ρ
  | [], acc, _, q => q
  | d :: r, acc, hp, q => by
    refine ⟨hi, ?_⟩
    dsimp only [ugName, wipeR]
    rw [List.set_set]
    refine ht d _ (hp d List.mem_cons_self) ?_
    have er : restR ρ (ρ.set i (some (.val d))) [i] = ρ := set_back
    rw [if_neg (by decide), er]
    exact goLc_none p hl hi ht r _ (fun x hx => hp x (List.mem_cons_of_mem _ hx)) q
theorem l_12 {ds : List D} (h : Hs ds) (q : ∀ o : SV, (∀ m, o ≠ .gen m) → Q.nx [some (.val (.scr ns)), some (.gen n), sv l, sv t, sv i, sv b, some o, none, none]) : i_law_12 Q (RS ns n l t i b (some ds) none none) := by
  show goLc (ugName 3) (uNot (uTest (uCall 1 W__law_right (uCons (uVar 3) uNil)))) (uVar 3) [3] _ ds [] _
  refine goLc_none (fun d => Bd 6 2 d) (show 3 < 9 by decide) (by cases t <;> rfl) (fun d K hd hK => ⟨rfl, rfl, w_right (by decide) (by decide) hd hK⟩) _ _ (fun d hd => bd_of (List.all_eq_true.mp h.1 d hd)) ?_
  refine ⟨sz rfl, ?_⟩
  exact q (.val (.list ds)) nofun
end
/-- what is heard of a thing that is no string -/
def hT : D := .list [.str "text", .int 0]
def NoS (d : D) : Prop := Bd 6 2 d ∧ ∀ s, d ≠ .str s
theorem w_read_1 {d : D} {Q : QD} {QE : QX} (h : NoS d) (qx : QE ("BadText", some ("line", .int 0)) none) : W_read_rule [.val d] Q QE := by
  obtain ⟨hb, hn⟩ := h
  cases hb with
  | str _ => exact absurd rfl (hn _)
  | non => exact ⟨fun f => ⟨rfl, rfl, ⟨by decide, qx⟩⟩⟩
  | bl _ => exact ⟨fun f => ⟨rfl, rfl, ⟨by decide, qx⟩⟩⟩
  | int _ => exact ⟨fun f => ⟨rfl, rfl, ⟨by decide, qx⟩⟩⟩
  | emp => exact ⟨fun f => ⟨rfl, rfl, ⟨by decide, qx⟩⟩⟩
  | list _ _ => exact ⟨fun f => ⟨rfl, rfl, ⟨by decide, qx⟩⟩⟩
  | tup _ _ => exact ⟨fun f => ⟨rfl, rfl, ⟨by decide, qx⟩⟩⟩
theorem w_read_2 {d : D} {Q : QD} {QE : QX} (h : NoS d) (qx : QE ("BadText", some ("line", .int 0)) none) : W_read_scaled [.val d] Q QE := by
  obtain ⟨hb, hn⟩ := h
  cases hb with
  | str _ => exact absurd rfl (hn _)
  | non => exact ⟨fun f => ⟨rfl, rfl, ⟨by decide, qx⟩⟩⟩
  | bl _ => exact ⟨fun f => ⟨rfl, rfl, ⟨by decide, qx⟩⟩⟩
  | int _ => exact ⟨fun f => ⟨rfl, rfl, ⟨by decide, qx⟩⟩⟩
  | emp => exact ⟨fun f => ⟨rfl, rfl, ⟨by decide, qx⟩⟩⟩
  | list _ _ => exact ⟨fun f => ⟨rfl, rfl, ⟨by decide, qx⟩⟩⟩
  | tup _ _ => exact ⟨fun f => ⟨rfl, rfl, ⟨by decide, qx⟩⟩⟩
theorem w_read_3 {d : D} {Q : QD} {QE : QX} (h : NoS d) (qx : QE ("BadText", some ("line", .int 0)) none) : W_read_kind [.val d] Q QE := by
  obtain ⟨hb, hn⟩ := h
  cases hb with
  | str _ => exact absurd rfl (hn _)
  | non => exact ⟨fun f => ⟨rfl, rfl, ⟨by decide, qx⟩⟩⟩
  | bl _ => exact ⟨fun f => ⟨rfl, rfl, ⟨by decide, qx⟩⟩⟩
  | int _ => exact ⟨fun f => ⟨rfl, rfl, ⟨by decide, qx⟩⟩⟩
  | emp => exact ⟨fun f => ⟨rfl, rfl, ⟨by decide, qx⟩⟩⟩
  | list _ _ => exact ⟨fun f => ⟨rfl, rfl, ⟨by decide, qx⟩⟩⟩
  | tup _ _ => exact ⟨fun f => ⟨rfl, rfl, ⟨by decide, qx⟩⟩⟩
section
variable {x0 x1 x2 x3 x4 x5 x6 x7 : Option SV} {d : D}
theorem heard_8 {W : WDX} {K : RV → Rho → Prop} (hw : ∀ (Q : QD) (QE : QX), QE ("BadText", some ("line", .int 0)) none → W [.val d] Q QE) (q : K (.fr hT) [x0, x1, x2, x3, x4, x5, x6, x7, some (.val d)]) :
    uLam (fun QE => uCallX 1 W QE (uCons (uVar 8) uNil)) uN__law_heard uC__law_heard [x0, x1, x2, x3, x4, x5, x6, x7, some (.val d)] K :=
  ⟨rfl, rfl, hw _ _ ⟨("BadText", "line", "text"), _, by decide, rfl, rfl, q⟩⟩
theorem bd_t3 : Bd 7 2 (.list [hT, hT, hT]) := bd_of (by decide +kernel)
theorem l_1314 {Q : UEnds} (h : NoS d) (q : Q.nx [x0, x1, x2, x3, x4, x5, x6, some (.own (.list [hT, hT])), some (.val d)]) : uSeq i_law_13 i_law_14 Q [x0, x1, x2, x3, x4, x5, x6, x7, some (.val d)] := by
  refine heard_8 (fun Q QE => w_read_1 h) ?_
  refine heard_8 (fun Q QE => w_read_2 h) ?_
  refine ⟨sz rfl, ?_⟩
  obtain ⟨p, hp, ho⟩ := rep_of (by decide) (by decide) bd_t3
  show i_law_14 Q [x0, x1, x2, x3, x4, x5, x6, some (.own (.list [hT, hT])), some (.val d)]
  refine heard_8 (fun Q QE => w_read_3 h) ?_
  refine ⟨sz rfl, by rw [sizeLine_eq]; decide, p, hp, ho, ?_⟩
  refine ⟨sz rfl, sz rfl, by decide, by decide, by rw [sizeLine_eq]; decide, p, hp, ho, ?_⟩
  show (if (!decide (p.shown = p.shown)) = true then _ else _)
  rw [decide_eq_true rfl]
  exact q
end
theorem l_15 {ns : List Int} {n : Nat} {l t i b : Option D} {o : SV} {Q : UEnds} (ho : ∀ m, o ≠ .gen m) (q : ∀ ρ, Q.nx ρ) : i_law_15 Q [some (.val (.scr ns)), some (.gen n), sv l, sv t, sv i, sv b, some o, none, none] := by
  repeat first
    | refine ⟨sz rfl, ?_⟩
    | refine ⟨(show CPow 10 30 from ⟨by decide, by decide, by decide⟩), ?_⟩
  show goFor (ugName 8) (uSeq i_law_13 i_law_14) Q [.non, .int 5, .bl true, .tup [], .tup [.str "1"], .list [.str "half"], .dk [], (fun i j : Int => D.int (i ^ j.toNat)) 10 30] [some (.val (.scr ns)), some (.gen n), sv l, sv t, sv i, sv b, some o, none, none]
  refine goFor_inv (I := fun j ρ => ∃ x7 x8, ρ = [some (.val (.scr ns)), some (.gen n), sv l, sv t, sv i, sv b, some o, x7, x8]) NoS 8 (fun j d ρ Q' hj hd hI hq => ?_) _ 0 _ (by show 0 + 8 ≤ 8; decide) (fun d hd => ?_) ⟨_, _, rfl⟩ (fun ρ' hI => q _)
  · obtain ⟨x7, x8, rfl⟩ := hI
    show uSeq i_law_13 i_law_14 Q' [some (.val (.scr ns)), some (.gen n), sv l, sv t, sv i, sv b, some o, x7, some (.val d)]
    exact l_1314 hd (hq _ ⟨_, _, rfl⟩)
  · simp only [List.mem_cons, List.not_mem_nil, or_false] at hd
    rcases hd with rfl | rfl | rfl | rfl | rfl | rfl | rfl | rfl
    · exact ⟨.non, nofun⟩
    · exact ⟨.int (.inl (by decide)), nofun⟩
    · exact ⟨.bl _, nofun⟩
    · exact ⟨bd_of (by decide), nofun⟩
    · exact ⟨bd_of (by decide +kernel), nofun⟩
    · exact ⟨bd_of (by decide +kernel), nofun⟩
    · exact ⟨.emp, nofun⟩
    · exact ⟨.int (.inr rfl), nofun⟩
theorem s_0 {ns : List Int} {Q : UEnds} (h : ns.length ≤ 63) (q : Q.nx (RA ns 0 none none none none)) : uBegin 0 1 Q [some (.val (.scr ns)), none, none, none, none, none, none, none, none] := ⟨ns, rfl, h, rfl, q⟩
theorem u_law_ok {ns : List Int} {Q : UEnds} (h : ns.length ≤ 63) (q : ∀ ρ', Q.rt (.bl true) ρ') : u_law Q [some (.val (.scr ns)), none, none, none, none, none, none, none, none] := by
  unfold u_law
  refine seq_of (s_0 h ?_)
  dsimp only
  refine seq_of (l_6 h fun n l t i b => ?_)
  dsimp only
  refine seq_of (l_7 fun ds h1 l1 => ?_)
  dsimp only
  refine seq_of (l_8 h1 l1 fun ds h1 l1 => ?_)
  dsimp only
  refine seq_of (l_9 h1 l1 fun ds h1 l1 => ?_)
  dsimp only
  refine seq_of (l_10 h1 l1 fun ds h1 l1 => ?_)
  dsimp only
  refine seq_of (l_11 h1 l1 fun ds h1 l1 => ?_)
  dsimp only
  refine seq_of (l_12 h1 fun o ho => ?_)
  dsimp only
  refine seq_of (l_15 ho fun ρ => ?_)
  dsimp only
  exact q _
theorem w_law (ns : List Int) (h : ns.length ≤ 63) : W_law [.val (.scr ns)] fun d _ => d = .bl true := by
  unfold W_law Wof
  exact u_law_ok h fun _ => rfl
end LK
namespace LK
open PySem PySem.Spec PyProof.Rows L2 CD DL
/-! ### what the top has written -/
def clsStmt (st : Stmt) (i : Nat) : Stmt := match st with | .ClassDef (body := b) .. => b.getD i (.Pass ⟨0, 0, 0, 0⟩) | _ => .Pass ⟨0, 0, 0, 0⟩
abbrev si_BadRule : Stmt := clsStmt (topS 1) 0
theorem sci_BadRule : FnScope ["self", "part"] ["self", "part"] (defScope si_BadRule) := ⟨rfl, rfl, rfl, by decide +kernel, rfl, by decide +kernel, by decide +kernel⟩
theorem init_BadRule {P : Program} {w : World} {K : PySem.W.Frag} {mg : Str → Option Value} {base : Heap} {fI : Addr} {fd : FuncData} (F : Fun K "__init__" "BadRule.__init__" si_BadRule fI fd) (zV : mg "ValueError" = none) (vV : PySem.W.findCls K (.type "ValueError") (.type "type") "__init__" = some (.val (.builtin "ValueError.__init__"))) : FnOk P w K mg base (L2.CX P w) 1 fI fd ["self", "part"] (spIn1 K "part") := by
  refine F.okX sci_BadRule (fun vs H Q E h => ?_) (fun cdv A outer s H vs Q E hr h => ⟨(tIn1 K "part"), ?_, in1_pure rfl h⟩)
  · obtain ⟨_, _, _, rfl, _⟩ := h
    rfl
  · exact pss_cons (ps_expr (pe_veinit (by rfl) zV vV (pa_cons (pv 0) (pa_cons (pv 1) pa_nil)))) (pss_cons (ps_ost (pv 0) (pv 1)) pss_nil)
abbrev si_BadText : Stmt := clsStmt (topS 2) 0
theorem sci_BadText : FnScope ["self", "line"] ["self", "line"] (defScope si_BadText) := ⟨rfl, rfl, rfl, by decide +kernel, rfl, by decide +kernel, by decide +kernel⟩
theorem init_BadText {P : Program} {w : World} {K : PySem.W.Frag} {mg : Str → Option Value} {base : Heap} {fI : Addr} {fd : FuncData} (F : Fun K "__init__" "BadText.__init__" si_BadText fI fd) (zV : mg "ValueError" = none) (vV : PySem.W.findCls K (.type "ValueError") (.type "type") "__init__" = some (.val (.builtin "ValueError.__init__"))) : FnOk P w K mg base (L2.CX P w) 1 fI fd ["self", "line"] (spIn1 K "line") := by
  refine F.okX sci_BadText (fun vs H Q E h => ?_) (fun cdv A outer s H vs Q E hr h => ⟨(tIn1 K "line"), ?_, in1_pure rfl h⟩)
  · obtain ⟨_, _, _, rfl, _⟩ := h
    rfl
  · exact pss_cons (ps_expr (pe_veinit (by rfl) zV vV (pa_cons (pv 0) (pa_cons (pv 1) pa_nil)))) (pss_cons (ps_ost (pv 0) (pv 1)) pss_nil)
abbrev si_OutOfPlace : Stmt := clsStmt (topS 3) 0
theorem sci_OutOfPlace : FnScope ["self", "text"] ["self", "text"] (defScope si_OutOfPlace) := ⟨rfl, rfl, rfl, by decide +kernel, rfl, by decide +kernel, by decide +kernel⟩
theorem init_OutOfPlace {P : Program} {w : World} {K : PySem.W.Frag} {mg : Str → Option Value} {base : Heap} {fI : Addr} {fd : FuncData} (F : Fun K "__init__" "OutOfPlace.__init__" si_OutOfPlace fI fd) (zV : mg "ValueError" = none) (vV : PySem.W.findCls K (.type "ValueError") (.type "type") "__init__" = some (.val (.builtin "ValueError.__init__"))) : FnOk P w K mg base (L2.CX P w) 1 fI fd ["self", "text"] (spIn0 K) := by
  refine F.okX sci_OutOfPlace (fun vs H Q E h => ?_) (fun cdv A outer s H vs Q E hr h => ⟨(tIn0 K), ?_, in0_pure rfl h⟩)
  · obtain ⟨_, _, _, rfl, _⟩ := h
    rfl
  · exact pss_cons (ps_expr (pe_veinit (by rfl) zV vV (pa_cons (pv 0) (pa_cons (pv 1) pa_nil)))) (pss_nil)
abbrev si_BadKind : Stmt := clsStmt (topS 4) 0
theorem sci_BadKind : FnScope ["self", "part"] ["self", "part"] (defScope si_BadKind) := ⟨rfl, rfl, rfl, by decide +kernel, rfl, by decide +kernel, by decide +kernel⟩
theorem init_BadKind {P : Program} {w : World} {K : PySem.W.Frag} {mg : Str → Option Value} {base : Heap} {fI : Addr} {fd : FuncData} (F : Fun K "__init__" "BadKind.__init__" si_BadKind fI fd) (zV : mg "ValueError" = none) (vV : PySem.W.findCls K (.type "ValueError") (.type "type") "__init__" = some (.val (.builtin "ValueError.__init__"))) : FnOk P w K mg base (L2.CX P w) 1 fI fd ["self", "part"] (spIn1 K "part") := by
  refine F.okX sci_BadKind (fun vs H Q E h => ?_) (fun cdv A outer s H vs Q E hr h => ⟨(tIn1 K "part"), ?_, in1_pure rfl h⟩)
  · obtain ⟨_, _, _, rfl, _⟩ := h
    rfl
  · exact pss_cons (ps_expr (pe_veinit (by rfl) zV vV (pa_cons (pv 0) (pa_cons (pv 1) pa_nil)))) (pss_cons (ps_ost (pv 0) (pv 1)) pss_nil)
/-- a code object, its table at P -/
def CodeObj (c P : Addr) (o : Obj) : Prop := o.cls = .type "code" ∧ ∃ (vs : Array Value) (file : Str) (tf : Tok) (flags : Int) (tg : Tok) (inF : Bool) (text : Int) (tt : Tok), o.data = .fields vs ∧ vs[11]? = some (.ref P) ∧ vs.getD 11 .none = .ref P ∧ vs.getD 18 .none = .str file tf ∧ vs.getD 7 .none = .int flags tg ∧ vs.getD 9 .none = .bool inF ∧ vs.getD 10 .none = .int text tt ∧ c ≠ P
theorem CodeObj.inK {K : PySem.W.Frag} {c P : Addr} {o : Obj} (l : K.lookup c = some o) (h : CodeObj c P o) : CodeIn K c P := by
  obtain ⟨h1, vs, file, tf, flags, tg, inF, text, tt, h2⟩ := h
  exact ⟨o, vs, file, tf, flags, tg, inF, text, tt, l, h1, h2⟩
theorem all_mk {l : PySem.W.OpenLaw} {q : Program} {w : World} {K : PySem.W.Frag} {h : Heap} {mg : Str → Option Value} (X : K.In h) (G : h.Ns mainGlobals mg)
    {f0 : Addr} {od0 an0 : Option Addr} {sl0 : Array (Option Value)} {oc0 kV0 dc0 pm0 cd0 ct0 : Value} (a0 : PySem.W.nsIn K mainGlobals "is_integer" = some (some (.ref f0)))
    (l0 : K.lookup f0 = some ⟨oc0, od0, .func (PySem.W.fnOf "is_integer" "is_integer" (defArgs s_is_integer) (defBody s_is_integer) (defScope s_is_integer) .none kV0 dc0 pm0 an0 cd0 ct0), sl0⟩)
    (c0 : PySem.W.codeIn K cd0 "is_integer" = true)
    (k0 : PySem.W.keepIn K (.ref f0) = true)
    {f1 : Addr} {od1 an1 : Option Addr} {sl1 : Array (Option Value)} {oc1 kV1 dc1 pm1 cd1 ct1 : Value} (a1 : PySem.W.nsIn K mainGlobals "is_number" = some (some (.ref f1)))
    (l1 : K.lookup f1 = some ⟨oc1, od1, .func (PySem.W.fnOf "is_number" "is_number" (defArgs s_is_number) (defBody s_is_number) (defScope s_is_number) .none kV1 dc1 pm1 an1 cd1 ct1), sl1⟩)
    (c1 : PySem.W.codeIn K cd1 "is_number" = true)
    (k1 : PySem.W.keepIn K (.ref f1) = true)
    {f2 : Addr} {od2 an2 : Option Addr} {sl2 : Array (Option Value)} {oc2 kV2 dc2 pm2 cd2 ct2 : Value} (a2 : PySem.W.nsIn K mainGlobals "need_scaled" = some (some (.ref f2)))
    (l2 : K.lookup f2 = some ⟨oc2, od2, .func (PySem.W.fnOf "need_scaled" "need_scaled" (defArgs s_need_scaled) (defBody s_need_scaled) (defScope s_need_scaled) .none kV2 dc2 pm2 an2 cd2 ct2), sl2⟩)
    (c2 : PySem.W.codeIn K cd2 "need_scaled" = true)
    (k2 : PySem.W.keepIn K (.ref f2) = true)
    {f3 : Addr} {od3 an3 : Option Addr} {sl3 : Array (Option Value)} {oc3 kV3 dc3 pm3 cd3 ct3 : Value} (a3 : PySem.W.nsIn K mainGlobals "need_kind" = some (some (.ref f3)))
    (l3 : K.lookup f3 = some ⟨oc3, od3, .func (PySem.W.fnOf "need_kind" "need_kind" (defArgs s_need_kind) (defBody s_need_kind) (defScope s_need_kind) .none kV3 dc3 pm3 an3 cd3 ct3), sl3⟩)
    (c3 : PySem.W.codeIn K cd3 "need_kind" = true)
    (k3 : PySem.W.keepIn K (.ref f3) = true)
    {f4 : Addr} {od4 an4 : Option Addr} {sl4 : Array (Option Value)} {oc4 kV4 dc4 pm4 cd4 ct4 : Value} (a4 : PySem.W.nsIn K mainGlobals "need_rule" = some (some (.ref f4)))
    (l4 : K.lookup f4 = some ⟨oc4, od4, .func (PySem.W.fnOf "need_rule" "need_rule" (defArgs s_need_rule) (defBody s_need_rule) (defScope s_need_rule) .none kV4 dc4 pm4 an4 cd4 ct4), sl4⟩)
    (c4 : PySem.W.codeIn K cd4 "need_rule" = true)
    (k4 : PySem.W.keepIn K (.ref f4) = true)
    {f5 : Addr} {od5 an5 : Option Addr} {sl5 : Array (Option Value)} {oc5 kV5 dc5 pm5 cd5 ct5 : Value} (a5 : PySem.W.nsIn K mainGlobals "numbers_of" = some (some (.ref f5)))
    (l5 : K.lookup f5 = some ⟨oc5, od5, .func (PySem.W.fnOf "numbers_of" "numbers_of" (defArgs s_numbers_of) (defBody s_numbers_of) (defScope s_numbers_of) .none kV5 dc5 pm5 an5 cd5 ct5), sl5⟩)
    (c5 : PySem.W.codeIn K cd5 "numbers_of" = true)
    (k5 : PySem.W.keepIn K (.ref f5) = true)
    {f6 : Addr} {od6 an6 : Option Addr} {sl6 : Array (Option Value)} {oc6 kV6 dc6 pm6 cd6 ct6 : Value} (a6 : PySem.W.nsIn K mainGlobals "_is_decimal" = some (some (.ref f6)))
    (l6 : K.lookup f6 = some ⟨oc6, od6, .func (PySem.W.fnOf "_is_decimal" "_is_decimal" (defArgs s__is_decimal) (defBody s__is_decimal) (defScope s__is_decimal) .none kV6 dc6 pm6 an6 cd6 ct6), sl6⟩)
    (c6 : PySem.W.codeIn K cd6 "_is_decimal" = true)
    (k6 : PySem.W.keepIn K (.ref f6) = true)
    {f7 : Addr} {od7 an7 : Option Addr} {sl7 : Array (Option Value)} {oc7 kV7 dc7 pm7 cd7 ct7 : Value} (a7 : PySem.W.nsIn K mainGlobals "rule_text" = some (some (.ref f7)))
    (l7 : K.lookup f7 = some ⟨oc7, od7, .func (PySem.W.fnOf "rule_text" "rule_text" (defArgs s_rule_text) (defBody s_rule_text) (defScope s_rule_text) .none kV7 dc7 pm7 an7 cd7 ct7), sl7⟩)
    (c7 : PySem.W.codeIn K cd7 "rule_text" = true)
    (k7 : PySem.W.keepIn K (.ref f7) = true)
    {f8 : Addr} {od8 an8 : Option Addr} {sl8 : Array (Option Value)} {oc8 kV8 dc8 pm8 cd8 ct8 : Value} (a8 : PySem.W.nsIn K mainGlobals "scaled_text" = some (some (.ref f8)))
    (l8 : K.lookup f8 = some ⟨oc8, od8, .func (PySem.W.fnOf "scaled_text" "scaled_text" (defArgs s_scaled_text) (defBody s_scaled_text) (defScope s_scaled_text) .none kV8 dc8 pm8 an8 cd8 ct8), sl8⟩)
    (c8 : PySem.W.codeIn K cd8 "scaled_text" = true)
    (k8 : PySem.W.keepIn K (.ref f8) = true)
    {f9 : Addr} {od9 an9 : Option Addr} {sl9 : Array (Option Value)} {oc9 kV9 dc9 pm9 cd9 ct9 : Value} (a9 : PySem.W.nsIn K mainGlobals "kind_text" = some (some (.ref f9)))
    (l9 : K.lookup f9 = some ⟨oc9, od9, .func (PySem.W.fnOf "kind_text" "kind_text" (defArgs s_kind_text) (defBody s_kind_text) (defScope s_kind_text) .none kV9 dc9 pm9 an9 cd9 ct9), sl9⟩)
    (c9 : PySem.W.codeIn K cd9 "kind_text" = true)
    (k9 : PySem.W.keepIn K (.ref f9) = true)
    {f10 : Addr} {od10 an10 : Option Addr} {sl10 : Array (Option Value)} {oc10 kV10 dc10 pm10 cd10 ct10 : Value} (a10 : PySem.W.nsIn K mainGlobals "read_rule" = some (some (.ref f10)))
    (l10 : K.lookup f10 = some ⟨oc10, od10, .func (PySem.W.fnOf "read_rule" "read_rule" (defArgs s_read_rule) (defBody s_read_rule) (defScope s_read_rule) .none kV10 dc10 pm10 an10 cd10 ct10), sl10⟩)
    (c10 : PySem.W.codeIn K cd10 "read_rule" = true)
    (k10 : PySem.W.keepIn K (.ref f10) = true)
    {f11 : Addr} {od11 an11 : Option Addr} {sl11 : Array (Option Value)} {oc11 kV11 dc11 pm11 cd11 ct11 : Value} (a11 : PySem.W.nsIn K mainGlobals "read_scaled" = some (some (.ref f11)))
    (l11 : K.lookup f11 = some ⟨oc11, od11, .func (PySem.W.fnOf "read_scaled" "read_scaled" (defArgs s_read_scaled) (defBody s_read_scaled) (defScope s_read_scaled) .none kV11 dc11 pm11 an11 cd11 ct11), sl11⟩)
    (c11 : PySem.W.codeIn K cd11 "read_scaled" = true)
    (k11 : PySem.W.keepIn K (.ref f11) = true)
    {f12 : Addr} {od12 an12 : Option Addr} {sl12 : Array (Option Value)} {oc12 kV12 dc12 pm12 cd12 ct12 : Value} (a12 : PySem.W.nsIn K mainGlobals "read_kind" = some (some (.ref f12)))
    (l12 : K.lookup f12 = some ⟨oc12, od12, .func (PySem.W.fnOf "read_kind" "read_kind" (defArgs s_read_kind) (defBody s_read_kind) (defScope s_read_kind) .none kV12 dc12 pm12 an12 cd12 ct12), sl12⟩)
    (c12 : PySem.W.codeIn K cd12 "read_kind" = true)
    (k12 : PySem.W.keepIn K (.ref f12) = true)
    {f13 : Addr} {od13 an13 : Option Addr} {sl13 : Array (Option Value)} {oc13 kV13 dc13 pm13 cd13 ct13 : Value} (a13 : PySem.W.nsIn K mainGlobals "_row_of" = some (some (.ref f13)))
    (l13 : K.lookup f13 = some ⟨oc13, od13, .func (PySem.W.fnOf "_row_of" "_row_of" (defArgs s__row_of) (defBody s__row_of) (defScope s__row_of) .none kV13 dc13 pm13 an13 cd13 ct13), sl13⟩)
    (c13 : PySem.W.codeIn K cd13 "_row_of" = true)
    (k13 : PySem.W.keepIn K (.ref f13) = true)
    {f14 : Addr} {od14 an14 : Option Addr} {sl14 : Array (Option Value)} {oc14 kV14 dc14 pm14 cd14 ct14 : Value} (a14 : PySem.W.nsIn K mainGlobals "_read" = some (some (.ref f14)))
    (l14 : K.lookup f14 = some ⟨oc14, od14, .func (PySem.W.fnOf "_read" "_read" (defArgs s__read) (defBody s__read) (defScope s__read) .none kV14 dc14 pm14 an14 cd14 ct14), sl14⟩)
    (c14 : PySem.W.codeIn K cd14 "_read" = true)
    (k14 : PySem.W.keepIn K (.ref f14) = true)
    {f15 : Addr} {od15 an15 : Option Addr} {sl15 : Array (Option Value)} {oc15 kV15 dc15 pm15 cd15 ct15 : Value} (a15 : PySem.W.nsIn K mainGlobals "_rule_of" = some (some (.ref f15)))
    (l15 : K.lookup f15 = some ⟨oc15, od15, .func (PySem.W.fnOf "_rule_of" "_rule_of" (defArgs s__rule_of) (defBody s__rule_of) (defScope s__rule_of) .none kV15 dc15 pm15 an15 cd15 ct15), sl15⟩)
    (c15 : PySem.W.codeIn K cd15 "_rule_of" = true)
    (k15 : PySem.W.keepIn K (.ref f15) = true)
    {f16 : Addr} {od16 an16 : Option Addr} {sl16 : Array (Option Value)} {oc16 kV16 dc16 pm16 cd16 ct16 : Value} (a16 : PySem.W.nsIn K mainGlobals "_scaled_of" = some (some (.ref f16)))
    (l16 : K.lookup f16 = some ⟨oc16, od16, .func (PySem.W.fnOf "_scaled_of" "_scaled_of" (defArgs s__scaled_of) (defBody s__scaled_of) (defScope s__scaled_of) .none kV16 dc16 pm16 an16 cd16 ct16), sl16⟩)
    (c16 : PySem.W.codeIn K cd16 "_scaled_of" = true)
    (k16 : PySem.W.keepIn K (.ref f16) = true)
    {f17 : Addr} {od17 an17 : Option Addr} {sl17 : Array (Option Value)} {oc17 kV17 dc17 pm17 cd17 ct17 : Value} (a17 : PySem.W.nsIn K mainGlobals "_kind_of" = some (some (.ref f17)))
    (l17 : K.lookup f17 = some ⟨oc17, od17, .func (PySem.W.fnOf "_kind_of" "_kind_of" (defArgs s__kind_of) (defBody s__kind_of) (defScope s__kind_of) .none kV17 dc17 pm17 an17 cd17 ct17), sl17⟩)
    (c17 : PySem.W.codeIn K cd17 "_kind_of" = true)
    (k17 : PySem.W.keepIn K (.ref f17) = true)
    {f18 : Addr} {od18 an18 : Option Addr} {sl18 : Array (Option Value)} {oc18 kV18 dc18 pm18 cd18 ct18 : Value} (a18 : PySem.W.nsIn K mainGlobals "_law_start" = some (some (.ref f18)))
    (l18 : K.lookup f18 = some ⟨oc18, od18, .func (PySem.W.fnOf "_law_start" "_law_start" (defArgs s__law_start) (defBody s__law_start) (defScope s__law_start) .none kV18 dc18 pm18 an18 cd18 ct18), sl18⟩)
    (c18 : PySem.W.codeIn K cd18 "_law_start" = true)
    (k18 : PySem.W.keepIn K (.ref f18) = true)
    {f19 : Addr} {od19 an19 : Option Addr} {sl19 : Array (Option Value)} {oc19 kV19 dc19 pm19 cd19 ct19 : Value} (a19 : PySem.W.nsIn K mainGlobals "_law_next" = some (some (.ref f19)))
    (l19 : K.lookup f19 = some ⟨oc19, od19, .func (PySem.W.fnOf "_law_next" "_law_next" (defArgs s__law_next) (defBody s__law_next) (defScope s__law_next) .none kV19 dc19 pm19 an19 cd19 ct19), sl19⟩)
    (c19 : PySem.W.codeIn K cd19 "_law_next" = true)
    (k19 : PySem.W.keepIn K (.ref f19) = true)
    {f20 : Addr} {od20 an20 : Option Addr} {sl20 : Array (Option Value)} {oc20 kV20 dc20 pm20 cd20 ct20 : Value} (a20 : PySem.W.nsIn K mainGlobals "_law_of" = some (some (.ref f20)))
    (l20 : K.lookup f20 = some ⟨oc20, od20, .func (PySem.W.fnOf "_law_of" "_law_of" (defArgs s__law_of) (defBody s__law_of) (defScope s__law_of) .none kV20 dc20 pm20 an20 cd20 ct20), sl20⟩)
    (c20 : PySem.W.codeIn K cd20 "_law_of" = true)
    (k20 : PySem.W.keepIn K (.ref f20) = true)
    {f21 : Addr} {od21 an21 : Option Addr} {sl21 : Array (Option Value)} {oc21 kV21 dc21 pm21 cd21 ct21 : Value} (a21 : PySem.W.nsIn K mainGlobals "_law_unlike" = some (some (.ref f21)))
    (l21 : K.lookup f21 = some ⟨oc21, od21, .func (PySem.W.fnOf "_law_unlike" "_law_unlike" (defArgs s__law_unlike) (defBody s__law_unlike) (defScope s__law_unlike) .none kV21 dc21 pm21 an21 cd21 ct21), sl21⟩)
    (c21 : PySem.W.codeIn K cd21 "_law_unlike" = true)
    (k21 : PySem.W.keepIn K (.ref f21) = true)
    {f22 : Addr} {od22 an22 : Option Addr} {sl22 : Array (Option Value)} {oc22 kV22 dc22 pm22 cd22 ct22 : Value} (a22 : PySem.W.nsIn K mainGlobals "_law_steps" = some (some (.ref f22)))
    (l22 : K.lookup f22 = some ⟨oc22, od22, .func (PySem.W.fnOf "_law_steps" "_law_steps" (defArgs s__law_steps) (defBody s__law_steps) (defScope s__law_steps) .none kV22 dc22 pm22 an22 cd22 ct22), sl22⟩)
    (c22 : PySem.W.codeIn K cd22 "_law_steps" = true)
    (k22 : PySem.W.keepIn K (.ref f22) = true)
    {f23 : Addr} {od23 an23 : Option Addr} {sl23 : Array (Option Value)} {oc23 kV23 dc23 pm23 cd23 ct23 : Value} (a23 : PySem.W.nsIn K mainGlobals "_law_adds" = some (some (.ref f23)))
    (l23 : K.lookup f23 = some ⟨oc23, od23, .func (PySem.W.fnOf "_law_adds" "_law_adds" (defArgs s__law_adds) (defBody s__law_adds) (defScope s__law_adds) .none kV23 dc23 pm23 an23 cd23 ct23), sl23⟩)
    (c23 : PySem.W.codeIn K cd23 "_law_adds" = true)
    (k23 : PySem.W.keepIn K (.ref f23) = true)
    {f24 : Addr} {od24 an24 : Option Addr} {sl24 : Array (Option Value)} {oc24 kV24 dc24 pm24 cd24 ct24 : Value} (a24 : PySem.W.nsIn K mainGlobals "_law_shape" = some (some (.ref f24)))
    (l24 : K.lookup f24 = some ⟨oc24, od24, .func (PySem.W.fnOf "_law_shape" "_law_shape" (defArgs s__law_shape) (defBody s__law_shape) (defScope s__law_shape) .none kV24 dc24 pm24 an24 cd24 ct24), sl24⟩)
    (c24 : PySem.W.codeIn K cd24 "_law_shape" = true)
    (k24 : PySem.W.keepIn K (.ref f24) = true)
    {f25 : Addr} {od25 an25 : Option Addr} {sl25 : Array (Option Value)} {oc25 kV25 dc25 pm25 cd25 ct25 : Value} (a25 : PySem.W.nsIn K mainGlobals "_law_is_whole" = some (some (.ref f25)))
    (l25 : K.lookup f25 = some ⟨oc25, od25, .func (PySem.W.fnOf "_law_is_whole" "_law_is_whole" (defArgs s__law_is_whole) (defBody s__law_is_whole) (defScope s__law_is_whole) .none kV25 dc25 pm25 an25 cd25 ct25), sl25⟩)
    (c25 : PySem.W.codeIn K cd25 "_law_is_whole" = true)
    (k25 : PySem.W.keepIn K (.ref f25) = true)
    {f26 : Addr} {od26 an26 : Option Addr} {sl26 : Array (Option Value)} {oc26 kV26 dc26 pm26 cd26 ct26 : Value} (a26 : PySem.W.nsIn K mainGlobals "_law_part" = some (some (.ref f26)))
    (l26 : K.lookup f26 = some ⟨oc26, od26, .func (PySem.W.fnOf "_law_part" "_law_part" (defArgs s__law_part) (defBody s__law_part) (defScope s__law_part) .none kV26 dc26 pm26 an26 cd26 ct26), sl26⟩)
    (c26 : PySem.W.codeIn K cd26 "_law_part" = true)
    (k26 : PySem.W.keepIn K (.ref f26) = true)
    {f27 : Addr} {od27 an27 : Option Addr} {sl27 : Array (Option Value)} {oc27 kV27 dc27 pm27 cd27 ct27 : Value} (a27 : PySem.W.nsIn K mainGlobals "_law_steps_due" = some (some (.ref f27)))
    (l27 : K.lookup f27 = some ⟨oc27, od27, .func (PySem.W.fnOf "_law_steps_due" "_law_steps_due" (defArgs s__law_steps_due) (defBody s__law_steps_due) (defScope s__law_steps_due) .none kV27 dc27 pm27 an27 cd27 ct27), sl27⟩)
    (c27 : PySem.W.codeIn K cd27 "_law_steps_due" = true)
    (k27 : PySem.W.keepIn K (.ref f27) = true)
    {f28 : Addr} {od28 an28 : Option Addr} {sl28 : Array (Option Value)} {oc28 kV28 dc28 pm28 cd28 ct28 : Value} (a28 : PySem.W.nsIn K mainGlobals "_law_adds_due" = some (some (.ref f28)))
    (l28 : K.lookup f28 = some ⟨oc28, od28, .func (PySem.W.fnOf "_law_adds_due" "_law_adds_due" (defArgs s__law_adds_due) (defBody s__law_adds_due) (defScope s__law_adds_due) .none kV28 dc28 pm28 an28 cd28 ct28), sl28⟩)
    (c28 : PySem.W.codeIn K cd28 "_law_adds_due" = true)
    (k28 : PySem.W.keepIn K (.ref f28) = true)
    {f29 : Addr} {od29 an29 : Option Addr} {sl29 : Array (Option Value)} {oc29 kV29 dc29 pm29 cd29 ct29 : Value} (a29 : PySem.W.nsIn K mainGlobals "_law_shape_due" = some (some (.ref f29)))
    (l29 : K.lookup f29 = some ⟨oc29, od29, .func (PySem.W.fnOf "_law_shape_due" "_law_shape_due" (defArgs s__law_shape_due) (defBody s__law_shape_due) (defScope s__law_shape_due) .none kV29 dc29 pm29 an29 cd29 ct29), sl29⟩)
    (c29 : PySem.W.codeIn K cd29 "_law_shape_due" = true)
    (k29 : PySem.W.keepIn K (.ref f29) = true)
    {f30 : Addr} {od30 an30 : Option Addr} {sl30 : Array (Option Value)} {oc30 kV30 dc30 pm30 cd30 ct30 : Value} (a30 : PySem.W.nsIn K mainGlobals "_law_heard" = some (some (.ref f30)))
    (l30 : K.lookup f30 = some ⟨oc30, od30, .func (PySem.W.fnOf "_law_heard" "_law_heard" (defArgs s__law_heard) (defBody s__law_heard) (defScope s__law_heard) .none kV30 dc30 pm30 an30 cd30 ct30), sl30⟩)
    (c30 : PySem.W.codeIn K cd30 "_law_heard" = true)
    (k30 : PySem.W.keepIn K (.ref f30) = true)
    {f31 : Addr} {od31 an31 : Option Addr} {sl31 : Array (Option Value)} {oc31 kV31 dc31 pm31 cd31 ct31 : Value} (a31 : PySem.W.nsIn K mainGlobals "_law_odd" = some (some (.ref f31)))
    (l31 : K.lookup f31 = some ⟨oc31, od31, .func (PySem.W.fnOf "_law_odd" "_law_odd" (defArgs s__law_odd) (defBody s__law_odd) (defScope s__law_odd) .none kV31 dc31 pm31 an31 cd31 ct31), sl31⟩)
    (c31 : PySem.W.codeIn K cd31 "_law_odd" = true)
    (k31 : PySem.W.keepIn K (.ref f31) = true)
    {f32 : Addr} {od32 an32 : Option Addr} {sl32 : Array (Option Value)} {oc32 kV32 dc32 pm32 cd32 ct32 : Value} (a32 : PySem.W.nsIn K mainGlobals "_law_bent" = some (some (.ref f32)))
    (l32 : K.lookup f32 = some ⟨oc32, od32, .func (PySem.W.fnOf "_law_bent" "_law_bent" (defArgs s__law_bent) (defBody s__law_bent) (defScope s__law_bent) .none kV32 dc32 pm32 an32 cd32 ct32), sl32⟩)
    (c32 : PySem.W.codeIn K cd32 "_law_bent" = true)
    (k32 : PySem.W.keepIn K (.ref f32) = true)
    {f33 : Addr} {od33 an33 : Option Addr} {sl33 : Array (Option Value)} {oc33 kV33 dc33 pm33 ct33 : Value} {cc33 : Addr} (a33 : PySem.W.nsIn K mainGlobals "_law_right" = some (some (.ref f33)))
    (l33 : K.lookup f33 = some ⟨oc33, od33, .func (PySem.W.fnOf "_law_right" "_law_right" (defArgs s__law_right) (defBody s__law_right) (defScope s__law_right) .none kV33 dc33 pm33 an33 (.ref cc33) ct33), sl33⟩)
    (c33 : PySem.W.codeIn K (.ref cc33) "_law_right" = true)
    {co33 : Obj} (lc33 : K.lookup cc33 = some co33)
    {PP33 : Addr} (ch33 : CodeObj cc33 PP33 co33)
    (of33 : K.lookup PP33 = none)
    (rc33 : ((recsOf q).any fun e => e.name == "_law_right") = true)
    (k33 : PySem.W.keepIn K (.ref f33) = true)
    {f34 : Addr} {od34 an34 : Option Addr} {sl34 : Array (Option Value)} {oc34 kV34 dc34 pm34 ct34 : Value} {cc34 : Addr} (a34 : PySem.W.nsIn K mainGlobals "law" = some (some (.ref f34)))
    (l34 : K.lookup f34 = some ⟨oc34, od34, .func (PySem.W.fnOf "law" "law" (defArgs s_law) (defBody s_law) (defScope s_law) .none kV34 dc34 pm34 an34 (.ref cc34) ct34), sl34⟩)
    (c34 : PySem.W.codeIn K (.ref cc34) "law" = true)
    {co34 : Obj} (lc34 : K.lookup cc34 = some co34)
    {PP34 : Addr} (ch34 : CodeObj cc34 PP34 co34)
    (of34 : K.lookup PP34 = none)
    (rc34 : ((recsOf q).any fun e => e.name == "law") = true)
    (k34 : PySem.W.keepIn K (.ref f34) = true)
    (z0 : PySem.W.nsIn K mainGlobals "all" = some none)
    (z1 : PySem.W.nsIn K mainGlobals "any" = some none)
    (z2 : PySem.W.nsIn K mainGlobals "bool" = some none)
    (z3 : PySem.W.nsIn K mainGlobals "divmod" = some none)
    (z4 : PySem.W.nsIn K mainGlobals "enumerate" = some none)
    (z5 : PySem.W.nsIn K mainGlobals "int" = some none)
    (z6 : PySem.W.nsIn K mainGlobals "isinstance" = some none)
    (z7 : PySem.W.nsIn K mainGlobals "len" = some none)
    (z8 : PySem.W.nsIn K mainGlobals "list" = some none)
    (z9 : PySem.W.nsIn K mainGlobals "max" = some none)
    (z10 : PySem.W.nsIn K mainGlobals "min" = some none)
    (z11 : PySem.W.nsIn K mainGlobals "range" = some none)
    (z12 : PySem.W.nsIn K mainGlobals "repr" = some none)
    (z13 : PySem.W.nsIn K mainGlobals "reversed" = some none)
    (z14 : PySem.W.nsIn K mainGlobals "set" = some none)
    (z15 : PySem.W.nsIn K mainGlobals "sorted" = some none)
    (z16 : PySem.W.nsIn K mainGlobals "str" = some none)
    (z17 : PySem.W.nsIn K mainGlobals "sum" = some none)
    (z18 : PySem.W.nsIn K mainGlobals "tuple" = some none)
    (z19 : PySem.W.nsIn K mainGlobals "zip" = some none)
    {i0 : Int} {t0 : Tok} (m0 : PySem.W.nsIn K mainGlobals "MOST_ADDS" = some (some (.int i0 t0)))
    (e0 : i0 = 5)
    {i1 : Int} {t1 : Tok} (m1 : PySem.W.nsIn K mainGlobals "LEAST_SCALE" = some (some (.int i1 t1)))
    (e1 : i1 = 2)
    {i2 : Int} {t2 : Tok} (m2 : PySem.W.nsIn K mainGlobals "GREATEST_SCALE" = some (some (.int i2 t2)))
    (e2 : i2 = 5)
    {i3 : Int} {t3 : Tok} (m3 : PySem.W.nsIn K mainGlobals "GREATEST_ADD" = some (some (.int i3 t3)))
    (e3 : i3 = 20)
    {i4 : Int} {t4 : Tok} (m4 : PySem.W.nsIn K mainGlobals "LEAST_PARTS" = some (some (.int i4 t4)))
    (e4 : i4 = 2)
    {i5 : Int} {t5 : Tok} (m5 : PySem.W.nsIn K mainGlobals "MOST_PARTS" = some (some (.int i5 t5)))
    (e5 : i5 = 8)
    {i6 : Int} {t6 : Tok} (m6 : PySem.W.nsIn K mainGlobals "MOST_STEPS" = some (some (.int i6 t6)))
    (e6 : i6 = 4)
    {i7 : Int} {t7 : Tok} (m7 : PySem.W.nsIn K mainGlobals "GREATEST_STEP" = some (some (.int i7 t7)))
    (e7 : i7 = 6)
    {i8 : Int} {t8 : Tok} (m8 : PySem.W.nsIn K mainGlobals "MOST_FIGURES" = some (some (.int i8 t8)))
    (e8 : i8 = 31)
    {u0 : Addr} (um0 : PySem.W.nsIn K mainGlobals "WORDS" = some (some (.ref u0)))
    {uo0 : Obj} (ul0 : K.lookup u0 = some uo0)
    (uh0 : TupIs uo0 vWORDS)
    (yValueError : PySem.W.nsIn K mainGlobals "ValueError" = some none)
    (wValueError : PySem.W.findCls K (.type "ValueError") (.type "type") "__init__" = some (.val (.builtin "ValueError.__init__")))
    {CBadRule : Addr} (eaBadRule : PySem.W.nsIn K mainGlobals "BadRule" = some (some (.ref CBadRule)))
    {nmBadRule qBadRule : Str} {NBadRule : Addr} {bsBadRule : List Value} {snBadRule : List Str} {subBadRule : List Value} {abBadRule : Bool} {colBadRule : Option Bool} {ddBadRule : Option Addr} {mABadRule mBBadRule mCBadRule mDBadRule mEBadRule : Option Value} (xLBadRule : K.lookup CBadRule = some (excClassObj nmBadRule qBadRule CBadRule NBadRule bsBadRule [.type "ValueError", .type "Exception", .type "BaseException", .type "object"] true snBadRule subBadRule abBadRule colBadRule ddBadRule mABadRule mBBadRule mCBadRule mDBadRule mEBadRule "ValueError.__new__"))
    (saBadRule : PySem.W.findIn K (.ref CBadRule) "__setattr__" = some (some (.builtin "object.__setattr__")))
    (gaBadRule : PySem.W.findIn K (.ref CBadRule) "__getattribute__" = some (some (.builtin "BaseException.__getattribute__")))
    (ggBadRule : PySem.W.findIn K (.ref CBadRule) "__getattr__" = some none)
    (nbBadRule : PySem.W.findIn K (.ref CBadRule) "part" = some none)
    (exBadRule : PySem.W.subIn K (.ref CBadRule) (.type "BaseException") = some true)
    (tyBadRule : PySem.W.typeIn K (.ref CBadRule) = some (.type "type"))
    (hdBadRule : PySem.W.hasDictIn K CBadRule = true)
    (kpBadRule : PySem.W.keepIn K (.ref CBadRule) = true)
    {fIBadRule : Addr} (inBadRule : PySem.W.findIn K (.ref CBadRule) "__init__" = some (some (.ref fIBadRule)))
    (tiBadRule : PySem.W.typeIn K (.ref fIBadRule) = some (.type "function"))
    {odIBadRule anIBadRule : Option Addr} {slIBadRule : Array (Option Value)} {ocIBadRule kVIBadRule dcIBadRule pmIBadRule cdIBadRule ctIBadRule : Value} (lIBadRule : K.lookup fIBadRule = some ⟨ocIBadRule, odIBadRule, .func (PySem.W.fnOf "__init__" "BadRule.__init__" (defArgs si_BadRule) (defBody si_BadRule) (defScope si_BadRule) .none kVIBadRule dcIBadRule pmIBadRule anIBadRule cdIBadRule ctIBadRule), slIBadRule⟩)
    (cIBadRule : PySem.W.codeIn K cdIBadRule "BadRule.__init__" = true)
    (kIBadRule : PySem.W.keepIn K (.ref fIBadRule) = true)
    {CBadText : Addr} (eaBadText : PySem.W.nsIn K mainGlobals "BadText" = some (some (.ref CBadText)))
    {nmBadText qBadText : Str} {NBadText : Addr} {bsBadText : List Value} {snBadText : List Str} {subBadText : List Value} {abBadText : Bool} {colBadText : Option Bool} {ddBadText : Option Addr} {mABadText mBBadText mCBadText mDBadText mEBadText : Option Value} (xLBadText : K.lookup CBadText = some (excClassObj nmBadText qBadText CBadText NBadText bsBadText [.type "ValueError", .type "Exception", .type "BaseException", .type "object"] true snBadText subBadText abBadText colBadText ddBadText mABadText mBBadText mCBadText mDBadText mEBadText "ValueError.__new__"))
    (saBadText : PySem.W.findIn K (.ref CBadText) "__setattr__" = some (some (.builtin "object.__setattr__")))
    (gaBadText : PySem.W.findIn K (.ref CBadText) "__getattribute__" = some (some (.builtin "BaseException.__getattribute__")))
    (ggBadText : PySem.W.findIn K (.ref CBadText) "__getattr__" = some none)
    (nbBadText : PySem.W.findIn K (.ref CBadText) "line" = some none)
    (exBadText : PySem.W.subIn K (.ref CBadText) (.type "BaseException") = some true)
    (tyBadText : PySem.W.typeIn K (.ref CBadText) = some (.type "type"))
    (hdBadText : PySem.W.hasDictIn K CBadText = true)
    (kpBadText : PySem.W.keepIn K (.ref CBadText) = true)
    {fIBadText : Addr} (inBadText : PySem.W.findIn K (.ref CBadText) "__init__" = some (some (.ref fIBadText)))
    (tiBadText : PySem.W.typeIn K (.ref fIBadText) = some (.type "function"))
    {odIBadText anIBadText : Option Addr} {slIBadText : Array (Option Value)} {ocIBadText kVIBadText dcIBadText pmIBadText cdIBadText ctIBadText : Value} (lIBadText : K.lookup fIBadText = some ⟨ocIBadText, odIBadText, .func (PySem.W.fnOf "__init__" "BadText.__init__" (defArgs si_BadText) (defBody si_BadText) (defScope si_BadText) .none kVIBadText dcIBadText pmIBadText anIBadText cdIBadText ctIBadText), slIBadText⟩)
    (cIBadText : PySem.W.codeIn K cdIBadText "BadText.__init__" = true)
    (kIBadText : PySem.W.keepIn K (.ref fIBadText) = true)
    {COutOfPlace : Addr} (eaOutOfPlace : PySem.W.nsIn K mainGlobals "OutOfPlace" = some (some (.ref COutOfPlace)))
    {nmOutOfPlace qOutOfPlace : Str} {NOutOfPlace : Addr} {bsOutOfPlace : List Value} {snOutOfPlace : List Str} {subOutOfPlace : List Value} {abOutOfPlace : Bool} {colOutOfPlace : Option Bool} {ddOutOfPlace : Option Addr} {mAOutOfPlace mBOutOfPlace mCOutOfPlace mDOutOfPlace mEOutOfPlace : Option Value} (xLOutOfPlace : K.lookup COutOfPlace = some (excClassObj nmOutOfPlace qOutOfPlace COutOfPlace NOutOfPlace bsOutOfPlace [.type "ValueError", .type "Exception", .type "BaseException", .type "object"] true snOutOfPlace subOutOfPlace abOutOfPlace colOutOfPlace ddOutOfPlace mAOutOfPlace mBOutOfPlace mCOutOfPlace mDOutOfPlace mEOutOfPlace "ValueError.__new__"))
    (saOutOfPlace : PySem.W.findIn K (.ref COutOfPlace) "__setattr__" = some (some (.builtin "object.__setattr__")))
    (gaOutOfPlace : PySem.W.findIn K (.ref COutOfPlace) "__getattribute__" = some (some (.builtin "BaseException.__getattribute__")))
    (ggOutOfPlace : PySem.W.findIn K (.ref COutOfPlace) "__getattr__" = some none)
    (exOutOfPlace : PySem.W.subIn K (.ref COutOfPlace) (.type "BaseException") = some true)
    (tyOutOfPlace : PySem.W.typeIn K (.ref COutOfPlace) = some (.type "type"))
    (hdOutOfPlace : PySem.W.hasDictIn K COutOfPlace = true)
    (kpOutOfPlace : PySem.W.keepIn K (.ref COutOfPlace) = true)
    {fIOutOfPlace : Addr} (inOutOfPlace : PySem.W.findIn K (.ref COutOfPlace) "__init__" = some (some (.ref fIOutOfPlace)))
    (tiOutOfPlace : PySem.W.typeIn K (.ref fIOutOfPlace) = some (.type "function"))
    {odIOutOfPlace anIOutOfPlace : Option Addr} {slIOutOfPlace : Array (Option Value)} {ocIOutOfPlace kVIOutOfPlace dcIOutOfPlace pmIOutOfPlace cdIOutOfPlace ctIOutOfPlace : Value} (lIOutOfPlace : K.lookup fIOutOfPlace = some ⟨ocIOutOfPlace, odIOutOfPlace, .func (PySem.W.fnOf "__init__" "OutOfPlace.__init__" (defArgs si_OutOfPlace) (defBody si_OutOfPlace) (defScope si_OutOfPlace) .none kVIOutOfPlace dcIOutOfPlace pmIOutOfPlace anIOutOfPlace cdIOutOfPlace ctIOutOfPlace), slIOutOfPlace⟩)
    (cIOutOfPlace : PySem.W.codeIn K cdIOutOfPlace "OutOfPlace.__init__" = true)
    (kIOutOfPlace : PySem.W.keepIn K (.ref fIOutOfPlace) = true)
    {CBadKind : Addr} (eaBadKind : PySem.W.nsIn K mainGlobals "BadKind" = some (some (.ref CBadKind)))
    {nmBadKind qBadKind : Str} {NBadKind : Addr} {bsBadKind : List Value} {snBadKind : List Str} {subBadKind : List Value} {abBadKind : Bool} {colBadKind : Option Bool} {ddBadKind : Option Addr} {mABadKind mBBadKind mCBadKind mDBadKind mEBadKind : Option Value} (xLBadKind : K.lookup CBadKind = some (excClassObj nmBadKind qBadKind CBadKind NBadKind bsBadKind [.type "ValueError", .type "Exception", .type "BaseException", .type "object"] true snBadKind subBadKind abBadKind colBadKind ddBadKind mABadKind mBBadKind mCBadKind mDBadKind mEBadKind "ValueError.__new__"))
    (saBadKind : PySem.W.findIn K (.ref CBadKind) "__setattr__" = some (some (.builtin "object.__setattr__")))
    (gaBadKind : PySem.W.findIn K (.ref CBadKind) "__getattribute__" = some (some (.builtin "BaseException.__getattribute__")))
    (ggBadKind : PySem.W.findIn K (.ref CBadKind) "__getattr__" = some none)
    (nbBadKind : PySem.W.findIn K (.ref CBadKind) "part" = some none)
    (exBadKind : PySem.W.subIn K (.ref CBadKind) (.type "BaseException") = some true)
    (tyBadKind : PySem.W.typeIn K (.ref CBadKind) = some (.type "type"))
    (hdBadKind : PySem.W.hasDictIn K CBadKind = true)
    (kpBadKind : PySem.W.keepIn K (.ref CBadKind) = true)
    {fIBadKind : Addr} (inBadKind : PySem.W.findIn K (.ref CBadKind) "__init__" = some (some (.ref fIBadKind)))
    (tiBadKind : PySem.W.typeIn K (.ref fIBadKind) = some (.type "function"))
    {odIBadKind anIBadKind : Option Addr} {slIBadKind : Array (Option Value)} {ocIBadKind kVIBadKind dcIBadKind pmIBadKind cdIBadKind ctIBadKind : Value} (lIBadKind : K.lookup fIBadKind = some ⟨ocIBadKind, odIBadKind, .func (PySem.W.fnOf "__init__" "BadKind.__init__" (defArgs si_BadKind) (defBody si_BadKind) (defScope si_BadKind) .none kVIBadKind dcIBadKind pmIBadKind anIBadKind cdIBadKind ctIBadKind), slIBadKind⟩)
    (cIBadKind : PySem.W.codeIn K cdIBadKind "BadKind.__init__" = true)
    (kIBadKind : PySem.W.keepIn K (.ref fIBadKind) = true)
    (s_BadRule_BadRule : PySem.W.subIn K (.ref CBadRule) (.ref CBadRule) = some true)
    (s_BadRule_BadText : PySem.W.subIn K (.ref CBadRule) (.ref CBadText) = some false)
    (s_BadRule_OutOfPlace : PySem.W.subIn K (.ref CBadRule) (.ref COutOfPlace) = some false)
    (s_BadRule_BadKind : PySem.W.subIn K (.ref CBadRule) (.ref CBadKind) = some false)
    (s_BadText_BadRule : PySem.W.subIn K (.ref CBadText) (.ref CBadRule) = some false)
    (s_BadText_BadText : PySem.W.subIn K (.ref CBadText) (.ref CBadText) = some true)
    (s_BadText_OutOfPlace : PySem.W.subIn K (.ref CBadText) (.ref COutOfPlace) = some false)
    (s_BadText_BadKind : PySem.W.subIn K (.ref CBadText) (.ref CBadKind) = some false)
    (s_OutOfPlace_BadRule : PySem.W.subIn K (.ref COutOfPlace) (.ref CBadRule) = some false)
    (s_OutOfPlace_BadText : PySem.W.subIn K (.ref COutOfPlace) (.ref CBadText) = some false)
    (s_OutOfPlace_OutOfPlace : PySem.W.subIn K (.ref COutOfPlace) (.ref COutOfPlace) = some true)
    (s_OutOfPlace_BadKind : PySem.W.subIn K (.ref COutOfPlace) (.ref CBadKind) = some false)
    (s_BadKind_BadRule : PySem.W.subIn K (.ref CBadKind) (.ref CBadRule) = some false)
    (s_BadKind_BadText : PySem.W.subIn K (.ref CBadKind) (.ref CBadText) = some false)
    (s_BadKind_OutOfPlace : PySem.W.subIn K (.ref CBadKind) (.ref COutOfPlace) = some false)
    (s_BadKind_BadKind : PySem.W.subIn K (.ref CBadKind) (.ref CBadKind) = some true)
    (hn2 : PySem.W.specialIn K (.builtin "object.__class__") "__get__" = some (some (.builtin "getset_descriptor.__get__")))
    (ht2 : PySem.W.takesIn K (.builtin "object.__class__") = some true)
    (ha2BadRule : PySem.W.findIn K (.ref CBadRule) "__class__" = some (some (.builtin "object.__class__")))
    (hm2BadRule : PySem.W.mroIn K CBadRule (.type "object") = some true)
    (ha2BadKind : PySem.W.findIn K (.ref CBadKind) "__class__" = some (some (.builtin "object.__class__")))
    (hm2BadKind : PySem.W.mroIn K CBadKind (.type "object") = some true)
    (ha2BadText : PySem.W.findIn K (.ref CBadText) "__class__" = some (some (.builtin "object.__class__")))
    (hm2BadText : PySem.W.mroIn K CBadText (.type "object") = some true)
    (ne__law_right_law : PP33 ≠ PP34) :
    LawT l w K 14 63 "script" "law" q mg := by
  have tw : ∀ t ∈ ([("_law_right", cc33, PP33), ("law", cc34, PP34)] : List (Str × Addr × Addr)), TabW K t.1 t.2.1 t.2.2 ∧ ((recsOf q).any fun e => e.name == t.1) = true := by
    intro t ht
    simp only [List.mem_cons, List.not_mem_nil, or_false] at ht
    rcases ht with rfl | rfl
    · exact ⟨⟨ch33.inK lc33, ⟨f33, _, _, a33, l33, rfl, rfl⟩, of33⟩, rc33⟩
    · exact ⟨⟨ch34.inK lc34, ⟨f34, _, _, a34, l34, rfl, rfl⟩, of34⟩, rc34⟩
  refine ⟨[("_law_right", cc33, PP33), ("law", cc34, PP34)], spL (GD.tb [(PP33, ("_law_right" : Str) ++ ".<locals>." ++ "<lambda>"), (PP34, ("law" : Str) ++ ".<locals>." ++ "<lambda>")]) K 1 (fun as Q => hasG as = false ∧ W_law as Q), tw, fun F H a ns hl hS sm hT => spL_lawT w_law F H a ns hl hS sm fun p hp => ?_, ?_⟩
  · have hp : p ∈ ([(PP33, ("_law_right" : Str) ++ ".<locals>." ++ "<lambda>"), (PP34, ("law" : Str) ++ ".<locals>." ++ "<lambda>")] : List (Addr × Str)) := hp
    simp only [List.mem_cons, List.not_mem_nil, or_false] at hp
    rcases hp with rfl | rfl
    · exact hT ("_law_right", cc33, PP33) (List.Mem.head _)
    · exact hT ("law", cc34, PP34) (List.Mem.tail _ (List.Mem.head _))
  intro base _ _ hTB
  generalize hP : l.prog = P
  obtain ⟨T, hTe⟩ : ∃ T : List (Addr × Str), T = [(PP33, ("_law_right" : Str) ++ ".<locals>." ++ "<lambda>"), (PP34, ("law" : Str) ++ ".<locals>." ++ "<lambda>")] := ⟨_, rfl⟩
  rw [← hTe]
  have L__law_right : LamT K mg base (GD.tb T).T "_law_right" cc33 PP33 := ⟨hTB ("_law_right", cc33, PP33) (List.Mem.head _), (tw ("_law_right", cc33, PP33) (List.Mem.head _)).1.codeOf X G, (show _ ∈ T by rw [hTe]; exact List.Mem.head _), (fun z hz e => by
      have hz : z ∈ T := hz
      rw [hTe] at hz
      cases hz with
      | head => rfl
      | tail _ hz => (cases hz with
      | head => exact absurd e (Ne.symm ne__law_right_law)
      | tail _ hz => (cases hz)))⟩
  have L_law : LamT K mg base (GD.tb T).T "law" cc34 PP34 := ⟨hTB ("law", cc34, PP34) (List.Mem.tail _ (List.Mem.head _)), (tw ("law", cc34, PP34) (List.Mem.tail _ (List.Mem.head _))).1.codeOf X G, (show _ ∈ T by rw [hTe]; exact List.Mem.tail _ (List.Mem.head _)), (fun z hz e => by
      have hz : z ∈ T := hz
      rw [hTe] at hz
      cases hz with
      | head => exact absurd e ne__law_right_law
      | tail _ hz => (cases hz with
      | head => rfl
      | tail _ hz => (cases hz)))⟩
  have z : Z mg := ⟨PySem.W.mg_none_of X G z0, PySem.W.mg_none_of X G z1, PySem.W.mg_none_of X G z2, PySem.W.mg_none_of X G z3, PySem.W.mg_none_of X G z4, PySem.W.mg_none_of X G z5, PySem.W.mg_none_of X G z6, PySem.W.mg_none_of X G z7, PySem.W.mg_none_of X G z8, PySem.W.mg_none_of X G z9, PySem.W.mg_none_of X G z10, PySem.W.mg_none_of X G z11, PySem.W.mg_none_of X G z12, PySem.W.mg_none_of X G z13, PySem.W.mg_none_of X G z14, PySem.W.mg_none_of X G z15, PySem.W.mg_none_of X G z16, PySem.W.mg_none_of X G z17, PySem.W.mg_none_of X G z18, PySem.W.mg_none_of X G z19⟩
  have v_MOST_ADDS := mg_int X G m0 e0
  have v_LEAST_SCALE := mg_int X G m1 e1
  have v_GREATEST_SCALE := mg_int X G m2 e2
  have v_GREATEST_ADD := mg_int X G m3 e3
  have v_LEAST_PARTS := mg_int X G m4 e4
  have v_MOST_PARTS := mg_int X G m5 e5
  have v_MOST_STEPS := mg_int X G m6 e6
  have v_GREATEST_STEP := mg_int X G m7 e7
  have v_MOST_FIGURES := mg_int X G m8 e8
  have v_WORDS := mg_tup X G um0 ul0 uh0
  have D_is_integer := def_mk (st := s_is_integer) (ps := p_is_integer) X G a0 l0 c0 k0 fun _ _ _ _ _ _ us hl => match us, hl with | [_], _ => rfl
  have D_is_number := def_mk (st := s_is_number) (ps := p_is_number) X G a1 l1 c1 k1 fun _ _ _ _ _ _ us hl => match us, hl with | [_, _, _], _ => rfl
  have D_need_scaled := def_mk (st := s_need_scaled) (ps := p_need_scaled) X G a2 l2 c2 k2 fun _ _ _ _ _ _ us hl => match us, hl with | [_], _ => rfl
  have D_need_kind := def_mk (st := s_need_kind) (ps := p_need_kind) X G a3 l3 c3 k3 fun _ _ _ _ _ _ us hl => match us, hl with | [_], _ => rfl
  have D_need_rule := def_mk (st := s_need_rule) (ps := p_need_rule) X G a4 l4 c4 k4 fun _ _ _ _ _ _ us hl => match us, hl with | [_], _ => rfl
  have D_numbers_of := def_mk (st := s_numbers_of) (ps := p_numbers_of) X G a5 l5 c5 k5 fun _ _ _ _ _ _ us hl => match us, hl with | [_], _ => rfl
  have D__is_decimal := def_mk (st := s__is_decimal) (ps := p__is_decimal) X G a6 l6 c6 k6 fun _ _ _ _ _ _ us hl => match us, hl with | [_], _ => rfl
  have D_rule_text := def_mk (st := s_rule_text) (ps := p_rule_text) X G a7 l7 c7 k7 fun _ _ _ _ _ _ us hl => match us, hl with | [_], _ => rfl
  have D_scaled_text := def_mk (st := s_scaled_text) (ps := p_scaled_text) X G a8 l8 c8 k8 fun _ _ _ _ _ _ us hl => match us, hl with | [_], _ => rfl
  have D_kind_text := def_mk (st := s_kind_text) (ps := p_kind_text) X G a9 l9 c9 k9 fun _ _ _ _ _ _ us hl => match us, hl with | [_], _ => rfl
  have D_read_rule := def_mk (st := s_read_rule) (ps := p_read_rule) X G a10 l10 c10 k10 fun _ _ _ _ _ _ us hl => match us, hl with | [_], _ => rfl
  have D_read_scaled := def_mk (st := s_read_scaled) (ps := p_read_scaled) X G a11 l11 c11 k11 fun _ _ _ _ _ _ us hl => match us, hl with | [_], _ => rfl
  have D_read_kind := def_mk (st := s_read_kind) (ps := p_read_kind) X G a12 l12 c12 k12 fun _ _ _ _ _ _ us hl => match us, hl with | [_], _ => rfl
  have D__row_of := def_mk (st := s__row_of) (ps := p__row_of) X G a13 l13 c13 k13 fun _ _ _ _ _ _ us hl => match us, hl with | [_], _ => rfl
  have D__read := def_mk (st := s__read) (ps := p__read) X G a14 l14 c14 k14 fun _ _ _ _ _ _ us hl => match us, hl with | [_, _], _ => rfl
  have D__rule_of := def_mk (st := s__rule_of) (ps := p__rule_of) X G a15 l15 c15 k15 fun _ _ _ _ _ _ us hl => match us, hl with | [_], _ => rfl
  have D__scaled_of := def_mk (st := s__scaled_of) (ps := p__scaled_of) X G a16 l16 c16 k16 fun _ _ _ _ _ _ us hl => match us, hl with | [_], _ => rfl
  have D__kind_of := def_mk (st := s__kind_of) (ps := p__kind_of) X G a17 l17 c17 k17 fun _ _ _ _ _ _ us hl => match us, hl with | [_], _ => rfl
  have D__law_start := def_mk (st := s__law_start) (ps := p__law_start) X G a18 l18 c18 k18 fun _ _ _ _ _ _ us hl => match us, hl with | [_], _ => rfl
  have D__law_next := def_mk (st := s__law_next) (ps := p__law_next) X G a19 l19 c19 k19 fun _ _ _ _ _ _ us hl => match us, hl with | [_, _], _ => rfl
  have D__law_of := def_mk (st := s__law_of) (ps := p__law_of) X G a20 l20 c20 k20 fun _ _ _ _ _ _ us hl => match us, hl with | [_, _], _ => rfl
  have D__law_unlike := def_mk (st := s__law_unlike) (ps := p__law_unlike) X G a21 l21 c21 k21 fun _ _ _ _ _ _ us hl => match us, hl with | [_, _, _, _], _ => rfl
  have D__law_steps := def_mk (st := s__law_steps) (ps := p__law_steps) X G a22 l22 c22 k22 fun _ _ _ _ _ _ us hl => match us, hl with | [_], _ => rfl
  have D__law_adds := def_mk (st := s__law_adds) (ps := p__law_adds) X G a23 l23 c23 k23 fun _ _ _ _ _ _ us hl => match us, hl with | [_, _], _ => rfl
  have D__law_shape := def_mk (st := s__law_shape) (ps := p__law_shape) X G a24 l24 c24 k24 fun _ _ _ _ _ _ us hl => match us, hl with | [_], _ => rfl
  have D__law_is_whole := def_mk (st := s__law_is_whole) (ps := p__law_is_whole) X G a25 l25 c25 k25 fun _ _ _ _ _ _ us hl => match us, hl with | [_, _, _], _ => rfl
  have D__law_part := def_mk (st := s__law_part) (ps := p__law_part) X G a26 l26 c26 k26 fun _ _ _ _ _ _ us hl => match us, hl with | [_, _, _], _ => rfl
  have D__law_steps_due := def_mk (st := s__law_steps_due) (ps := p__law_steps_due) X G a27 l27 c27 k27 fun _ _ _ _ _ _ us hl => match us, hl with | [_], _ => rfl
  have D__law_adds_due := def_mk (st := s__law_adds_due) (ps := p__law_adds_due) X G a28 l28 c28 k28 fun _ _ _ _ _ _ us hl => match us, hl with | [_], _ => rfl
  have D__law_shape_due := def_mk (st := s__law_shape_due) (ps := p__law_shape_due) X G a29 l29 c29 k29 fun _ _ _ _ _ _ us hl => match us, hl with | [_], _ => rfl
  have D__law_heard := def_mk (st := s__law_heard) (ps := p__law_heard) X G a30 l30 c30 k30 fun _ _ _ _ _ _ us hl => match us, hl with | [_], _ => rfl
  have D__law_odd := def_mk (st := s__law_odd) (ps := p__law_odd) X G a31 l31 c31 k31 fun _ _ _ _ _ _ us hl => match us, hl with | [_], _ => rfl
  have D__law_bent := def_mk (st := s__law_bent) (ps := p__law_bent) X G a32 l32 c32 k32 fun _ _ _ _ _ _ us hl => match us, hl with | [_, _], _ => rfl
  have D__law_right := def_mk (st := s__law_right) (ps := p__law_right) X G a33 l33 c33 k33 fun _ _ _ _ _ _ us hl => match us, hl with | [_], _ => rfl
  have D_law := def_mk (st := s_law) (ps := p_law) X G a34 l34 c34 k34 fun _ _ _ _ _ _ us hl => match us, hl with | [_], _ => rfl
  have zyValueError := PySem.W.mg_none_of X G yValueError
  have WBadRule : ErrW K "BadRule" CBadRule fIBadRule := ⟨eaBadRule, ⟨_, _, _, _, _, _, _, _, _, _, _, _, _, _, _, xLBadRule, by decide +kernel⟩, saBadRule, gaBadRule, ggBadRule, exBadRule, tyBadRule, hdBadRule, kpBadRule, inBadRule, tiBadRule⟩
  have FBadRule := fun_mk (st := si_BadRule) lIBadRule cIBadRule kIBadRule
  have E_BadRule := WBadRule.errC (P := P) (w := w) (base := base) (f := some "part") X G (fun g hg => by cases hg; exact nbBadRule) (init_BadRule FBadRule zyValueError wValueError) (FBadRule.binds (ps := ["self", "part"]) fun _ _ _ _ _ _ us hl => match us, hl with | [_, _], _ => rfl)
  have WBadText : ErrW K "BadText" CBadText fIBadText := ⟨eaBadText, ⟨_, _, _, _, _, _, _, _, _, _, _, _, _, _, _, xLBadText, by decide +kernel⟩, saBadText, gaBadText, ggBadText, exBadText, tyBadText, hdBadText, kpBadText, inBadText, tiBadText⟩
  have FBadText := fun_mk (st := si_BadText) lIBadText cIBadText kIBadText
  have E_BadText := WBadText.errC (P := P) (w := w) (base := base) (f := some "line") X G (fun g hg => by cases hg; exact nbBadText) (init_BadText FBadText zyValueError wValueError) (FBadText.binds (ps := ["self", "line"]) fun _ _ _ _ _ _ us hl => match us, hl with | [_, _], _ => rfl)
  have WOutOfPlace : ErrW K "OutOfPlace" COutOfPlace fIOutOfPlace := ⟨eaOutOfPlace, ⟨_, _, _, _, _, _, _, _, _, _, _, _, _, _, _, xLOutOfPlace, by decide +kernel⟩, saOutOfPlace, gaOutOfPlace, ggOutOfPlace, exOutOfPlace, tyOutOfPlace, hdOutOfPlace, kpOutOfPlace, inOutOfPlace, tiOutOfPlace⟩
  have FOutOfPlace := fun_mk (st := si_OutOfPlace) lIOutOfPlace cIOutOfPlace kIOutOfPlace
  have E_OutOfPlace := WOutOfPlace.errC (P := P) (w := w) (base := base) (f := none) X G (fun g hg => by cases hg) (init_OutOfPlace FOutOfPlace zyValueError wValueError) (FOutOfPlace.binds (ps := ["self", "text"]) fun _ _ _ _ _ _ us hl => match us, hl with | [_, _], _ => rfl)
  have WBadKind : ErrW K "BadKind" CBadKind fIBadKind := ⟨eaBadKind, ⟨_, _, _, _, _, _, _, _, _, _, _, _, _, _, _, xLBadKind, by decide +kernel⟩, saBadKind, gaBadKind, ggBadKind, exBadKind, tyBadKind, hdBadKind, kpBadKind, inBadKind, tiBadKind⟩
  have FBadKind := fun_mk (st := si_BadKind) lIBadKind cIBadKind kIBadKind
  have E_BadKind := WBadKind.errC (P := P) (w := w) (base := base) (f := some "part") X G (fun g hg => by cases hg; exact nbBadKind) (init_BadKind FBadKind zyValueError wValueError) (FBadKind.binds (ps := ["self", "part"]) fun _ _ _ _ _ _ us hl => match us, hl with | [_, _], _ => rfl)
  have eT : ErrT K mg errNames := by
    intro n1 h1 n2 h2 C1 C2 m1 m2
    simp only [errNames, List.mem_cons, List.not_mem_nil, or_false] at h1 h2
    rcases h1 with rfl | rfl | rfl | rfl
    · rw [PySem.W.mg_of X G eaBadRule] at m1
      cases m1
      rcases h2 with rfl | rfl | rfl | rfl
      · rw [PySem.W.mg_of X G eaBadRule] at m2
        cases m2
        exact (WBadRule.exm s_BadRule_BadRule).trans (congrArg some (by decide))
      · rw [PySem.W.mg_of X G eaBadText] at m2
        cases m2
        exact (WBadText.exm s_BadRule_BadText).trans (congrArg some (by decide))
      · rw [PySem.W.mg_of X G eaOutOfPlace] at m2
        cases m2
        exact (WOutOfPlace.exm s_BadRule_OutOfPlace).trans (congrArg some (by decide))
      · rw [PySem.W.mg_of X G eaBadKind] at m2
        cases m2
        exact (WBadKind.exm s_BadRule_BadKind).trans (congrArg some (by decide))
    · rw [PySem.W.mg_of X G eaBadText] at m1
      cases m1
      rcases h2 with rfl | rfl | rfl | rfl
      · rw [PySem.W.mg_of X G eaBadRule] at m2
        cases m2
        exact (WBadRule.exm s_BadText_BadRule).trans (congrArg some (by decide))
      · rw [PySem.W.mg_of X G eaBadText] at m2
        cases m2
        exact (WBadText.exm s_BadText_BadText).trans (congrArg some (by decide))
      · rw [PySem.W.mg_of X G eaOutOfPlace] at m2
        cases m2
        exact (WOutOfPlace.exm s_BadText_OutOfPlace).trans (congrArg some (by decide))
      · rw [PySem.W.mg_of X G eaBadKind] at m2
        cases m2
        exact (WBadKind.exm s_BadText_BadKind).trans (congrArg some (by decide))
    · rw [PySem.W.mg_of X G eaOutOfPlace] at m1
      cases m1
      rcases h2 with rfl | rfl | rfl | rfl
      · rw [PySem.W.mg_of X G eaBadRule] at m2
        cases m2
        exact (WBadRule.exm s_OutOfPlace_BadRule).trans (congrArg some (by decide))
      · rw [PySem.W.mg_of X G eaBadText] at m2
        cases m2
        exact (WBadText.exm s_OutOfPlace_BadText).trans (congrArg some (by decide))
      · rw [PySem.W.mg_of X G eaOutOfPlace] at m2
        cases m2
        exact (WOutOfPlace.exm s_OutOfPlace_OutOfPlace).trans (congrArg some (by decide))
      · rw [PySem.W.mg_of X G eaBadKind] at m2
        cases m2
        exact (WBadKind.exm s_OutOfPlace_BadKind).trans (congrArg some (by decide))
    · rw [PySem.W.mg_of X G eaBadKind] at m1
      cases m1
      rcases h2 with rfl | rfl | rfl | rfl
      · rw [PySem.W.mg_of X G eaBadRule] at m2
        cases m2
        exact (WBadRule.exm s_BadKind_BadRule).trans (congrArg some (by decide))
      · rw [PySem.W.mg_of X G eaBadText] at m2
        cases m2
        exact (WBadText.exm s_BadKind_BadText).trans (congrArg some (by decide))
      · rw [PySem.W.mg_of X G eaOutOfPlace] at m2
        cases m2
        exact (WOutOfPlace.exm s_BadKind_OutOfPlace).trans (congrArg some (by decide))
      · rw [PySem.W.mg_of X G eaBadKind] at m2
        cases m2
        exact (WBadKind.exm s_BadKind_BadKind).trans (congrArg some (by decide))
  have c__law_begun := cal_law_start (P := P) (w := w) (base := base) z D__law_start
  have hvD__law_heard := D__law_heard
  have hvN__law_heard := hvN_heard (GP := GD.tb T) (K := K)
  have hvC__law_heard := hvC_heard (GP := GD.tb T) (K := K) (mg := mg)
  obtain ⟨cBadRule, eBadRule⟩ := E_BadRule
  obtain rfl : CBadRule = cBadRule := by
    have q := eBadRule.m
    rw [PySem.W.mg_of X G eaBadRule] at q
    cases q
    rfl
  have E_BadRule : ∃ C, ErrC P w K mg base "BadRule" C (some "part") := ⟨CBadRule, eBadRule⟩
  obtain ⟨cBadKind, eBadKind⟩ := E_BadKind
  obtain rfl : CBadKind = cBadKind := by
    have q := eBadKind.m
    rw [PySem.W.mg_of X G eaBadKind] at q
    cases q
    rfl
  have E_BadKind : ∃ C, ErrC P w K mg base "BadKind" C (some "part") := ⟨CBadKind, eBadKind⟩
  obtain ⟨cBadText, eBadText⟩ := E_BadText
  obtain rfl : CBadText = cBadText := by
    have q := eBadText.m
    rw [PySem.W.mg_of X G eaBadText] at q
    cases q
    rfl
  have E_BadText : ∃ C, ErrC P w K mg base "BadText" C (some "line") := ⟨CBadText, eBadText⟩
  obtain ⟨cOutOfPlace, eOutOfPlace⟩ := E_OutOfPlace
  obtain rfl : COutOfPlace = cOutOfPlace := by
    have q := eOutOfPlace.m
    rw [PySem.W.mg_of X G eaOutOfPlace] at q
    cases q
    rfl
  have E_OutOfPlace : ∃ C, ErrC P w K mg base "OutOfPlace" C none := ⟨COutOfPlace, eOutOfPlace⟩
  have xBadRule : ExcC K CBadRule := ⟨gaBadRule, ggBadRule, exBadRule, hdBadRule, ha2BadRule, hn2, ht2, hm2BadRule⟩
  have q_BadRule_BadKind := WBadKind.exm s_BadRule_BadKind
  have q_BadRule_BadRule := WBadRule.exm s_BadRule_BadRule
  have q_BadRule_BadText := WBadText.exm s_BadRule_BadText
  have q_BadRule_OutOfPlace := WOutOfPlace.exm s_BadRule_OutOfPlace
  have anyBadRule : PySem.W.exmAny K (.ref CBadRule) [.ref CBadKind, .ref CBadRule, .ref CBadText, .ref COutOfPlace] = some true := by simp only [PySem.W.exmAny, q_BadRule_BadKind, q_BadRule_BadRule, q_BadRule_BadText, q_BadRule_OutOfPlace]; rfl
  have xBadKind : ExcC K CBadKind := ⟨gaBadKind, ggBadKind, exBadKind, hdBadKind, ha2BadKind, hn2, ht2, hm2BadKind⟩
  have q_BadKind_BadKind := WBadKind.exm s_BadKind_BadKind
  have q_BadKind_BadRule := WBadRule.exm s_BadKind_BadRule
  have q_BadKind_BadText := WBadText.exm s_BadKind_BadText
  have q_BadKind_OutOfPlace := WOutOfPlace.exm s_BadKind_OutOfPlace
  have anyBadKind : PySem.W.exmAny K (.ref CBadKind) [.ref CBadKind, .ref CBadRule, .ref CBadText, .ref COutOfPlace] = some true := by simp only [PySem.W.exmAny, q_BadKind_BadKind, q_BadKind_BadRule, q_BadKind_BadText, q_BadKind_OutOfPlace]; rfl
  have xBadText : ExcC K CBadText := ⟨gaBadText, ggBadText, exBadText, hdBadText, ha2BadText, hn2, ht2, hm2BadText⟩
  have q_BadText_BadKind := WBadKind.exm s_BadText_BadKind
  have q_BadText_BadRule := WBadRule.exm s_BadText_BadRule
  have q_BadText_BadText := WBadText.exm s_BadText_BadText
  have q_BadText_OutOfPlace := WOutOfPlace.exm s_BadText_OutOfPlace
  have anyBadText : PySem.W.exmAny K (.ref CBadText) [.ref CBadKind, .ref CBadRule, .ref CBadText, .ref COutOfPlace] = some true := by simp only [PySem.W.exmAny, q_BadText_BadKind, q_BadText_BadRule, q_BadText_BadText, q_BadText_OutOfPlace]; rfl
  have kit_BadRule_BadRule := kit_own tyBadRule hdBadRule s_BadRule_BadRule s_BadRule_BadRule
  have kit_BadRule_BadKind := kit_own tyBadKind hdBadKind s_BadRule_BadKind s_BadKind_BadKind
  have kit_BadRule_BadText := kit_own tyBadText hdBadText s_BadRule_BadText s_BadText_BadText
  have kit_BadKind_BadRule := kit_own tyBadRule hdBadRule s_BadKind_BadRule s_BadRule_BadRule
  have kit_BadKind_BadKind := kit_own tyBadKind hdBadKind s_BadKind_BadKind s_BadKind_BadKind
  have kit_BadKind_BadText := kit_own tyBadText hdBadText s_BadKind_BadText s_BadText_BadText
  have kit_BadText_BadRule := kit_own tyBadRule hdBadRule s_BadText_BadRule s_BadRule_BadRule
  have kit_BadText_BadKind := kit_own tyBadKind hdBadKind s_BadText_BadKind s_BadKind_BadKind
  have kit_BadText_BadText := kit_own tyBadText hdBadText s_BadText_BadText s_BadText_BadText
  have hears1 : Hears P w K mg base CBadRule CBadKind CBadText COutOfPlace := ⟨eBadRule, eBadKind, eBadText, eOutOfPlace, xBadRule, xBadKind, xBadText, kit_BadRule_BadRule, kit_BadKind_BadRule, kit_BadKind_BadKind, kit_BadText_BadRule, kit_BadText_BadKind, kit_BadText_BadText, anyBadRule, anyBadKind, anyBadText⟩
  have hvG__law_heard := fun (Y : Cx) (_ : Y.prog = P) (_ : Y.w = w) (eK : Y.K = K) (em : Y.mg = mg) (_ : Y.base = base) (_ : Y.A.guards = some []) (g : Addr) (cdv : Value) (q : Str) => hvG_heard (P := P) (w := w) (base := base) hears1 z.«isinstance» Y eK em g cdv q
  have c_is_integer := lift_is_integer (P := P) (w := w) (base := base) (GP := GD.tb T) z D_is_integer
  have c_is_number := lift_is_number (P := P) (w := w) (base := base) (GP := GD.tb T) z c_is_integer D_is_number
  have c_need_scaled := lift_need_scaled (P := P) (w := w) (base := base) (GP := GD.tb T) z v_MOST_ADDS v_LEAST_SCALE v_GREATEST_SCALE v_GREATEST_ADD E_BadRule c_is_number D_need_scaled
  have c_need_kind := lift_need_kind (P := P) (w := w) (base := base) (GP := GD.tb T) z v_WORDS v_LEAST_PARTS v_MOST_PARTS E_BadKind c_is_number D_need_kind
  have c_need_rule := lift_need_rule (P := P) (w := w) (base := base) (GP := GD.tb T) z v_MOST_STEPS v_GREATEST_STEP E_BadRule c_is_number D_need_rule
  have c__is_decimal := lift__is_decimal (P := P) (w := w) (base := base) (GP := GD.tb T) z v_MOST_FIGURES D__is_decimal
  have c_numbers_of := lift_numbers_of (P := P) (w := w) (base := base) (GP := GD.tb T) z c__is_decimal D_numbers_of
  have c__row_of := lift__row_of (P := P) (w := w) (base := base) (GP := GD.tb T) z D__row_of
  have c_rule_text := lift_rule_text (P := P) (w := w) (base := base) (GP := GD.tb T) z c_need_rule c__row_of D_rule_text
  have c_scaled_text := lift_scaled_text (P := P) (w := w) (base := base) (GP := GD.tb T) z c_need_scaled c__row_of D_scaled_text
  have c_kind_text := lift_kind_text (P := P) (w := w) (base := base) (GP := GD.tb T) z c_need_kind c__row_of D_kind_text
  have c__rule_of := lift__rule_of (P := P) (w := w) (base := base) (GP := GD.tb T) z eT E_BadRule c_need_rule c_numbers_of D__rule_of
  have c__scaled_of := lift__scaled_of (P := P) (w := w) (base := base) (GP := GD.tb T) z eT E_BadRule c_numbers_of c_need_scaled D__scaled_of
  have c__kind_of := lift__kind_of (P := P) (w := w) (base := base) (GP := GD.tb T) z eT E_BadKind c_numbers_of c_need_kind D__kind_of
  have c_read_rule := lift_read_rule (P := P) (w := w) (base := base) (GP := GD.tb T) z c__rule_of (fun f fd G k b => lift__read_rule (P := P) (w := w) (base := base) (GP := GD.tb T) z E_BadText G k b D__read) D_read_rule
  have c_read_scaled := lift_read_scaled (P := P) (w := w) (base := base) (GP := GD.tb T) z c__scaled_of (fun f fd G k b => lift__read_scaled (P := P) (w := w) (base := base) (GP := GD.tb T) z E_BadText G k b D__read) D_read_scaled
  have c_read_kind := lift_read_kind (P := P) (w := w) (base := base) (GP := GD.tb T) z c__kind_of (fun f fd G k b => lift__read_kind (P := P) (w := w) (base := base) (GP := GD.tb T) z E_BadText G k b D__read) D_read_kind
  have c__law_next := CalG.tb rfl T (lift__law_next (P := P) (w := w) (base := base) z D__law_next)
  have c__law_of := lift__law_of (P := P) (w := w) (base := base) (T := T) z c__law_next D__law_of
  have c__law_unlike := lift__law_unlike (P := P) (w := w) (base := base) (T := T) z c__law_next D__law_unlike
  have c__law_steps := lift__law_steps (P := P) (w := w) (base := base) (T := T) z c__law_unlike c__law_next D__law_steps
  have c__law_adds := lift__law_adds (P := P) (w := w) (base := base) (T := T) z c__law_next c__law_unlike D__law_adds
  have c__law_shape := lift__law_shape (P := P) (w := w) (base := base) (T := T) z c__law_of c__law_next D__law_shape
  have c__law_is_whole := lift__law_is_whole (P := P) (w := w) (base := base) (T := T) z D__law_is_whole
  have c__law_part := lift__law_part (P := P) (w := w) (base := base) (T := T) z c__law_is_whole D__law_part
  have c__law_steps_due := lift__law_steps_due (P := P) (w := w) (base := base) (T := T) z c__law_part D__law_steps_due
  have c__law_adds_due := lift__law_adds_due (P := P) (w := w) (base := base) (T := T) z c__law_is_whole c__law_part D__law_adds_due
  have c__law_shape_due := lift__law_shape_due (P := P) (w := w) (base := base) (T := T) z c__law_is_whole D__law_shape_due
  have c__law_odd := lift__law_odd (P := P) (w := w) (base := base) (T := T) z c__law_of D__law_odd
  have c__law_bent := lift__law_bent (P := P) (w := w) (base := base) (T := T) z c__law_next c__law_odd D__law_bent
  have c__law_right := lift__law_right (P := P) (w := w) (base := base) (T := T) z c__law_steps_due c__law_adds_due c__law_shape_due c_rule_text c_scaled_text c_kind_text hvD__law_heard hvG__law_heard hvN__law_heard hvC__law_heard L__law_right D__law_right
  exact lift_law (P := P) (w := w) (base := base) (T := T) z c__law_steps c__law_adds c__law_shape c__law_right c__law_odd c__law_bent c_read_rule c_read_scaled c_read_kind hvD__law_heard hvG__law_heard hvN__law_heard hvC__law_heard L_law c__law_begun D_law
end LK
open PySem PySem.W PyProof.Rows
set_option maxHeartbeats 0 in
theorem PySem.Challenge.cw_callsdown_k90_texts_refused_holds : PySem.Challenge.rw_callsdown_k90_texts_refused.Holds := by
  w_on
  o_law
  k_head
  (case hw => w_witness2)
  k_fill
  refine DL.walk_cT (l := PySem.Challenge.rw_callsdown_k90_texts_refused) (n := 63) (k := 14) (x := "script") rfl (by decide) rfl ⟨rfl, by decide, by decide⟩ (fun w h Y => PySem.W.km_in_of Y) ?F
  case F =>
    intro w mg fa h KX G hmg
    refine' LK.all_mk KX G ?a0 ?l0 ?c0 ?k0 ?a1 ?l1 ?c1 ?k1 ?a2 ?l2 ?c2 ?k2 ?a3 ?l3 ?c3 ?k3 ?a4 ?l4 ?c4 ?k4 ?a5 ?l5 ?c5 ?k5 ?a6 ?l6 ?c6 ?k6 ?a7 ?l7 ?c7 ?k7 ?a8 ?l8 ?c8 ?k8 ?a9 ?l9 ?c9 ?k9 ?a10 ?l10 ?c10 ?k10 ?a11 ?l11 ?c11 ?k11 ?a12 ?l12 ?c12 ?k12 ?a13 ?l13 ?c13 ?k13 ?a14 ?l14 ?c14 ?k14 ?a15 ?l15 ?c15 ?k15 ?a16 ?l16 ?c16 ?k16 ?a17 ?l17 ?c17 ?k17 ?a18 ?l18 ?c18 ?k18 ?a19 ?l19 ?c19 ?k19 ?a20 ?l20 ?c20 ?k20 ?a21 ?l21 ?c21 ?k21 ?a22 ?l22 ?c22 ?k22 ?a23 ?l23 ?c23 ?k23 ?a24 ?l24 ?c24 ?k24 ?a25 ?l25 ?c25 ?k25 ?a26 ?l26 ?c26 ?k26 ?a27 ?l27 ?c27 ?k27 ?a28 ?l28 ?c28 ?k28 ?a29 ?l29 ?c29 ?k29 ?a30 ?l30 ?c30 ?k30 ?a31 ?l31 ?c31 ?k31 ?a32 ?l32 ?c32 ?k32 ?a33 ?l33 ?c33 ?lc33 ?ch33 ?of33 ?rc33 ?k33 ?a34 ?l34 ?c34 ?lc34 ?ch34 ?of34 ?rc34 ?k34 ?z0 ?z1 ?z2 ?z3 ?z4 ?z5 ?z6 ?z7 ?z8 ?z9 ?z10 ?z11 ?z12 ?z13 ?z14 ?z15 ?z16 ?z17 ?z18 ?z19 ?m0 ?e0 ?m1 ?e1 ?m2 ?e2 ?m3 ?e3 ?m4 ?e4 ?m5 ?e5 ?m6 ?e6 ?m7 ?e7 ?m8 ?e8 ?um0 ?ul0 ?uh0 ?yValueError ?wValueError ?eaBadRule ?xLBadRule ?saBadRule ?gaBadRule ?ggBadRule ?nbBadRule ?exBadRule ?tyBadRule ?hdBadRule ?kpBadRule ?inBadRule ?tiBadRule ?lIBadRule ?cIBadRule ?kIBadRule ?eaBadText ?xLBadText ?saBadText ?gaBadText ?ggBadText ?nbBadText ?exBadText ?tyBadText ?hdBadText ?kpBadText ?inBadText ?tiBadText ?lIBadText ?cIBadText ?kIBadText ?eaOutOfPlace ?xLOutOfPlace ?saOutOfPlace ?gaOutOfPlace ?ggOutOfPlace ?exOutOfPlace ?tyOutOfPlace ?hdOutOfPlace ?kpOutOfPlace ?inOutOfPlace ?tiOutOfPlace ?lIOutOfPlace ?cIOutOfPlace ?kIOutOfPlace ?eaBadKind ?xLBadKind ?saBadKind ?gaBadKind ?ggBadKind ?nbBadKind ?exBadKind ?tyBadKind ?hdBadKind ?kpBadKind ?inBadKind ?tiBadKind ?lIBadKind ?cIBadKind ?kIBadKind ?s_BadRule_BadRule ?s_BadRule_BadText ?s_BadRule_OutOfPlace ?s_BadRule_BadKind ?s_BadText_BadRule ?s_BadText_BadText ?s_BadText_OutOfPlace ?s_BadText_BadKind ?s_OutOfPlace_BadRule ?s_OutOfPlace_BadText ?s_OutOfPlace_OutOfPlace ?s_OutOfPlace_BadKind ?s_BadKind_BadRule ?s_BadKind_BadText ?s_BadKind_OutOfPlace ?s_BadKind_BadKind ?hn2 ?ht2 ?ha2BadRule ?hm2BadRule ?ha2BadKind ?hm2BadKind ?ha2BadText ?hm2BadText ?ne__law_right_law
    (case a0 => k_is)
    (case l0 => k_is)
    (case c0 => k_is)
    (case k0 => k_is)
    (case a1 => k_is)
    (case l1 => k_is)
    (case c1 => k_is)
    (case k1 => k_is)
    (case a2 => k_is)
    (case l2 => k_is)
    (case c2 => k_is)
    (case k2 => k_is)
    (case a3 => k_is)
    (case l3 => k_is)
    (case c3 => k_is)
    (case k3 => k_is)
    (case a4 => k_is)
    (case l4 => k_is)
    (case c4 => k_is)
    (case k4 => k_is)
    (case a5 => k_is)
    (case l5 => k_is)
    (case c5 => k_is)
    (case k5 => k_is)
    (case a6 => k_is)
    (case l6 => k_is)
    (case c6 => k_is)
    (case k6 => k_is)
    (case a7 => k_is)
    (case l7 => k_is)
    (case c7 => k_is)
    (case k7 => k_is)
    (case a8 => k_is)
    (case l8 => k_is)
    (case c8 => k_is)
    (case k8 => k_is)
    (case a9 => k_is)
    (case l9 => k_is)
    (case c9 => k_is)
    (case k9 => k_is)
    (case a10 => k_is)
    (case l10 => k_is)
    (case c10 => k_is)
    (case k10 => k_is)
    (case a11 => k_is)
    (case l11 => k_is)
    (case c11 => k_is)
    (case k11 => k_is)
    (case a12 => k_is)
    (case l12 => k_is)
    (case c12 => k_is)
    (case k12 => k_is)
    (case a13 => k_is)
    (case l13 => k_is)
    (case c13 => k_is)
    (case k13 => k_is)
    (case a14 => k_is)
    (case l14 => k_is)
    (case c14 => k_is)
    (case k14 => k_is)
    (case a15 => k_is)
    (case l15 => k_is)
    (case c15 => k_is)
    (case k15 => k_is)
    (case a16 => k_is)
    (case l16 => k_is)
    (case c16 => k_is)
    (case k16 => k_is)
    (case a17 => k_is)
    (case l17 => k_is)
    (case c17 => k_is)
    (case k17 => k_is)
    (case a18 => k_is)
    (case l18 => k_is)
    (case c18 => k_is)
    (case k18 => k_is)
    (case a19 => k_is)
    (case l19 => k_is)
    (case c19 => k_is)
    (case k19 => k_is)
    (case a20 => k_is)
    (case l20 => k_is)
    (case c20 => k_is)
    (case k20 => k_is)
    (case a21 => k_is)
    (case l21 => k_is)
    (case c21 => k_is)
    (case k21 => k_is)
    (case a22 => k_is)
    (case l22 => k_is)
    (case c22 => k_is)
    (case k22 => k_is)
    (case a23 => k_is)
    (case l23 => k_is)
    (case c23 => k_is)
    (case k23 => k_is)
    (case a24 => k_is)
    (case l24 => k_is)
    (case c24 => k_is)
    (case k24 => k_is)
    (case a25 => k_is)
    (case l25 => k_is)
    (case c25 => k_is)
    (case k25 => k_is)
    (case a26 => k_is)
    (case l26 => k_is)
    (case c26 => k_is)
    (case k26 => k_is)
    (case a27 => k_is)
    (case l27 => k_is)
    (case c27 => k_is)
    (case k27 => k_is)
    (case a28 => k_is)
    (case l28 => k_is)
    (case c28 => k_is)
    (case k28 => k_is)
    (case a29 => k_is)
    (case l29 => k_is)
    (case c29 => k_is)
    (case k29 => k_is)
    (case a30 => k_is)
    (case l30 => k_is)
    (case c30 => k_is)
    (case k30 => k_is)
    (case a31 => k_is)
    (case l31 => k_is)
    (case c31 => k_is)
    (case k31 => k_is)
    (case a32 => k_is)
    (case l32 => k_is)
    (case c32 => k_is)
    (case k32 => k_is)
    (case a33 => k_is)
    (case l33 => k_is)
    (case c33 => k_is)
    (case lc33 => k_is)
    (case ch33 => exact ⟨rfl, _, _, _, _, _, _, _, _, rfl, rfl, rfl, rfl, rfl, rfl, rfl, by decide⟩)
    (case of33 => first | k_is | rfl | decide)
    (case rc33 => first | rfl | decide +kernel)
    (case k33 => k_is)
    (case a34 => k_is)
    (case l34 => k_is)
    (case c34 => k_is)
    (case lc34 => k_is)
    (case ch34 => exact ⟨rfl, _, _, _, _, _, _, _, _, rfl, rfl, rfl, rfl, rfl, rfl, rfl, by decide⟩)
    (case of34 => first | k_is | rfl | decide)
    (case rc34 => first | rfl | decide +kernel)
    (case k34 => k_is)
    (case z0 => k_is)
    (case z1 => k_is)
    (case z2 => k_is)
    (case z3 => k_is)
    (case z4 => k_is)
    (case z5 => k_is)
    (case z6 => k_is)
    (case z7 => k_is)
    (case z8 => k_is)
    (case z9 => k_is)
    (case z10 => k_is)
    (case z11 => k_is)
    (case z12 => k_is)
    (case z13 => k_is)
    (case z14 => k_is)
    (case z15 => k_is)
    (case z16 => k_is)
    (case z17 => k_is)
    (case z18 => k_is)
    (case z19 => k_is)
    (case m0 => k_is)
    (case e0 => decide)
    (case m1 => k_is)
    (case e1 => decide)
    (case m2 => k_is)
    (case e2 => decide)
    (case m3 => k_is)
    (case e3 => decide)
    (case m4 => k_is)
    (case e4 => decide)
    (case m5 => k_is)
    (case e5 => decide)
    (case m6 => k_is)
    (case e6 => decide)
    (case m7 => k_is)
    (case e7 => decide)
    (case m8 => k_is)
    (case e8 => decide)
    (case um0 => k_is)
    (case ul0 => k_is)
    (case uh0 => exact ⟨rfl, _, _, rfl, by decide, (.cons ⟨_, rfl⟩ (.cons ⟨_, rfl⟩ (.cons ⟨_, rfl⟩ (.cons ⟨_, rfl⟩ .nil))))⟩)
    (case yValueError => k_is)
    (case wValueError => k_is)
    (case eaBadRule => k_is)
    (case xLBadRule => k_is)
    (case saBadRule => k_is)
    (case gaBadRule => k_is)
    (case ggBadRule => k_is)
    (case nbBadRule => k_is)
    (case exBadRule => k_is)
    (case tyBadRule => k_is)
    (case hdBadRule => k_is)
    (case kpBadRule => k_is)
    (case inBadRule => k_is)
    (case tiBadRule => k_is)
    (case lIBadRule => k_is)
    (case cIBadRule => k_is)
    (case kIBadRule => k_is)
    (case eaBadText => k_is)
    (case xLBadText => k_is)
    (case saBadText => k_is)
    (case gaBadText => k_is)
    (case ggBadText => k_is)
    (case nbBadText => k_is)
    (case exBadText => k_is)
    (case tyBadText => k_is)
    (case hdBadText => k_is)
    (case kpBadText => k_is)
    (case inBadText => k_is)
    (case tiBadText => k_is)
    (case lIBadText => k_is)
    (case cIBadText => k_is)
    (case kIBadText => k_is)
    (case eaOutOfPlace => k_is)
    (case xLOutOfPlace => k_is)
    (case saOutOfPlace => k_is)
    (case gaOutOfPlace => k_is)
    (case ggOutOfPlace => k_is)
    (case exOutOfPlace => k_is)
    (case tyOutOfPlace => k_is)
    (case hdOutOfPlace => k_is)
    (case kpOutOfPlace => k_is)
    (case inOutOfPlace => k_is)
    (case tiOutOfPlace => k_is)
    (case lIOutOfPlace => k_is)
    (case cIOutOfPlace => k_is)
    (case kIOutOfPlace => k_is)
    (case eaBadKind => k_is)
    (case xLBadKind => k_is)
    (case saBadKind => k_is)
    (case gaBadKind => k_is)
    (case ggBadKind => k_is)
    (case nbBadKind => k_is)
    (case exBadKind => k_is)
    (case tyBadKind => k_is)
    (case hdBadKind => k_is)
    (case kpBadKind => k_is)
    (case inBadKind => k_is)
    (case tiBadKind => k_is)
    (case lIBadKind => k_is)
    (case cIBadKind => k_is)
    (case kIBadKind => k_is)
    (case s_BadRule_BadRule => k_is)
    (case s_BadRule_BadText => k_is)
    (case s_BadRule_OutOfPlace => k_is)
    (case s_BadRule_BadKind => k_is)
    (case s_BadText_BadRule => k_is)
    (case s_BadText_BadText => k_is)
    (case s_BadText_OutOfPlace => k_is)
    (case s_BadText_BadKind => k_is)
    (case s_OutOfPlace_BadRule => k_is)
    (case s_OutOfPlace_BadText => k_is)
    (case s_OutOfPlace_OutOfPlace => k_is)
    (case s_OutOfPlace_BadKind => k_is)
    (case s_BadKind_BadRule => k_is)
    (case s_BadKind_BadText => k_is)
    (case s_BadKind_OutOfPlace => k_is)
    (case s_BadKind_BadKind => k_is)
    (case hn2 => k_is)
    (case ht2 => k_is)
    (case ha2BadRule => k_is)
    (case hm2BadRule => k_is)
    (case ha2BadKind => k_is)
    (case hm2BadKind => k_is)
    (case ha2BadText => k_is)
    (case hm2BadText => k_is)
    (case ne__law_right_law => decide)
