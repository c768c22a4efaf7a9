import PyProof.Rows.All
import Wide.All
import OpenK.AllK
import Wide.FinOn
import HandS.ForMost
import HandS.Strs
import HandS.SetFor
import HandS.SortKw
import KE.DataMinMax
import HandS.OwnEq
import PyProof.InstNe
import HandS.IsInst
import HandS.Walk
import HandS.Exc
import PySem.Challenge.RW_cutwalks_k07_whole_rows_there_and_back
import HandS.Property
import HandS.WideBits
import HandS.Flt
import PyProof.MaxThree
import PyProof.SeqI3
import HandS.Style
import HandS.Words
import PyProof.ReprRoads
import HandS.TupSets
import HandS.SortInts
import OpenK.KMeth
import OpenK.KOps
import HandS.Conv
set_option Elab.async false
set_option maxRecDepth 100000
set_option maxHeartbeats 8000000
namespace Cw
open PySem PySem.Spec PyProof.Rows L2
/-! ## set(xs) of a list of nts -/
section
variable {P : Program} {w : World} {A : Around} {E : Value → Shared → Prop} {s : Shared}
abbrev newS (w : World) : Obj := { cls := .type "set", dict := none, data := .set #[] 0 (.fresh 0 0 (!w.params.followText "set-order")) }
theorem set_list {l : Addr} {its : Array Value} (ns : List Int) {Q : Value → Shared → Prop} (hand : A.handled = none) (isl : s.heap.IsList l its) (nts : IntsAre its.toList ns) (room : ns.length + 1 < scanBound)
    (q : ∀ (g' : Heap) (tk c : Nat), SetR w g' s.heap.objs.size (fun j => decide (j ∈ ns)) c → c ≤ ns.length → (∀ b o, s.heap.get? b = some o → g'.get? b = some o) → Q (.ref s.heap.objs.size) { s with heap := g', toks := tk }) :
    wpAny (model P w) A (call (.type "set") [.ref l]) Q E s := by
  have len : its.size = ns.length := by rw [← IntsAre.length nts, Array.length_toList]
  obtain ⟨c, tl, hmro⟩ := F.called_set.mro; have hmade := F.called_set.made; have hsub := F.called_set.sub
  refine wpAny_call (codeAny_of_tree ?_); show wpAny _ _ (callAny (.type "set") _) _ _ _
  refine wpAny_pure ⟨Code.quiet_builtin _ (by decide +kernel), codeAny_builtin F.entry_type_call ?_⟩; rw [Around.under_plain (weight_type_call_type "set" [.ref l] []) rfl]
  have h1 := F.called_set.notType; have h2 := F.called_set.canCreate; have hct := F.typeCall_set_1 (.ref l)
  repeat (any_goals (first | assumption | wp_step))
  refine codeAny_mono (code_set_led1 (.ref l) (E := E) (Q₁ := fun ob t₁ => ob = .ref s.heap.objs.size ∧ t₁ = { s with heap := s.heap.push (newS w) }) ⟨rfl, rfl⟩) fun r t₁ hr => ?_
  cases r with
  | error e => exact hr
  | ok fl =>
    cases fl with
    | ret ob =>
      obtain ⟨rfl, rfl⟩ := hr
      have at0 : (s.heap.push (newS w)).get? s.heap.objs.size = some (newS w) := Heap.get?_push_size _ rfl
      have ty0 : Shared.TypeIs { s with heap := s.heap.push (newS w) } (.ref s.heap.objs.size) "set" := ⟨_, at0, rfl⟩
      have hli := F.called_set.init.lookup; have hbi := F.called_set.init.bind (.ref s.heap.objs.size)
      repeat (any_goals (first | assumption | wp_step))
      refine codeAny_mono (codeAny_call_builtin (R := wants (fun r t₂ => r = .none ∧ ∃ g' tk c, t₂ = { s with heap := g', toks := tk } ∧ SetR w g' s.heap.objs.size (fun j => decide (j ∈ ns)) c ∧ c ≤ ns.length ∧ (∀ b o, s.heap.get? b = some o → g'.get? b = some o)) E)
        F.called_set.init.plain F.entry_set_init (check_set_init_1 ty0 ?_)) fun r₂ t₂ hr₂ => ?_
      · obtain ⟨ol, lo, lc, nl, ld⟩ := isl
        obtain ⟨oc, odi, oda, osl⟩ := ol
        simp only at lc ld; subst lc; subst ld
        have lo' : (s.heap.push (newS w)).get? l = some { cls := .type "list", dict := odi, data := .seq its nl, slots := osl } := Heap.get?_push_of_some _ lo
        have u1 := F.sub_list_set; have u2 := F.sub_list_frozenset
        have u3 : (Value.type "list" == Value.type "dict") = false := by decide
        have il : (s.heap.push (newS w)).IsList l its := ⟨_, lo', rfl, nl, rfl⟩
        unfold Builtin.«set.__init__» noKeywords Builtin.Frozenset.updateFrom
        generalize hPI : pyIter = PI; wp_walk; subst hPI
        refine wpAny_pyIter_list il ?_; refine wpAny_bind (wpAny_runValue ?_)
        have lt : l < s.heap.objs.size := Heap.lt_size lo
        have hand3 : A.in1.in1.in1.handled = none := by simp [hand]
        have ne1 : l ≠ (s.heap.push (newS w)).objs.size := by rw [Heap.size_push]; exact Nat.ne_of_lt (Nat.lt_succ_of_lt lt)
        have nin : s.heap.objs.size ∉ [(s.heap.push (newS w)).objs.size, l] := by
          rw [Heap.size_push]
          simp only [List.mem_cons, List.mem_singleton, List.not_mem_nil, or_false, not_or]
          exact ⟨Nat.ne_of_lt (Nat.lt_succ_self _), Nat.ne_of_gt lt⟩
        have val : ∀ (i : Nat) (v : Value), its[i]? = some v → ∃ k t, ns[i]? = some k ∧ v = .int k t := fun i v hv => by
          have hi : i < ns.length := by rw [← len]; exact (Array.getElem?_eq_some_iff.mp hv).1
          obtain ⟨t, e⟩ := PyProof.Rows.IntsAre.int_at nts i v (by rw [Array.getElem?_toList]; exact hv)
          exact ⟨ns[i], t, List.getElem?_eq_getElem hi, by rw [e, List.getD_eq_getElem?_getD, List.getElem?_eq_getElem hi] <;> rfl⟩
        refine set_update_ints ((Walks.list hand3 _ l ne1 its).toS) s.heap.objs.size nin ns len room val (its.size - 0) 0 _ (by omega) (Nat.zero_le _) ⟨⟨_, Heap.get?_push_size _ rfl, rfl, rfl⟩, (il.push _)⟩ ?z0 ?zR
        case z0 => exact ⟨0, Nat.le_refl 0, setR_new_at (Heap.get?_push_of_some _ at0)⟩
        case zR =>
          intro t' c' hm hc' hS'
          obtain ⟨g', g2, d', tk', os'⟩ := t'
          have eg : g2 = s.gens := hm.gens; have ed : d' = s.drawn := hm.drawn; have eo : os' = s.os := hm.os
          subst eg; subst ed; subst eo
          show wpAny _ _ _ _ _ _
          refine wpAny_pure ?_; show wpAny _ _ (ret Value.none) _ _ _
          rw [len] at hc'
          refine wpAny_pure ⟨rfl, g', tk', c', rfl, hS', hc', fun b o e => ?_⟩
          have b0 : b < s.heap.objs.size := Heap.lt_size e
          have b2 : b ≠ (s.heap.push (newS w)).objs.size := by rw [Heap.size_push]; exact Nat.ne_of_lt (Nat.lt_succ_of_lt b0)
          exact hm.heap b o (by simp only [List.mem_cons, List.mem_singleton, List.not_mem_nil, or_false, not_or]; exact ⟨Nat.ne_of_lt b0, b2⟩) (Heap.get?_push_of_some _ (Heap.get?_push_of_some _ e))
      · cases r₂ with
        | error e => exact hr₂
        | ok fl₂ =>
          cases fl₂ with
          | ret r =>
            obtain ⟨rfl, g', tk, c', rfl, hS', hc', hk'⟩ := hr₂
            repeat (any_goals (first | assumption | wp_step))
            exact q _ _ _ hS' hc' hk'
          | _ => exact hr₂.elim
    | _ => exact hr.elim
end
section
variable {P : Program} {w : World} {A : Around} {E : Value → Shared → Prop} {s : Shared}
theorem entry_sub : entryFor table "set.__sub__" = some Builtin.«frozenset.__sub__» := entryFor_alias (id' := "frozenset.__sub__") (by kernel_rfl) rfl (by decide +kernel) (by kernel_rfl)
theorem sub_form (a b : Value) : Builtin.«frozenset.__sub__» ⟨[a, b], []⟩ = (do
    let p ← Builtin.Frozenset.slot1 "__sub__" ⟨[a, b], []⟩
    if !(← (Builtin.Frozenset.isAnySet p.1 <&&> Builtin.Frozenset.isAnySet p.2)) then
      rule "frozenset.__sub__.declined"
      ret .notImplemented
    else ret (← Builtin.Frozenset.difference "frozenset.__sub__" (← Builtin.Frozenset.addrOf p.1) p.2)) := by
  rfl
variable {a b : Addr} {S T : Int → Bool} {n m : Nat}
theorem isSet_at {s : Shared} {Q : Bool → Shared → Prop} {a : Addr} (ty : s.TypeIs (.ref a) "set") (q : Q true s) : wpAny (model P w) A (Builtin.Frozenset.isAnySet (.ref a)) Q E s := by
  unfold Builtin.Frozenset.isAnySet isInstance
  have z := sub_set_self
  wp_walk
  exact q
/-- what is walked: all of the set's members -/
def Mem (xs : Array (Int × Value)) (S : Int → Bool) : Prop := ∀ e ∈ xs.toList, GoodE e ∧ S (keyOf e) = true
section
variable {o : Obj} {es : Array (Int × Value)} {ep : Nat} {t : SetTable}
theorem walk_at (ho : s.heap.get? a = some o) (hd : o.data = .set es ep t) (hf : t.fits es.size = true) (hl : w.params.followText "set-order" = true ∨ t.led = true) (hp : w.params.followText "set-order" = true ∨ (!t.plain && decide (es.size > 1)) = false)
    {Q : Array (Int × Value) → Shared → Prop} (q : ∀ xs, (∀ e ∈ xs.toList, e ∈ es.toList) → Q xs s) : wpAny (model P w) A (setWalk a) Q E s := by
  unfold setWalk
  refine wpAny_bind (wpAny_setState_of ho hd hf ?_)
  dsimp only
  refine wpAny_bind (wpAny_byText ?_)
  by_cases c : w.params.followText "set-order" = true
  · refine wp_if_pos c ?_
    refine wpAny_bind (wpAny_askSetting (wpAny_pure (q _ fun e he => ?_)))
    exact (pick_perm _ es).mem_iff.mp he
  · refine wp_if_neg c ?_
    have p1 := hp.resolve_left c
    have p2 := hl.resolve_left c
    try refine wpAny_bind (wpAny_pure ?_)
    refine wp_if_neg (by show ¬ ((!t.plain && decide (es.size > 1)) = true); rw [p1]; exact Bool.false_ne_true) ?_
    try refine wpAny_bind (wpAny_pure ?_)
    refine wpAny_bind (wpAny_of_eq (a := ()) ?_ (wpAny_pure (q es fun _ h => h)))
    show (if (!t.led && decide (es.size > 1)) = true then unsupported "set:maker-not-led" else pure ()) = pure ()
    rw [p2]
    rfl
end
theorem forIn_keep {α β : Type} {M : Model} {f : α → β → Sem (ForInStep β)} {b : β} (I : Shared → Prop) : ∀ (l : List α) {s : Shared} {Q : β → Shared → Prop},
    (∀ x ∈ l, ∀ (s : Shared) (Q' : ForInStep β → Shared → Prop), I s → (∀ s', I s' → Q' (.yield b) s') → wpAny M A (f x b) Q' E s) → I s → (∀ s', I s' → Q b s') → wpAny M A (forIn l b f) Q E s
  | [], s, Q, _, i, q => by
    rw [List.forIn_nil]
    exact wpAny_pure (q s i)
  | x :: l, s, Q, h, i, q => by
    rw [List.forIn_cons]
    exact wpAny_bind (h x (List.mem_cons_self ..) s _ i fun s' i' => forIn_keep I l (fun y hy => h y (List.mem_cons_of_mem _ hy)) i' q)
theorem forIn_keepA {α β : Type} {M : Model} {f : α → β → Sem (ForInStep β)} {b : β} (I : Shared → Prop) (l : Array α) {s : Shared} {Q : β → Shared → Prop}
    (h : ∀ x ∈ l.toList, ∀ (s : Shared) (Q' : ForInStep β → Shared → Prop), I s → (∀ s', I s' → Q' (.yield b) s') → wpAny M A (f x b) Q' E s) (i : I s) (q : ∀ s', I s' → Q b s') : wpAny M A (forIn l b f) Q E s := by
  rw [← Array.forIn_toList]
  exact forIn_keep I l.toList h i q
theorem quiet_at : ∀ (l : List Addr) {s : Shared} {Q : Bool → Shared → Prop}, (∀ c ∈ l, ∃ S n, SetR w s.heap c S n) → Q true s → wpAny (model P w) A (setsQuiet l) Q E s := by
  intro l s Q h q
  unfold setsQuiet
  refine wpAny_bind (forIn_keep (fun s' => s' = s) l (fun c hc s' Q' hs k => ?_) rfl fun s' hs => ?_)
  · subst hs
    obtain ⟨S, n, o, es, ep, t, ho, hx, hd, g, nd, hm, hb, hf, _⟩ := h c hc
    refine wpAny_bind (wpAny_setEntries_of ho hd hf ?_)
    refine wpAny_bind (forIn_keepA (fun s'' => s'' = s') es (fun e he s'' Q'' hs k' => ?_) rfl fun s'' hs => ?_)
    · subst hs
      obtain ⟨i, tk, h1, h2⟩ := g e he
      obtain ⟨e1, e2⟩ := e
      dsimp only at h1
      subst h1
      exact wpAny_pure (k' _ rfl)
    · subst hs
      exact wpAny_pure (k _ rfl)
  · subst hs
    exact wpAny_pure q
/-- the set at a walked while the empty set at r is filled -/
theorem unseen_at {r : Addr} (R : SetR w s.heap a S n) (Rr : SetR w s.heap r (fun _ => false) 0) {l : List Addr} (hall : ∀ c ∈ a :: l, ∃ S n, SetR w s.heap c S n) {Q : Array (Int × Value) → Shared → Prop}
    (q : ∀ xs h', Mem xs S → (∀ c o, c ≠ r → s.heap.get? c = some o → h'.get? c = some o) → SetR w h' r (fun _ => false) 0 → Q xs { s with heap := h' }) : wpAny (model P w) A (setWalkUnseen a l (some r)) Q E s := by
  obtain ⟨o, es, ep, t, ho, hx, hd, g, nd, hm, hb, hf, hn, hr, hl⟩ := R
  have mem : ∀ xs : Array (Int × Value), (∀ e ∈ xs.toList, e ∈ es.toList) → Mem xs S := fun xs h e he => ⟨g e (h e he), (hm _).mpr (List.mem_map_of_mem (h e he))⟩
  unfold setWalkUnseen
  refine wpAny_bind (wpAny_setState_of ho hd hf ?_)
  dsimp only
  refine wpAny_bind (wpAny_byText ?_)
  by_cases c : (w.params.followText "set-order" || t.led && t.plain || decide (es.size ≤ 1)) = true
  · refine wp_if_pos c ?_
    refine walk_at ho hd hf hl ?_ fun xs h => ?_
    · simp only [Bool.or_eq_true, Bool.and_eq_true, decide_eq_true_eq] at c
      rcases c with (c | c) | c
      · exact .inl c
      · exact .inr (by rw [c.2]; rfl)
      · exact .inr (by rw [decide_eq_false (by omega), Bool.and_false])
    · exact q xs s.heap (mem xs h) (fun _ _ _ e => e) Rr
  · refine wp_if_neg c ?_
    try refine wpAny_bind (wpAny_pure ?_)
    refine wpAny_bind (quiet_at (a :: l) hall ?_)
    refine wp_if_neg (by decide) ?_
    try refine wpAny_bind (wpAny_pure ?_)
    refine wpAny_bind (wpAny_rule ?_)
    obtain ⟨o2, es2, ep2, t2, ho2, hx2, hd2, g2, nd2, hm2, hb2, hf2, hn2, hr2, hl2⟩ := Rr
    try dsimp only
    refine wpAny_bind (wpAny_setState_of ho2 hd2 hf2 ?_)
    dsimp only
    have nb : w.params.followText "set-order" = false := by
      cases z : w.params.followText "set-order" with
      | false => rfl
      | true => rw [z] at c; simp at c
    have l1 : t.led = true := hl.resolve_left (by rw [nb]; exact Bool.false_ne_true)
    have l2 : t2.led = true := hl2.resolve_left (by rw [nb]; exact Bool.false_ne_true)
    by_cases c2 : (t2.led && !t.led || t2.plain && !t.plain) = true
    · refine wp_if_pos c2 ?_
      refine wpAny_bind (wpAny_storeSet_of ho2 hd2 ?_ (fits_of_scanBound hb2))
      refine wpAny_pure (q es _ (mem es fun _ h => h) (fun y o' hy e => by rw [Heap.get?_update_other _ _ (Ne.symm hy)]; exact e) ?_)
      exact ⟨_, es2, _, _, store_at ho2 hd2, hx2, rfl, g2, nd2, hm2, hb2, by exact hf2, hn2, hr2, .inr (by rw [l1, l2]; rfl)⟩
    · refine wp_if_neg c2 ?_
      try refine wpAny_bind (wpAny_pure ?_)
      exact wpAny_pure (q es s.heap (mem es fun _ h => h) (fun _ _ _ e => e) ⟨o2, es2, ep2, t2, ho2, hx2, hd2, g2, nd2, hm2, hb2, hf2, hn2, hr2, hl2⟩)
theorem sub_none (R1 : SetR w s.heap a S n) (R2 : SetR w s.heap b T m) (sub : ∀ k, S k = true → T k = true) (le : n ≤ m) {Q : Value → Shared → Prop}
    (q : ∀ h', (∀ c o, s.heap.get? c = some o → h'.get? c = some o) → SetR w h' s.heap.objs.size (fun _ => false) 0 → Q (.ref s.heap.objs.size) { s with heap := h' }) : wpAny (model P w) A (binaryOp .Sub (.ref a) (.ref b)) Q E s := by
  have ta : s.TypeIs (.ref a) "set" := (R1.setOf (P := P)).typeIs
  have tb : s.TypeIs (.ref b) "set" := (R2.setOf (P := P)).typeIs
  refine wpAny_binaryOp_same (T := "set") ta tb F.fills_set_sub F.slot_set_sub ?_
  refine wpAny_call_entry F.slot_set_sub ta entry_sub ?_ (F.args_set_sub_2 _ _)
  rw [sub_form]
  unfold Builtin.Frozenset.slot1 slotArgs
  refine wpAny_bind (wpAny_bind (wpAny_of_eq (a := (Value.ref a, [Value.ref b])) rfl (wpAny_pure ?_)))
  dsimp only
  refine wpAny_bind (m := _ <&&> _) ?_
  unfold andM
  refine wpAny_bind (isSet_at ta ?_)
  show wpAny _ _ (Builtin.Frozenset.isAnySet (.ref b)) _ _ _
  refine isSet_at tb (wp_if_neg (by decide) ?_)
  refine wpAny_bind (wpAny_pure (wpAny_bind ?_))
  obtain ⟨o, es, ep, t, ho, hx, hd, g, nd, hm, hb, hf, hn, hr, hl⟩ := id R1
  obtain ⟨o2, es2, ep2, t2, ho2, hx2, hd2, g2, nd2, hm2, hb2, hf2, hn2, hr2, hl2⟩ := id R2
  unfold Builtin.Frozenset.difference
  dsimp only
  refine wpAny_bind (isSet_at tb ?_)
  refine wp_if_neg (by decide) ?_
  try refine wpAny_bind (m := Builtin.Frozenset.addrOf (.ref b)) (wpAny_pure ?_)
  refine wp_if_neg (by simp) ?_
  refine wp_if_pos rfl ?_
  unfold Builtin.Frozenset.sizeOf
  refine wpAny_bind (wpAny_bind (wpAny_setEntries_of ho2 hd2 hf2 (wpAny_pure ?_)))
  refine wpAny_bind (wpAny_bind (wpAny_setEntries_of ho hd hf (wpAny_pure ?_)))
  refine wp_if_neg (by rw [hn, hn2]; omega) ?_
  unfold Builtin.Frozenset.baseOf isInstance
  have z := sub_set_self
  obtain ⟨hp, gg, dr, tk, os⟩ := s
  wp_walk
  dsimp only at ho ho2 q R1 R2
  refine wpAny_askSetting (wpAny_pure ?_)
  simp only [newObj, if_true]
  refine wpAny_bind (wpAny_alloc (wpAny_pure ?_))
  dsimp only
  have k1 : ∀ c o, hp.get? c = some o → (hp.push (newS w)).get? c = some o := fun c o e => Heap.get?_push_of_some _ e
  have fr := setR_fresh (h := hp) w
  have na : a ≠ hp.objs.size := Nat.ne_of_lt (Heap.lt_size ho)
  have nb : b ≠ hp.objs.size := Nat.ne_of_lt (Heap.lt_size ho2)
  refine wpAny_bind (m := Builtin.Frozenset.addrOf (.ref hp.objs.size)) (wpAny_pure ?_)
  refine wpAny_bind (wpAny_setEpoch_of (k1 _ _ ho) hd hf ?_)
  refine wpAny_bind (wpAny_holding (wpAny_bind ?_))
  refine unseen_at (R1.at fun o e => k1 _ _ e) fr (fun c hc => ?_) fun xs h' hxs k2 R' => ?_
  · rcases List.mem_cons.mp hc with rfl | hc
    · exact ⟨_, _, R1.at fun o e => k1 _ _ e⟩
    rcases List.mem_cons.mp hc with rfl | hc
    · exact ⟨_, _, R2.at fun o e => k1 _ _ e⟩
    rcases List.mem_cons.mp hc with rfl | hc
    · exact ⟨_, _, fr⟩
    · cases hc
  · have k3 : ∀ c o, hp.get? c = some o → h'.get? c = some o := fun c o e => k2 c o (Nat.ne_of_lt (Heap.lt_size e)) (k1 c o e)
    refine wpAny_bind (forIn_keepA (fun s' => s' = ⟨h', gg, dr, tk, os⟩) xs (fun e he s' Q' hs kk => ?_) rfl fun s' hs => ?_)
    · subst hs
      obtain ⟨⟨i, ti, h1, h2⟩, h3⟩ := hxs e he
      obtain ⟨e1, e2⟩ := e
      dsimp only at h1 h2
      subst h1 h2
      refine wpAny_bind (wpAny_holding (wpAny_bind ?_))
      refine wpAny_setFind_of (knd := intKind P w) (k := i) (intKind_is P w i ti) rfl ((R2.at fun o e => k3 _ _ e).setOf (P := P)) fun r hr => ?_
      refine wpAny_bind (wpAny_pure ?_)
      have hs : r.isSome = true := by rw [hr]; exact sub i h3
      refine wp_if_neg (by rw [hs]; decide) ?_
      refine wpAny_pure ?_
      unfold Builtin.Frozenset.unchanged
      refine wpAny_bind (wpAny_bind (wpAny_setEpoch_of (k3 _ _ ho) hd hf ?_))
      refine wp_if_neg (by simp) (wpAny_pure (wpAny_pure (kk _ rfl)))
    · subst hs
      refine wpAny_pure (wpAny_pure (wpAny_pure ⟨_, rfl, (fun z => nomatch z), q h' k3 R'⟩))
end
end Cw
namespace Cw
open PySem PySem.Spec PyProof.Rows L2
theorem nodup_len : ∀ {l m : List Int}, l.Nodup → (∀ x ∈ l, x ∈ m) → l.length ≤ m.length
  | [], m, _, _ => Nat.zero_le _
  | x :: l, m, nd, h => by
    obtain ⟨nx, nd'⟩ := List.nodup_cons.mp nd
    have hx : x ∈ m := h x (List.mem_cons_self ..)
    have z := nodup_len (l := l) (m := m.erase x) nd' fun y hy => by
      have ne : y ≠ x := fun e => nx (by rw [← e]; exact hy)
      exact (List.mem_erase_of_ne ne).mpr (h y (List.mem_cons_of_mem _ hy))
    rw [List.length_erase_of_mem hx] at z
    have p : 0 < m.length := List.length_pos_of_mem hx
    rw [List.length_cons]
    omega
section
variable {X : Cx}
theorem setR_le {w : World} {h : Heap} {a b : Addr} {S T : Int → Bool} {n m : Nat} (R1 : SetR w h a S n) (R2 : SetR w h b T m) (sub : ∀ k, S k = true → T k = true) : n ≤ m := by
  obtain ⟨o, es, ep, t, ho, hx, hd, g, nd, hm, hb, hf, hn, _⟩ := R1
  obtain ⟨o2, es2, ep2, t2, ho2, hx2, hd2, g2, nd2, hm2, hb2, hf2, hn2, _⟩ := R2
  have z := nodup_len (l := es.toList.map keyOf) (m := es2.toList.map keyOf) nd fun x hx => (hm2 x).mp (sub x ((hm x).mpr hx))
  rw [List.length_map, List.length_map, Array.length_toList, Array.length_toList, hn, hn2] at z
  exact z
/-- set(xs) -/
def rSetOf (X : Cx) : List V → Hp → VK → Prop := fun xs H Q => ∃ (l : Addr) (ns : List Int), xs = [.ref l] ∧ SqL X.K H l (ns.map V.int) ∧ ns.length ≤ 4000 ∧ ∀ p c, c ≤ ns.length → H p = none → Q (.ref p) (upd H p (SetO X.w p (fun j => decide (j ∈ ns)) c))
theorem cr_setOf (hc : X.calm = true) : CallR X (.type "set") (rSetOf X) := by
  intro pins s σ H vs us Q I r h
  obtain ⟨l, ns, rfl, hs, hl, q⟩ := h
  obtain ⟨its, rv, pl, _⟩ := I.list hs
  rw [Vals.ref1 r]
  refine set_list (its := its.toArray) ns (I.ok.hd hc) pl.isList rv.ints (by show ns.length + 1 < 4096; omega) fun g' tk c R hc' k => ?_
  exact ⟨.ref s.heap.objs.size, _, I.laid (t' := tk) k (Nat.le_refl _) (setO_new R), rfl, q _ c hc' (I.hok.fresh (Nat.le_refl _))⟩
/-- a - b, all of a's being b's: a new empty set -/
def rSubN (w : World) : R2 := fun x y H Q => ∃ (a b : Addr) (S T : Int → Bool) (n m : Nat), x = .ref a ∧ y = .ref b ∧ H a = some (SetO w a S n) ∧ H b = some (SetO w b T m) ∧ (∀ k, S k = true → T k = true) ∧ ∀ p, H p = none → Q (.ref p) (upd H p (SetO w p (fun _ => false) 0))
theorem op_subN : OpR X (binaryOp .Sub) (rSubN X.w) := by
  intro pins s σ H x y v u Q I rx ry h
  obtain ⟨a, b, S, T, n, m, rfl, rfl, ha, hb, sub, q⟩ := h
  cases rx
  cases ry
  have R1 := setO_get I ha
  have R2 := setO_get I hb
  refine sub_none R1 R2 sub (setR_le R1 R2 sub) fun h' k R => ?_
  exact ⟨.ref s.heap.objs.size, _, I.laid (t' := s.toks) k (Nat.le_refl _) (setO_new R), rfl, q _ (I.hok.fresh (Nat.le_refl _))⟩
/-- len(s) -/
theorem cr_lenS : CallR X (.builtin "len") (fun xs H Q => ∃ (a : Addr) (S : Int → Bool) (n : Nat), xs = [.ref a] ∧ H a = some (SetO X.w a S n) ∧ Q (.int n) H) := by
  intro pins s σ H vs us Q I r h
  obtain ⟨a, S, n, rfl, ha, q⟩ := h
  rw [Vals.ref1 r]
  obtain ⟨o, es, ep, t, ho, hx, hd, g, nd, hm, hb, hf, hn, _⟩ := setO_get I ha
  have e : scanBound = 4096 := rfl
  refine call_len_set ho hx hd hf (by rw [e] at hb; omega) ?_
  rw [hn]
  exact ⟨.int n, H, I.tok _, ⟨_, rfl⟩, q⟩
/-- max(xs, default=k) -/
def rMaxD (K : PySem.W.Frag) : List V → List V → Hp → VK → Prop := fun xs zs H Q => ∃ (a : Addr) (ns : List Int) (k : Int), xs = [.ref a] ∧ SqL K H a (ns.map V.int) ∧ zs = [.int k] ∧ ∀ M, (ns = [] → M = k) → (∀ y ∈ ns, y ≤ M) → Q (.int M) H
theorem fold_max (n : Int) : ∀ (ns : List Int), n ≤ ns.foldl max n ∧ ∀ y ∈ ns, y ≤ ns.foldl max n := by
  intro ns
  induction ns generalizing n with
  | nil => exact ⟨Int.le_refl _, fun _ h => nomatch h⟩
  | cons k r ih =>
    rw [List.foldl_cons]
    obtain ⟨h1, h2⟩ := ih (max n k)
    refine ⟨Int.le_trans (Int.le_max_left _ _) h1, fun y hy => ?_⟩
    rcases List.mem_cons.mp hy with rfl | hy
    · exact Int.le_trans (Int.le_max_right _ _) h1
    · exact h2 y hy
theorem alike_ints (ns : List Int) : PySem.W.AlikeAll (ns.map PyData.int) := by
  constructor
  · intro x hx y hy
    obtain ⟨i, _, rfl⟩ := List.mem_map.mp hx
    obtain ⟨j, _, rfl⟩ := List.mem_map.mp hy
    rfl
  · intro x hx
    obtain ⟨i, _, rfl⟩ := List.mem_map.mp hx
    exact fun z => nomatch z
theorem cr_maxD (hc : X.calm = true) (hu : X.A.units + 3 < cLine) : CallRK X (.builtin "max") ["default"] (rMaxD X.K) := by
  intro pins s σ H xs zs us ws Q I r rz h
  obtain ⟨a, ns, k, rfl, hs, rfl, q⟩ := h
  obtain ⟨its, rv, pl, _⟩ := I.list hs
  rw [Vals.ref1 r]
  obtain ⟨u, rfl, tk0, rfl⟩ := vals1 rz
  have dpi : ∀ ns : List Int, DpAll X.K H (ns.map V.int) (ns.map PyData.int) := fun ns => by
    induction ns with
    | nil => exact .nil
    | cons n r ih => exact .cons (.int n) ih
  have dpt : ∀ ns : List Int, PyData.depthAll (ns.map PyData.int) ≤ 1 := fun ns => by
    induction ns with
    | nil => exact Nat.zero_le _
    | cons n r ih =>
      rw [List.map_cons]
      unfold PyData.depthAll PyData.depth
      omega
  obtain ⟨as, hr⟩ := Dp.readsAll I _ _ _ (dpi ns) rv
  have hd := dpt ns
  refine PySem.W.max_list_default (vs := its.toArray) (I.ok.hd hc) pl.isList (by rw [List.toList_toArray]; exact hr) (alike_ints ns) (by omega) (fun e h' tk k' => ?_) (fun y ys i v h' tk bs e _ rd k' => ?_)
  · exact ⟨.int k, H, I.kept k', ⟨_, rfl⟩, q k (fun _ => rfl) fun y hy => by rw [List.map_eq_nil_iff.mp e] at hy; cases hy⟩
  · cases ns with
    | nil => cases e
    | cons n r =>
      rw [List.map_cons] at e
      injection e with e1 e2
      subst e1 e2
      rw [PySem.W.maxD_ints] at rd
      cases rd with
      | int i t =>
        obtain ⟨f1, f2⟩ := fold_max n r
        refine ⟨.int (r.foldl max n), H, I.kept k', ⟨t, rfl⟩, q _ (fun z => nomatch z) fun y hy => ?_⟩
        rcases List.mem_cons.mp hy with rfl | hy
        · exact f1
        · exact f2 y hy
end
end Cw
namespace Cw
open PySem PySem.Spec PyProof.Rows PySem.SeqAt L2
/-! ## != by an own __eq__ -/
section
variable {M : Model} {prog : Program} {w : World} {A : Around} {E : Value → Shared → Prop} {s : Shared} {K : PySem.W.Frag} {x y f C : Addr} {ox oy : Obj} {od oe : Option Obj}
theorem objNe_entry (X : K.In s.heap) (I : PySem.W.InstAt s.heap x ox C od) (hs : PySem.W.findIn K (.ref C) "__eq__" = some (some (.ref f))) (hf : PySem.W.isFn K (.ref f) = true) (hu : A.units < cLine) {Q : Fin → Shared → Prop}
    (hcall : wpAny (model prog w) A (call (.ref f) [.ref x, .ref y]) (fun v s' => ∃ b, v = .bool b ∧ Q (.done (.ret (.bool (!b)))) s') E s) :
    wpAny (model prog w) A (Builtin.«object.__ne__» ⟨[.ref x, .ref y], []⟩) Q E s := by
  unfold Builtin.«object.__ne__»
  repeat (first
    | with_reducible refine wpAny_cRoomFor hu ?_
    | (refine wpAny_bind (m := callSpecialIfBound? (.ref x) (Str.ofString "__eq__") [.ref y])
        (PySem.W.ifBound_K X I hs hf (wpAny_mono hcall (fun r s' hr => by
          obtain ⟨b, rfl, hq⟩ := hr
          repeat (first | exact hq | exact wpAny_pure hq | exact wpAny_truthy_bool hq | (refine wpAny_bind (m := truthy (.bool _)) (wpAny_truthy_bool ?_)) | wp_step)) fun _ _ e => e)))
    | wp_step)
theorem ifBound_objNe {args : List Value} {Q : Option Value → Shared → Prop} (X : K.In s.heap) (I : PySem.W.InstAt s.heap x ox C od) (hs : PySem.W.findIn K (.ref C) "__ne__" = some (some (.builtin "object.__ne__")))
    (h : wpAny M A (call (.builtin "object.__ne__") (.ref x :: args)) (fun v => Q (some v)) E s) : wpAny M A (callSpecialIfBound? (.ref x) "__ne__" args) Q E s := by
  simp only [callSpecialIfBound?, bindSpecialIfBound?]
  refine wpAny_holding (wpAny_bind (wpAny_bind (wpAny_bind (I.type.here ((PySem.W.looks_findIn X hs).here ?_)))))
  refine wpAny_bind (wpAny_askSetting (wpAny_ite ?_))
  have fin : wpAny M A (call (.builtin "object.__ne__") ([.ref x] ++ args) >>= fun v => pure (some v)) Q E s := wpAny_bind (wpAny_mono h (fun v s' h' => wpAny_pure h') fun _ _ h' => h')
  split
  · exact wpAny_bind (wpAny_of_eq (F.cmp_object.ne.bind _) (wpAny_pure (by exact fin)))
  · exact wpAny_tryCatch (wpAny_bind (wpAny_of_eq (F.cmp_object.ne.bind _) (wpAny_pure (by exact fin))))
theorem rc_ne (hu : A.units + 1 < cLine) (X : K.In s.heap) (I : PySem.W.InstAt s.heap x ox C od) (J : PySem.W.InstAt s.heap y oy C oe) (hm : PySem.W.mroIn K C (.type "object") = some true) (hn : PySem.W.findIn K (.ref C) "__ne__" = some (some (.builtin "object.__ne__")))
    (hs : PySem.W.findIn K (.ref C) "__eq__" = some (some (.ref f))) (hf : PySem.W.isFn K (.ref f) = true) {Q : Value → Shared → Prop}
    (hcall : wpAny (model prog w) A.in1 (call (.ref f) [.ref x, .ref y]) (fun v s' => ∃ b, v = .bool b ∧ Q (.bool (!b)) s') E s) :
    wpAny (model prog w) A (richCompare .NotEq (.ref x) (.ref y)) Q E s := by
  have one : wpAny (model prog w) A (tryCompare (.ref x) "__ne__" (.ref y)) (fun r s' => ∃ b, r = some (.bool b) ∧ Q (.bool b) s') E s := by
    unfold tryCompare
    refine wpAny_bind (ifBound_objNe X I hn (wpAny_call (codeAny_call_builtin F.cmp_object.ne.plain F.cmpEntry_ne (PySem.W.check_slot F.cmpKind_ne F.cmpSplit_ne (I.type.andThen (PySem.W.looks_mroIn X hm)) (F.cmpArgs_ne _ _)
      (objNe_entry (A := A.in1) X I hs hf (by exact hu) (wpAny_mono hcall (fun v s' hv => ?_) fun _ _ e => e))))))
    obtain ⟨b, rfl, hq⟩ := hv
    first | exact ⟨b, rfl, wpAny_pure ⟨_, rfl, hq⟩⟩ | exact ⟨b, rfl, wpAny_pure (wpAny_pure ⟨_, rfl, hq⟩)⟩
  unfold richCompare
  simp only [oneThing_ref]
  refine wpAny_holding (wpAny_bind (wpAny_cRoomFor (Nat.lt_of_succ_lt hu) ?_))
  rw [cmpInfo_NotEq]
  dsimp only
  refine wpAny_bind (I.type.here (wpAny_bind (J.type.here ?_)))
  rw [show (Value.ref C != Value.ref C) = false from by simp]
  simp only [Bool.false_eq_true, if_false]
  refine wpAny_bind (wpAny_pure ?_)
  simp only [Bool.false_eq_true, if_false]
  refine wpAny_bind (wpAny_mono one (fun v s' hv => ?_) fun _ _ e => e)
  obtain ⟨b, rfl, hq⟩ := hv
  first | exact wpAny_pure hq | exact wpAny_pure (wpAny_pure hq)
end
/-- x != y, equal by the own == -/
def rNeG (D : Eqv) : R2 := fun x y H Q => D x y H ∧ ∀ H', Ext H H' → Q (.bl false) H'
section
variable {X : Cx} {n : Nat}
theorem op_neG {CX : CXT} {C f : Addr} {fd : FuncData} {ps : List Str} {R : Addr → Addr → Hp → Prop} {E : XK} (F : FnOk X.prog X.w X.K X.mg X.base CX n f fd ps (spEq R))
    (hm : PySem.W.mroIn X.K C (.type "object") = some true) (hn : PySem.W.findIn X.K (.ref C) "__ne__" = some (some (.builtin "object.__ne__")))
    (hs : PySem.W.findIn X.K (.ref C) "__eq__" = some (some (.ref f))) (hf : PySem.W.isFn X.K (.ref f) = true) (hb : Binds X.K fd ps []) (hx : Passes CX X E) (hr : Room (n + 1) X.A) : OpR X (compareOp .NotEq) (rNeG (DIns C R)) := by
  intro pins s σ H x y u v Q I rx ry hq
  obtain ⟨⟨a, b, dx, dy, fs, gs, rfl, rfl, ha, hb', hR⟩, q⟩ := hq
  cases rx
  cases ry
  obtain ⟨mA, J, _⟩ := ins_get I.hok ha
  obtain ⟨mB, J', _⟩ := ins_get I.hok hb'
  obtain ⟨od, J, _⟩ := J.look
  obtain ⟨od', J', _⟩ := J'.look
  show wpAny (model X.prog X.w) X.A (richCompare .NotEq (.ref a) (.ref b)) (EP X pins σ Q) X.xe s
  refine rc_ne (hr.mono (Nat.succ_le_succ (Nat.zero_le n)) |>.in1.units0) I.kIn J J' hm hn hs hf ?_
  have hsp : spEq R [.ref a, .ref b] H (fun v H' => v = .bl true ∧ Ext H H') E := ⟨a, b, rfl, hR, fun H' e => ⟨rfl, e⟩⟩
  have hl := F.len _ _ _ _ hsp
  have r2 : Vals [V.ref a, V.ref b] [Value.ref a, Value.ref b] := .cons rfl (.cons rfl .nil)
  have e0 : Env0 X.prog X.w X.K X.mg X.base X.A.in1 X.stack s H := I.env0.in1
  refine wpAny_call (codeAny_mono (F.run X.A.in1 X.stack s H ⟨[.ref a, .ref b], []⟩ [.ref a, .ref b] [.ref a, .ref b] _ E hr.in1 e0 (by
    have := hb s [.ref a, .ref b] I.kIn (by simpa using hl)
    simpa using this) r2 hsp) fun r s' hq => ?_)
  cases r with
  | error e => exact hx pins σ H s e s' I hq
  | ok fl =>
    cases fl with
    | ret w =>
      obtain ⟨z, H', I', rz, ez, ex⟩ := I.after hq
      subst ez
      cases rz
      exact ⟨true, rfl, .bl false, H', I', rfl, q H' ex⟩
    | next => exact False.elim hq
    | brk => exact False.elim hq
    | cont => exact False.elim hq
end
end Cw
namespace Cw
open PySem L2
def top (i : Nat) : Stmt := PySem.Challenge.pw_cutwalks_k07_whole_rows_there_and_back.main.body.getD i (.Pass ⟨0, 0, 0, 0⟩)
abbrev sIsInt : Stmt := top 8
abbrev sPlaces : Stmt := top 9
abbrev sAsc : Stmt := top 10
abbrev sMarks : Stmt := top 11
abbrev sSome : Stmt := top 12
abbrev sChange : Stmt := top 13
abbrev sRepl : Stmt := top 14
abbrev sRow : Stmt := top 18
theorem ifT {c : Bool} {A B : Prop} (h : c = true) (x : A) : if c = true then A else B := by
  rw [if_pos h]
  exact x
theorem ifF {c : Bool} {A B : Prop} (h : c = false) (x : B) : if c = true then A else B := by
  rw [h, if_neg Bool.false_ne_true]
  exact x
theorem same_new {H H1 : Hp} {p : Addr} {o : HO} (s : Same H H1) (h : H1 p = none) : Same H (upd H1 p o) := fun b u e => by
  rw [upd_ne (ne_of_none (s b u e) h)]
  exact s b u e
/-- what stands at D is replaced, D being new since H -/
theorem same_put {H H1 : Hp} {p : Addr} {o : HO} (s : Same H H1) (h : H p = none) : Same H (upd H1 p o) := fun b u e => by
  rw [upd_ne (ne_of_none e h)]
  exact s b u e
theorem all_true (n : Nat) : (List.replicate n true).all id = true := by
  induction n with
  | zero => rfl
  | succ n ih => rw [List.replicate_succ, List.all_cons, ih]; rfl
abbrev Asc (ns : List Int) : Prop := ns.Pairwise (· < ·)
/-- a list of ints stands at a -/
abbrev IL (H : Hp) (a : Addr) (ns : List Int) : Prop := H a = some (.lst (ns.map V.int))
theorem il_at {ns : List Int} {i : Nat} {x : V} (h : (ns.map V.int)[i]? = some x) : ∃ z, x = V.int z ∧ ns[i]? = some z := by
  rw [List.getElem?_map] at h
  cases e : ns[i]? with
  | none => rw [e] at h; cases h
  | some z => rw [e] at h; exact ⟨z, (Option.some.inj h).symm, rfl⟩
/-- what the names of the built-ins hold -/
structure Bl (mg : Str → Option Value) : Prop where
  int : mg "int" = none
  bool : mg "bool" = none
  list : mg "list" = none
  tuple : mg "tuple" = none
  range : mg "range" = none
  len : mg "len" = none
  abs : mg "abs" = none
  all : mg "all" = none
  isi : mg "isinstance" = none
  zip : mg "zip" = none
  max : mg "max" = none
  min : mg "min" = none
  set : mg "set" = none
  sorted : mg "sorted" = none
  dict : mg "dict" = none
def spOne : Sp := fun vs H Q _ => ∃ i : Int, vs = [.int i] ∧ Q (.bl true) H
/-- places from low to high -/
def spPlaces : Sp := fun vs H Q _ => ∃ (a : Addr) (ns : List Int) (lo hi : Int), vs = [.ref a, .int lo, .int hi] ∧ IL H a ns ∧ ns.length ≤ 1000 ∧ (∀ x ∈ ns, lo ≤ x ∧ x ≤ hi) ∧ ∀ H', Same H H' → Q (.bl true) H'
def spAsc : Sp := fun vs H Q _ => ∃ (a : Addr) (ns : List Int) (lo hi : Int), vs = [.ref a, .int lo, .int hi] ∧ IL H a ns ∧ ns.length ≤ 1000 ∧ (∀ x ∈ ns, lo ≤ x ∧ x ≤ hi) ∧ Asc ns ∧ ∀ H', Same H H' → Q (.bl true) H'
def spMarks : Sp := fun vs H Q _ => ∃ (a : Addr) (ns : List Int) (hi : Int), vs = [.ref a, .int hi] ∧ IL H a ns ∧ ns.length ≤ 400 ∧ (∀ x ∈ ns, 1 ≤ x ∧ x ≤ hi) ∧ Asc ns ∧ ∀ H', Same H H' → Q (.bl true) H'
def spSome : Sp := fun vs H Q _ => ∃ (a b : Addr) (ns ms : List Int), vs = [.ref a, .ref b] ∧ IL H a ns ∧ IL H b ms ∧ ns.length ≤ 400 ∧ ms.length ≤ 400 ∧ Asc ns ∧ (∀ x ∈ ns, 1 ≤ x) ∧ (∀ x ∈ ns, x ∈ ms) ∧ ∀ H', Same H H' → Q (.bl true) H'
section
variable {P : Program} {w : World} {K : PySem.W.Frag} {mg : Str → Option Value} {base : Heap}
theorem scI : FnScope ["thing"] ["thing"] (defScope sIsInt) := ⟨rfl, rfl, rfl, by decide +kernel, rfl, by decide +kernel, by decide +kernel⟩
theorem ok_int {f : Addr} {fd : FuncData} (F : Fun K "is_integer" "is_integer" sIsInt f fd) (T : Bl mg) : FnOk P w K mg base CX0 1 f fd ["thing"] spOne := by
  refine F.ok scI (fun vs H Q E h => ?_) (fun cdv A outer s H vs Q E hr h => ?_)
  · obtain ⟨i, rfl, _⟩ := h
    rfl
  · obtain ⟨i, rfl, k⟩ := h
    refine ⟨_, pss_one (ps_ret (pe_and (pe_callB call_isi (by rfl) T.isi (by decide +kernel) (pa_cons (pv 0) (pa_cons (pe_bltn (by rfl) T.int (by decide +kernel) (v := V.ty "int") rfl) pa_nil)))
      (pe_one (pe_not (pe_callB call_isi (by rfl) T.isi (by decide +kernel) (pa_cons (pv 0) (pa_cons (pe_bltn (by rfl) T.bool (by decide +kernel) (v := V.ty "bool") rfl) pa_nil))))))), ?_⟩
    refine ⟨_, rfl, _, _, _, _, true, rfl, ClsV.ty _, .base (.int i), kit_ty (by decide +kernel), _, rfl, ?_⟩
    refine ifT rfl ?_
    refine ⟨_, rfl, _, _, _, _, false, rfl, ClsV.ty _, .base (.int i), kit_ty (by decide +kernel), _, rfl, ?_⟩
    exact k
theorem scP : FnScope ["thing", "low", "high", "place"] ["thing", "low", "high"] (defScope sPlaces) := ⟨rfl, rfl, rfl, by decide +kernel, rfl, by decide +kernel, by decide +kernel⟩
theorem ok_places {f fI : Addr} {fd fdI : FuncData} (F : Fun K "are_places" "are_places" sPlaces f fd) (T : Bl mg) (gI : mg "is_integer" = some (.ref fI)) (kI : PySem.W.keepIn K (.ref fI) = true) (bI : Binds K fdI ["thing"] []) (GI : FnOk P w K mg base CX0 1 fI fdI ["thing"] spOne) :
    FnOk P w K mg base CX0 2 f fd ["thing", "low", "high"] spPlaces := by
  refine F.ok scP (fun vs H Q E h => ?_) (fun cdv A outer s H vs Q E hr h => ?_)
  · obtain ⟨a, ns, lo, hi, rfl, _⟩ := h
    rfl
  · obtain ⟨a, ns, lo, hi, rfl, hS, hl, hb, k⟩ := h
    refine ⟨_, pss_cons (ps_if (pt_not (pt_val (pe_callB call_isi (by rfl) T.isi (by decide +kernel) (pa_cons (pv 0) (pa_cons (pe_bltn (by rfl) T.list (by decide +kernel) (v := V.ty "list") rfl) pa_nil))))) (pss_one (ps_ret pe_bl)) pss_nil)
      (pss_one (ps_ret (pe_callB (cr_all rfl) (by rfl) T.all (by decide +kernel) (pa_cons (pe_lc (own := [("place", 3)]) (g := gName 3) (tt := tYes) rfl scP.nd
        (pi_list (pv 0)) (blkOk_by (own := [("place", 3)]) (N := ["thing", "low", "high", "place"]) (sc := defScope sPlaces) (by decide +kernel)) (fun _ _ _ _ _ => pg_name (i := 3) scP.nd rfl (Or.inl rfl)) (fun _ _ _ _ _ => pts_nil)
        (fun _ _ _ _ _ => pe_and (pe_call GI hr rfl gI kI bI .nil pass0 (pa_cons (pv 3) pa_nil)) (pe_one (pe_chain op_le op_le (pv 1) (pv 3) (pv 2))))) pa_nil)))), ?_⟩
    refine ⟨_, rfl, _, _, _, _, true, rfl, ClsV.ty _, .base (.lst hS), kit_ty (by decide +kernel), _, rfl, ?_⟩
    refine ifF rfl ?_
    refine ⟨_, rfl, a, rfl, ⟨_, SqL.of hS⟩, fun D hD => ?_⟩
    refine lc_list (K := K) (a := a) (xs := ns.map V.int) (fun i H' => Same H H' ∧ H' D = some (.lst (List.replicate i (V.bl true)))) ⟨same_new (Same.refl H) hD, upd_same⟩ (fun i H' _ q => SqL.of (q.1 _ _ hS)) ?_ ?_
    · rintro i x H' hx ⟨s1, hD'⟩
      obtain ⟨z, rfl, hz⟩ := il_at hx
      have hil : i < ns.length := (List.getElem?_eq_some_iff.mp hz).1
      obtain ⟨b1, b2⟩ := hb z (List.mem_of_getElem? hz)
      refine ⟨rfl, ?_⟩
      unfold tYes
      refine iteT ?_
      refine ⟨_, rfl, _, rfl, _, rfl, ?_⟩
      refine ifT rfl ?_
      refine ⟨_, rfl, _, rfl, _, _, rfl, rfl, _, rfl, ?_⟩
      refine ifT (by simp [b1]) ?_
      refine ⟨_, rfl, _, _, rfl, rfl, ?_⟩
      refine ⟨_, hD', by rw [List.length_replicate]; exact small1000 (by omega), same_put s1 hD, ?_⟩
      rw [upd_same, List.replicate_succ']
      simp [b2]
    · rintro H' ⟨s1, hD'⟩
      refine ⟨D, List.replicate ns.length true, rfl, SqL.of (by rw [hD', List.map_replicate, List.length_map]), ?_⟩
      rw [all_true]
      exact k _ s1
end
end Cw
namespace Cw
open PySem L2
theorem cut_one (xs : List V) : cutV xs (some 1) none = xs.drop 1 := by
  unfold cutV
  have e1 : HT.sIx xs.length 0 (some 1) = min 1 xs.length := HT.sIx_nat xs.length 0 1
  rw [e1, HT.sIx_none]
  cases xs with
  | nil => rfl
  | cons x r =>
    have e2 : min 1 (x :: r).length = 1 := by
      rw [List.length_cons]
      omega
    rw [e2, List.drop_succ_cons, List.drop_zero, List.length_cons, Nat.add_sub_cancel]
    exact List.take_length
section
variable {P : Program} {w : World} {K : PySem.W.Frag} {mg : Str → Option Value} {base : Heap}
abbrev NA : List Str := ["thing", "low", "high", "before", "place"]
theorem scA : FnScope NA ["thing", "low", "high"] (defScope sAsc) := ⟨rfl, rfl, rfl, by decide +kernel, rfl, by decide +kernel, by decide +kernel⟩
theorem ok_asc {f fP : Addr} {fd fdP : FuncData} (F : Fun K "are_ascending" "are_ascending" sAsc f fd) (T : Bl mg) (gP : mg "are_places" = some (.ref fP)) (kP : PySem.W.keepIn K (.ref fP) = true) (bP : Binds K fdP ["thing", "low", "high"] []) (GP : FnOk P w K mg base CX0 2 fP fdP ["thing", "low", "high"] spPlaces) :
    FnOk P w K mg base CX0 3 f fd ["thing", "low", "high"] spAsc := by
  refine F.ok scA (fun vs H Q E h => ?_) (fun cdv A outer s H vs Q E hr h => ?_)
  · obtain ⟨a, ns, lo, hi, rfl, _⟩ := h
    rfl
  · obtain ⟨a, ns, lo, hi, rfl, hS, hl, hb, ha, k⟩ := h
    refine ⟨_, pss_cons (ps_if (pt_not (pt_val (pe_call GP hr rfl gP kP bP .nil pass0 (pa_cons (pv 0) (pa_cons (pv 1) (pa_cons (pv 2) pa_nil)))))) (pss_one (ps_ret pe_bl)) pss_nil)
      (pss_one (ps_ret (pe_callB (cr_all rfl) (by rfl) T.all (by decide +kernel) (pa_cons (pe_lc (own := [("before", 3), ("place", 4)]) (g := gTup K 2 (gCons (gName 3) (gCons (gName 4) gNil))) (tt := tYes) rfl scA.nd
        (pi_zip (by rfl) T.zip (pa_cons (pv 0) (pa_cons (pe_slice sl_list (pv 0) (po_some pe_int) po_none) pa_nil))) (blkOk_by (own := [("before", 3), ("place", 4)]) (N := NA) (sc := defScope sAsc) (by decide +kernel))
        (fun _ _ _ _ _ => pg_tup rfl (pgs_cons (pg_name (i := 3) scA.nd rfl (Or.inl rfl)) (pgs_cons (pg_name (i := 4) scA.nd rfl (Or.inl rfl)) pgs_nil))) (fun _ _ _ _ _ => pts_nil)
        (fun _ _ _ _ _ => pe_cmpR op_lt (pv 3) (pv 4) (nomark _))) pa_nil)))), ?_⟩
    refine ⟨_, rfl, _, rfl, _, rfl, a, ns, lo, hi, rfl, hS, hl, hb, fun H1 s1 => ⟨_, rfl, ?_⟩⟩
    refine ifF rfl ?_
    refine ⟨_, rfl, _, rfl, 1, rfl, a, _, rfl, SqL.of (s1 _ _ hS), fun c nc => ?_⟩
    have s2 := same_new (o := .lst (cutV (ns.map V.int) (some 1) none)) s1 nc
    rw [cut_one] at s2
    rw [cut_one]
    refine ⟨a, c, _, _, rfl, SqL.of (s2 _ _ hS), SqL.of upd_same, fun D hD => ?_⟩
    have nc' : H c = none := s1.free nc
    have ncD : c ≠ D := ne_of_none upd_same hD
    have hn : ns.length - 1 = min (ns.map V.int).length ((ns.map V.int).drop 1).length := by
      rw [List.length_drop, List.length_map]
      omega
    refine lc_it (walk_zip hn) (fun i H' => Same H H' ∧ H' c = some (.lst ((ns.map V.int).drop 1)) ∧ H' D = some (.lst (List.replicate i (V.bl true)))) ⟨same_new s2 hD, by rw [upd_ne ncD]; exact upd_same, upd_same⟩ (fun i H' _ q => ⟨SqL.of (q.1 _ _ hS), SqL.of q.2.1⟩) ?_ ?_
    · rintro i x H' H'' hi ⟨s3, hc, hD'⟩ ⟨t, x1, x2, rfl, nt, rfl, e1, e2⟩
      have h1 : i < ns.length := by omega
      have h2 : i + 1 < ns.length := by omega
      have g1 : x1 = .int ns[i] := by
        dsimp only at e1
        rw [List.getElem?_map, List.getElem?_eq_getElem h1] at e1
        exact (Option.some.inj e1).symm
      have g2 : x2 = .int ns[i + 1] := by
        dsimp only at e2
        rw [List.getElem?_drop, List.getElem?_map, Nat.add_comm 1 i, List.getElem?_eq_getElem h2] at e2
        exact (Option.some.inj e2).symm
      subst g1 g2
      have hlt : ns[i] < ns[i + 1] := List.pairwise_iff_getElem.mp ha i (i + 1) h1 h2 (Nat.lt_succ_self i)
      have ntc : c ≠ t := ne_of_none hc nt
      have ntD : D ≠ t := ne_of_none hD' nt
      refine ⟨t, _, rfl, SqT.of upd_same, rfl, _, _, rfl, _, _, rfl, rfl, rfl, ?_⟩
      unfold tYes
      refine iteT ?_
      refine ⟨_, rfl, _, rfl, _, _, rfl, rfl, ?_⟩
      refine ⟨_, (by rw [upd_ne ntD]; exact hD'), by rw [List.length_replicate]; exact small1000 (by omega), same_put (same_new s3 nt) (s2.trans (Same.refl _) |>.free hD), ?_, ?_⟩
      · rw [upd_ne ncD, upd_ne ntc]
        exact hc
      · rw [upd_same, List.replicate_succ']
        simp [hlt]
    · rintro H' ⟨s3, hc, hD'⟩
      refine ⟨D, List.replicate (ns.length - 1) true, rfl, SqL.of (by rw [hD', List.map_replicate]), ?_⟩
      rw [all_true]
      exact k _ s3
theorem scM : FnScope ["thing", "high"] ["thing", "high"] (defScope sMarks) := ⟨rfl, rfl, rfl, by decide +kernel, rfl, by decide +kernel, by decide +kernel⟩
theorem ok_marks {f fA : Addr} {fd fdA : FuncData} {t : Tok} (F : Fun K "are_marks" "are_marks" sMarks f fd) (T : Bl mg) (gN : mg "MOST_MARKS" = some (.int 400 t)) (gA : mg "are_ascending" = some (.ref fA)) (kA : PySem.W.keepIn K (.ref fA) = true) (bA : Binds K fdA ["thing", "low", "high"] []) (GA : FnOk P w K mg base CX0 3 fA fdA ["thing", "low", "high"] spAsc) :
    FnOk P w K mg base CX0 4 f fd ["thing", "high"] spMarks := by
  refine F.ok scM (fun vs H Q E h => ?_) (fun cdv A outer s H vs Q E hr h => ?_)
  · obtain ⟨a, ns, hi, rfl, _⟩ := h
    rfl
  · obtain ⟨a, ns, hi, rfl, hS, hl, hb, ha, k⟩ := h
    refine ⟨_, pss_one (ps_ret (pe_and (pe_call GA hr rfl gA kA bA .nil pass0 (pa_cons (pv 0) (pa_cons pe_int (pa_cons (pv 1) pa_nil))))
      (pe_one (pe_cmpR op_le (pe_callB call_len_seq (by rfl) T.len PySem.boot_len (pa_cons (pv 0) pa_nil)) (pe_glob rfl gN (v := V.int 400) ⟨_, rfl⟩) (nomark _))))), ?_⟩
    refine ⟨_, rfl, _, rfl, a, ns, 1, hi, rfl, hS, by omega, hb, ha, fun H1 s1 => ⟨_, rfl, ?_⟩⟩
    refine ifT rfl ?_
    refine ⟨_, rfl, a, _, rfl, .inl (SqL.of (s1 _ _ hS)), _, _, rfl, rfl, ?_⟩
    have e : decide (((ns.map V.int).length : Int) ≤ 400) = true := by
      rw [List.length_map]
      exact decide_eq_true (by omega)
    have z := k _ s1
    rw [← e] at z
    exact z
theorem scSo : FnScope ["thing", "marks"] ["thing", "marks"] (defScope sSome) := ⟨rfl, rfl, rfl, by decide +kernel, rfl, by decide +kernel, by decide +kernel⟩
theorem ok_some {f fA : Addr} {fd fdA : FuncData} (F : Fun K "are_some_of" "are_some_of" sSome f fd) (T : Bl mg) (gA : mg "are_ascending" = some (.ref fA)) (kA : PySem.W.keepIn K (.ref fA) = true) (bA : Binds K fdA ["thing", "low", "high"] []) (GA : FnOk P w K mg base CX0 3 fA fdA ["thing", "low", "high"] spAsc) :
    FnOk P w K mg base CX0 4 f fd ["thing", "marks"] spSome := by
  refine F.ok scSo (fun vs H Q E h => ?_) (fun cdv A outer s H vs Q E hr h => ?_)
  · obtain ⟨a, b, ns, ms, rfl, _⟩ := h
    rfl
  · obtain ⟨a, b, ns, ms, rfl, hS, hM, hl, hm, ha, h1, hsub, k⟩ := h
    have hu := hr.units
    refine ⟨_, pss_cons (ps_if (pt_not (pt_val (pe_call GA hr rfl gA kA bA .nil pass0 (pa_cons (pv 0) (pa_cons pe_int (pa_cons (pe_callBK (cr_maxD rfl (Nat.lt_of_le_of_lt (Nat.add_le_add_left (by decide : 3 ≤ 64) _) hu)) (by rfl) T.max (by decide +kernel) (pa_cons (pv 1) pa_nil) (pk_cons pe_int pk_nil)) pa_nil)))))) (pss_one (ps_ret pe_bl)) pss_nil)
      (pss_one (ps_ret (pe_cmpR op_eq (pe_callB cr_lenS (by rfl) T.len PySem.boot_len (pa_cons (pe_op op_subN (pe_callTy (cr_setOf rfl) (by rfl) T.set (by decide +kernel) (pa_cons (pv 0) pa_nil)) (pe_callTy (cr_setOf rfl) (by rfl) T.set (by decide +kernel) (pa_cons (pv 1) pa_nil))) pa_nil)) pe_int (nomark _)))), ?_⟩
    refine ⟨_, rfl, _, rfl, b, ms, 0, rfl, SqL.of hM, rfl, fun M _ hM2 => ?_⟩
    refine ⟨a, ns, 0, M, rfl, hS, by omega, fun x hx => ⟨Int.le_trans (by decide) (h1 x hx), hM2 x (hsub x hx)⟩, ha, fun H1 s1 => ⟨_, rfl, ?_⟩⟩
    refine ifF rfl ?_
    refine ⟨_, rfl, a, ns, rfl, SqL.of (s1 _ _ hS), by omega, fun p c _ hp => ?_⟩
    have s2 := same_new (o := SetO w p (fun j => decide (j ∈ ns)) c) s1 hp
    refine ⟨_, rfl, b, ms, rfl, SqL.of (s2 _ _ hM), by omega, fun p2 c2 _ hp2 => ?_⟩
    have s3 := same_new (o := SetO w p2 (fun j => decide (j ∈ ms)) c2) s2 hp2
    have n12 : p ≠ p2 := ne_of_none upd_same hp2
    refine ⟨p, p2, _, _, _, _, rfl, rfl, by rw [upd_ne n12]; exact upd_same, upd_same, fun j hj => decide_eq_true (hsub j (of_decide_eq_true hj)), fun p3 hp3 => ?_⟩
    refine ⟨p3, _, 0, rfl, upd_same, rfl, ?_⟩
    have e : decide (V.int ((0 : Nat) : Int) = V.int 0) = true := by simp
    have z := k _ (same_new (o := SetO w p3 (fun _ => false) 0) s3 hp3)
    rw [← e] at z
    exact z
end
end Cw
namespace Cw
open PySem L2
abbrev sInit : Stmt := inClass sRow 0
abbrev sGetM : Stmt := inClass sRow 2
abbrev sEq : Stmt := inClass sRow 6
abbrev sChanged : Stmt := inClass sRow 11
theorem k12 : ¬ (("_length" : Str) = "_marks") := by decide +kernel
theorem k13 : ¬ (("_length" : Str) = "_strict") := by decide +kernel
theorem k23 : ¬ (("_marks" : Str) = "_strict") := by decide +kernel
def flds (n : Int) (l1 l2 : Addr) : List (Str × V) := putF "_strict" (.ref l2) (putF "_marks" (.ref l1) (putF "_length" (.int n) []))
theorem flds_eq (n : Int) (l1 l2 : Addr) : flds n l1 l2 = ([("_length", V.int n), ("_marks", V.ref l1), ("_strict", V.ref l2)] : List (Str × V)) := by
  unfold flds
  rw [show putF "_length" (V.int n) [] = ([("_length", V.int n)] : List (Str × V)) from rfl]
  rw [show putF "_marks" (V.ref l1) ([("_length", V.int n)] : List (Str × V)) = (if ("_length" : Str) = "_marks" then ([("_length", V.ref l1)] : List (Str × V)) else ("_length", V.int n) :: putF "_marks" (V.ref l1) []) from rfl, if_neg k12]
  rw [show putF "_marks" (V.ref l1) [] = ([("_marks", V.ref l1)] : List (Str × V)) from rfl]
  rw [show putF "_strict" (V.ref l2) ([("_length", V.int n), ("_marks", V.ref l1)] : List (Str × V)) = (if ("_length" : Str) = "_strict" then ([("_length", V.ref l2), ("_marks", V.ref l1)] : List (Str × V)) else ("_length", V.int n) :: (if ("_marks" : Str) = "_strict" then ([("_marks", V.ref l2)] : List (Str × V)) else ("_marks", V.ref l1) :: putF "_strict" (V.ref l2) [])) from rfl, if_neg k13, if_neg k23]
  rfl
theorem fl_L (n : Int) (l1 l2 : Addr) : (flds n l1 l2).lookup ("_length" : Str) = some (.int n) := by
  unfold flds
  rw [lookup_putF, if_neg k13, lookup_putF, if_neg k12, lookup_putF, if_pos rfl]
theorem fl_M (n : Int) (l1 l2 : Addr) : (flds n l1 l2).lookup ("_marks" : Str) = some (.ref l1) := by
  unfold flds
  rw [lookup_putF, if_neg k23, lookup_putF, if_pos rfl]
theorem fl_S (n : Int) (l1 l2 : Addr) : (flds n l1 l2).lookup ("_strict" : Str) = some (.ref l2) := by
  unfold flds
  rw [lookup_putF, if_pos rfl]
theorem fl_no (n : Int) (l1 l2 : Addr) {m : Str} (h1 : ¬ m = "_length") (h2 : ¬ m = "_marks") (h3 : ¬ m = "_strict") : (flds n l1 l2).lookup m = none := by
  unfold flds
  rw [lookup_putF, if_neg h3, lookup_putF, if_neg h2, lookup_putF, if_neg h1]
  rfl
/-- what a row is -/
structure Good (n : Int) (ms ss : List Int) : Prop where
  pos : 1 ≤ n
  len : ms.length ≤ 400
  rng : ∀ x ∈ ms, 1 ≤ x ∧ x ≤ n - 1
  asc : Asc ms
  asc2 : Asc ss
  sub : ∀ x ∈ ss, x ∈ ms
theorem Good.len2 {n : Int} {ms ss : List Int} (g : Good n ms ss) : ss.length ≤ 400 :=
  Nat.le_trans (nodup_len (g.asc2.imp fun h e => by omega) g.sub) g.len
/-- a row stands at p -/
def RowAt (C : Addr) (H : Hp) (p : Addr) (n : Int) (ms ss : List Int) : Prop := ∃ dx l1 l2, H p = some (.ins C dx (flds n l1 l2)) ∧ IL H l1 ms ∧ IL H l2 ss
theorem RowAt.same {C : Addr} {H H' : Hp} {p : Addr} {n : Int} {ms ss : List Int} (r : RowAt C H p n ms ss) (s : Same H H') : RowAt C H' p n ms ss := by
  obtain ⟨dx, l1, l2, a, b, c⟩ := r
  exact ⟨dx, l1, l2, s _ _ a, s _ _ b, s _ _ c⟩
/-- a row has been made at p, its lists are new since H -/
def RowNew (C : Addr) (H H' : Hp) (p : Addr) (n : Int) (ms ss : List Int) : Prop := ∃ dx l1 l2, H' p = some (.ins C dx (flds n l1 l2)) ∧ IL H' l1 ms ∧ IL H' l2 ss ∧ H l1 = none ∧ H l2 = none
theorem RowNew.at {C : Addr} {H H' : Hp} {p : Addr} {n : Int} {ms ss : List Int} (r : RowNew C H H' p n ms ss) : RowAt C H' p n ms ss := by
  obtain ⟨dx, l1, l2, a, b, c, _⟩ := r
  exact ⟨dx, l1, l2, a, b, c⟩
theorem none_of {H H' : Hp} {l : Addr} (k : ∀ c o, H c = some o → ∃ o', H' c = some o') (h : H' l = none) : H l = none := by
  cases e : H l with
  | none => rfl
  | some o =>
    obtain ⟨o', z⟩ := k _ _ e
    rw [h] at z
    cases z
theorem RowNew.mono {C : Addr} {H0 H H' : Hp} {p : Addr} {n : Int} {ms ss : List Int} (r : RowNew C H H' p n ms ss) (k : ∀ c o, H0 c = some o → ∃ o', H c = some o') : RowNew C H0 H' p n ms ss := by
  obtain ⟨dx, l1, l2, a, b, c, d, e⟩ := r
  exact ⟨dx, l1, l2, a, b, c, none_of k d, none_of k e⟩
structure Cl (K : PySem.W.Frag) (mg : Str → Option Value) (C : Addr) : Prop where
  cl : Cls K C
  nL : NoAttr K C "_length"
  nM : NoAttr K C "_marks"
  nS : NoAttr K C "_strict"
  mgR : mg "Row" = some (.ref C)
  kit : PySem.W.kitOne K (.ref C) (.ref C) = some true
/-- Row(n, marks, strict): from the new instance on -/
def spInit (C : Addr) : Sp := fun vs H Q _ => ∃ (x dx a b : Addr) (n : Int) (ms ss : List Int), vs = [.ref x, .int n, .ref a, .ref b] ∧ H x = some (.ins C dx []) ∧ IL H a ms ∧ IL H b ss ∧ Good n ms ss ∧
  ∀ H', RowNew C H H' x n ms ss → (∀ c o, H c = some o → c ≠ x → H' c = some o) → Q .non H'
section
variable {P : Program} {w : World} {K : PySem.W.Frag} {mg : Str → Option Value} {base : Heap}
abbrev NI : List Str := ["self", "length", "marks", "strict"]
theorem scIn : FnScope NI NI (defScope sInit) := ⟨rfl, rfl, rfl, by decide +kernel, rfl, by decide +kernel, by decide +kernel⟩
theorem ok_init {f C fI fM fS : Addr} {fd fdI fdM fdS : FuncData} (F : Fun K "__init__" "Row.__init__" sInit f fd) (T : Bl mg) (R : Cl K mg C)
    (gI : mg "is_integer" = some (.ref fI)) (kI : PySem.W.keepIn K (.ref fI) = true) (bI : Binds K fdI ["thing"] []) (GI : FnOk P w K mg base CX0 1 fI fdI ["thing"] spOne)
    (gM : mg "are_marks" = some (.ref fM)) (kM : PySem.W.keepIn K (.ref fM) = true) (bM : Binds K fdM ["thing", "high"] []) (GM : FnOk P w K mg base CX0 4 fM fdM ["thing", "high"] spMarks)
    (gS : mg "are_some_of" = some (.ref fS)) (kS : PySem.W.keepIn K (.ref fS) = true) (bS : Binds K fdS ["thing", "marks"] []) (GS : FnOk P w K mg base CX0 4 fS fdS ["thing", "marks"] spSome) :
    FnOk P w K mg base CX0 5 f fd NI (spInit C) := by
  refine F.ok scIn (fun vs H Q E h => ?_) (fun cdv A outer s H vs Q E hr h => ?_)
  · obtain ⟨x, dx, a, b, n, ms, ss, rfl, _⟩ := h
    rfl
  · obtain ⟨x, dx, a, b, n, ms, ss, rfl, hx, hM, hS, G, k⟩ := h
    have hr1 : Room 1 (A.deeper (PyProof.Rows.envOfC "Row.__init__" (defScope sInit) s.heap.objs.size f cdv)) := hr.mono (by decide)
    refine ⟨_, pss_cons (ps_if (PW.pt (pw_or (pt_not (pt_val (pe_call GI hr1 rfl gI kI bI .nil pass0 (pa_cons (pv 1) pa_nil)))) (pw_or1 (pt_cmpR op_lt (pv 1) pe_int (nomark _))))) pss_never pss_nil)
      (pss_cons (ps_if (pt_not (pt_val (pe_call GM hr rfl gM kM bM .nil pass0 (pa_cons (pv 2) (pa_cons (pe_op op_sub (pv 1) pe_int) pa_nil))))) pss_never pss_nil)
      (pss_cons (ps_if (pt_not (pt_val (pe_call GS hr rfl gS kS bS .nil pass0 (pa_cons (pv 3) (pa_cons (pv 2) pa_nil))))) pss_never pss_nil)
      (pss_cons (ps_fld (pv 0) (pv 1) rfl)
      (pss_cons (ps_fld (pv 0) (pe_callTy call_list_of (by rfl) T.list (by decide +kernel) (pa_cons (pv 2) pa_nil)) rfl)
      (pss_one (ps_fld (pv 0) (pe_callTy call_list_of (by rfl) T.list (by decide +kernel) (pa_cons (pv 3) pa_nil)) rfl)))))), ?_⟩
    have hp := G.pos
    refine ⟨_, rfl, n, rfl, _, rfl, ?_⟩
    refine ifF rfl ?_
    refine ⟨_, rfl, _, _, rfl, rfl, _, rfl, ?_⟩
    refine ifF (decide_eq_false (by omega)) ?_
    refine ⟨_, rfl, _, rfl, _, _, rfl, rfl, a, ms, n - 1, rfl, hM, G.len, G.rng, G.asc, fun H1 s1 => ⟨_, rfl, ?_⟩⟩
    refine ifF rfl ?_
    refine ⟨_, rfl, _, rfl, b, a, ss, ms, rfl, s1 _ _ hS, s1 _ _ hM, G.len2, G.len, G.asc2, (fun y hy => (G.rng y (G.sub y hy)).1), G.sub, fun H2 s2 => ⟨_, rfl, ?_⟩⟩
    refine ifF rfl ?_
    have s12 := s1.trans s2
    refine ⟨_, rfl, _, rfl, x, C, dx, _, rfl, s12 _ _ hx, R.cl, R.nL, (by show 0 < 1000; decide), ?_⟩
    have na : a ≠ x := ne_of hM hx (by intro z; cases z)
    have nb : b ≠ x := ne_of hS hx (by intro z; cases z)
    have hM3 : ∀ o, IL (upd H2 x o) a ms := fun o => by
      show upd H2 x o a = _
      rw [upd_ne na]
      exact s12 _ _ hM
    have hS3 : ∀ o, IL (upd H2 x o) b ss := fun o => by
      show upd H2 x o b = _
      rw [upd_ne nb]
      exact s12 _ _ hS
    refine ⟨_, rfl, a, _, rfl, .inl (SqL.of (hM3 _)), fun l1 h1 => ?_⟩
    have nx1 : x ≠ l1 := ne_of_none upd_same h1
    have nb1 : b ≠ l1 := ne_of_none (hS3 _) h1
    refine ⟨_, rfl, x, C, dx, _, rfl, (by rw [upd_ne nx1]; exact upd_same), R.cl, R.nM, (by show 1 < 1000; decide), ?_⟩
    refine ⟨_, rfl, b, ss.map V.int, rfl, .inl (SqL.of (by rw [upd_ne nb, upd_ne nb1]; exact hS3 _)), fun l2 h2 => ?_⟩
    have nx2 : x ≠ l2 := ne_of_none upd_same h2
    have n12 : l1 ≠ l2 := ne_of_none (show _ = some (HO.lst (ms.map V.int)) by rw [upd_ne (Ne.symm nx1)]; exact upd_same) h2
    refine ⟨_, rfl, x, C, dx, _, rfl, (by rw [upd_ne nx2]; exact upd_same), R.cl, R.nS, (by show 2 < 1000; decide), ?_⟩
    have up : ∀ (H : Hp) (x : Addr) (o' : HO) (c : Addr) (o : HO), H c = some o → ∃ o'', upd H x o' c = some o'' := fun H x o' c o e => by
      by_cases z : c = x
      · exact ⟨o', by rw [z]; exact upd_same⟩
      · exact ⟨o, by rw [upd_ne z]; exact e⟩
    have f1 : H l1 = none := none_of (fun c o e => up _ _ _ _ _ (s12 _ _ e)) h1
    have f2 : H l2 = none := none_of (fun c o e => by
      obtain ⟨o1, e1⟩ := up H2 x (.ins C dx (putF "_length" (V.int n) [])) _ _ (s12 _ _ e)
      obtain ⟨o2, e2⟩ := up _ l1 (.lst (ms.map V.int)) _ _ e1
      exact up _ _ _ _ _ e2) h2
    refine k _ ⟨dx, l1, l2, upd_same, ?_, ?_, f1, f2⟩ ?_
    · show upd _ _ _ l1 = _
      rw [upd_ne (Ne.symm nx1), upd_ne n12, upd_ne (Ne.symm nx1)]
      exact upd_same
    · show upd _ _ _ l2 = _
      rw [upd_ne (Ne.symm nx2)]
      exact upd_same
    · intro c o ec nc
      have e3 : ∀ o', upd H2 x o' c = some o := fun o' => by
        rw [upd_ne nc]
        exact s12 _ _ ec
      have e4 := e3 (.ins C dx (putF "_length" (V.int n) []))
      have ne1 : c ≠ l1 := ne_of_none e4 h1
      rw [upd_ne nc]
      have e5 : upd (upd (upd H2 x (.ins C dx (putF "_length" (V.int n) []))) l1 (.lst (ms.map V.int))) x (.ins C dx (putF "_marks" (V.ref l1) (putF "_length" (V.int n) []))) c = some o := by
        rw [upd_ne nc, upd_ne ne1]
        exact e4
      rw [upd_ne (ne_of_none e5 h2)]
      exact e5
end
end Cw
namespace Cw
open PySem PySem.Spec PyProof.Rows L2
theorem dps_ints {K : PySem.W.Frag} {H : Hp} : ∀ ns : List Int, DpAll K H (ns.map V.int) (ns.map PyData.int)
  | [] => .nil
  | n :: r => .cons (.int n) (dps_ints r)
theorem dp_il {K : PySem.W.Frag} {H : Hp} {a : Addr} {ns : List Int} (h : IL H a ns) : Dp K H (.ref a) (.list (ns.map PyData.int)) := .lst (SqL.of h) (dps_ints ns)
theorem depth_ints : ∀ ns : List Int, PyData.depthAll (ns.map PyData.int) ≤ 1 := fun ns => by
  induction ns with
  | nil => exact Nat.zero_le _
  | cons n r ih =>
    rw [List.map_cons]
    unfold PyData.depthAll PyData.depth
    omega
theorem lay_ints : ∀ ns : List Int, PyData.canLayAll0 (ns.map PyData.int) = true := fun ns => by
  induction ns with
  | nil => rfl
  | cons n r ih =>
    rw [List.map_cons]
    unfold PyData.canLayAll0 PyData.canLay0
    rw [ih]
    rfl
theorem shape_il (ns : List Int) : SeqAt.shaped (.list (ns.map PyData.int)) = true := by
  have h1 : PyData.canLay0 (.list (ns.map PyData.int)) = true := by
    unfold PyData.canLay0
    exact lay_ints ns
  have h2 : PyData.depth (.list (ns.map PyData.int)) ≤ 64 := by
    have z := depth_ints ns
    unfold PyData.depth
    omega
  unfold SeqAt.shaped
  rw [h1, decide_eq_true h2]
  rfl
theorem eqv_il (ns : List Int) : PyData.eqv (.list (ns.map PyData.int)) (.list (ns.map PyData.int)) = true := SeqAt.eqv_refl _ (SeqAt.canLay_of_shaped (shape_il ns))
section
variable {X : Cx} {a b c d : Expr} {ta tb tc td : TE} {pos : Pos}
/-- a op1 b op2 c op3 d -/
def tChain3 (r1 r2 r3 : R2) (ta tb tc td : TE) : TE := fun σ H Q => ta σ H fun x H1 => tb σ H1 fun y H2 => r1 x y H2 fun z H3 => ∃ k, z = .bl k ∧
  (if k = true then tc σ H3 fun u H4 => r2 y u H4 fun z2 H5 => ∃ k2, z2 = .bl k2 ∧ (if k2 = true then td σ H5 fun v H6 => r3 u v H6 Q else Q (.bl false) H5) else Q (.bl false) H3)
theorem pt_chain3 {o1 o2 o3 : CmpOp} {r1 r2 r3 : R2} (h1 : OpR X (compareOp o1) r1) (h2 : OpR X (compareOp o2) r2) (h3 : OpR X (compareOp o3) r3) (ha : PE X a ta) (hb : PE X b tb) (hc : PE X c tc) (hd : PE X d td)
    (hm : lastMarks [o1, o2, o3] [b, c, d] = false := by with_unfolding_all rfl) : PT X (.Compare a [o1, o2, o3] [b, c, d] pos) (tTest (tChain3 r1 r2 r3 ta tb tc td)) := by
  refine ⟨fun pins s σ H Q I h => ?_⟩
  refine isTrue_chain (thn (ha.run pins s σ H _ I h) fun v s1 ⟨x, H1, I1, e1, q1⟩ => test_link (thn (hb.run pins s1 σ H1 _ I1 q1) fun u s2 ⟨y, H2, I2, e2, q2⟩ =>
    thn (h1 pins s2 σ H2 x y v u _ I2 e1 e2 q2) fun d1 s3 ⟨z, H3, I3, e3, k, e, q3⟩ => ?_)) hm
  subst e
  cases e3
  refine wpAny_truthy_bool ?_
  cases k with
  | false =>
    obtain ⟨k', e', q'⟩ := q3
    cases e'
    exact ite_ff ⟨H3, I3, q'⟩
  | true =>
    refine ite_tt (test_link (thn (hc.run pins s3 σ H3 _ I3 q3) fun w' s4 ⟨z', H4, I4, e4, q4⟩ => thn (h2 pins s4 σ H4 y z' u w' _ I4 e2 e4 q4) fun d' s5 ⟨z2, H5, I5, e5, k2, f2, q5⟩ => ?_))
    subst f2
    cases e5
    refine wpAny_truthy_bool ?_
    cases k2 with
    | false =>
      obtain ⟨k', e', q'⟩ := q5
      cases e'
      exact ite_ff ⟨H5, I5, q'⟩
    | true =>
      refine ite_tt (test_last (thn (hd.run pins s5 σ H5 _ I5 q5) fun w2 s6 ⟨y2, H6, I6, e6, q6⟩ => thn (h3 pins s6 σ H6 z' y2 w' w2 _ I6 e4 e6 q6) fun d2 s7 ⟨y3, H7, I7, e7, k3, f3, q7⟩ => ?_))
      subst f3
      cases e7
      exact wpAny_truthy_bool ⟨H7, I7, q7⟩
end
/-- two rows alike -/
def Alike (C : Addr) : Addr → Addr → Hp → Prop := fun a b H => ∃ n ms ss, RowAt C H a n ms ss ∧ RowAt C H b n ms ss
/-- what a row's .marks promises -/
def spGetM (C : Addr) : Sp := fun vs H Q _ => ∃ (a : Addr) (n : Int) (ms ss : List Int), vs = [.ref a] ∧ RowAt C H a n ms ss ∧ ∀ p H', Same H H' → H p = none → IL H' p ms → Q (.ref p) H'
/-- what isinstance asks of the class -/
structure Ci (K : PySem.W.Frag) (C : Addr) : Prop where
  ha : PySem.W.findIn K (.ref C) "__class__" = some (some (.builtin "object.__class__"))
  hn : PySem.W.specialIn K (.builtin "object.__class__") "__get__" = some (some (.builtin "getset_descriptor.__get__"))
  ht : PySem.W.takesIn K (.builtin "object.__class__") = some true
  hm : PySem.W.mroIn K C (.type "object") = some true
section
variable {P : Program} {w : World} {K : PySem.W.Frag} {mg : Str → Option Value} {base : Heap}
theorem scG : FnScope ["self"] ["self"] (defScope sGetM) := ⟨rfl, rfl, rfl, by decide +kernel, rfl, by decide +kernel, by decide +kernel⟩
theorem ok_getM {f C : Addr} {fd : FuncData} (F : Fun K "marks" "Row.marks" sGetM f fd) (T : Bl mg) (R : Cl K mg C) : FnOk P w K mg base CX0 1 f fd ["self"] (spGetM C) := by
  refine F.ok scG (fun vs H Q E h => ?_) (fun cdv A outer s H vs Q E hr h => ?_)
  · obtain ⟨a, n, ms, ss, rfl, _⟩ := h
    rfl
  · obtain ⟨a, n, ms, ss, rfl, ⟨dx, l1, l2, ho, h1, h2⟩, k⟩ := h
    refine ⟨_, pss_one (ps_ret (pe_callTy call_list_of (by rfl) T.list (by decide +kernel) (pa_cons (pe_fld (pv 0) rfl) pa_nil))), ?_⟩
    refine ⟨_, rfl, a, C, dx, _, _, rfl, ho, R.cl, R.nM, fl_M _ _ _, l1, _, rfl, .inl (SqL.of h1), fun p hp => ?_⟩
    exact k p _ (same_new (Same.refl H) hp) hp upd_same
theorem scE : FnScope ["self", "other"] ["self", "other"] (defScope sEq) := ⟨rfl, rfl, rfl, by decide +kernel, rfl, by decide +kernel, by decide +kernel⟩
theorem ok_eq {f C : Addr} {fd : FuncData} (F : Fun K "__eq__" "Row.__eq__" sEq f fd) (T : Bl mg) (R : Cl K mg C) (N : Ci K C) : FnOk P w K mg base CX0 1 f fd ["self", "other"] (spEq (Alike C)) := by
  refine F.ok scE (fun vs H Q E h => ?_) (fun cdv A outer s H vs Q E hr h => ?_)
  · obtain ⟨a, b, rfl, _⟩ := h
    rfl
  · obtain ⟨a, b, rfl, ⟨n, ms, ss, ⟨dx, l1, l2, ho, h1, h2⟩, ⟨dy, m1, m2, hp, g1, g2⟩⟩, k⟩ := h
    refine ⟨_, pss_cons (ps_if (pt_not (pt_val (pe_callB call_isi (by rfl) T.isi (by decide +kernel) (pa_cons (pv 1) (pa_cons (pe_glob (by rfl) R.mgR (v := V.ref C) rfl) pa_nil))))) (pss_one (ps_ret pe_bl)) pss_nil)
      (pss_cons (ps_if (pt_cmpR op_ne (pe_fld (pv 0) rfl) (pe_fld (pv 1) rfl) (nomark _)) (pss_one (ps_ret pe_bl)) pss_nil)
      (pss_one (ps_ret (pe_and (pe_cmpR (op_eqD hr.units) (pe_fld (pv 0) rfl) (pe_fld (pv 1) rfl) (nomark _)) (pe_one (pe_cmpR (op_eqD hr.units) (pe_fld (pv 0) rfl) (pe_fld (pv 1) rfl) (nomark _))))))), ?_⟩
    refine ⟨_, rfl, _, _, _, _, true, rfl, ClsV.own _, .base (.ins hp R.cl N.ha N.hn N.ht N.hm), R.kit, _, rfl, ?_⟩
    refine ifF rfl ?_
    refine ⟨_, rfl, a, C, dx, _, _, rfl, ho, R.cl, R.nL, fl_L _ _ _, _, rfl, b, C, dy, _, _, rfl, hp, R.cl, R.nL, fl_L _ _ _, rfl, _, rfl, ?_⟩
    refine ifF (by simp) ?_
    refine ⟨_, rfl, a, C, dx, _, _, rfl, ho, R.cl, R.nM, fl_M _ _ _, _, rfl, b, C, dy, _, _, rfl, hp, R.cl, R.nM, fl_M _ _ _, _, _, dp_il h1, dp_il g1, shape_il _, shape_il _, _, rfl, ?_⟩
    refine ifT (eqv_il ms) ?_
    refine ⟨_, rfl, a, C, dx, _, _, rfl, ho, R.cl, R.nS, fl_S _ _ _, _, rfl, b, C, dy, _, _, rfl, hp, R.cl, R.nS, fl_S _ _ _, _, _, dp_il h2, dp_il g2, shape_il _, shape_il _, ?_⟩
    have z := k H Ext.rfl'
    rw [← eqv_il ss] at z
    exact z
end
end Cw
namespace Cw
open PySem L2
theorem same_ins {H H1 H' : Hp} {x dx C : Addr} (s : Same H H1) (nx : H1 x = none) (nd : H1 dx = none) (k : ∀ c o, upd (upd H1 dx (.own x)) x (.ins C dx []) c = some o → c ≠ x → H' c = some o) : Same H H' := fun c o e => by
  have z := s _ _ e
  refine k c o ?_ (ne_of_none z nx)
  rw [upd_ne (ne_of_none z nx), upd_ne (ne_of_none z nd)]
  exact z
theorem ints_app {ns : List Int} {z : Int} : ns.map V.int ++ [V.int z] = (ns ++ [z]).map V.int := by rw [List.map_append]; rfl
abbrev sJar : Stmt := top 23
abbrev sDip : Stmt := top 24
abbrev sThree : Stmt := top 25
abbrev sSmall : Stmt := top 26
abbrev sGreat : Stmt := top 27
def But (H H' : Hp) (b : Addr) : Prop := ∀ a o, H a = some o → a ≠ b → H' a = some o
theorem But.refl (H : Hp) (b : Addr) : But H H b := fun _ _ e _ => e
theorem But.trans {H H1 H2 : Hp} {b : Addr} (x : But H H1 b) (y : But H1 H2 b) : But H H2 b := fun a o e n => y a o (x a o e n) n
theorem But.of {H H1 : Hp} {b : Addr} (x : Same H H1) : But H H1 b := fun a o e _ => x a o e
theorem But.upd {H H1 : Hp} {b : Addr} {o : HO} (x : But H H1 b) : But H (upd H1 b o) b := fun a u e n => by
  rw [upd_ne n]
  exact x a u e n
theorem But.put {H H1 : Hp} {b p : Addr} {o : HO} (x : But H H1 b) (h : H p = none) : But H (L2.upd H1 p o) b := fun a u e n => by
  rw [upd_ne (ne_of_none e h)]
  exact x a u e n
theorem But.new {H H1 : Hp} {b p : Addr} {o : HO} (x : But H H1 b) (h : H1 p = none) : But H (L2.upd H1 p o) b := fun a u e n => by
  rw [upd_ne (ne_of_none (x a u e n) h)]
  exact x a u e n
def CPowW (i j : Int) : Prop := 0 ≤ j ∧ ((Builtin.Int.intBits i : Nat) : Int) * j ≤ 2 ^ 27
theorem op_powW {X : Cx} : OpR X (binaryOp .Pow) (rI CPowW fun i j => .int (i ^ j.toNat)) := opI fun _ _ _ _ _ _ _ hc q => PyProof.Rows.pow_int hc.1 hc.2 q
theorem cube_ok {i : Int} (h0 : 0 ≤ i) (h1 : i < 2 ^ 250) : CPowW i 3 := by
  have z : Builtin.Int.intBits i ≤ 250 := PyProof.Rows.intBits_le (k := 250) (by
    have e : ((2 ^ 250 : Nat) : Int) = 2 ^ 250 := by norm_cast
    omega)
  refine ⟨by decide, ?_⟩
  have e : (2 : Int) ^ 27 = 134217728 := by decide
  omega
/-- the draws: what is left of the cell, the stirred number, the turns; k more draws are surely allowed -/
def JarAt (H : Hp) (a : Addr) (k : Nat) : Prop := ∃ r m n : Int, H a = some (.lst [.int r, .int m, .int n]) ∧ 0 ≤ m ∧ m < 2 ^ 200 ∧ 0 ≤ n ∧ n + k ≤ 5000
theorem JarAt.mono {H : Hp} {a : Addr} {k j : Nat} (h : JarAt H a k) (l : j ≤ k) : JarAt H a j := by
  obtain ⟨r, m, n, e, h0, h1, h2, h3⟩ := h
  exact ⟨r, m, n, e, h0, h1, h2, by omega⟩
theorem JarAt.same {H H' : Hp} {a : Addr} {k : Nat} (h : JarAt H a k) (s : Same H H') : JarAt H' a k := by
  obtain ⟨r, m, n, e, q⟩ := h
  exact ⟨r, m, n, s _ _ e, q⟩
theorem JarAt.put {H : Hp} {a p : Addr} {o : HO} {k : Nat} (h : JarAt H a k) (n : a ≠ p) : JarAt (upd H p o) a k := by
  obtain ⟨r, m, i, e, q⟩ := h
  exact ⟨r, m, i, by rw [upd_ne n]; exact e, q⟩
theorem JarAt.ne {H : Hp} {a p : Addr} {k : Nat} (h : JarAt H a k) (n : H p = none) : a ≠ p := by
  obtain ⟨r, m, i, e, q⟩ := h
  exact ne_of_none e n
theorem JarAt.no {H : Hp} {a p : Addr} {o : HO} {k : Nat} (h : JarAt H a k) (e : H p = some o) (z : ∀ r m n : Int, o ≠ .lst [.int r, .int m, .int n]) : p ≠ a := fun x => by
  obtain ⟨r, m, i, f, q⟩ := h
  rw [x, f] at e
  exact z r m i (Option.some.inj e).symm
theorem pos47 : (0 : Int) < 10 ^ Int.toNat 47 + 91 := by decide +kernel
theorem pos46 : (0 : Int) < 10 ^ Int.toNat 46 + 79 := by decide +kernel
def spDip : Sp := fun vs H Q _ => ∃ (a : Addr) (k : Nat) (w : Int), vs = [.ref a, .int w] ∧ JarAt H a (k + 1) ∧ 0 < w ∧ w < 2 ^ 120 ∧ ∀ (v : Int) (H' : Hp), 0 ≤ v → v < w → JarAt H' a k → But H H' a → Q (.int v) H'
/-- the script's jar -/
def spJar (K : PySem.W.Frag) : Sp := fun vs H Q _ => ∃ (a : Addr) (ns : List Int) (i : Nat), vs = [.ref a, .int i] ∧ SqL K H a (ns.map V.int) ∧ i ≤ ns.length ∧ ns.length ≤ 63 ∧ ∀ p H', Same H H' → H p = none → JarAt H' p 5000 → Q (.ref p) H'
section
variable {P : Program} {w : World} {K : PySem.W.Frag} {mg : Str → Option Value} {base : Heap}
theorem scD : FnScope ["jar", "many", "digit", "mixed"] ["jar", "many"] (defScope sDip) := ⟨rfl, rfl, rfl, by decide +kernel, rfl, by decide +kernel, by decide +kernel⟩
theorem ok_dip {f : Addr} {fd : FuncData} (F : Fun K "_law_dip" "_law_dip" sDip f fd) (T : Bl mg) : FnOk P w K mg base CX0 1 f fd ["jar", "many"] spDip := by
  refine F.ok scD (fun vs H Q E h => ?_) (fun cdv A outer s H vs Q E hr h => ?_)
  · obtain ⟨a, k, w, rfl, _⟩ := h
    rfl
  · obtain ⟨a, k, w, rfl, ⟨r, m, n, hj, m0, m1, n0, n1⟩, w0, w1, q⟩ := h
    have wn : w.natAbs < 2 ^ 120 := by
      have e : ((2 ^ 120 : Nat) : Int) = 2 ^ 120 := by norm_cast
      omega
    have dv : ∀ i, CDivW i w := fun i => wide_div w0 wn (by decide) (by decide)
    refine ⟨_, pss_cons (ps_if (pt_cmpR op_gt (pe_ix ix_list (pv 0) pe_int (fun _ _ => rfl)) pe_int (nomark _))
        (pss_cons (ps_set (i := 2) scD.nd rfl (Or.inl rfl) (pe_op op_mod (pe_callTy call_int1 (by rfl) T.int (by decide +kernel) (pa_cons (pe_ix ix_list (pv 0) pe_int (fun _ _ => rfl)) pa_nil)) (pv 1)))
        (pss_cons (ps_asg (pe_op op_fdivW (pe_ix ix_list (pv 0) pe_int (fun _ _ => rfl)) (pv 1)) (pg_sub (pv 0) pe_int L2.set_list))
        (pss_one (ps_ret (pv 2))))) pss_nil)
      (pss_cons (ps_asg (pe_op op_add (pe_ix ix_list (pv 0) pe_int (fun _ _ => rfl)) pe_int) (pg_sub (pv 0) pe_int L2.set_list))
      (pss_cons (ps_set (i := 3) scD.nd rfl (Or.inl rfl) (pe_op op_mod (pe_callTy call_int1 (by rfl) T.int (by decide +kernel) (pa_cons (pe_op op_powW (pe_op op_add (pe_ix ix_list (pv 0) pe_int (fun _ _ => rfl)) (pe_op op_mul pe_int (pe_ix ix_list (pv 0) pe_int (fun _ _ => rfl)))) pe_int) pa_nil)) (pe_op op_add (pe_op op_pow pe_int pe_int) pe_int)))
      (pss_cons (ps_set (i := 3) scD.nd rfl (Or.inl rfl) (pe_op op_mod (pe_callTy call_int1 (by rfl) T.int (by decide +kernel) (pa_cons (pe_op op_powW (pe_op op_add (pv 3) (pe_op op_mul pe_int (pe_ix ix_list (pv 0) pe_int (fun _ _ => rfl)))) pe_int) pa_nil)) (pe_op op_add (pe_op op_pow pe_int pe_int) pe_int)))
      (pss_one (ps_ret (pe_op op_mod (pe_callTy call_int1 (by rfl) T.int (by decide +kernel) (pa_cons (pe_op op_fdivW (pv 3) pe_int) pa_nil)) (pv 1))))))), ?_⟩
    refine ⟨_, rfl, a, _, 0, _, rfl, rfl, SqL.of hj, rfl, _, _, rfl, rfl, _, rfl, ?_⟩
    by_cases hr0 : r > 0
    · refine ifT (decide_eq_true hr0) ?_
      refine ⟨_, rfl, a, _, 0, _, rfl, rfl, SqL.of hj, rfl, .inl ⟨_, rfl, _, rfl, _, _, rfl, rfl, w0, ?_⟩⟩
      refine ⟨_, rfl, a, _, 0, _, rfl, rfl, SqL.of hj, rfl, _, rfl, _, _, rfl, rfl, dv _, _, rfl, a, _, 0, 0, rfl, rfl, hj, rfl, ?_⟩
      refine ⟨_, rfl, ?_⟩
      exact q _ _ (Int.emod_nonneg _ (by omega)) (Int.emod_lt_of_pos _ w0) ⟨_, m, n, upd_same, m0, m1, n0, by omega⟩ (But.refl H a).upd
    · refine ifF (decide_eq_false hr0) ?_
      refine ⟨_, rfl, a, _, 2, _, rfl, rfl, SqL.of hj, rfl, _, _, rfl, rfl, _, rfl, a, _, 2, 2, rfl, rfl, hj, rfl, ?_⟩
      have hj2 : upd H a (.lst [.int r, .int m, .int (n + 1)]) a = some (.lst [.int r, .int m, .int (n + 1)]) := upd_same
      refine ⟨_, rfl, a, _, 1, _, rfl, rfl, SqL.of hj2, rfl, _, rfl, a, _, 2, _, rfl, rfl, SqL.of hj2, rfl, _, _, rfl, rfl, .inl ⟨by decide, by decide⟩, _, _, rfl, rfl, ?_⟩
      have e200 : (2 : Int) ^ 200 + 60000049 * 5001 < 2 ^ 250 := by decide +kernel
      refine ⟨_, _, rfl, rfl, cube_ok (by omega) (by omega), .inl ⟨_, rfl, _, _, rfl, rfl, ⟨by decide, by decide, by decide⟩, _, _, rfl, rfl, _, _, rfl, rfl, pos47, ?_⟩⟩
      generalize hx : ((m + 60000049 * (n + 1)) ^ Int.toNat 3) % (10 ^ Int.toNat 47 + 91) = x
      have x0 : 0 ≤ x := by
        rw [← hx]
        exact Int.emod_nonneg _ (by decide +kernel)
      have x1 : x < 10 ^ Int.toNat 47 + 91 := by
        rw [← hx]
        exact Int.emod_lt_of_pos _ (by decide +kernel)
      have e47 : (10 : Int) ^ Int.toNat 47 + 91 + 35000021 * 5001 < 2 ^ 250 := by decide +kernel
      refine ⟨_, rfl, _, rfl, a, _, 2, _, rfl, rfl, SqL.of hj2, rfl, _, _, rfl, rfl, .inl ⟨by decide, by decide⟩, _, _, rfl, rfl, _, _, rfl, rfl, cube_ok (by omega) (by omega), .inl ⟨_, rfl, _, _, rfl, rfl, ⟨by decide, by decide, by decide⟩, _, _, rfl, rfl, _, _, rfl, rfl, pos46, ?_⟩⟩
      refine ⟨_, rfl, _, _, rfl, rfl, wide_div (b := 31) (by decide) (by decide) (by decide) (by decide), .inl ⟨_, rfl, _, rfl, _, _, rfl, rfl, w0, ?_⟩⟩
      exact q _ _ (Int.emod_nonneg _ (by omega)) (Int.emod_lt_of_pos _ w0) ⟨r, m, n + 1, upd_same, m0, m1, by omega, by omega⟩ (But.refl H a).upd
end
end Cw
namespace Cw
open PySem L2
theorem at_of2 {α : Type} {xs : List α} {z : Int} {j : Nat} {v : α} (e : z = (j : Int)) (h : xs[j]? = some v) : atI xs z = some v := by
  rw [e]
  exact atI_nat h
theorem at_lt {α : Type} {xs : List α} {z : Int} (h0 : 0 ≤ z) (h1 : z < xs.length) : ∃ v, atI xs z = some v ∧ v ∈ xs := by
  have hz : z.toNat < xs.length := by omega
  have hj : z = ((z.toNat : Nat) : Int) := by omega
  exact ⟨xs[z.toNat], at_of2 hj (List.getElem?_eq_getElem hz), List.getElem_mem hz⟩
/-- one of three ints -/
theorem at3 {z x y u : Int} (h0 : 0 ≤ z) (h1 : z < 3) : ∃ v, atI [V.int x, V.int y, V.int u] z = some (V.int v) ∧ (v = x ∨ v = y ∨ v = u) := by
  obtain ⟨v, e, m⟩ := at_lt (xs := [V.int x, V.int y, V.int u]) h0 (by simpa using h1)
  simp only [List.mem_cons, List.not_mem_nil, or_false] at m
  rcases m with rfl | rfl | rfl
  · exact ⟨x, e, .inl rfl⟩
  · exact ⟨y, e, .inr (.inl rfl)⟩
  · exact ⟨u, e, .inr (.inr rfl)⟩
def spThree : Sp := fun vs H Q _ => ∃ (a : Addr) (k : Nat) (w : Int), vs = [.ref a, .int w] ∧ JarAt H a (k + 7) ∧ 0 < w ∧ w < 2 ^ 120 ∧
  ∀ (p : Addr) (H' : Hp) (l n g : Int), 1 ≤ l → l ≤ w → l ≤ n → n ≤ 2 * w + 3 → n ≤ g → g ≤ 3 * w + 6 → JarAt H' a k → But H H' a → H' p = some (.tup [.int l, .int n, .int g]) → H p = none → Q (.ref p) H'
theorem pos43 : (0 : Int) < 10 ^ Int.toNat 43 + 57 := by decide +kernel
section
variable {P : Program} {w : World} {K : PySem.W.Frag} {mg : Str → Option Value} {base : Heap}
theorem scJ : FnScope ["script", "k", "cell_here"] ["script", "k"] (defScope sJar) := ⟨rfl, rfl, rfl, by decide +kernel, rfl, by decide +kernel, by decide +kernel⟩
theorem ok_jar {f : Addr} {fd : FuncData} (F : Fun K "_law_jar" "_law_jar" sJar f fd) (T : Bl mg) : FnOk P w K mg base CX0 1 f fd ["script", "k"] (spJar K) := by
  refine F.ok scJ (fun vs H Q E h => ?_) (fun cdv A outer s H vs Q E hr h => ?_)
  · obtain ⟨a, ns, i, rfl, _⟩ := h
    rfl
  · obtain ⟨a, ns, i, rfl, hS, hi, hl, q⟩ := h
    refine ⟨_, pss_cons (ps_set (i := 2) scJ.nd rfl (Or.inl rfl) (pe_ifExp (pt_cmpR op_lt (pv 1) (pe_callB call_len_seq (by rfl) T.len PySem.boot_len (pa_cons (pv 0) pa_nil)) (nomark _))
        (pe_callB call_abs (by rfl) T.abs (by decide +kernel) (pa_cons (pe_ix ix_list (pv 0) (pv 1) (fun _ _ => rfl)) pa_nil)) pe_int))
      (pss_one (ps_ret (pe_lst (pa_cons (pe_callB (call_max2 rfl) (by rfl) T.max (by decide +kernel) (pa_cons pe_int (pa_cons (pe_op op_sub (pv 2) (pe_op op_pow pe_int pe_int)) pa_nil)))
        (pa_cons (pe_op op_add (pe_op op_mul (pe_op op_mod (pe_callTy call_int1 (by rfl) T.int (by decide +kernel) (pa_cons (pv 2) pa_nil)) (pe_op op_add (pe_op op_pow pe_int pe_int) pe_int)) pe_int) (pe_op op_mul pe_int (pv 1)))
        (pa_cons pe_int pa_nil)))))), ?_⟩
    have main : ∀ c : Int, 0 ≤ (c % (10 ^ Int.toNat 43 + 57)) * 101 + 70001 * (i : Int) ∧ (c % (10 ^ Int.toNat 43 + 57)) * 101 + 70001 * (i : Int) < 2 ^ 200 := fun c => by
      have x0 := Int.emod_nonneg c (b := 10 ^ Int.toNat 43 + 57) (by decide +kernel)
      have x1 := Int.emod_lt_of_pos c pos43
      have e : ((10 : Int) ^ Int.toNat 43 + 57) * 101 + 70001 * 64 < 2 ^ 200 := by decide +kernel
      omega
    refine ⟨_, rfl, _, rfl, a, _, rfl, .inl hS, _, _, rfl, rfl, _, rfl, ?_⟩
    by_cases hi2 : i < ns.length
    · refine ifT (decide_eq_true (by rw [List.length_map]; omega)) ?_
      have e1 : (ns.map V.int)[i]? = some (V.int ns[i]) := by
        rw [List.getElem?_map, List.getElem?_eq_getElem hi2]
        rfl
      refine ⟨_, rfl, _, rfl, a, _, _, _, rfl, rfl, hS, at_of2 (j := i) rfl e1, _, rfl, ?_⟩
      generalize (if ns[i] < 0 then -ns[i] else ns[i]) = c
      refine ⟨_, rfl, _, _, rfl, rfl, ⟨by decide, by decide, by decide⟩, _, _, rfl, rfl, _, _, rfl, ?_⟩
      refine ⟨_, rfl, .inl ⟨_, rfl, _, _, rfl, rfl, ⟨by decide, by decide, by decide⟩, _, _, rfl, rfl, _, _, rfl, rfl, pos43, _, _, rfl, rfl, .inr ⟨by decide, by decide⟩, _, rfl, _, _, rfl, rfl, .inl ⟨by decide, by decide⟩, _, _, rfl, rfl, ?_⟩⟩
      refine ⟨(by show 3 ≤ sizeLine; decide), fun p hp => ?_⟩
      exact q p _ (same_new (Same.refl H) hp) hp ⟨_, _, 0, upd_same, (main c).1, (main c).2, by decide, by decide⟩
    · refine ifF (decide_eq_false (by rw [List.length_map]; omega)) ?_
      refine ⟨_, rfl, _, _, rfl, rfl, ⟨by decide, by decide, by decide⟩, _, _, rfl, rfl, _, _, rfl, ?_⟩
      refine ⟨_, rfl, .inl ⟨_, rfl, _, _, rfl, rfl, ⟨by decide, by decide, by decide⟩, _, _, rfl, rfl, _, _, rfl, rfl, pos43, _, _, rfl, rfl, .inr ⟨by decide, by decide⟩, _, rfl, _, _, rfl, rfl, .inl ⟨by decide, by decide⟩, _, _, rfl, rfl, ?_⟩⟩
      refine ⟨(by show 3 ≤ sizeLine; decide), fun p hp => ?_⟩
      exact q p _ (same_new (Same.refl H) hp) hp ⟨_, _, 0, upd_same, (main 0).1, (main 0).2, by decide, by decide⟩
theorem scT : FnScope ["jar", "wide", "least", "normal"] ["jar", "wide"] (defScope sThree) := ⟨rfl, rfl, rfl, by decide +kernel, rfl, by decide +kernel, by decide +kernel⟩
theorem ok_three {f fD : Addr} {fd fdD : FuncData} (F : Fun K "_law_three" "_law_three" sThree f fd) (gD : mg "_law_dip" = some (.ref fD)) (kD : PySem.W.keepIn K (.ref fD) = true) (bD : Binds K fdD ["jar", "many"] []) (GD : FnOk P w K mg base CX0 1 fD fdD ["jar", "many"] spDip) :
    FnOk P w K mg base CX0 2 f fd ["jar", "wide"] spThree := by
  refine F.ok scT (fun vs H Q E h => ?_) (fun cdv A outer s H vs Q E hr h => ?_)
  · obtain ⟨a, k, w, rfl, _⟩ := h
    rfl
  · obtain ⟨a, k, w, rfl, J, w0, w1, q⟩ := h
    refine ⟨_, pss_cons (ps_set (i := 2) scT.nd rfl (Or.inl rfl) (pe_op op_add pe_int (pe_call GD hr rfl gD kD bD .nil pass0 (pa_cons (pv 0) (pa_cons (pv 1) pa_nil)))))
      (pss_cons (ps_set (i := 3) scT.nd rfl (Or.inl rfl) (pe_op op_add (pv 2) (pe_ix ix_list (pe_lst (pa_cons pe_int (pa_cons (pe_call GD hr rfl gD kD bD .nil pass0 (pa_cons (pv 0) (pa_cons (pv 1) pa_nil))) (pa_cons (pe_call GD hr rfl gD kD bD .nil pass0 (pa_cons (pv 0) (pa_cons pe_int pa_nil))) pa_nil))))
        (pe_call GD hr rfl gD kD bD .nil pass0 (pa_cons (pv 0) (pa_cons pe_int pa_nil))) (fun _ _ => rfl))))
      (pss_one (ps_ret (pe_tup (pa_cons (pv 2) (pa_cons (pv 3) (pa_cons (pe_op op_add (pv 3) (pe_ix ix_list (pe_lst (pa_cons pe_int (pa_cons (pe_call GD hr rfl gD kD bD .nil pass0 (pa_cons (pv 0) (pa_cons (pv 1) pa_nil))) (pa_cons (pe_op op_add pe_int (pe_call GD hr rfl gD kD bD .nil pass0 (pa_cons (pv 0) (pa_cons pe_int pa_nil)))) pa_nil))))
        (pe_call GD hr rfl gD kD bD .nil pass0 (pa_cons (pv 0) (pa_cons pe_int pa_nil))) (fun _ _ => rfl))) pa_nil))))))), ?_⟩
    have t3 : (0 : Int) < 3 ∧ (3 : Int) < 2 ^ 120 := ⟨by decide, by decide⟩
    refine ⟨_, rfl, _, rfl, a, k + 6, w, rfl, J, w0, w1, fun v1 H1 a1 b1 J1 B1 => ⟨_, _, rfl, rfl, ?_⟩⟩
    refine ⟨_, rfl, _, rfl, _, rfl, a, k + 5, w, rfl, J1, w0, w1, fun v2 H2 a2 b2 J2 B2 => ?_⟩
    refine ⟨_, rfl, a, k + 4, 3, rfl, J2, t3.1, t3.2, fun v3 H3 a3 b3 J3 B3 => ⟨(by show 3 ≤ sizeLine; decide), fun p hp => ?_⟩⟩
    have np : a ≠ p := J3.ne hp
    have Bp := ((B1.trans B2).trans B3).new (o := .lst [.int 0, .int v2, .int v3]) hp
    refine ⟨_, rfl, a, k + 3, 3, rfl, J3.put np, t3.1, t3.2, fun v4 H4 a4 b4 J4 B4 => ?_⟩
    obtain ⟨i1, e1, c1⟩ := at3 (x := 0) (y := v2) (u := v3) a4 b4
    refine ⟨p, _, _, _, rfl, rfl, SqL.of (B4 _ _ upd_same np.symm), e1, _, _, rfl, rfl, ?_⟩
    refine ⟨_, rfl, _, rfl, _, rfl, _, rfl, _, rfl, a, k + 2, w, rfl, J4, w0, w1, fun v5 H5 a5 b5 J5 B5 => ?_⟩
    refine ⟨_, rfl, a, k + 1, 3, rfl, J5, t3.1, t3.2, fun v6 H6 a6 b6 J6 B6 => ⟨_, _, rfl, rfl, (by show 3 ≤ sizeLine; decide), fun p2 hp2 => ?_⟩⟩
    have np2 : a ≠ p2 := J6.ne hp2
    have Bq := (((Bp.trans B4).trans B5).trans B6).new (o := .lst [.int 0, .int v5, .int (1 + v6)]) hp2
    refine ⟨_, rfl, a, k, 3, rfl, J6.put np2, t3.1, t3.2, fun v7 H7 a7 b7 J7 B7 => ?_⟩
    obtain ⟨i2, e2, c2⟩ := at3 (x := 0) (y := v5) (u := 1 + v6) a7 b7
    refine ⟨p2, _, _, _, rfl, rfl, SqL.of (B7 _ _ upd_same np2.symm), e2, _, _, rfl, rfl, (by show 3 ≤ sizeLine; decide), fun p3 hp3 => ?_⟩
    have Bz := (Bq.trans B7).new (o := .tup [.int (1 + v1), .int (1 + v1 + i1), .int (1 + v1 + i1 + i2)]) hp3
    have hH : H p3 = none := by
      cases e : H p3 with
      | none => rfl
      | some o =>
        have n : p3 ≠ a := fun x => by
          have z := J7.ne hp3
          exact z x.symm
        have z := (Bq.trans B7) _ _ e n
        rw [hp3] at z
        cases z
    refine q p3 _ (1 + v1) (1 + v1 + i1) (1 + v1 + i1 + i2) (by omega) (by omega) (by omega) (by omega) (by omega) (by omega) (J7.put (J7.ne hp3)) Bz upd_same hH
end
end Cw
namespace Cw
open PySem L2
abbrev sHeap : Stmt := top 28
/-! ## raw rows: a length, pairs of a place and a kind, three numbers -/
abbrev PrAt (H : Hp) : List Addr → List (Int × Int) → Prop := Paired (fun t (p : Int × Int) => H t = some (.tup [.int p.1, .int p.2]))
theorem PrAt.imp {H H' : Hp} : ∀ {ts : List Addr} {ps : List (Int × Int)}, PrAt H ts ps → (∀ t (p : Int × Int), H t = some (.tup [.int p.1, .int p.2]) → H' t = some (.tup [.int p.1, .int p.2])) → PrAt H' ts ps
  | _, _, .nil, _ => .nil
  | _, _, .cons h r, k => .cons (k _ _ h) (PrAt.imp r k)
theorem PrAt.app {H : Hp} : ∀ {ts us : List Addr} {ps qs : List (Int × Int)}, PrAt H ts ps → PrAt H us qs → PrAt H (ts ++ us) (ps ++ qs)
  | _, _, _, _, .nil, h => h
  | _, _, _, _, .cons a r, h => .cons a (PrAt.app r h)
theorem PrAt.len {H : Hp} : ∀ {ts : List Addr} {ps : List (Int × Int)}, PrAt H ts ps → ts.length = ps.length
  | _, _, .nil => rfl
  | _, _, .cons _ r => by rw [List.length_cons, List.length_cons, PrAt.len r]
theorem PrAt.get {H : Hp} : ∀ {ts : List Addr} {ps : List (Int × Int)} {i : Nat} {v : V}, PrAt H ts ps → (ts.map V.ref)[i]? = some v → ∃ t p, v = .ref t ∧ ps[i]? = some p ∧ H t = some (.tup [.int p.1, .int p.2])
  | _, _, 0, v, .cons (a := t) (b := p) a _, e => ⟨t, p, (Option.some.inj e).symm, rfl, a⟩
  | _, _, i + 1, v, .cons _ r, e => by
    obtain ⟨t, p, h1, h2, h3⟩ := PrAt.get (i := i) r e
    exact ⟨t, p, h1, h2, h3⟩
  | _, _, _, _, .nil, e => by simp at e
def RawAt (H : Hp) (p : Addr) (n : Int) (prs : List (Int × Int)) : Prop := ∃ l t ts, H p = some (.tup [.int n, .ref l, .ref t]) ∧ H l = some (.lst (ts.map V.ref)) ∧ PrAt H ts prs
theorem RawAt.imp {H H' : Hp} {p : Addr} {n : Int} {prs : List (Int × Int)} (r : RawAt H p n prs) (k : ∀ c o, H c = some o → (∀ r m n : Int, o ≠ .lst [.int r, .int m, .int n]) → H' c = some o) : RawAt H' p n prs := by
  obtain ⟨l, t, ts, h1, h2, h3⟩ := r
  refine ⟨l, t, ts, k _ _ h1 (fun _ _ _ z => nomatch z), k _ _ h2 (fun r m n z => ?_), h3.imp fun t p h => k _ _ h (fun _ _ _ z => nomatch z)⟩
  injection z with z
  cases ts with
  | nil => cases z
  | cons t ts => cases z
theorem RawAt.same {H H' : Hp} {p : Addr} {n : Int} {prs : List (Int × Int)} (r : RawAt H p n prs) (s : Same H H') : RawAt H' p n prs := r.imp fun c o e _ => s c o e
theorem RawAt.but {H H' : Hp} {p a : Addr} {k : Nat} {n : Int} {prs : List (Int × Int)} (r : RawAt H p n prs) (J : JarAt H a k) (s : But H H' a) : RawAt H' p n prs := r.imp fun c o e z => s c o e (J.no e z)
structure GoodP (n : Int) (prs : List (Int × Int)) : Prop where
  pos : 1 ≤ n
  len : prs.length ≤ 400
  rng : ∀ q ∈ prs, 1 ≤ q.1 ∧ q.1 ≤ n - 1 ∧ (q.2 = 1 ∨ q.2 = 2)
  asc : Asc (prs.map (·.1))
abbrev marksOf (prs : List (Int × Int)) : List Int := prs.map (·.1)
abbrev strictOf (prs : List (Int × Int)) : List Int := (prs.filter fun q => decide (q.2 = 2)).map (·.1)
theorem GoodP.good {n : Int} {prs : List (Int × Int)} (g : GoodP n prs) : Good n (marksOf prs) (strictOf prs) := by
  refine ⟨g.pos, by rw [List.length_map]; have := g.len; omega, fun x hx => ?_, g.asc, ?_, fun x hx => ?_⟩
  · obtain ⟨q, hq, rfl⟩ := List.mem_map.mp hx
    have := g.rng q hq
    exact ⟨this.1, this.2.1⟩
  · have z : List.Sublist (strictOf prs) (marksOf prs) := (List.filter_sublist).map _
    exact g.asc.sublist z
  · obtain ⟨q, hq, rfl⟩ := List.mem_map.mp hx
    exact List.mem_map.mpr ⟨q, (List.mem_filter.mp hq).1, rfl⟩
def spHeap (C : Addr) : Sp := fun vs H Q _ => ∃ (p : Addr) (n : Int) (prs : List (Int × Int)), vs = [.ref p] ∧ RawAt H p n prs ∧ GoodP n prs ∧ ∀ q H', Same H H' → RowNew C H H' q n (marksOf prs) (strictOf prs) → Q (.ref q) H'
theorem ref_at {ts : List Addr} {i : Nat} {x : V} (h : (ts.map V.ref)[i]? = some x) : i < ts.length := by
  have := (List.getElem?_eq_some_iff.mp h).1
  rwa [List.length_map] at this
theorem take_map2 {ps : List (Int × Int)} {i : Nat} {z : Int × Int} (h : ps[i]? = some z) : marksOf (ps.take (i + 1)) = marksOf (ps.take i) ++ [z.1] := by
  rw [List.take_add_one, h, marksOf, List.map_append]
  rfl
theorem take_fil2 {ps : List (Int × Int)} {i : Nat} {z : Int × Int} (h : ps[i]? = some z) : strictOf (ps.take (i + 1)) = strictOf (ps.take i) ++ (if z.2 = 2 then [z.1] else []) := by
  rw [List.take_add_one, h, strictOf, List.filter_append, List.map_append]
  congr 1
  show List.map _ (List.filter _ [z]) = _
  rw [List.filter_cons]
  by_cases c : z.2 = 2 <;> simp [c]
section
variable {P : Program} {w : World} {K : PySem.W.Frag} {mg : Str → Option Value} {base : Heap}
abbrev NH : List Str := ["raw", "spot", "kind"]
theorem scH : FnScope NH ["raw"] (defScope sHeap) := ⟨rfl, rfl, rfl, by decide +kernel, rfl, by decide +kernel, by decide +kernel⟩
theorem ok_heap {f C fI : Addr} {fd fdI : FuncData} (F : Fun K "_law_heap" "_law_heap" sHeap f fd) (R : Cl K mg C) (M : Mk K C fI) (bI : Binds K fdI NI []) (GI : FnOk P w K mg base CX0 5 fI fdI NI (spInit C)) :
    FnOk P w K mg base CX0 7 f fd ["raw"] (spHeap C) := by
  refine F.ok scH (fun vs H Q E h => ?_) (fun cdv A outer s H vs Q E hr h => ?_)
  · obtain ⟨p, n, prs, rfl, _⟩ := h
    rfl
  · obtain ⟨p, n, prs, rfl, ⟨l, t, ts, h1, h2, h3⟩, G, q⟩ := h
    refine ⟨_, pss_one (ps_ret (pe_make M GI hr rfl R.mgR bI .nil pass0 (pa_cons (pe_ix ix_tup (pv 0) pe_int (fun _ _ => rfl))
      (pa_cons (pe_lc (own := [("spot", 1), ("kind", 2)]) (g := gTup K 2 (gCons (gName 1) (gCons (gName 2) gNil))) (tt := tYes) rfl scH.nd (pi_list (pe_ix ix_tup (pv 0) pe_int (fun _ _ => rfl))) (blkOk_by (own := [("spot", 1), ("kind", 2)]) (N := NH) (sc := defScope sHeap) (by decide +kernel))
          (fun _ _ _ _ _ => pg_tup rfl (pgs_cons (pg_name (i := 1) scH.nd rfl (Or.inl rfl)) (pgs_cons (pg_name (i := 2) scH.nd rfl (Or.inl rfl)) pgs_nil))) (fun _ _ _ _ _ => pts_nil) (fun _ _ _ _ _ => pv 1))
      (pa_cons (pe_lc (own := [("spot", 1), ("kind", 2)]) (g := gTup K 2 (gCons (gName 1) (gCons (gName 2) gNil))) rfl scH.nd (pi_list (pe_ix ix_tup (pv 0) pe_int (fun _ _ => rfl))) (blkOk_by (own := [("spot", 1), ("kind", 2)]) (N := NH) (sc := defScope sHeap) (by decide +kernel))
          (fun _ _ _ _ _ => pg_tup rfl (pgs_cons (pg_name (i := 1) scH.nd rfl (Or.inl rfl)) (pgs_cons (pg_name (i := 2) scH.nd rfl (Or.inl rfl)) pgs_nil))) (fun _ _ _ _ _ => pts_one (pt_cmpR op_eq (pv 2) pe_int (nomark _))) (fun _ _ _ _ _ => pv 1)) pa_nil))))), ?_⟩
    have hl := G.len
    have lt := h3.len
    refine ⟨_, rfl, p, _, _, _, rfl, rfl, SqT.of h1, at_of2 (j := 0) rfl rfl, ?_⟩
    refine ⟨_, rfl, p, _, _, _, rfl, rfl, SqT.of h1, at_of2 (j := 1) rfl rfl, l, rfl, ⟨_, SqL.of h2⟩, fun D hD => ?_⟩
    refine lc_list (K := K) (a := l) (xs := ts.map V.ref) (fun i H' => Same H H' ∧ IL H' D (marksOf (prs.take i))) ⟨same_new (Same.refl H) hD, upd_same⟩ (fun i H' _ z => SqL.of (z.1 _ _ h2)) ?_ ?_
    · rintro i x H' hx ⟨s1, hD'⟩
      obtain ⟨u, z, rfl, hz, hu⟩ := h3.get hx
      have hil := ref_at hx
      refine ⟨u, _, rfl, SqT.of (s1 _ _ hu), rfl, _, _, rfl, _, _, rfl, rfl, rfl, ?_⟩
      unfold tYes
      refine iteT ?_
      refine ⟨_, rfl, _, hD', by rw [List.length_map, List.length_map, List.length_take]; exact small1000 (by omega), same_put s1 hD, ?_⟩
      show upd _ _ _ D = _
      rw [upd_same, ints_app, take_map2 hz]
    · rintro H1 ⟨s1, hD'⟩
      rw [List.length_map, lt, List.take_length] at hD'
      refine ⟨_, rfl, p, _, _, _, rfl, rfl, SqT.of (s1 _ _ h1), at_of2 (j := 1) rfl rfl, l, rfl, ⟨_, SqL.of (s1 _ _ h2)⟩, fun D2 hD2 => ?_⟩
      have nDD : D ≠ D2 := ne_of_none hD' hD2
      refine lc_list (K := K) (a := l) (xs := ts.map V.ref) (fun i H' => Same H1 H' ∧ IL H' D2 (strictOf (prs.take i))) ⟨same_new (Same.refl H1) hD2, upd_same⟩ (fun i H' _ z => SqL.of (z.1 _ _ (s1 _ _ h2))) ?_ ?_
      · rintro i x H' hx ⟨s2, hE⟩
        obtain ⟨u, z, rfl, hz, hu⟩ := h3.get hx
        have hil := ref_at hx
        have tf := take_fil2 hz
        refine ⟨u, _, rfl, SqT.of (s2 _ _ (s1 _ _ hu)), rfl, _, _, rfl, _, _, rfl, rfl, rfl, ?_⟩
        refine ⟨_, rfl, rfl, _, rfl, ?_⟩
        by_cases c : z.2 = 2
        · refine ifT (by simp [c]) ?_
          refine ⟨_, rfl, _, hE, ?_, same_put s2 hD2, ?_⟩
          · have z1 := List.length_filter_le (fun q : Int × Int => decide (q.2 = 2)) (prs.take i)
            rw [List.length_take] at z1
            rw [List.length_map, List.length_map]
            exact small1000 (by omega)
          · show upd _ _ _ D2 = _
            rw [upd_same, ints_app, tf, if_pos c]
        · refine ifF (by simp [c]) ?_
          refine ⟨s2, ?_⟩
          show H' D2 = _
          rw [hE, tf, if_neg c, List.append_nil]
      · rintro H2 ⟨s2, hE⟩
        rw [List.length_map, lt, List.take_length] at hE
        refine fun x dx nx nd ne => ?_
        have s3 : Same H2 (upd (upd H2 dx (.own x)) x (.ins C dx [])) := same_new (same_new (Same.refl H2) nd) (by rw [upd_ne (Ne.symm ne)]; exact nx)
        refine ⟨x, dx, D, D2, n, _, _, rfl, upd_same, s3 _ _ (s2 _ _ hD'), s3 _ _ hE, G.good, fun H5 row kp => ⟨rfl, ?_⟩⟩
        exact q x H5 (same_ins (s1.trans s2) nx nd kp) (row.mono fun c o e => ⟨o, s3 _ _ (s2 _ _ (s1 _ _ e))⟩)
end
end Cw
namespace Cw
open PySem L2
/-! ## min of four whole numbers -/
theorem min4_args (vs : List Value) (h : vs.length = 4) : argsOk "min" ⟨vs, []⟩ := by
  match vs, h with
  | [p, q, r, s], _ => unfold argsOk; kernel_rfl
section
variable {P : Program} {w : World} {A : Around} {E : Value → Shared → Prop} {s : Shared}
/-- min of four values whose tuple is walked -/
theorem min4_walked {vs : List Value} (h4 : vs.length = 4) {Q : Value → Shared → Prop}
    (go : wpAny (model P w) A.in1 (pyIter (.ref s.heap.objs.size)) (fun it s1 => ∃ J fs ws k Pv Sv less, it = .ref J ∧ Walks P w A.in1 J fs ws k Pv Sv ∧ Sv 0 s1.heap ∧ (∀ d ∈ fs, d < s1.heap.objs.size) ∧ 0 < k ∧ CmpOf P w A.in1 .Lt Pv less ∧
      ∀ v h1 t1, Pv (argBest less (k - 1)) v → (∀ d o, d ∉ ws → s1.heap.get? d = some o → h1.get? d = some o) → Q v { s1 with heap := h1, toks := t1 }) E
      { s with heap := s.heap.push { cls := .type "tuple", data := .seq vs.toArray } }) :
    wpAny (model P w) A (call (.builtin "min") vs) Q E s := by
  match vs, h4 with
  | [p, q, r, u], _ =>
    refine call_function_tree F.kind_min F.plain_min F.entry_min (min4_args [p, q, r, u] rfl) (wpAny_bind (wpAny_of_eq (a := [none, none]) rfl (wpAny_bind (wpAny_newObj_type (wpAny_bind (wpAny_mono go (fun it s1 g => ?_) fun _ _ e => e))))))
    obtain ⟨J, fs, ws, k, Pv, Sv, less, e, wk, st, fr, k0, cmp, out⟩ := g
    subst e
    have new : s1.heap.objs.size ∉ fs := fun m => absurd (fr _ m) (Nat.lt_irrefl _)
    have nm : (toString "min" ++ toString ".loop" : String) = "min.loop" := by decide
    refine wpAny_bind (wpAny_newObj_type ?_)
    rw [nm]
    refine wpAny_pure ⟨plainId_quiet F.plain_min_loop _, codeAny_min_loop_first wk less cmp s1.heap.objs.size new k0 (wk.frame _ _ _ st fun d _ o e => Heap.get?_push_of_some _ e) (Heap.get?_push_size _ rfl) fun v h1 t1 pv keep =>
      out v h1 t1 pv fun d o nd e => keep d o nd (Nat.ne_of_lt (Heap.lt_size e)) (Heap.get?_push_of_some _ e)⟩
theorem min4_ints {a b c d : Int} {t u x y : Tok} {Q : Value → Shared → Prop} (nh : A.handled = none)
    (out : ∀ m r h1 t1, (∀ z o, s.heap.get? z = some o → h1.get? z = some o) → (m = a ∨ m = b ∨ m = c ∨ m = d) → m ≤ a → m ≤ b → m ≤ c → m ≤ d → Q (.int m r) { s with heap := h1, toks := t1 }) :
    wpAny (model P w) A (call (.builtin "min") [.int a t, .int b u, .int c x, .int d y]) Q E s := by
  obtain ⟨xs, hxs⟩ : ∃ xs : Array (Int × Tok), xs = #[(a, t), (b, u), (c, x), (d, y)] := ⟨_, rfl⟩
  have items : intItems xs = #[.int a t, .int b u, .int c x, .int d y] := by rw [hxs]; simp [intItems]
  have tup : (s.heap.push { cls := .type "tuple", data := .seq #[.int a t, .int b u, .int c x, .int d y] }).IsTuple s.heap.objs.size (intItems xs) := ⟨_, Heap.get?_push_size _ rfl, rfl, 0, by rw [items]⟩
  have size1 : (s.heap.push { cls := .type "tuple", data := .seq #[.int a t, .int b u, .int c x, .int d y] }).objs.size = s.heap.objs.size + 1 := Heap.size_push ..
  have four : (intItems xs).size = 4 := by rw [items]; rfl
  have lt0 : s.heap.objs.size < s.heap.objs.size + 1 := Nat.lt_succ_self _
  refine min4_walked (vs := [.int a t, .int b u, .int c x, .int d y]) rfl (wpAny_pyIter_tuple tup ⟨_, [_, s.heap.objs.size], [_], _, _, _, _, rfl, Walks.tuple (A := A.in1) nh _ s.heap.objs.size (by rw [size1]; exact Nat.ne_of_lt lt0) (intItems xs),
    ⟨⟨_, Heap.get?_push_size _ rfl, rfl, rfl⟩, tup.push _⟩, fun z hz => ?_, by rw [four]; decide, CmpOf.ints_lt (numAt xs) (fun _ _ => intItems_at), fun v h1 t1 pv keep => ?_⟩)
  · show z < ((s.heap.push _).push _).objs.size
    rw [Heap.size_push, size1]
    simp only [List.mem_cons, List.not_mem_nil, or_false] at hz
    rcases hz with rfl | rfl
    · rw [size1]; exact Nat.lt_succ_self _
    · exact Nat.lt_succ_of_lt lt0
  have kept : ∀ z o, s.heap.get? z = some o → h1.get? z = some o := fun z o e => keep z o (fun m => by
    have l := Heap.lt_size e
    rw [List.mem_singleton.mp m, size1] at l
    exact Nat.lt_irrefl _ (Nat.lt_of_succ_lt l)) (Heap.get?_push_of_some _ (Heap.get?_push_of_some _ e))
  have pv3 : (intItems xs)[argBest (fun i j => decide (numAt xs i < numAt xs j)) 3]? = some v := by
    have e3 : (intItems xs).size - 1 = 3 := by rw [four]
    rw [← e3]
    exact pv
  obtain ⟨j3, least⟩ := argBest_lt (numAt xs) 3
  obtain ⟨r, rfl⟩ := intItems_at pv3
  have at0 : numAt xs 0 = a := by rw [hxs]; rfl
  have at1 : numAt xs 1 = b := by rw [hxs]; rfl
  have at2 : numAt xs 2 = c := by rw [hxs]; rfl
  have at3 : numAt xs 3 = d := by rw [hxs]; rfl
  refine out _ r h1 t1 kept ?_ (at0 ▸ least 0 (by decide)) (at1 ▸ least 1 (by decide)) (at2 ▸ least 2 (by decide)) (at3 ▸ least 3 (by decide))
  generalize argBest (fun i j => decide (numAt xs i < numAt xs j)) 3 = j at j3 ⊢
  match j, j3 with
  | 0, _ => exact .inl at0
  | 1, _ => exact .inr (.inl at1)
  | 2, _ => exact .inr (.inr (.inl at2))
  | 3, _ => exact .inr (.inr (.inr at3))
  | j + 4, h => omega
end
theorem vals4 {x y z u : V} {us : List Value} (r : Vals [x, y, z, u] us) : ∃ a b c d, us = [a, b, c, d] ∧ RelV x a ∧ RelV y b ∧ RelV z c ∧ RelV u d := by
  cases r with
  | cons r1 r2 =>
    obtain ⟨b, c, d, rfl, r3, r4, r5⟩ := vals3 r2
    exact ⟨_, b, c, d, rfl, r1, r3, r4, r5⟩
theorem call_min4 {X : Cx} (hc : X.calm = true) : CallR X (.builtin "min") (fun xs H Q => ∃ a b c d, xs = [.int a, .int b, .int c, .int d] ∧ ∀ m, (m = a ∨ m = b ∨ m = c ∨ m = d) → m ≤ a → m ≤ b → m ≤ c → m ≤ d → Q (.int m) H) := by
  intro pins s σ H xs us Q I r h
  obtain ⟨a, b, c, d, rfl, q⟩ := h
  obtain ⟨u1, u2, u3, u4, rfl, ⟨t, rfl⟩, ⟨t2, rfl⟩, ⟨t3, rfl⟩, ⟨t4, rfl⟩⟩ := vals4 r
  exact min4_ints (I.ok.hd hc) fun m r h2 tk k e1 l1 l2 l3 l4 => ⟨.int m, H, I.kept k, ⟨_, rfl⟩, q m e1 l1 l2 l3 l4⟩
end Cw
namespace Cw
open PySem L2
abbrev sCSet : Stmt := top 0
abbrev sCPl : Stmt := top 15
abbrev sCSz : Stmt := top 0
abbrev sCLen : Stmt := top 0
abbrev sNext : Stmt := top 0
abbrev sWalk : Stmt := top 0
abbrev sWithin : Stmt := top 0
abbrev sCWk : Stmt := top 0
abbrev sStep : Stmt := top 0
abbrev sCuts : Stmt := top 0
abbrev sFM : Stmt := top 0
abbrev sCB : Stmt := top 0
abbrev sMeet : Stmt := top 0
/-! ## how many are before -/
def cb (ns : List Int) (z : Int) : Nat := (ns.filter fun x => decide (x < z)).length
def fm (ns : List Int) (z e : Int) : Int := (ns[cb ns z]?).getD e
theorem cb_le {ns : List Int} {z : Int} : cb ns z ≤ ns.length := List.length_filter_le _ _
theorem cb_at {ns : List Int} {z : Int} {k : Nat} (hk : k ≤ ns.length) (h1 : ∀ i, i < k → ∀ x, ns[i]? = some x → x < z) (h2 : ∀ i, k ≤ i → ∀ x, ns[i]? = some x → z ≤ x) : cb ns z = k := by
  have e : ns = ns.take k ++ ns.drop k := (List.take_append_drop k ns).symm
  unfold cb
  rw [e, List.filter_append, List.length_append]
  have a1 : (ns.take k).filter (fun x => decide (x < z)) = ns.take k := List.filter_eq_self.mpr fun x hx => by
    obtain ⟨i, hi, rfl⟩ := List.mem_iff_getElem.mp hx
    rw [List.length_take] at hi
    refine decide_eq_true (h1 i (by omega) _ ?_)
    rw [List.getElem_take]
    exact List.getElem?_eq_getElem (by omega)
  have a2 : (ns.drop k).filter (fun x => decide (x < z)) = [] := List.filter_eq_nil_iff.mpr fun x hx => by
    obtain ⟨i, hi, rfl⟩ := List.mem_iff_getElem.mp hx
    rw [List.length_drop] at hi
    have := h2 (k + i) (by omega) (ns.drop k)[i] (by rw [List.getElem_drop]; exact List.getElem?_eq_getElem (by omega))
    simp only [decide_eq_true_eq]
    omega
  rw [a1, a2, List.length_take]
  simp
  omega
theorem asc_ix {ns : List Int} (h : Asc ns) {i j : Nat} {x y : Int} (hij : i < j) (hx : ns[i]? = some x) (hy : ns[j]? = some y) : x < y := by
  obtain ⟨li, rfl⟩ := List.getElem?_eq_some_iff.mp hx
  obtain ⟨lj, rfl⟩ := List.getElem?_eq_some_iff.mp hy
  exact List.pairwise_iff_getElem.mp h i j li lj hij
/-- what stands on both sides of the number of those before -/
theorem cb_split {ns : List Int} (h : Asc ns) (z : Int) : (∀ i, i < cb ns z → ∀ x, ns[i]? = some x → x < z) ∧ (∀ i, cb ns z ≤ i → ∀ x, ns[i]? = some x → z ≤ x) := by
  induction ns with
  | nil => exact ⟨fun i _ x e => by simp at e, fun i _ x e => by simp at e⟩
  | cons a r ih =>
    obtain ⟨ha, hr⟩ := List.pairwise_cons.mp h
    obtain ⟨i1, i2⟩ := ih hr
    by_cases c : a < z
    · have e : cb (a :: r) z = cb r z + 1 := by
        unfold cb
        rw [List.filter_cons, if_pos (decide_eq_true c)]
        rfl
      rw [e]
      refine ⟨fun i hi x hx => ?_, fun i hi x hx => ?_⟩
      · cases i with
        | zero => cases hx; exact c
        | succ i => exact i1 i (by omega) x hx
      · cases i with
        | zero => omega
        | succ i => exact i2 i (by omega) x hx
    · have e : cb (a :: r) z = 0 := by
        unfold cb
        rw [List.filter_eq_nil_iff.mpr fun x hx => ?_]
        · rfl
        · rcases List.mem_cons.mp hx with rfl | hx
          · simpa using c
          · have := ha x hx
            simp only [decide_eq_true_eq]
            omega
      rw [e]
      refine ⟨fun i hi => by omega, fun i _ x hx => ?_⟩
      cases i with
      | zero => cases hx; omega
      | succ i =>
        have := ha x (List.mem_of_getElem? hx)
        omega
theorem fm_or {ns : List Int} (h : Asc ns) (z e : Int) : (fm ns z e ∈ ns ∧ z ≤ fm ns z e) ∨ (fm ns z e = e ∧ ∀ x ∈ ns, x < z) := by
  obtain ⟨h1, h2⟩ := cb_split h z
  unfold fm
  by_cases c : cb ns z < ns.length
  · have hg := List.getElem?_eq_getElem c
    rw [hg]
    exact .inl ⟨List.getElem_mem c, h2 _ (Nat.le_refl _) _ hg⟩
  · rw [List.getElem?_eq_none (by omega)]
    refine .inr ⟨rfl, fun x hx => ?_⟩
    obtain ⟨i, hi, rfl⟩ := List.mem_iff_getElem.mp hx
    exact h1 i (by omega) _ (List.getElem?_eq_getElem hi)
theorem fm_le {ns : List Int} (h : Asc ns) {z e x : Int} (hx : x ∈ ns) (hz : z ≤ x) : fm ns z e ≤ x := by
  obtain ⟨h1, h2⟩ := cb_split h z
  obtain ⟨i, hi, rfl⟩ := List.mem_iff_getElem.mp hx
  have hg := List.getElem?_eq_getElem hi
  have c : cb ns z ≤ i := by
    by_cases c : i < cb ns z
    · have := h1 i c _ hg
      omega
    · omega
  unfold fm
  by_cases d : cb ns z = i
  · rw [d, hg]
    exact Int.le_refl _
  · have l : cb ns z < ns.length := by omega
    rw [List.getElem?_eq_getElem l]
    have := asc_ix h (by omega : cb ns z < i) (List.getElem?_eq_getElem l) hg
    show ns[cb ns z] ≤ ns[i]
    omega
theorem fm_top {ns : List Int} (h : Asc ns) {z e : Int} (k : ∀ x ∈ ns, x ≤ e) : fm ns z e ≤ e := by
  rcases fm_or h z e with ⟨m, _⟩ | ⟨m, _⟩
  · exact k _ m
  · omega
theorem fm_mono {ns : List Int} (h : Asc ns) {z y e : Int} (k : ∀ x ∈ ns, x ≤ e) (hz : z ≤ y) : fm ns z e ≤ fm ns y e := by
  rcases fm_or h y e with ⟨m, l⟩ | ⟨m, _⟩
  · exact fm_le h m (by omega)
  · rw [m]
    exact fm_top h k
def spCB : Sp := fun vs H Q _ => ∃ (a : Addr) (ns : List Int) (z : Int), vs = [.ref a, .int z] ∧ IL H a ns ∧ ns.length ≤ 1000 ∧ Asc ns ∧ Q (.int (cb ns z)) H
def spFM : Sp := fun vs H Q _ => ∃ (a : Addr) (ns : List Int) (z e : Int), vs = [.ref a, .int z, .int e] ∧ IL H a ns ∧ ns.length ≤ 1000 ∧ Asc ns ∧ Q (.int (fm ns z e)) H
def muCB : St → Hp → Nat := fun σ _ => match σ with | [_, _, some (.int lo), some (.int hi), _] => (hi - lo).toNat | _ => 0
section
variable {P : Program} {w : World} {K : PySem.W.Frag} {mg : Str → Option Value} {base : Heap}
abbrev NCB : List Str := ["places", "place", "low", "high", "middle"]
abbrev NFM : List Str := ["marks", "place", "end", "at"]
end
end Cw
namespace Cw
open PySem L2
abbrev sGetL : Stmt := inClass sRow 1
abbrev sGetS : Stmt := inClass sRow 3
def spGetL (C : Addr) : Sp := fun vs H Q _ => ∃ (a : Addr) (n : Int) (ms ss : List Int), vs = [.ref a] ∧ RowAt C H a n ms ss ∧ Q (.int n) H
def spGetS (C : Addr) : Sp := fun vs H Q _ => ∃ (a : Addr) (n : Int) (ms ss : List Int), vs = [.ref a] ∧ RowAt C H a n ms ss ∧ ∀ p H', Same H H' → H p = none → IL H' p ss → Q (.ref p) H'
/-! ## the next cut -/
def nx (n : Int) (ms ss : List Int) (l m g p : Int) : Int := min (min (fm ss (p + l) n) (fm ms (p + m) n)) (min (p + g) n)
/-- settings -/
structure SetOk (l m g : Int) : Prop where
  l1 : 1 ≤ l
  lm : l ≤ m
  mg : m ≤ g
/-- what a step does -/
structure Stp (F : Int → Int) (n l : Int) : Prop where
  l1 : 1 ≤ l
  le : ∀ p, F p ≤ n
  ge : ∀ p, p + l ≤ F p ∨ F p = n
  mono : ∀ p q, p ≤ q → F p ≤ F q
theorem Stp.gt {F : Int → Int} {n l p : Int} (S : Stp F n l) (h : p < n) : p < F p := by
  have := S.ge p
  have := S.l1
  omega
theorem nx_stp {n l m g : Int} {ms ss : List Int} (G : Good n ms ss) (S : SetOk l m g) : Stp (nx n ms ss l m g) n l := by
  have k1 : ∀ x ∈ ms, x ≤ n := fun x hx => by have := G.rng x hx; omega
  have k2 : ∀ x ∈ ss, x ≤ n := fun x hx => k1 x (G.sub x hx)
  have s1 := S.l1
  have s2 := S.lm
  have s3 := S.mg
  refine ⟨s1, fun p => ?_, fun p => ?_, fun p q h => ?_⟩
  · unfold nx
    omega
  · have a := fm_or G.asc2 (p + l) n
    have b := fm_or G.asc (p + m) n
    unfold nx
    omega
  · have a := fm_mono G.asc2 k2 (z := p + l) (y := q + l) (by omega)
    have b := fm_mono G.asc k1 (z := p + m) (y := q + m) (by omega)
    unfold nx
    omega
/-! ## walks -/
def kc (F : Int → Int) (n s : Int) : Nat → Int
  | 0 => s
  | k + 1 => if kc F n s k < n then F (kc F n s k) else kc F n s k
def wl (F : Int → Int) (n s : Int) (m : Nat) : List Int := (List.range (m + 1)).map (kc F n s)
theorem wl_succ {F : Int → Int} {n s : Int} {m : Nat} : wl F n s (m + 1) = wl F n s m ++ [kc F n s (m + 1)] := by
  unfold wl
  rw [List.range_succ, List.map_append]
  rfl
theorem wl_len {F : Int → Int} {n s : Int} {m : Nat} : (wl F n s m).length = m + 1 := by
  unfold wl
  rw [List.length_map, List.length_range]
theorem kc_le {F : Int → Int} {n l s : Int} (S : Stp F n l) (h : s ≤ n) : ∀ k, kc F n s k ≤ n
  | 0 => h
  | k + 1 => by
    have i := kc_le S h k
    unfold kc
    by_cases c : kc F n s k < n
    · rw [if_pos c]
      exact S.le _
    · rw [if_neg c]
      exact i
theorem kc_ge {F : Int → Int} {n l s : Int} (S : Stp F n l) : ∀ k : Nat, kc F n s k < n → s + k * l ≤ kc F n s k
  | 0, _ => by
    show s + ((0 : Nat) : Int) * l ≤ s
    simp
  | k + 1, h => by
    by_cases c : kc F n s k < n
    · have e : kc F n s (k + 1) = F (kc F n s k) := if_pos c
      have i := kc_ge S k c
      have z := S.ge (kc F n s k)
      rw [e] at h ⊢
      have w : ((k + 1 : Nat) : Int) * l = k * l + l := by
        rw [Int.natCast_add, Int.add_mul]
        simp
      rw [w]
      omega
    · have e : kc F n s (k + 1) = kc F n s k := if_neg c
      omega
theorem kc_few {F : Int → Int} {n l s : Int} (S : Stp F n l) (h0 : 0 ≤ s) (b : n ≤ 200 * l) {k : Nat} (h : kc F n s k < n) : k < 200 := by
  have z := kc_ge S k h
  have l1 := S.l1
  by_cases c : k < 200
  · exact c
  · have w : (200 : Int) * l ≤ k * l := Int.mul_le_mul_of_nonneg_right (by omega) (by omega)
    omega
theorem kc_at {F : Int → Int} {n s : Int} {k : Nat} (h : kc F n s k < n) : kc F n s (k + 1) = F (kc F n s k) := if_pos h
theorem kc_end {F : Int → Int} {n s : Int} {m : Nat} (h : ¬ kc F n s m < n) : ∀ j, kc F n s (m + j) = kc F n s m
  | 0 => rfl
  | j + 1 => by
    have i := kc_end h j
    show (if kc F n s (m + j) < n then F (kc F n s (m + j)) else kc F n s (m + j)) = _
    rw [i, if_neg h]
/-- how many cuts a walk has -/
structure WkOk (F : Int → Int) (n s : Int) (m : Nat) : Prop where
  few : m ≤ 200
  fin : kc F n s m = n
  bef : ∀ i, i < m → kc F n s i < n
def spStep (C : Addr) : Sp := fun vs H Q _ => ∃ (r t : Addr) (n l m g p : Int) (ms ss : List Int), vs = [.ref r, .ref t, .int p] ∧ RowAt C H r n ms ss ∧ H t = some (.tup [.int l, .int m, .int g]) ∧ Good n ms ss ∧ ∀ H', Same H H' → Q (.int (nx n ms ss l m g p)) H'
def spCuts (C : Addr) : Sp := fun vs H Q _ => ∃ (r t : Addr) (n l m g p : Int) (ms ss : List Int), vs = [.ref r, .ref t, .int p] ∧ RowAt C H r n ms ss ∧ H t = some (.tup [.int l, .int m, .int g]) ∧ Good n ms ss ∧ SetOk l m g ∧ n ≤ 200 * l ∧ 0 ≤ p ∧ p ≤ n ∧
  ∀ q H' k, Same H H' → H q = none → WkOk (nx n ms ss l m g) n p k → IL H' q (wl (nx n ms ss l m g) n p k) → Q (.ref q) H'
/-- the getters -/
structure Gets (P : Program) (w : World) (K : PySem.W.Frag) (mg : Str → Option Value) (base : Heap) (C pL fL pM fM pS fS : Addr) (dL dM dS : FuncData) : Prop where
  hL : PropOf K C "length" pL fL
  bL : Binds K dL ["self"] []
  GL : FnOk P w K mg base CX0 1 fL dL ["self"] (spGetL C)
  hM : PropOf K C "marks" pM fM
  bM : Binds K dM ["self"] []
  GM : FnOk P w K mg base CX0 1 fM dM ["self"] (spGetM C)
  hS : PropOf K C "strict" pS fS
  bS : Binds K dS ["self"] []
  GS : FnOk P w K mg base CX0 1 fS dS ["self"] (spGetS C)
section
variable {P : Program} {w : World} {K : PySem.W.Frag} {mg : Str → Option Value} {base : Heap}
theorem scGL : FnScope ["self"] ["self"] (defScope sGetL) := ⟨rfl, rfl, rfl, by decide +kernel, rfl, by decide +kernel, by decide +kernel⟩
theorem ok_getL {f C : Addr} {fd : FuncData} (F : Fun K "length" "Row.length" sGetL f fd) (R : Cl K mg C) : FnOk P w K mg base CX0 1 f fd ["self"] (spGetL C) := by
  refine F.ok scGL (fun vs H Q E h => ?_) (fun cdv A outer s H vs Q E hr h => ?_)
  · obtain ⟨a, n, ms, ss, rfl, _⟩ := h
    rfl
  · obtain ⟨a, n, ms, ss, rfl, ⟨dx, l1, l2, ho, h1, h2⟩, k⟩ := h
    refine ⟨_, pss_one (ps_ret (pe_fld (pv 0) rfl)), ?_⟩
    exact ⟨_, rfl, a, C, dx, _, _, rfl, ho, R.cl, R.nL, fl_L _ _ _, k⟩
theorem scGS : FnScope ["self"] ["self"] (defScope sGetS) := ⟨rfl, rfl, rfl, by decide +kernel, rfl, by decide +kernel, by decide +kernel⟩
theorem ok_getS {f C : Addr} {fd : FuncData} (F : Fun K "strict" "Row.strict" sGetS f fd) (T : Bl mg) (R : Cl K mg C) : FnOk P w K mg base CX0 1 f fd ["self"] (spGetS C) := by
  refine F.ok scGS (fun vs H Q E h => ?_) (fun cdv A outer s H vs Q E hr h => ?_)
  · obtain ⟨a, n, ms, ss, rfl, _⟩ := h
    rfl
  · obtain ⟨a, n, ms, ss, rfl, ⟨dx, l1, l2, ho, h1, h2⟩, k⟩ := h
    refine ⟨_, pss_one (ps_ret (pe_callTy call_list_of (by rfl) T.list (by decide +kernel) (pa_cons (pe_fld (pv 0) rfl) pa_nil))), ?_⟩
    refine ⟨_, rfl, a, C, dx, _, _, rfl, ho, R.cl, R.nS, fl_S _ _ _, l2, _, rfl, .inl (SqL.of h2), fun p hp => ?_⟩
    exact k p _ (same_new (Same.refl H) hp) hp upd_same
abbrev NSt : List Str := ["row", "settings", "place", "least", "normal", "greatest", "strict", "either"]
end
end Cw
namespace Cw
open PySem L2
def spCSet : Sp := fun vs H Q _ => ∃ (t : Addr) (l m g : Int), vs = [.ref t] ∧ H t = some (.tup [.int l, .int m, .int g]) ∧ SetOk l m g ∧ ∀ H', Same H H' → Q .non H'
def spPl : Sp := fun vs H Q _ => ∃ p lo hi : Int, vs = [.int p, .int lo, .int hi] ∧ lo ≤ p ∧ p ≤ hi ∧ Q .non H
def spSz (C : Addr) : Sp := fun vs H Q _ => ∃ (r t : Addr) (n l m g : Int) (ms ss : List Int), vs = [.ref r, .ref t] ∧ RowAt C H r n ms ss ∧ H t = some (.tup [.int l, .int m, .int g]) ∧ n ≤ 200 * l ∧ Q .non H
def spLen : Sp := fun vs H Q _ => ∃ (t : Addr) (n l m g : Int), vs = [.int n, .ref t] ∧ H t = some (.tup [.int l, .int m, .int g]) ∧ n ≤ 200 * l ∧ Q .non H
def lastZ : List V → Int
  | [.int z] => z
  | _ :: x :: r => lastZ (x :: r)
  | _ => 0
theorem lastZ_app (z : Int) : ∀ xs : List V, lastZ (xs ++ [.int z]) = z
  | [] => rfl
  | [x] => by cases x <;> rfl
  | x :: y :: r => by
    have i := lastZ_app z (y :: r)
    show lastZ (x :: y :: (r ++ [V.int z])) = z
    cases x <;> exact i
def muCu (n : Int) (D : Addr) : St → Hp → Nat := fun _ H => (n - (match H D with | some (.lst xs) => lastZ xs | _ => 0)).toNat
theorem muCu_at {n z : Int} {D : Addr} {H : Hp} {σ : St} {xs : List V} (h : H D = some (.lst (xs ++ [.int z]))) : muCu n D σ H = (n - z).toNat := by
  unfold muCu
  rw [h]
  show (n - lastZ (xs ++ [V.int z])).toNat = _
  rw [lastZ_app]
section
variable {P : Program} {w : World} {K : PySem.W.Frag} {mg : Str → Option Value} {base : Heap}
abbrev NCS : List Str := ["settings", "least", "normal", "greatest", "number"]
theorem scPl : FnScope ["place", "low", "high"] ["place", "low", "high"] (defScope sCPl) := ⟨rfl, rfl, rfl, by decide +kernel, rfl, by decide +kernel, by decide +kernel⟩
theorem ok_pl {f fI : Addr} {fd fdI : FuncData} (F : Fun K "check_place" "check_place" sCPl f fd) (gI : mg "is_integer" = some (.ref fI)) (kI : PySem.W.keepIn K (.ref fI) = true) (bI : Binds K fdI ["thing"] []) (GI : FnOk P w K mg base CX0 1 fI fdI ["thing"] spOne) :
    FnOk P w K mg base CX0 2 f fd ["place", "low", "high"] spPl := by
  refine F.ok scPl (fun vs H Q E h => ?_) (fun cdv A outer s H vs Q E hr h => ?_)
  · obtain ⟨p, lo, hi, rfl, _⟩ := h
    rfl
  · obtain ⟨p, lo, hi, rfl, h1, h2, q⟩ := h
    refine ⟨_, pss_one (ps_if (PW.pt (pw_or (pt_not (pt_val (pe_call GI hr rfl gI kI bI .nil pass0 (pa_cons (pv 0) pa_nil)))) (pw_or1 (pt_not (pt_chain op_le op_le (pv 1) (pv 0) (pv 2)))))) pss_never pss_nil), ?_⟩
    refine ⟨_, rfl, _, rfl, _, rfl, ?_⟩
    refine ifF rfl ?_
    refine ⟨_, rfl, _, rfl, _, _, rfl, rfl, _, rfl, ?_⟩
    refine ifT (decide_eq_true h1) ?_
    refine ⟨_, rfl, _, _, rfl, rfl, _, rfl, ?_⟩
    refine ifF (by simp [h2]) ?_
    exact q
abbrev NCu : List Str := ["row", "settings", "start", "cuts"]
end
end Cw
namespace Cw
open PySem L2
theorem kc_lt {F : Int → Int} {n l s : Int} {m : Nat} (S : Stp F n l) (w : WkOk F n s m) {i j : Nat} (hij : i < j) (hj : j ≤ m) : kc F n s i < kc F n s j := by
  induction j with
  | zero => omega
  | succ j ih =>
    have c := w.bef j (by omega)
    have e := S.gt c
    rw [kc_at c]
    by_cases d : i = j
    · rw [d]
      exact e
    · have := ih (by omega) (by omega)
      omega
theorem wl_asc {F : Int → Int} {n l s : Int} {m : Nat} (S : Stp F n l) (w : WkOk F n s m) : Asc (wl F n s m) := by
  unfold wl
  refine List.pairwise_map.mpr ?_
  refine (List.pairwise_lt_range (n := m + 1)).imp_of_mem fun {i j} hi hj hij => ?_
  rw [List.mem_range] at hj
  exact kc_lt S w hij (by omega)
theorem kc_mem {F : Int → Int} {n s : Int} {m : Nat} {x : Int} : x ∈ wl F n s m ↔ ∃ i, i ≤ m ∧ kc F n s i = x := by
  unfold wl
  rw [List.mem_map]
  constructor
  · rintro ⟨i, hi, rfl⟩
    exact ⟨i, by rw [List.mem_range] at hi; omega, rfl⟩
  · rintro ⟨i, hi, rfl⟩
    exact ⟨i, by rw [List.mem_range]; omega, rfl⟩
/-- all that the calls of a row with settings want -/
structure RwS (C : Addr) (H : Hp) (r t : Addr) (n l m g : Int) (ms ss : List Int) : Prop where
  row : RowAt C H r n ms ss
  tup : H t = some (.tup [.int l, .int m, .int g])
  good : Good n ms ss
  set : SetOk l m g
  big : n ≤ 200 * l
theorem RwS.same {C : Addr} {H H' : Hp} {r t : Addr} {n l m g : Int} {ms ss : List Int} (R : RwS C H r t n l m g ms ss) (s : Same H H') : RwS C H' r t n l m g ms ss := ⟨R.row.same s, s _ _ R.tup, R.good, R.set, R.big⟩
def spCW (C : Addr) : Sp := fun vs H Q _ => ∃ (r t c : Addr) (n l m g : Int) (ms ss ps : List Int), vs = [.ref r, .ref t, .ref c] ∧ RwS C H r t n l m g ms ss ∧ IL H c ps ∧ ps.length ≤ 1000 ∧ (∀ i, i < ps.length → (0 :: ps).getD i 0 ≤ ps.getD i 0 ∧ ps.getD i 0 ≤ n) ∧ ∀ H', Same H H' → Q .non H'
def spNext (C : Addr) : Sp := fun vs H Q _ => ∃ (r t : Addr) (n l m g p : Int) (ms ss : List Int), vs = [.ref r, .ref t, .int p] ∧ RwS C H r t n l m g ms ss ∧ 0 ≤ p ∧ p < n ∧ ∀ H', Same H H' → Q (.int (nx n ms ss l m g p)) H'
def spWalk (C : Addr) : Sp := fun vs H Q _ => ∃ (r t : Addr) (n l m g p : Int) (ms ss : List Int), vs = [.ref r, .ref t, .int p] ∧ RwS C H r t n l m g ms ss ∧ 0 ≤ p ∧ p ≤ n ∧
  ∀ q H' k, Same H H' → H q = none → WkOk (nx n ms ss l m g) n p k → IL H' q (wl (nx n ms ss l m g) n p k) → Q (.ref q) H'
def spWithin (C : Addr) : Sp := fun vs H Q _ => ∃ (r t : Addr) (n l m g p lo hi : Int) (ms ss : List Int), vs = [.ref r, .ref t, .int p, .int lo, .int hi] ∧ RwS C H r t n l m g ms ss ∧ 0 ≤ p ∧ p ≤ lo ∧ lo ≤ hi ∧ hi ≤ n ∧
  ∀ H' k, Same H H' → WkOk (nx n ms ss l m g) n p k → Q (.int ((cb (wl (nx n ms ss l m g) n p k) hi : Nat) - (cb (wl (nx n ms ss l m g) n p k) lo : Nat) : Int)) H'
section
variable {P : Program} {w : World} {K : PySem.W.Frag} {mg : Str → Option Value} {base : Heap}
abbrev NCW : List Str := ["row", "settings", "places", "low", "place"]
abbrev NWi : List Str := ["row", "settings", "start", "low", "high", "cuts"]
end
end Cw
namespace Cw
open PySem L2
theorem take_fil {ns : List Int} {i : Nat} {z : Int} (h : ns[i]? = some z) (p : Int → Bool) : (ns.take (i + 1)).filter p = (ns.take i).filter p ++ (if p z = true then [z] else []) := by
  rw [List.take_add_one, h, List.filter_append]
  congr 1
  show List.filter p [z] = _
  rw [List.filter_cons]
  rfl
/-- a raw row with its three numbers -/
def RawS (H : Hp) (p : Addr) (n : Int) (prs : List (Int × Int)) (l m g : Int) : Prop := ∃ lp t ts, H p = some (.tup [.int n, .ref lp, .ref t]) ∧ H lp = some (.lst (ts.map V.ref)) ∧ PrAt H ts prs ∧ H t = some (.tup [.int l, .int m, .int g])
theorem RawS.raw {H : Hp} {p : Addr} {n : Int} {prs : List (Int × Int)} {l m g : Int} (r : RawS H p n prs l m g) : RawAt H p n prs := by
  obtain ⟨lp, t, ts, h1, h2, h3, _⟩ := r
  exact ⟨lp, t, ts, h1, h2, h3⟩
theorem RawS.but {H H' : Hp} {p a : Addr} {k : Nat} {n : Int} {prs : List (Int × Int)} {l m g : Int} (r : RawS H p n prs l m g) (J : JarAt H a k) (s : But H H' a) : RawS H' p n prs l m g := by
  obtain ⟨lp, t, ts, h1, h2, h3, h4⟩ := r
  refine ⟨lp, t, ts, s _ _ h1 (J.no h1 fun _ _ _ z => nomatch z), s _ _ h2 (J.no h2 fun r m n z => ?_), h3.imp fun t p h => s _ _ h (J.no h fun _ _ _ z => nomatch z), s _ _ h4 (J.no h4 fun _ _ _ z => nomatch z)⟩
  injection z with z
  cases ts with
  | nil => cases z
  | cons t ts => cases z
def spSmall : Sp := fun vs H Q _ => ∃ (a : Addr) (k : Nat) (mo : Int), vs = [.ref a, .int mo] ∧ 1 ≤ mo ∧ mo ≤ 40 ∧ JarAt H a (k + 60) ∧ ∀ (p : Addr) (H' : Hp) (n l m g : Int) (prs : List (Int × Int)), n ≤ mo → GoodP n prs → prs.length ≤ 39 → RawS H' p n prs l m g → SetOk l m g → n ≤ 200 * l → g ≤ 10000000000000000000000000000 → JarAt H' a k → But H H' a → Q (.ref p) H'
theorem asc_snoc {ms : List Int} {z : Int} (h : Asc ms) (k : ∀ x ∈ ms, x < z) : Asc (ms ++ [z]) := by
  rw [Asc, List.pairwise_append]
  refine ⟨h, List.pairwise_singleton _ _, fun x hx y hy => ?_⟩
  rw [List.mem_singleton.mp hy]
  exact k x hx
/-- what the loop has found: the pairs, all below the place i -/
structure Found (i : Int) (prs : List (Int × Int)) : Prop where
  rng : ∀ q ∈ prs, 1 ≤ q.1 ∧ q.1 < i ∧ (q.2 = 1 ∨ q.2 = 2)
  asc : Asc (prs.map (·.1))
theorem Found.nil (i : Int) : Found i [] := ⟨fun _ h => (nomatch h), List.Pairwise.nil⟩
theorem Found.up {i : Int} {prs : List (Int × Int)} (h : Found i prs) : Found (i + 1) prs := by
  refine ⟨fun q hq => ?_, h.asc⟩
  have := h.rng q hq
  omega
theorem Found.snoc {i : Int} {prs : List (Int × Int)} {z : Int} (h : Found i prs) (h0 : 1 ≤ i) (hz : z = 1 ∨ z = 2) : Found (i + 1) (prs ++ [(i, z)]) := by
  refine ⟨fun q hq => ?_, ?_⟩
  · rcases List.mem_append.mp hq with hq | hq
    · have := h.rng q hq
      omega
    · rw [List.mem_singleton.mp hq]
      refine ⟨h0, ?_, hz⟩
      show i < i + 1
      omega
  · rw [List.map_append]
    refine asc_snoc h.asc fun x hx => ?_
    obtain ⟨q, hq, rfl⟩ := List.mem_map.mp hx
    exact (h.rng q hq).2.1
section
variable {P : Program} {w : World} {K : PySem.W.Frag} {mg : Str → Option Value} {base : Heap}
abbrev NSm : List Str := ["jar", "most", "length", "way", "found", "spot", "kind"]
theorem scSm : FnScope NSm ["jar", "most"] (defScope sSmall) := ⟨rfl, rfl, rfl, by decide +kernel, rfl, by decide +kernel, by decide +kernel⟩
theorem ok_small {f fD fT : Addr} {fd fdD fdT : FuncData} (F : Fun K "_law_small" "_law_small" sSmall f fd) (T : Bl mg)
    (gD : mg "_law_dip" = some (.ref fD)) (kD : PySem.W.keepIn K (.ref fD) = true) (bD : Binds K fdD ["jar", "many"] []) (GD : FnOk P w K mg base CX0 1 fD fdD ["jar", "many"] spDip)
    (gT : mg "_law_three" = some (.ref fT)) (kT : PySem.W.keepIn K (.ref fT) = true) (bT : Binds K fdT ["jar", "wide"] []) (GT : FnOk P w K mg base CX0 2 fT fdT ["jar", "wide"] spThree) :
    FnOk P w K mg base CX0 3 f fd ["jar", "most"] spSmall := by
  refine F.ok scSm (fun vs H Q E h => ?_) (fun cdv A outer s H vs Q E hr h => ?_)
  · obtain ⟨a, k, mo, rfl, _⟩ := h
    rfl
  · obtain ⟨a, k, mo, rfl, mo1, mo2, J, q⟩ := h
    have hr1 : Room 1 (A.deeper (PyProof.Rows.envOfC "_law_small" (defScope sSmall) s.heap.objs.size f cdv)) := hr.mono (by decide)
    refine ⟨_, pss_cons (ps_par3 (i := 2) (j := 3) (l := 4) rfl scSm.nd rfl rfl rfl (by decide) (by decide) (by decide) rfl rfl rfl (pa_cons (pe_op op_add pe_int (pe_call GD hr1 rfl gD kD bD .nil pass0 (pa_cons (pv 0) (pa_cons (pv 1) pa_nil)))) (pa_cons (pe_call GD hr1 rfl gD kD bD .nil pass0 (pa_cons (pv 0) (pa_cons pe_int pa_nil))) (pa_cons (pe_lst pa_nil) pa_nil))) (by rfl))
      (pss_cons (ps_for PassesOwn.never rfl (pi_range2 (by rfl) T.range (pa_cons pe_int (pa_cons (pv 2) pa_nil))) (pg_name (i := 5) scSm.nd rfl (Or.inl rfl))
        (pss_cons (ps_set (i := 6) scSm.nd rfl (Or.inl rfl) (pe_ifExp (pt_cmpR op_eq (pv 3) pe_int (nomark _)) (pe_op op_add pe_int (pe_call GD hr1 rfl gD kD bD .nil pass0 (pa_cons (pv 0) (pa_cons pe_int pa_nil))))
            (pe_callB (call_max2 rfl) (by rfl) T.max (by decide +kernel) (pa_cons pe_int (pa_cons (pe_op op_sub (pe_call GD hr1 rfl gD kD bD .nil pass0 (pa_cons (pv 0) (pa_cons pe_int pa_nil))) pe_int) pa_nil)))))
        (pss_one (ps_if (PW.pt (pw_and (pt_cmpR op_gt (pv 6) pe_int (nomark _)) (pw_and1 (pt_cmpR op_ne (pv 3) pe_int (nomark _)))))
          (pss_one (ps_expr (pe_bm PySem.F.plainAttrs_list PySem.F.slot_list_append PySem.F.type_list_append mt_append (pv 4) (pa_cons (pe_tup (pa_cons (pv 5) (pa_cons (pv 6) pa_nil))) pa_nil)))) pss_nil))))
      (pss_one (ps_ret (pe_tup (pa_cons (pv 2) (pa_cons (pv 4) (pa_cons (pe_call GT hr rfl gT kT bT .nil pass0 (pa_cons (pv 0) (pa_cons pe_int pa_nil))) pa_nil))))))), ?_⟩
    refine ⟨_, rfl, _, rfl, a, k + 59, mo, rfl, J, by omega, by omega, fun v1 H1 a1 b1 J1 B1 => ⟨_, _, rfl, rfl, ?_⟩⟩
    refine ⟨_, rfl, a, k + 58, 5, rfl, J1, by decide, by decide, fun v2 H2 a2 b2 J2 B2 => ⟨Nat.zero_le _, fun l hl => ⟨_, _, _, rfl, ?_⟩⟩⟩
    have nla : a ≠ l := J2.ne hl
    have nl : H l = none := none_of (fun c o e => by
      by_cases z : c = a
      · obtain ⟨r, m, n, e', _⟩ := J2
        exact ⟨_, by rw [z]; exact e'⟩
      · exact ⟨o, (B1.trans B2) _ _ e z⟩) hl
    refine ⟨_, rfl, _, _, rfl, ⟨by decide, by decide, by omega, by omega⟩, for_range (lo := 1) (n := (1 + v1 - 1).toNat) (fun i σ H' => ∃ (v5 v6 : Option V) (ts : List Addr) (prs : List (Int × Int)),
        σ = [some (.ref a), some (.int mo), some (.int (1 + v1)), some (.int v2), some (.ref l), v5, v6] ∧ JarAt H' a (k + 7 + (50 - i)) ∧ But H H' a ∧ H' l = some (.lst (ts.map V.ref)) ∧ PrAt H' ts prs ∧ Found (1 + i) prs ∧ prs.length ≤ i)
      ⟨none, none, [], [], rfl, (J2.put nla).mono (by omega), (B1.trans B2).new hl, upd_same, .nil, Found.nil _, Nat.le_refl _⟩ ?_ ?_⟩
    · rintro i σ H' hi ⟨v5, v6, ts, prs, rfl, J', B', hL, hP, hF, hlen⟩
      have Jd : JarAt H' a (k + 7 + (50 - (i + 1)) + 1) := J'.mono (by omega)
      refine ⟨_, rfl, rfl, _, rfl, ?_⟩
      refine ite2 (fun hv => ?ga) (fun hv => ?gb)
      case' ga =>
        refine ⟨_, rfl, a, _, 2, rfl, Jd, by decide, by decide, fun v3 H3 a3 b3 J3 B3 => ⟨_, _, rfl, rfl, ?_⟩⟩
        have z0 : 0 ≤ 1 + v3 := by omega
        have z2 : 1 + v3 ≤ 2 := by omega
        dsimp only
        generalize 1 + v3 = z at z0 z2 ⊢
      case' gb =>
        refine ⟨_, rfl, a, _, 5, rfl, Jd, by decide, by decide, fun v3 H3 a3 b3 J3 B3 => ⟨_, _, rfl, rfl, _, _, rfl, ?_⟩⟩
        have z0 : 0 ≤ (if v3 - 2 > 0 then v3 - 2 else 0) := by split <;> omega
        have z2 : (if v3 - 2 > 0 then v3 - 2 else 0) ≤ 2 := by split <;> omega
        dsimp only
        generalize (if v3 - 2 > 0 then v3 - 2 else 0) = z at z0 z2 ⊢
      all_goals
        have hL3 : H3 l = some (.lst (ts.map V.ref)) := B3 _ _ hL nla.symm
        have hP3 : PrAt H3 ts prs := hP.imp fun t p h => B3 _ _ h (J'.no h (fun _ _ _ y => nomatch y))
        have stay : ∃ (v5 v6 : Option V) (ts : List Addr) (prs : List (Int × Int)), [some (V.ref a), some (V.int mo), some (V.int (1 + v1)), some (V.int v2), some (V.ref l), some (V.int (1 + (i : Int))), some (V.int z)] = [some (V.ref a), some (V.int mo), some (V.int (1 + v1)), some (V.int v2), some (V.ref l), v5, v6] ∧ JarAt H3 a (k + 7 + (50 - (i + 1))) ∧ But H H3 a ∧ H3 l = some (.lst (ts.map V.ref)) ∧ PrAt H3 ts prs ∧ Found (1 + ((i + 1 : Nat) : Int)) prs ∧ prs.length ≤ i + 1 :=
          ⟨_, _, ts, prs, rfl, J3, B'.trans B3, hL3, hP3, by have := hF.up; rwa [show (1 : Int) + ((i + 1 : Nat) : Int) = 1 + i + 1 by omega], by omega⟩
        refine ⟨_, rfl, _, _, rfl, rfl, _, rfl, ?_⟩
        by_cases c1 : z > 0
        · refine ifT (decide_eq_true c1) ?_
          refine ⟨_, rfl, rfl, _, rfl, ?_⟩
          by_cases c2 : v2 = 1
          · refine ifF (by simp [c2]) ?_
            exact stay
          · refine ifT (by simp [c2]) ?_
            refine ⟨_, rfl, .inl ⟨rfl, _, SqL.of hL3⟩, _, rfl, _, rfl, (by show 2 ≤ sizeLine; decide), fun t ht => ?_⟩
            have nlt : l ≠ t := ne_of_none hL3 ht
            have hts := hP3.len
            refine ⟨l, _, _, rfl, rfl, by rw [upd_ne nlt]; exact hL3, by rw [List.length_map]; exact small1000 (by omega), ?_⟩
            refine ⟨_, _, ts ++ [t], prs ++ [(1 + (i : Int), z)], rfl, ((J3.put (J3.ne ht)).put nla), ?_, ?_, ?_, ?_, ?_⟩
            · exact ((B'.trans B3).new ht).put nl
            · rw [upd_same, List.map_append]
              rfl
            · refine PrAt.app (hP3.imp fun u p h => ?_) (.cons ?_ .nil)
              · rw [upd_ne (ne_of h hL3 (by intro y; cases y)), upd_ne (ne_of_none h ht)]
                exact h
              · rw [upd_ne (Ne.symm nlt)]
                exact upd_same
            · have := hF.snoc (z := z) (by omega) (by omega)
              rwa [show (1 : Int) + ((i + 1 : Nat) : Int) = 1 + i + 1 by omega]
            · rw [List.length_append]
              exact Nat.succ_le_succ hlen
        · refine ifF (decide_eq_false c1) ?_
          refine ifF rfl ?_
          exact stay
    · rintro σ H' ⟨v5, v6, ts, prs, rfl, J', B', hL, hP, hF, hlen⟩
      have hlen' : prs.length ≤ 39 := by omega
      refine ⟨_, rfl, _, rfl, _, rfl, a, k, 4, rfl, J'.mono (by omega), by decide, by decide, fun p H3 x y g x1 x2 y1 y2 g1 g2 J3 B3 hp _ => ⟨(by show 3 ≤ sizeLine; decide), fun r hr' => ?_⟩⟩
      have s3 : Same H3 (upd H3 r (.tup [.int (1 + v1), .ref l, .ref p])) := same_new (Same.refl H3) hr'
      refine q r _ (1 + v1) x y g prs (by omega) ⟨by omega, by omega, fun w hw => ?_, hF.asc⟩ hlen' ⟨l, p, ts, upd_same, s3 _ _ (B3 _ _ hL nla.symm), hP.imp fun t w h => s3 _ _ (B3 _ _ h (J'.no h (fun _ _ _ y => nomatch y))), s3 _ _ hp⟩ ⟨x1, y1, g1⟩ (by omega) (by omega) (J3.put (J3.ne hr')) ((B'.trans B3).new hr')
      have z := hF.rng w hw
      exact ⟨z.1, by omega, z.2.2⟩
end
end Cw
namespace Cw
open PySem L2
def spGreat : Sp := fun vs H Q _ => ∃ (a : Addr) (k : Nat) (mo : Int), vs = [.ref a, .int mo] ∧ 1 ≤ mo ∧ mo ≤ 40 ∧ JarAt H a (k + 120) ∧ ∀ (p : Addr) (H' : Hp) (n l m g : Int) (prs : List (Int × Int)), GoodP n prs → prs.length ≤ 16 → RawS H' p n prs l m g → SetOk l m g → n ≤ 200 * l → g ≤ 10000000000000000000000000000 → JarAt H' a k → But H H' a → Q (.ref p) H'
theorem none_but {H H' : Hp} {a l : Addr} {k : Nat} (J : JarAt H' a k) (B : But H H' a) (h : H' l = none) : H l = none := none_of (fun c o e => by
  by_cases z : c = a
  · obtain ⟨r, m, n, e', _⟩ := J
    exact ⟨_, by rw [z]; exact e'⟩
  · exact ⟨o, B _ _ e z⟩) h
theorem at4 {z x y u v : Int} (h0 : 0 ≤ z) (h1 : z < 4) : ∃ r, atI [V.int x, V.int y, V.int u, V.int v] z = some (V.int r) := by
  obtain ⟨r, e, m⟩ := at_lt (xs := [V.int x, V.int y, V.int u, V.int v]) h0 (by simpa using h1)
  simp only [List.mem_cons, List.not_mem_nil, or_false] at m
  rcases m with rfl | rfl | rfl | rfl <;> exact ⟨_, e⟩
theorem at2b {x y : Int} (c : Bool) : ∃ r, atI [V.int x, V.int y] (if c = true then 1 else 0) = some (V.int r) := by
  cases c
  · exact ⟨x, rfl⟩
  · exact ⟨y, rfl⟩
section
variable {P : Program} {w : World} {K : PySem.W.Frag} {mg : Str → Option Value} {base : Heap}
abbrev NG : List Str := ["jar", "most", "three", "length", "spots", "spot", "turn", "gap", "inner", "one"]
theorem scGr : FnScope NG ["jar", "most"] (defScope sGreat) := ⟨rfl, rfl, rfl, by decide +kernel, rfl, by decide +kernel, by decide +kernel⟩
theorem ok_great {f fD fT : Addr} {fd fdD fdT : FuncData} (F : Fun K "_law_great" "_law_great" sGreat f fd) (T : Bl mg)
    (gD : mg "_law_dip" = some (.ref fD)) (kD : PySem.W.keepIn K (.ref fD) = true) (bD : Binds K fdD ["jar", "many"] []) (GD : FnOk P w K mg base CX0 1 fD fdD ["jar", "many"] spDip)
    (gT : mg "_law_three" = some (.ref fT)) (kT : PySem.W.keepIn K (.ref fT) = true) (bT : Binds K fdT ["jar", "wide"] []) (GT : FnOk P w K mg base CX0 2 fT fdT ["jar", "wide"] spThree) :
    FnOk P w K mg base CX0 3 f fd ["jar", "most"] spGreat := by
  refine F.ok scGr (fun vs H Q E h => ?_) (fun cdv A outer s H vs Q E hr h => ?_)
  · obtain ⟨a, k, mo, rfl, _⟩ := h
    rfl
  · obtain ⟨a, k, mo, rfl, mo1, mo2, J, q⟩ := h
    have hr1 : Room 1 (A.deeper (PyProof.Rows.envOfC "_law_great" (defScope sGreat) s.heap.objs.size f cdv)) := hr.mono (by decide)
    refine ⟨_, pss_cons (ps_set (i := 2) scGr.nd rfl (Or.inl rfl) (pe_call GT hr rfl gT kT bT .nil pass0 (pa_cons (pv 0) (pa_cons (pe_ix ix_list (pe_lst (pa_cons (pe_op op_pow pe_int pe_int) (pa_cons (pe_op op_pow pe_int pe_int) (pa_cons (pe_op op_pow pe_int pe_int) pa_nil))))
          (pe_call GD hr1 rfl gD kD bD .nil pass0 (pa_cons (pv 0) (pa_cons pe_int pa_nil))) (fun _ _ => rfl)) pa_nil))))
      (pss_cons (ps_set (i := 3) scGr.nd rfl (Or.inr rfl) (pe_op op_add pe_int (pe_call GD hr1 rfl gD kD bD .nil pass0 (pa_cons (pv 0) (pa_cons (pe_op op_mul (pe_op op_add pe_int (pe_call GD hr1 rfl gD kD bD .nil pass0 (pa_cons (pv 0) (pa_cons (pv 1) pa_nil)))) (pe_ix ix_tup (pv 2) pe_int (fun _ _ => rfl))) pa_nil)))))
      (pss_cons (ps_par (i := 4) (j := 5) rfl scGr.nd rfl rfl (by decide) rfl rfl (pa_cons (pe_lst pa_nil) (pa_cons pe_int pa_nil)) (by rfl))
      (pss_cons (ps_for PassesOwn.never rfl (pi_range1 (by rfl) T.range (pa_cons (pe_call GD hr1 rfl gD kD bD .nil pass0 (pa_cons (pv 0) (pa_cons pe_int pa_nil))) pa_nil)) (pg_name (i := 6) scGr.nd rfl (Or.inl rfl))
        (pss_cons (ps_set (i := 7) scGr.nd rfl (Or.inl rfl) (pe_ix ix_list (pe_lst (pa_cons (pe_ix ix_tup (pv 2) pe_int (fun _ _ => rfl)) (pa_cons (pe_ix ix_tup (pv 2) pe_int (fun _ _ => rfl)) (pa_cons (pe_ix ix_tup (pv 2) pe_int (fun _ _ => rfl))
            (pa_cons (pe_op op_add pe_int (pe_call GD hr1 rfl gD kD bD .nil pass0 (pa_cons (pv 0) (pa_cons (pe_op op_mul pe_int (pe_ix ix_tup (pv 2) pe_int (fun _ _ => rfl))) pa_nil)))) pa_nil)))))
            (pe_call GD hr1 rfl gD kD bD .nil pass0 (pa_cons (pv 0) (pa_cons pe_int pa_nil))) (fun _ _ => rfl)))
        (pss_cons (ps_set (i := 5) scGr.nd rfl (Or.inl rfl) (pe_op op_add (pe_ix ix_list (pe_lst (pa_cons (pv 5) (pa_cons (pe_call GD hr1 rfl gD kD bD .nil pass0 (pa_cons (pv 0) (pa_cons (pv 3) pa_nil))) pa_nil)))
            (pe_callTy call_int1 (by rfl) T.int (by decide +kernel) (pa_cons (pe_cmpR op_eq (pe_call GD hr1 rfl gD kD bD .nil pass0 (pa_cons (pv 0) (pa_cons pe_int pa_nil))) pe_int (nomark _)) pa_nil)) (fun _ _ => rfl))
            (pe_callB (call_max2 rfl) (by rfl) T.max (by decide +kernel) (pa_cons pe_int (pa_cons (pe_op op_sub (pe_op op_add (pv 7) (pe_call GD hr1 rfl gD kD bD .nil pass0 (pa_cons (pv 0) (pa_cons pe_int pa_nil)))) pe_int) pa_nil)))))
        (pss_one (ps_expr (pe_bm PySem.F.plainAttrs_list PySem.F.slot_list_append PySem.F.type_list_append mt_append (pv 4) (pa_cons (pv 5) pa_nil)))))))
      (pss_cons (ps_setLc (i := 8) (own := [("one", 9)]) (g := gName 9) rfl scGr.nd rfl rfl (sw_true rfl rfl rfl (by decide +kernel)) (pi_list (pe_callB (cr_sortedSet rfl) (by rfl) T.sorted (by decide +kernel) (pa_cons (pe_callTy (cr_setOf rfl) (by rfl) T.set (by decide +kernel) (pa_cons (pv 4) pa_nil)) pa_nil)))
          (blkOk_by (own := [("one", 9)]) (N := NG) (sc := defScope sGreat) (by decide +kernel)) (fun _ _ _ _ _ => pg_name (i := 9) scGr.nd rfl (Or.inl rfl)) (fun _ _ _ _ _ => pts_one (pt_chain op_lt op_lt pe_int (pv 9) (pv 3))) (fun _ _ _ _ _ => pv 9))
      (pss_one (ps_ret (pe_tup (pa_cons (pv 3) (pa_cons (pe_lc (own := [("one", 9)]) (g := gName 9) (tt := tYes) rfl scGr.nd (pi_list (pv 8)) (blkOk_by (own := [("one", 9)]) (N := NG) (sc := defScope sGreat) (by decide +kernel)) (fun _ _ _ _ _ => pg_name (i := 9) scGr.nd rfl (Or.inl rfl)) (fun _ _ _ _ _ => pts_nil)
          (fun _ _ _ _ _ => pe_tup (pa_cons (pv 9) (pa_cons (pe_op op_add pe_int (pe_call GD hr1 rfl gD kD bD .nil pass0 (pa_cons (pv 0) (pa_cons pe_int pa_nil)))) pa_nil)))) (pa_cons (pv 2) pa_nil)))))))))), ?_⟩
    have t3 : (0 : Int) < 3 ∧ (3 : Int) < 2 ^ 120 := ⟨by decide, by decide⟩
    refine ⟨_, rfl, _, _, rfl, rfl, ⟨by decide, by decide, by decide⟩, _, _, rfl, rfl, ⟨by decide, by decide, by decide⟩, _, _, rfl, rfl, ⟨by decide, by decide, by decide⟩, (by show 3 ≤ sizeLine; decide), fun p hp => ?_⟩
    have np : a ≠ p := J.ne hp
    refine ⟨_, rfl, a, k + 119, 3, rfl, J.put np, t3.1, t3.2, fun v1 H1 a1 b1 J1 B1 => ?_⟩
    obtain ⟨W, e1, c1⟩ := at3 (x := 10 ^ Int.toNat 3) (y := 10 ^ Int.toNat 15) (u := 10 ^ Int.toNat 27) a1 b1
    refine ⟨p, _, _, _, rfl, rfl, SqL.of (B1 _ _ upd_same np.symm), e1, ?_⟩
    have w0 : 1000 ≤ W ∧ W ≤ 10 ^ 27 := by
      have z1 : (10 : Int) ^ Int.toNat 3 = 1000 := by decide +kernel
      have z2 : (10 : Int) ^ Int.toNat 15 = 1000000000000000 := by decide +kernel
      have z3 : (10 : Int) ^ Int.toNat 27 = 1000000000000000000000000000 := by decide +kernel
      have z4 : (10 : Int) ^ 27 = 1000000000000000000000000000 := by decide +kernel
      omega
    have z4 : (10 : Int) ^ 27 = 1000000000000000000000000000 := by decide +kernel
    have z5 : (2 : Int) ^ 120 = 1329227995784915872903807060280344576 := by decide +kernel
    refine ⟨a, k + 112, W, rfl, J1, by omega, by omega, fun p3 H2 x y g hx1 hx2 hy1 hy2 hg1 hg2 J2 B2 hp3 _ => ?_⟩
    have B02 := ((But.refl H a).new hp).trans (B1.trans B2)
    have npa : p3 ≠ a := J2.no hp3 (fun _ _ _ z => nomatch z)
    refine ⟨_, rfl, _, rfl, _, rfl, a, k + 111, mo, rfl, J2, by omega, by omega, fun v2 H3 a2 b2 J3 B3 => ⟨_, _, rfl, rfl, ?_⟩⟩
    have hp3' : H3 p3 = some (.tup [.int x, .int y, .int g]) := B3 _ _ hp3 npa
    have mp : 0 < (1 + v2) * x := Int.mul_pos (by omega) (by omega)
    have mu : (1 + v2) * x ≤ 40 * x := Int.mul_le_mul_of_nonneg_right (by omega) (by omega)
    refine ⟨_, rfl, p3, _, _, _, rfl, rfl, SqT.of hp3', at_of2 (j := 0) rfl rfl, _, _, rfl, rfl, .inl ⟨by omega, by omega⟩, ?_⟩
    refine ⟨a, k + 110, (1 + v2) * x, rfl, J3, mp, by omega, fun v3 H4 a3 b3 J4 B4 => ⟨_, _, rfl, rfl, ?_⟩⟩
    have B04 := (B02.trans B3).trans B4
    have hp4 := B4 _ _ hp3' npa
    refine ⟨Nat.zero_le _, fun l hl => ⟨_, _, rfl, ?_⟩⟩
    have nla : a ≠ l := J4.ne hl
    have npl : p3 ≠ l := ne_of_none hp4 hl
    have nl : H l = none := none_but J4 B04 hl
    refine ⟨_, rfl, a, k + 109, 17, rfl, J4.put nla, by decide, by decide, fun v4 H5 a4 b4 J5 B5 => ⟨_, rfl, by omega, by omega, ?_⟩⟩
    have B05 := (B04.new (o := .lst []) hl).trans B5
    refine for_range (lo := 0) (n := v4.toNat) (fun i σ H' => ∃ (sp : Int) (v6 v7 v8 v9 : Option V) (sps : List Int),
        σ = [some (.ref a), some (.int mo), some (.ref p3), some (.int (1 + v3)), some (.ref l), some (.int sp), v6, v7, v8, v9] ∧ JarAt H' a (k + 20 + 5 * (17 - i)) ∧ But H H' a ∧ H' p3 = some (.tup [.int x, .int y, .int g]) ∧ IL H' l sps ∧ sps.length = i)
      ⟨0, none, none, none, none, [], rfl, J5.mono (by omega), B05, B5 _ _ (by rw [upd_ne npl]; exact hp4) npa, B5 _ _ upd_same nla.symm, rfl⟩ ?_ ?_
    · rintro i σ H' hi ⟨sp, v6, v7, v8, v9, sps, rfl, J', B', h3, hL, hlen⟩
      have hi16 : i < 16 := by omega
      have Jd : JarAt H' a (k + 20 + 5 * (17 - (i + 1)) + 5) := J'.mono (by omega)
      generalize k + 20 + 5 * (17 - (i + 1)) = kk at Jd ⊢
      refine ⟨_, rfl, p3, _, _, _, rfl, rfl, SqT.of h3, at_of2 (j := 0) rfl rfl, _, rfl, p3, _, _, _, rfl, rfl, SqT.of h3, at_of2 (j := 1) rfl rfl, _, rfl, p3, _, _, _, rfl, rfl, SqT.of h3, at_of2 (j := 2) rfl rfl, ?_⟩
      refine ⟨_, rfl, _, rfl, p3, _, _, _, rfl, rfl, SqT.of h3, at_of2 (j := 2) rfl rfl, _, _, rfl, rfl, .inl ⟨by decide, by decide⟩, ?_⟩
      refine ⟨a, kk + 4, 2 * g, rfl, Jd, by omega, by omega, fun u1 G1 _ _ K1 C1 => ⟨_, _, rfl, rfl, (by show 4 ≤ sizeLine; decide), fun q1 hq1 => ?_⟩⟩
      have nq1 : a ≠ q1 := K1.ne hq1
      refine ⟨_, rfl, a, kk + 3, 4, rfl, K1.put nq1, by decide, by decide, fun u2 G2 d0 d1 K2 C2 => ?_⟩
      obtain ⟨gap, e2⟩ := at4 (x := x) (y := y) (u := g) (v := 1 + u1) d0 d1
      refine ⟨q1, _, _, _, rfl, rfl, SqL.of (C2 _ _ upd_same nq1.symm), e2, ?_⟩
      have D2 := (C1.new (o := .lst [.int x, .int y, .int g, .int (1 + u1)]) hq1).trans C2
      refine ⟨_, rfl, _, rfl, _, rfl, a, kk + 2, 1 + v3, rfl, K2, by omega, by omega, fun u3 G3 _ _ K3 C3 => ⟨(by show 2 ≤ sizeLine; decide), fun q2 hq2 => ?_⟩⟩
      have nq2 : a ≠ q2 := K3.ne hq2
      refine ⟨_, rfl, a, kk + 1, 3, rfl, K3.put nq2, t3.1, t3.2, fun u4 G4 _ _ K4 C4 => ⟨rfl, .inr ⟨_, rfl, ?_⟩⟩⟩
      obtain ⟨s1, e3⟩ := at2b (x := sp) (y := u3) (decide (V.int u4 = V.int 0))
      refine ⟨q2, _, _, _, rfl, rfl, SqL.of (C4 _ _ upd_same nq2.symm), e3, ?_⟩
      refine ⟨_, rfl, _, rfl, a, kk, 3, rfl, K4, t3.1, t3.2, fun u5 G5 _ _ K5 C5 => ⟨_, _, rfl, rfl, _, _, rfl, rfl, _, _, rfl, _, _, rfl, rfl, ?_⟩⟩
      have D5 := (((D2.trans C3).new (o := .lst [.int sp, .int u3]) hq2).trans C4).trans C5
      have hL5 : IL G5 l sps := D5 _ _ hL nla.symm
      have hp5 := D5 _ _ h3 npa
      refine ⟨_, rfl, .inl ⟨rfl, _, SqL.of hL5⟩, _, rfl, l, _, _, rfl, rfl, hL5, by rw [List.length_map]; exact small1000 (by omega), ?_⟩
      refine ⟨_, _, _, _, _, sps ++ [s1 + (if gap + u5 - 1 > 0 then gap + u5 - 1 else 0)], rfl, K5.put nla, (B'.trans D5).put nl, by rw [upd_ne npl]; exact hp5, ?_, by rw [List.length_append, hlen]; rfl⟩
      show upd _ _ _ l = _
      rw [upd_same, ints_app]
    · rintro σ H' ⟨sp, v6, v7, v8, v9, sps, rfl, J', B', h3, hL, hlen⟩
      have hl16 : sps.length ≤ 16 := by omega
      refine ⟨_, rfl, l, sps, rfl, SqL.of hL, by omega, fun ps c hc hps => ⟨ps, _, _, rfl, upd_same, by omega, fun ns2 ps2 asc mem len hps2 => ⟨ps2, rfl, ⟨_, SqL.of upd_same⟩, fun D hD => ?_⟩⟩⟩
      have S2 := same_new (o := .lst (ns2.map V.int)) (same_new (o := SetO w ps (fun j => decide (j ∈ sps)) c) (Same.refl H') hps) hps2
      have hN2 : IL (upd (upd H' ps (SetO w ps (fun j => decide (j ∈ sps)) c)) ps2 (.lst (ns2.map V.int))) ps2 ns2 := upd_same
      have n2D : ps2 ≠ D := ne_of_none hN2 hD
      have nD' : H' D = none := S2.free hD
      refine lc_list (K := K) (a := ps2) (xs := ns2.map V.int) (fun i H2 => Same H' H2 ∧ IL H2 ps2 ns2 ∧ IL H2 D ((ns2.take i).filter (fun x => decide (0 < x) && decide (x < 1 + v3)))) ⟨same_new S2 hD, by show upd _ _ _ ps2 = _; rw [upd_ne n2D]; exact hN2, upd_same⟩ (fun i H2 _ z => SqL.of z.2.1) ?_ ?_
      · rintro i x' H2 hx ⟨s1, hP, hE⟩
        obtain ⟨z, rfl, hz⟩ := il_at hx
        have hil : i < ns2.length := (List.getElem?_eq_some_iff.mp hz).1
        have tf := take_fil hz (fun x => decide (0 < x) && decide (x < 1 + v3))
        have sm : (List.map V.int ((ns2.take i).filter (fun x => decide (0 < x) && decide (x < 1 + v3)))).length < sizeLine := by
          rw [List.length_map]
          have z1 := List.length_filter_le (fun x => decide (0 < x) && decide (x < 1 + v3)) (ns2.take i)
          rw [List.length_take] at z1
          exact small1000 (by omega)
        refine ⟨rfl, ?_⟩
        refine ⟨_, rfl, _, _, rfl, rfl, _, rfl, ?_⟩
        by_cases c1 : 0 < z
        · refine ifT (decide_eq_true c1) ?_
          refine ⟨_, rfl, _, _, rfl, rfl, _, rfl, ?_⟩
          by_cases c2 : z < 1 + v3
          · refine ifT (decide_eq_true c2) ?_
            refine ⟨_, rfl, _, hE, sm, same_put s1 nD', by show upd _ _ _ ps2 = _; rw [upd_ne n2D]; exact hP, ?_⟩
            show upd _ _ _ D = _
            rw [upd_same, ints_app, tf]
            simp [c1, c2]
          · refine ifF (decide_eq_false c2) ?_
            refine ⟨s1, hP, ?_⟩
            show H2 D = _
            rw [hE, tf]
            simp [c2]
        · refine ifF (decide_eq_false c1) ?_
          refine ⟨_, rfl, ?_⟩
          refine ifF rfl ?_
          refine ⟨s1, hP, ?_⟩
          show H2 D = _
          rw [hE, tf]
          simp [c1]
      · rintro H2 ⟨s1, hP, hE⟩
        rw [List.length_map, List.take_length] at hE
        generalize hins : ns2.filter (fun x => decide (0 < x) && decide (x < 1 + v3)) = ins at hE
        have iasc : Asc ins := by
          rw [← hins]
          exact asc.filter _
        have ilen : ins.length ≤ 16 := by
          have z1 := List.length_filter_le (fun x => decide (0 < x) && decide (x < 1 + v3)) ns2
          rw [hins] at z1
          omega
        have irng : ∀ x ∈ ins, 0 < x ∧ x < 1 + v3 := fun x hx => by
          rw [← hins] at hx
          have z1 := (List.mem_filter.mp hx).2
          simpa using z1
        have JD : JarAt H2 a (k + 20) := (J'.same s1).mono (by omega)
        have BD : But H H2 a := B'.trans (But.of s1)
        have nDa : D ≠ a := fun e => (J'.ne nD') e.symm
        refine ⟨_, rfl, _, rfl, D, rfl, ⟨_, SqL.of hE⟩, fun D2 hD2 => ?_⟩
        have nDD : D ≠ D2 := ne_of_none hE hD2
        have naD2 : a ≠ D2 := JD.ne hD2
        have nD2 : H D2 = none := none_but JD BD hD2
        refine lc_list (K := K) (a := D) (xs := ins.map V.int) (fun i H3 => ∃ (ts : List Addr) (prs : List (Int × Int)), JarAt H3 a (k + (20 - i)) ∧ But H2 H3 a ∧ IL H3 D ins ∧ H3 D2 = some (.lst (ts.map V.ref)) ∧ PrAt H3 ts prs ∧ prs.map (·.1) = ins.take i ∧ ∀ q ∈ prs, q.2 = 1 ∨ q.2 = 2)
          ⟨[], [], JD.put naD2, (But.refl H2 a).new hD2, by show upd _ _ _ D = _; rw [upd_ne nDD]; exact hE, upd_same, .nil, rfl, fun _ h => (nomatch h)⟩ (fun i H3 _ ⟨ts, prs, z⟩ => SqL.of z.2.2.1) ?_ ?_
        · rintro i x' H3 hx ⟨ts, prs, K1, C1, hF, hG, hPr, hfst, hk⟩
          obtain ⟨z, rfl, hz⟩ := il_at hx
          have hil : i < ins.length := (List.getElem?_eq_some_iff.mp hz).1
          have Kd : JarAt H3 a (k + (20 - (i + 1)) + 1) := K1.mono (by omega)
          refine ⟨rfl, ?_⟩
          unfold tYes
          refine iteT ?_
          refine ⟨_, rfl, _, rfl, a, _, 2, rfl, Kd, by decide, by decide, fun u G u0 u1 K2 C2 => ⟨_, _, rfl, rfl, (by show 2 ≤ sizeLine; decide), fun t ht => ?_⟩⟩
          have hG2 := C2 _ _ hG naD2.symm
          have hF2 := C2 _ _ hF nDa
          have hP2 : PrAt G ts prs := hPr.imp fun t p h => C2 _ _ h (K1.no h (fun _ _ _ y => nomatch y))
          have ntD2 : D2 ≠ t := ne_of_none hG2 ht
          have hts : ts.length = i := by
            rw [hPr.len, ← List.length_map (f := (·.1)), hfst, List.length_take]
            omega
          refine ⟨_, (by rw [upd_ne ntD2]; exact hG2), by rw [List.length_map]; exact small1000 (by omega), ts ++ [t], prs ++ [(z, 1 + u)], (K2.put (K2.ne ht)).put naD2, ((C1.trans C2).new ht).put hD2, ?_, ?_, ?_, ?_, ?_⟩
          · show upd _ _ _ D = _
            rw [upd_ne nDD, upd_ne (ne_of_none hF2 ht)]
            exact hF2
          · rw [upd_same, List.map_append]
            rfl
          · refine PrAt.app (hP2.imp fun v p h => ?_) (.cons ?_ .nil)
            · rw [upd_ne (ne_of h hG2 (by intro y; cases y)), upd_ne (ne_of_none h ht)]
              exact h
            · rw [upd_ne (Ne.symm ntD2)]
              exact upd_same
          · rw [List.map_append, hfst, List.take_add_one, hz]
            rfl
          · intro q hq
            rcases List.mem_append.mp hq with hq | hq
            · exact hk q hq
            · rw [List.mem_singleton.mp hq]
              show 1 + u = 1 ∨ 1 + u = 2
              omega
        · rintro H3 ⟨ts, prs, K1, C1, hF, hG, hPr, hfst, hk⟩
          rw [List.length_map, List.take_length] at hfst
          have pl : prs.length = ins.length := by rw [← hfst, List.length_map]
          refine ⟨_, rfl, (by show 3 ≤ sizeLine; decide), fun r hr' => ?_⟩
          have s3 : Same H3 (upd H3 r (.tup [.int (1 + v3), .ref D2, .ref p3])) := same_new (Same.refl H3) hr'
          have hp6 := C1 _ _ (s1 _ _ h3) npa
          refine q r _ (1 + v3) x y g prs ⟨by omega, by omega, fun y hy => ?_, by rw [hfst]; exact iasc⟩ (by omega) ⟨D2, p3, ts, upd_same, s3 _ _ hG, hPr.imp fun t y h => s3 _ _ h, s3 _ _ hp6⟩ ⟨hx1, hy1, hg1⟩ (by omega) (by omega) ((K1.mono (by omega)).put (K1.ne hr')) ((BD.trans C1).new hr')
          have z1 := irng y.1 (by rw [← hfst]; exact List.mem_map.mpr ⟨y, hy, rfl⟩)
          exact ⟨by omega, by omega, hk y hy⟩
end
end Cw
namespace Cw
open PySem PySem.Spec PyProof.Rows L2
/-! ## defs of which it is known that no list's text is being made around them -/
structure FnG (P : Program) (w : World) (K : PySem.W.Frag) (mg : Str → Option Value) (base : Heap) (k : Nat) (f : Addr) (fd : FuncData) (ps : List Str) (sp : Sp) : Prop where
  len : ∀ vs H Q E, sp vs H Q E → vs.length = ps.length
  run : ∀ (A : Around) (outer : List Env) (s : Shared) (H : Hp) (args : Args) (us : List Value) (vs : List V) (Q : VK) (E : XK), Room k A → A.guards = some [] → Env0 P w K mg base A outer s H → BindsTo s fd args (ps.zip us) → Vals vs us → sp vs H Q E →
    codeAny (model P w) A (.call (.ref f) args) (CR CX0 outer P w H s Q E) s
theorem FnG.of {P : Program} {w : World} {K : PySem.W.Frag} {mg : Str → Option Value} {base : Heap} {k : Nat} {f : Addr} {fd : FuncData} {ps : List Str} {sp : Sp} (F : FnOk P w K mg base CX0 k f fd ps sp) : FnG P w K mg base k f fd ps sp :=
  ⟨F.len, fun A outer s H args us vs Q E hr _ => F.run A outer s H args us vs Q E hr⟩
section
variable {P : Program} {w : World} {K : PySem.W.Frag} {mg : Str → Option Value} {base : Heap}
theorem okG {x qual : Str} {st : Stmt} {f : Addr} {fd : FuncData} {N ps : List Str} {k : Nat} {sp : Sp} (F : Fun K x qual st f fd) (S : FnScope N ps (defScope st)) (len : ∀ vs H Q E, sp vs H Q E → vs.length = ps.length)
    (body : ∀ (cdv : Value) (A : Around) (outer : List Env) (s : Shared) (H : Hp) (vs : List V) (Q : VK) (E : XK), Room k (A.deeper (envOfC qual (defScope st) s.heap.objs.size f cdv)) → A.guards = some [] → sp vs H Q E →
      ∃ t, PSs (cxOf CX0 P w K mg base N qual (defScope st) f cdv A outer s H E).nox (defBody st) t ∧ t { nx := fun _ H' => Q .non H', rt := Q } (start N vs) H) : FnG P w K mg base (k + 1) f fd ps sp := by
  obtain ⟨oc, od, kV, doc, pm, an, cdv, ct, osl, rfl, look, hcd⟩ := F.ex
  refine ⟨len, fun A outer s H args us vs Q E room gu env bind rel prom => ?_⟩
  have here : K.In s.heap := env.mod.kin.keeps fun b o e => (env.bs b o e).1
  have free : s.heap.NoLimit := env.mod.nolimit.keeps fun b o e => (env.bs b o e).1
  have kinds : ∀ y ∈ ps.zip us, (defScope st).names.lookup y.1 = some .local ∨ ((defScope st).names.lookup y.1 = some .cell ∧ ((cellsFrom (s.heap.objs.size + 1) (defScope st).names []).lookup y.1).isSome = true) := fun y hy =>
    (S.par y.1 (List.of_mem_zip (show (y.1, y.2) ∈ ps.zip us from hy)).1).imp id fun z => ⟨z, PySem.W.cellsFrom_some _ _ _ (.inl z)⟩
  refine codeAny_call_function room.depth (here _ _ look) rfl S.co S.gen rfl (PySem.W.codeRec_of here hcd) (bind _ _ _ _ (wpAny_newFunctionEnv_cells S.kind kinds fun e he s1 ic => ?_))
  subst he
  obtain ⟨t, ht, hq⟩ := body cdv A outer s H vs Q E (room.deeper _) gu prom
  refine ⟨free.keeps ic.toInCall.keep, codeAny_func (wpAny_mono (ht.nox.run [] s1 (start N vs) H _ (inv_start S room.hd env (len _ _ _ _ prom) rel ic) hq) (fun fl s2 z => ?_) fun _ _ z => z)⟩
  cases fl with
  | ret u =>
    obtain ⟨v, _, H2, J, rv, qq⟩ := z
    exact ⟨v, H2, J.os, J.bare, J.base, J.hok, rv, qq⟩
  | next =>
    obtain ⟨_, H2, J, qq⟩ := z
    exact ⟨V.non, H2, J.os, J.bare, J.base, J.hok, rfl, qq⟩
  | brk =>
    obtain ⟨_, _, _, qq⟩ := z
    exact qq.elim
  | cont =>
    obtain ⟨_, _, _, qq⟩ := z
    exact qq.elim
end
section
variable {X : Cx} {k : Nat} {f : Addr} {fd : FuncData} {ps : List Str} {sp : Sp} {x : Str} {p pos : Pos} {e : Expr} {es : List Expr} {t : TA}
/-- a call of such a def where no list's text is being made -/
theorem pe_callG (F : FnG X.prog X.w X.K X.mg X.base k f fd ps sp) (room : Room k X.A) (gu : X.A.guards = some []) (gl : Gl X x) (hm : X.mg x = some (.ref f)) (kp : PySem.W.keepIn X.K (.ref f) = true) (bi : Binds X.K fd ps [])
    (ha : PA X (e :: es) t) (hdb : (x == ("__debug__" : Str)) = false := by decide) (he : starEach (e :: es) X.env = (false, eval e X.env) :: starEach es X.env := by rfl) (hpl : (backTo pos (starEach es X.env)).any (·.1) = false := by rfl) :
    PE X (.Call (.Name x p) (e :: es) [] pos) (tCall sp [] E0 t) := by
  refine ⟨fun pins s σ H Q I h => wpAny_Call_Name_kw (ld_glob I gl hm (PySem.W.callWith_K (h₀ := X.base) I.ok.mod.kin kp (thn (ha.run pos pins s σ H _ I h) fun us s1 ⟨vs, H1, I1, r, q⟩ => ⟨I1.kIn, ?_⟩) he hpl) hdb)⟩
  have q' : sp vs H1 Q E0 := by
    have z : sp (vs ++ []) H1 Q E0 := q
    rw [List.append_nil] at z
    exact z
  have many : us.length = ps.length := by rw [← r.length]; exact F.len _ _ _ _ q'
  refine wpAny_call (codeAny_mono (F.run X.A X.stack s1 H1 ⟨us, []⟩ us vs Q E0 room gu I1.env0 (by have z := bi s1 us I1.kIn (by rw [List.append_nil]; exact many); rw [List.append_nil] at z; exact z) r q') fun res s2 z => ?_)
  cases res with
  | error er => exact z.elim
  | ok fl =>
    cases fl with
    | ret u => exact I1.after z
    | next => exact z.elim
    | brk => exact z.elim
    | cont => exact z.elim
/-- repr of data: none of its lists is being shown around here -/
def rReprD (K : PySem.W.Frag) : List V → Hp → VK → Prop := fun xs H Q => ∃ a d, xs = [V.ref a] ∧ Dp K H (.ref a) d ∧ d.showable = true ∧ d.hasDict = false ∧ d.depth ≤ 60 ∧ d.shown.length ≤ sizeLine ∧ Q (.str d.shown) H
theorem call_reprD (gu : X.A.guards = some []) (hu : X.A.units + 64 < cLine) : CallR X (.builtin "repr") (rReprD X.K) := by
  intro pins s σ H xs us Q I r h
  obtain ⟨a, d, rfl, hd, sh, nd, dp, sz, q⟩ := h
  obtain ⟨u, rfl, rx⟩ := vals1 r
  obtain rfl : u = Value.ref a := rx
  obtain ⟨as, rd⟩ := Dp.reads I d (.ref a) (.ref a) hd rfl
  exact repr_of_reads' rd sh (fun z => by rw [nd] at z; cases z) gu (by omega) (fun _ _ e => e) (fun h' u tk keep => ⟨.str d.shown, H, I.kept keep, ⟨_, rfl⟩, q⟩) sz
end
end Cw
namespace Cw
open PySem PySem.Spec PyProof.Rows L2
/-- the law's call, its def being one of FnG; H tracks at most the script -/
theorem startG {P : Program} {w : World} {K : PySem.W.Frag} {mg mb : Str → Option Value} {k : Nat} {fa a : Addr} {fd : FuncData} {x : Str} {sp : Sp} {s1 : Shared} {vs : List Value} {ns : List Int}
    (kin : K.In s1.heap) (glob : s1.heap.Ns mainGlobals mg) (bns : s1.heap.Ns builtinsNs mb) (boot : ∀ y : Str, y ≠ "__name__" → mb y = bootBuiltins y) (lim : s1.heap.NoLimit) (gens : s1.gens = #[])
    (scr : s1.heap.get? a = some { cls := .type "list", data := .seq vs.toArray }) (room : Room k callerA)
    (F : ∀ base : Heap, K.In base → base.Ns mainGlobals mg → FnG P w K mg base k fa fd [x] sp) (bind : ∀ (s : Shared) (u : Value), BindsTo s fd ⟨[u], []⟩ [(x, u)])
    (H : Hp) (only : Only H) (prom : sp [.ref a] H (fun v _ => v = .bl true) E0) (hok : HOk P w H s1.heap) (at_ : ∀ b, H b ≠ none → b = a) (off : H a ≠ none → K.lookup a = none) :
    codeAny (model P w) callerA (.call (.ref fa) ⟨[.ref a], []⟩) (fun r s' => r = .ok (.ret (.bool true)) ∧ OldK s1.heap s'.heap ∧ s'.os = s1.os ∧ AllBare s'.gens) s1 := by
  have none_at : ∀ {b : Addr}, b ≠ a → H b = none := fun {b} nb => by
    cases z : H b with
    | none => rfl
    | some o => exact absurd (at_ b (by rw [z]; exact fun y => nomatch y)) nb
  have dicts : ∀ {b : Addr} {m : Str → Option Value}, s1.heap.Ns b m → (hidT s1.heap H).Ns b m := fun {b m} ⟨o, es, ep, e, d, r⟩ => by
    refine ⟨o, es, ep, hidT_get e (none_at fun z => ?_), d, r⟩
    rw [z, scr] at e
    cases e
    exact nomatch (show Data.seq vs.toArray _ = Data.dict es ep from d)
  have kin2 : K.In (hidT s1.heap H) := fun b o e => by
    refine hidT_get (kin b o e) ?_
    by_cases nb : b = a
    · subst nb
      cases z : H b with
      | none => rfl
      | some y =>
        rw [off (by rw [z]; exact fun y => nomatch y)] at e
        cases e
    · exact none_at nb
  obtain ⟨mc, lm1, lm2⟩ := lim
  have e0 : Env0 P w K mg (hidT s1.heap H) callerA [] s1 H := ⟨rfl, ⟨kin2, dicts glob, ⟨mb, dicts bns, boot⟩, ⟨mc, dicts lm1, lm2⟩⟩, fun _ _ e => of_hidT e, Nat.le_of_eq (hidT_size _ _), trivial, fun b hb => (List.not_mem_nil hb).elim, hok, .of_eq gens⟩
  refine codeAny_mono ((F _ kin2 (dicts glob)).run callerA [] s1 H ⟨[.ref a], []⟩ [.ref a] [.ref a] _ E0 room rfl e0 (bind s1 (.ref a)) (.cons rfl .nil) prom) fun res s2 z => ?_
  cases res with
  | error er => exact z.elim
  | ok fl =>
    cases fl with
    | next => exact z.elim
    | brk => exact z.elim
    | cont => exact z.elim
    | ret u =>
      obtain ⟨v, H2, os, bare, un, hok2, rel, q⟩ := z
      have qv : v = .bl true := q
      subst qv
      obtain rfl : u = Value.bool true := rel
      refine ⟨rfl, OldK.of_keep fun b o e => ?_, os, bare⟩
      rcases only b with nb | ⟨ob, xs, fz⟩
      · exact un.keep b o e nb (fun y => (List.not_mem_nil y).elim) (fun y => (List.not_mem_nil y).elim)
      · obtain ⟨h1, _⟩ := hok b _ fz
        obtain ⟨h2, _⟩ := hok2 b _ (un.frzs b ob _ fz)
        rw [e] at h1
        cases h1
        exact h2
theorem callG {P : Program} {w : World} {K : PySem.W.Frag} {mg mb : Str → Option Value} {k : Nat} {fa a : Addr} {fd : FuncData} {x : Str} {sp : Sp} {s1 : Shared} {vs : List Value} {ns : List Int}
    (kin : K.In s1.heap) (glob : s1.heap.Ns mainGlobals mg) (bns : s1.heap.Ns builtinsNs mb) (boot : ∀ y : Str, y ≠ "__name__" → mb y = bootBuiltins y) (lim : s1.heap.NoLimit) (gens : s1.gens = #[])
    (scr : s1.heap.get? a = some { cls := .type "list", data := .seq vs.toArray }) (nts : IntsAre vs ns) (few : ns.length ≤ sizeLine) (room : Room k callerA)
    (F : ∀ base : Heap, K.In base → base.Ns mainGlobals mg → FnG P w K mg base k fa fd [x] sp) (bind : ∀ (s : Shared) (u : Value), BindsTo s fd ⟨[u], []⟩ [(x, u)])
    (prom : ∀ H : Hp, Only H → SqL K H a (ns.map V.int) → sp [.ref a] H (fun v _ => v = .bl true) E0) :
    codeAny (model P w) callerA (.call (.ref fa) ⟨[.ref a], []⟩) (fun r s' => r = .ok (.ret (.bool true)) ∧ OldK s1.heap s'.heap ∧ s'.os = s1.os ∧ AllBare s'.gens) s1 := by
  have rel := vals_ints nts
  have many : vs.length = ns.length := nts.length
  cases hk : K.lookup a with
  | some o =>
    have e := kin a o hk
    rw [scr] at e
    cases e
    have on : Only fun _ => none := fun _ => .inl rfl
    exact startG (ns := ns) kin glob bns boot lim gens scr room F bind (fun _ => none) on (prom _ on (.inr ⟨_, vs.toArray, _, hk, rfl, rfl, rfl, by rw [List.size_toArray, many]; exact few, by simpa using rel⟩)) (fun _ _ z => nomatch z) (fun _ z => (z rfl).elim) fun z => (z rfl).elim
  | none =>
    obtain ⟨H, hH⟩ : ∃ H : Hp, H = fun b => if b = a then some (.frz { cls := .type "list", data := .seq vs.toArray } (.lst (ns.map V.int))) else none := ⟨_, rfl⟩
    have atA : H a = some (.frz { cls := .type "list", data := .seq vs.toArray } (.lst (ns.map V.int))) := by rw [hH]; exact if_pos rfl
    have els : ∀ b, b ≠ a → H b = none := fun b nb => by rw [hH]; exact if_neg nb
    have on : Only H := fun b => by
      by_cases nb : b = a
      · exact .inr ⟨_, _, by rw [nb]; exact atA⟩
      · exact .inl (els b nb)
    refine startG (ns := ns) kin glob bns boot lim gens scr room F bind H on (prom H on (.inl (.inr ⟨_, atA⟩))) (fun b u z => ?_) (fun b z => ?_) fun _ => hk
    · by_cases nb : b = a
      · subst nb
        rw [atA] at z
        cases z
        exact ⟨scr, by rw [List.length_map]; exact few, vs, _, rel, scr⟩
      · rw [els b nb] at z
        cases z
    · by_cases nb : b = a
      · exact nb
      · exact (z (els b nb)).elim
/-- the walk of a law whose def is one of FnG -/
theorem walkG {l : PySem.W.OpenLaw} {n k : Nat} {q : Program} {loose : List Str} {XP : (Str → Option Value) → Heap → Prop} {YP : World → Heap → Prop} {d : DefRec} {K : Params → PySem.W.Frag} {sp : World → Sp} {x : Str}
    (most : l.most = some n) (n2 : n ≤ sizeLine) (dfl : d.params.defaults = []) (room : Room k callerA) (hY : ∀ (w : World) (h : Heap), YP w h → (K w.params).In h)
    (F : ∀ (w : World) (mg : Str → Option Value) (fa : Addr) (h : Heap), (K w.params).In h → h.Ns mainGlobals mg → mg d.name = some (.ref fa) →
      ∃ fd : FuncData, (∀ (s : Shared) (u : Value), BindsTo s fd ⟨[u], []⟩ [(x, u)]) ∧ ∀ base : Heap, (K w.params).In base → base.Ns mainGlobals mg → FnG l.prog w (K w.params) mg base k fa fd [x] (sp w))
    (prom : ∀ (w : World) (H : Hp) (a : Addr) (ns : List Int), ns.length ≤ n → Only H → SqL (K w.params) H a (ns.map V.int) → sp w [.ref a] H (fun v _ => v = .bl true) E0) :
    PySem.W.WalkO q loose XP YP l.row.toRowW d [] (fun f vs => PySem.call f vs) := by
  refine Att.attach_call most dfl fun w s0 s1 mg mb fa o pm cd doc a vs ns G Y ho hd hcd hmg scr nts few gens => ?_
  have kin := hY w _ Y
  obtain ⟨fd, bi, FF⟩ := F w mg fa _ kin G.T.g hmg
  exact callG kin G.T.g G.T.b G.T.builtins G.T.nolimit gens scr nts (Nat.le_trans few n2) room FF bi fun H on hs => prom w H a ns few on hs
end Cw
namespace Cw
open PySem L2
def RowOff (C : Addr) (H : Hp) (a p : Addr) (n : Int) (ms ss : List Int) : Prop := ∃ dx l1 l2, H p = some (.ins C dx (flds n l1 l2)) ∧ IL H l1 ms ∧ IL H l2 ss ∧ l1 ≠ a ∧ l2 ≠ a
theorem RowNew.off {C : Addr} {H H' : Hp} {p a : Addr} {k : Nat} {n : Int} {ms ss : List Int} (r : RowNew C H H' p n ms ss) (J : JarAt H a k) : RowOff C H' a p n ms ss := by
  obtain ⟨dx, l1, l2, h1, h2, h3, n1, n2⟩ := r
  exact ⟨dx, l1, l2, h1, h2, h3, (J.ne n1).symm, (J.ne n2).symm⟩
theorem RowOff.at {C : Addr} {H : Hp} {p a : Addr} {n : Int} {ms ss : List Int} (r : RowOff C H a p n ms ss) : RowAt C H p n ms ss := by
  obtain ⟨dx, l1, l2, h1, h2, h3, _⟩ := r
  exact ⟨dx, l1, l2, h1, h2, h3⟩
theorem RowOff.but {C : Addr} {H H' : Hp} {p a : Addr} {k : Nat} {n : Int} {ms ss : List Int} (r : RowOff C H a p n ms ss) (J : JarAt H a k) (B : But H H' a) : RowOff C H' a p n ms ss := by
  obtain ⟨dx, l1, l2, h1, h2, h3, n1, n2⟩ := r
  exact ⟨dx, l1, l2, B _ _ h1 (J.no h1 fun _ _ _ z => nomatch z), B _ _ h2 n1, B _ _ h3 n2, n1, n2⟩
/-- a row and settings that stay while the jar is drawn from -/
structure RwO (C : Addr) (H : Hp) (a r t : Addr) (n l m g : Int) (ms ss : List Int) : Prop where
  row : RowOff C H a r n ms ss
  tup : H t = some (.tup [.int l, .int m, .int g])
  good : Good n ms ss
  set : SetOk l m g
  big : n ≤ 200 * l
theorem RwO.rws {C : Addr} {H : Hp} {a r t : Addr} {n l m g : Int} {ms ss : List Int} (R : RwO C H a r t n l m g ms ss) : RwS C H r t n l m g ms ss := ⟨R.row.at, R.tup, R.good, R.set, R.big⟩
theorem RwO.but {C : Addr} {H H' : Hp} {a r t : Addr} {k : Nat} {n l m g : Int} {ms ss : List Int} (R : RwO C H a r t n l m g ms ss) (J : JarAt H a k) (B : But H H' a) : RwO C H' a r t n l m g ms ss :=
  ⟨R.row.but J B, B _ _ R.tup (J.no R.tup fun _ _ _ z => nomatch z), R.good, R.set, R.big⟩
theorem inV_il {z : Int} {ns : List Int} : inV (.int z) (ns.map V.int) = decide (z ∈ ns) := by
  unfold inV
  induction ns with
  | nil => rfl
  | cons a r ih =>
    rw [List.map_cons, List.any_cons, ih]
    have e : eqV (.int a) (.int z) = decide (a = z) := by
      by_cases c : a = z
      · subst c; simp [eqV]
      · simp [eqV, c]
    rw [e]
    by_cases c : a = z
    · subst c; simp
    · have c' : ¬ z = a := fun h => c h.symm
      simp [c, c']
theorem flat_il {ns : List Int} : (ns.map V.int).all flatV = true := by
  rw [List.all_map]
  exact List.all_eq_true.mpr fun _ _ => rfl
theorem nx_reach {n l m g p : Int} {ms ss : List Int} : nx n ms ss l m g p ≤ p + g := by
  unfold nx
  omega
/-- a comprehension that takes some whole numbers of a list -/
theorem lc_fil {K : PySem.W.Frag} {a D : Addr} {ns : List Int} {g : TG} {tt : TT} {te : TE} {vs : List Nat} {σ : St} {H1 : Hp} {Qd : Hp → Prop} (f : Int → Bool)
    (ha : IL H1 a ns) (hD : H1 D = none) (few : ns.length ≤ 999)
    (step : ∀ (z : Int) (H : Hp) (A : V → Hp → Prop) (B : Hp → Prop), Same H1 H → (f z = true → A (.int z) H) → (f z = false → B H) →
      g (.int z) (wipe σ vs) H fun σ2 H2 => wipe σ2 vs = wipe σ vs ∧ tt σ2 H2 fun b H3 => if b = true then te σ2 H3 fun y H4 => A y H4 else B H3)
    (fin : ∀ (H : Hp), Same H1 H → IL H D (ns.filter f) → Qd H) :
    ∃ W : Nat → Nat → Hp → Prop, (∃ m, W 0 m (upd H1 D (HO.lst []))) ∧ ∀ (i m : Nat) (H : Hp), W i m H → (Itl K a).stop i H ∧ Qd H ∨ (Itl K a).go i H ∧ ∃ Nx : Hp → Prop, (∀ H', Nx H' → ∃ m', m' < m ∧ W (i + 1) m' H') ∧
      ∀ (x : V) (H' : Hp), (Itl K a).yld i H x H' → g x (wipe σ vs) H' fun σ2 H2 => wipe σ2 vs = wipe σ vs ∧ tt σ2 H2 fun b H3 => if b = true then te σ2 H3 fun y H4 => ∃ acc, H4 D = some (HO.lst acc) ∧ acc.length < sizeLine ∧ Nx (upd H4 D (HO.lst (acc ++ [y]))) else Nx H3 := by
  refine lc_list (K := K) (a := a) (xs := ns.map V.int) (fun i H' => Same H1 H' ∧ IL H' D ((ns.take i).filter f)) ⟨same_new (Same.refl H1) hD, upd_same⟩ (fun i H' _ z => SqL.of (z.1 _ _ ha)) ?_ ?_
  · rintro i x H' hx ⟨s1, hE⟩
    obtain ⟨z, rfl, hz⟩ := il_at hx
    have hil := (List.getElem?_eq_some_iff.mp hz).1
    have tk := take_fil hz f
    have ln : ((ns.take i).filter f).length ≤ 999 := by
      have z1 := List.length_filter_le f (ns.take i)
      rw [List.length_take] at z1
      omega
    refine step z H' _ _ s1 (fun c => ?_) (fun c => ?_)
    · refine ⟨_, hE, by rw [List.length_map]; exact small1000 (by omega), same_put s1 hD, ?_⟩
      show upd _ _ _ D = _
      rw [upd_same, ints_app, tk, if_pos c]
    · refine ⟨s1, ?_⟩
      show H' D = _
      rw [hE, tk, if_neg (by rw [c]; exact Bool.false_ne_true), List.append_nil]
  · rintro H ⟨s1, hE⟩
    rw [List.length_map, List.take_length] at hE
    exact fin H s1 hE
theorem near_at {ks : List Int} {z : Int} (h0 : 0 ≤ z) (h1 : z < (ks.map V.int).length) : ∃ v, atI (ks.map V.int) z = some (V.int v) ∧ v ∈ ks := by
  obtain ⟨v, e, m⟩ := at_lt h0 h1
  obtain ⟨y, hy, rfl⟩ := List.mem_map.mp m
  exact ⟨y, e, hy⟩
theorem refs_no {ts : List Addr} : ∀ r m n : Int, HO.lst (ts.map V.ref) ≠ .lst [.int r, .int m, .int n] := fun r m n z => by
  injection z with z
  cases ts with
  | nil => cases z
  | cons t ts => cases z
theorem same_but {H0 H1 H' : Hp} {p : Addr} (s : Same H0 H1) (n : H0 p = none) (b : But H1 H' p) : Same H0 H' := fun c o e => b c o (s c o e) (ne_of_none e n)
/-- what is said of == of rows -/
structure Eqs (P : Program) (w : World) (K : PySem.W.Frag) (mg : Str → Option Value) (base : Heap) (C fE : Addr) (fdE : FuncData) : Prop where
  ok : FnOk P w K mg base CX0 1 fE fdE ["self", "other"] (spEq (Alike C))
  hm : PySem.W.mroIn K C (.type "object") = some true
  hn : PySem.W.findIn K (.ref C) "__ne__" = some (some (.builtin "object.__ne__"))
  hs : PySem.W.findIn K (.ref C) "__eq__" = some (some (.ref fE))
  hf : PySem.W.isFn K (.ref fE) = true
  hb : Binds K fdE ["self", "other"] []
theorem alike_ins {C : Addr} {H : Hp} {a b : Addr} {n : Int} {ms ss : List Int} (r : RowAt C H a n ms ss) (q : RowAt C H b n ms ss) : DIns C (Alike C) (.ref a) (.ref b) H := by
  obtain ⟨dx, l1, l2, h1, h2, h3⟩ := id r
  obtain ⟨dy, m1, m2, g1, g2, g3⟩ := id q
  exact ⟨a, b, dx, dy, _, _, rfl, rfl, h1, g1, n, ms, ss, r, q⟩
end Cw
namespace Cw
open PySem L2
abbrev sShift : Stmt := top 19
abbrev sJoin : Stmt := inClass sRow 9
abbrev sPart : Stmt := inClass sRow 10
theorem asc_shift {ns : List Int} (h : Asc ns) (k : Int) : Asc (ns.map (· + k)) := by
  rw [Asc, List.pairwise_map]
  exact h.imp fun {a b} x => by omega
theorem take_map {ns : List Int} {i : Nat} {z : Int} (h : ns[i]? = some z) (f : Int → Int) : (ns.take (i + 1)).map f = (ns.take i).map f ++ [f z] := by
  rw [List.take_add_one, h, List.map_append]
  rfl
def spShift : Sp := fun vs H Q _ => ∃ (a : Addr) (ns : List Int) (k : Int), vs = [.ref a, .int k] ∧ IL H a ns ∧ ns.length ≤ 1000 ∧ ∀ p H', Same H H' → H p = none → IL H' p (ns.map (· + k)) → Q (.ref p) H'
def spJoin (C : Addr) : Sp := fun vs H Q _ => ∃ (x y : Addr) (n n2 : Int) (ms ss ms2 ss2 : List Int) (kd : Str), vs = [.ref x, .ref y, .str kd] ∧ RowAt C H x n ms ss ∧ RowAt C H y n2 ms2 ss2 ∧ Good n ms ss ∧ Good n2 ms2 ss2 ∧
  (kd = "none" ∨ kd = "plain" ∨ kd = "strict") ∧ ms.length + ms2.length + 1 ≤ 400 ∧ ∀ p H', Same H H' → RowNew C H H' p (n + n2) (ms ++ (if kd = "none" then [] else [n]) ++ ms2.map (· + n)) (ss ++ (if kd = "strict" then [n] else []) ++ ss2.map (· + n)) → Q (.ref p) H'
/-- the marks of a joined row -/
theorem good_join {n n2 : Int} {ms ss ms2 ss2 bs fs : List Int} (G : Good n ms ss) (G2 : Good n2 ms2 ss2) (h : (bs = [] ∧ fs = []) ∨ (bs = [n] ∧ fs = []) ∨ (bs = [n] ∧ fs = [n])) (few : ms.length + ms2.length + 1 ≤ 400) :
    Good (n + n2) (ms ++ bs ++ ms2.map (· + n)) (ss ++ fs ++ ss2.map (· + n)) := by
  have n1 := G.pos
  have n2' := G2.pos
  have asc : ∀ {xs ys zs : List Int}, Asc xs → Asc ys → (∀ x ∈ xs, x ≤ n - 1) → (∀ x ∈ ys, 1 ≤ x) → (zs = [] ∨ zs = [n]) → Asc (xs ++ zs ++ ys.map (· + n)) := fun {xs ys zs} h1 h2 h3 h4 hz => by
    rw [Asc, List.pairwise_append, List.pairwise_append]
    refine ⟨⟨h1, by rcases hz with rfl | rfl; exact .nil; exact List.pairwise_singleton _ _, fun x hx y hy => ?_⟩, asc_shift h2 n, fun x hx y hy => ?_⟩
    · have := h3 x hx
      rcases hz with rfl | rfl
      · cases hy
      · rw [List.mem_singleton.mp hy]; omega
    · obtain ⟨z, hz', rfl⟩ := List.mem_map.mp hy
      have := h4 z hz'
      rcases List.mem_append.mp hx with hx | hx
      · have := h3 x hx
        omega
      · rcases hz with rfl | rfl
        · cases hx
        · rw [List.mem_singleton.mp hx]; omega
  have bz : bs = [] ∨ bs = [n] := by rcases h with h | h | h; exact .inl h.1; exact .inr h.1; exact .inr h.1
  have fz : fs = [] ∨ fs = [n] := by rcases h with h | h | h; exact .inl h.2; exact .inl h.2; exact .inr h.2
  refine ⟨by omega, ?_, fun x hx => ?_, asc G.asc G2.asc (fun x hx => (G.rng x hx).2) (fun x hx => (G2.rng x hx).1) bz, asc G.asc2 G2.asc2 (fun x hx => (G.rng x (G.sub x hx)).2) (fun x hx => (G2.rng x (G2.sub x hx)).1) fz, fun x hx => ?_⟩
  · rw [List.length_append, List.length_append, List.length_map]
    rcases bz with rfl | rfl
    · show ms.length + 0 + ms2.length ≤ 400; omega
    · show ms.length + 1 + ms2.length ≤ 400; omega
  · rcases List.mem_append.mp hx with hx | hx
    · rcases List.mem_append.mp hx with hx | hx
      · have := G.rng x hx; omega
      · rcases bz with rfl | rfl
        · cases hx
        · rw [List.mem_singleton.mp hx]; omega
    · obtain ⟨z, hz, rfl⟩ := List.mem_map.mp hx
      have := G2.rng z hz
      omega
  · rcases List.mem_append.mp hx with hx | hx
    · rcases List.mem_append.mp hx with hx | hx
      · exact List.mem_append.mpr (.inl (List.mem_append.mpr (.inl (G.sub x hx))))
      · refine List.mem_append.mpr (.inl (List.mem_append.mpr (.inr ?_)))
        rcases h with h | h | h
        · rw [h.2] at hx; cases hx
        · rw [h.2] at hx; cases hx
        · rw [h.2] at hx; rw [h.1]; exact hx
    · obtain ⟨z, hz, rfl⟩ := List.mem_map.mp hx
      exact List.mem_append.mpr (.inr (List.mem_map.mpr ⟨z, G2.sub z hz, rfl⟩))
section
variable {P : Program} {w : World} {K : PySem.W.Frag} {mg : Str → Option Value} {base : Heap}
abbrev NS : List Str := ["places", "number", "place"]
theorem scSh : FnScope NS ["places", "number"] (defScope sShift) := ⟨rfl, rfl, rfl, by decide +kernel, rfl, by decide +kernel, by decide +kernel⟩
theorem ok_shift {f : Addr} {fd : FuncData} (F : Fun K "shifted" "shifted" sShift f fd) : FnOk P w K mg base CX0 1 f fd ["places", "number"] spShift := by
  refine F.ok scSh (fun vs H Q E h => ?_) (fun cdv A outer s H vs Q E hr h => ?_)
  · obtain ⟨a, ns, k, rfl, _⟩ := h
    rfl
  · obtain ⟨a, ns, k, rfl, hS, hl, q⟩ := h
    refine ⟨_, pss_one (ps_ret (pe_lc (own := [("place", 2)]) (g := gName 2) (tt := tYes) rfl scSh.nd (pi_list (pv 0)) (blkOk_by (own := [("place", 2)]) (N := NS) (sc := defScope sShift) (by decide +kernel))
        (fun _ _ _ _ _ => pg_name (i := 2) scSh.nd rfl (Or.inl rfl)) (fun _ _ _ _ _ => pts_nil) (fun _ _ _ _ _ => pe_op op_add (pv 2) (pv 1)))), ?_⟩
    refine ⟨_, rfl, a, rfl, ⟨_, SqL.of hS⟩, fun D hD => ?_⟩
    refine lc_list (K := K) (a := a) (xs := ns.map V.int) (fun i H' => Same H H' ∧ IL H' D ((ns.take i).map (· + k))) ⟨same_new (Same.refl H) hD, upd_same⟩ (fun i H' _ z => SqL.of (z.1 _ _ hS)) ?_ ?_
    · rintro i x H' hx ⟨s1, hD'⟩
      obtain ⟨z, rfl, hz⟩ := il_at hx
      have hil : i < ns.length := (List.getElem?_eq_some_iff.mp hz).1
      refine ⟨rfl, ?_⟩
      unfold tYes
      refine iteT ?_
      refine ⟨_, rfl, _, rfl, _, _, rfl, rfl, ?_⟩
      refine ⟨_, hD', by rw [List.length_map, List.length_map, List.length_take]; exact small1000 (by omega), same_put s1 hD, ?_⟩
      show upd _ _ _ D = _
      rw [upd_same, ints_app, take_map hz]
    · rintro H' ⟨s1, hD'⟩
      rw [List.length_map, List.take_length] at hD'
      exact q D H' s1 hD hD'
abbrev NJo : List Str := ["self", "other", "kind", "between", "firm", "marks", "strict"]
theorem scJo : FnScope NJo ["self", "other", "kind"] (defScope sJoin) := ⟨rfl, rfl, rfl, by decide +kernel, rfl, by decide +kernel, by decide +kernel⟩
abbrev jCx (P : Program) (w : World) (K : PySem.W.Frag) (mg : Str → Option Value) (base : Heap) (f : Addr) (cdv : Value) (A : Around) (outer : List Env) (s : Shared) (H0 : Hp) (E : XK) : Cx := (cxOf CX0 P w K mg base NJo "Row.joined" (defScope sJoin) f cdv A outer s H0 E).nox
theorem join_tail {f C fI fS pL fL pM fM pS fSs : Addr} {fdI fdS dL dM dS : FuncData} (R : Cl K mg C) (M : Mk K C fI) (Gs : Gets P w K mg base C pL fL pM fM pS fSs dL dM dS)
    (gS : mg "shifted" = some (.ref fS)) (kS : PySem.W.keepIn K (.ref fS) = true) (bS : Binds K fdS ["places", "number"] []) (GS : FnOk P w K mg base CX0 1 fS fdS ["places", "number"] spShift)
    (bI : Binds K fdI NI []) (GI : FnOk P w K mg base CX0 5 fI fdI NI (spInit C))
    {cdv : Value} {A : Around} {outer : List Env} {s : Shared} {H0 : Hp} {E : XK} (hr : Room 6 (A.deeper (PyProof.Rows.envOfC "Row.joined" (defScope sJoin) s.heap.objs.size f cdv))) :
    ∃ tl, PSs (jCx P w K mg base f cdv A outer s H0 E) ((defBody sJoin).drop 3) tl ∧
      ∀ (Q : VK) (H : Hp) (x y b1 f1 : Addr) (n n2 : Int) (ms ss ms2 ss2 bs fs : List Int) (kd : Str), RowAt C H x n ms ss → RowAt C H y n2 ms2 ss2 → Good n ms ss → Good n2 ms2 ss2 → IL H b1 bs → IL H f1 fs →
        ((bs = [] ∧ fs = []) ∨ (bs = [n] ∧ fs = []) ∨ (bs = [n] ∧ fs = [n])) → ms.length + ms2.length + 1 ≤ 400 →
        (∀ p H', Same H H' → RowNew C H H' p (n + n2) (ms ++ bs ++ ms2.map (· + n)) (ss ++ fs ++ ss2.map (· + n)) → Q (.ref p) H') →
        tl { nx := fun x H' => Q V.non H', rt := Q } [some (.ref x), some (.ref y), some (.str kd), some (.ref b1), some (.ref f1), none, none] H := by
  have hr1 : Room 1 (A.deeper (PyProof.Rows.envOfC "Row.joined" (defScope sJoin) s.heap.objs.size f cdv)) := hr.mono (by decide)
  have hr2 : Room 2 (A.deeper (PyProof.Rows.envOfC "Row.joined" (defScope sJoin) s.heap.objs.size f cdv)) := hr.mono (by decide)
  refine ⟨_, (pss_cons (ps_set (i := 5) scJo.nd rfl (Or.inl rfl) (pe_op op_cat (pe_op op_cat (pe_fld (pv 0) rfl) (pv 3)) (pe_call GS hr1 rfl gS kS bS .nil pass0 (pa_cons (pe_prop (pv 1) R.cl Gs.hM Gs.GM hr2 Gs.bM .nil pass0 rfl) (pa_cons (pe_fld (pv 0) rfl) pa_nil)))))
      (pss_cons (ps_set (i := 6) scJo.nd rfl (Or.inl rfl) (pe_op op_cat (pe_op op_cat (pe_fld (pv 0) rfl) (pv 4)) (pe_call GS hr1 rfl gS kS bS .nil pass0 (pa_cons (pe_prop (pv 1) R.cl Gs.hS Gs.GS hr2 Gs.bS .nil pass0 rfl) (pa_cons (pe_fld (pv 0) rfl) pa_nil)))))
      (pss_one (ps_ret (pe_make M GI hr rfl R.mgR bI .nil pass0 (pa_cons (pe_op op_add (pe_fld (pv 0) rfl) (pe_prop (pv 1) R.cl Gs.hL Gs.GL hr2 Gs.bL .nil pass0 rfl)) (pa_cons (pv 5) (pa_cons (pv 6) pa_nil)))))))), ?_⟩
  intro Q H x y b1 f1 n n2 ms ss ms2 ss2 bs fs kd hx hy G G2 hb hf hz few q
  obtain ⟨dx, l1, l2, ho, h1, h2⟩ := id hx
  obtain ⟨dy, m1, m2, go, g1, g2⟩ := id hy
  have lm := G.len
  have ls := G.len2
  have lm2 := G2.len
  have ls2 := G2.len2
  have lb : bs.length ≤ 1 := by rcases hz with ⟨rfl, _⟩ | ⟨rfl, _⟩ | ⟨rfl, _⟩ <;> simp
  have lf : fs.length ≤ 1 := by rcases hz with ⟨_, rfl⟩ | ⟨_, rfl⟩ | ⟨_, rfl⟩ <;> simp
  -- the marks
  refine ⟨_, rfl, x, C, dx, _, _, rfl, ho, R.cl, R.nM, fl_M _ _ _, _, rfl, ?_⟩
  refine ⟨l1, b1, _, _, rfl, rfl, h1, hb, by rw [List.length_map, List.length_map]; exact Nat.le_of_lt (small1000 (by omega)), fun c1 hc1 => ?_⟩
  have s1 := same_new (o := .lst (ms.map V.int ++ bs.map V.int)) (Same.refl H) hc1
  have k1 : IL (upd H c1 (.lst (ms.map V.int ++ bs.map V.int))) c1 (ms ++ bs) := by
    show upd _ _ _ c1 = _
    rw [upd_same, List.map_append]
  generalize upd H c1 (.lst (ms.map V.int ++ bs.map V.int)) = H1 at s1 k1 ⊢
  refine ⟨_, rfl, y, dy, _, rfl, s1 _ _ go, y, n2, ms2, ss2, rfl, hy.same s1, fun u H2 s2 nu hu => ?_⟩
  have s12 := s1.trans s2
  refine ⟨_, rfl, x, C, dx, _, _, rfl, s12 _ _ ho, R.cl, R.nL, fl_L _ _ _, ?_⟩
  refine ⟨u, ms2, n, rfl, hu, by omega, fun p3 H3 s3 np3 hp3 => ?_⟩
  have s13 := s12.trans s3
  refine ⟨c1, p3, _, _, rfl, rfl, s3 _ _ (s2 _ _ k1), hp3, by rw [List.length_map, List.length_map, List.length_append, List.length_map]; exact Nat.le_of_lt (small1000 (by omega)), fun c2 hc2 => ?_⟩
  have s4 := same_new (o := .lst ((ms ++ bs).map V.int ++ (ms2.map (· + n)).map V.int)) s13 hc2
  have k2 : IL (upd H3 c2 (.lst ((ms ++ bs).map V.int ++ (ms2.map (· + n)).map V.int))) c2 (ms ++ bs ++ ms2.map (· + n)) := by
    show upd _ _ _ c2 = _
    rw [upd_same, List.map_append (l₁ := ms ++ bs)]
  generalize upd H3 c2 (.lst ((ms ++ bs).map V.int ++ (ms2.map (· + n)).map V.int)) = H4 at s4 k2 ⊢
  try dsimp only [L2.start, List.set, List.map, List.append, List.replicate, List.length]
  -- the strict ones
  refine ⟨_, rfl, x, C, dx, _, _, rfl, s4 _ _ ho, R.cl, R.nS, fl_S _ _ _, _, rfl, ?_⟩
  refine ⟨l2, f1, _, _, rfl, rfl, s4 _ _ h2, s4 _ _ hf, by rw [List.length_map, List.length_map]; exact Nat.le_of_lt (small1000 (by omega)), fun c3 hc3 => ?_⟩
  have s5 := same_new (o := .lst (ss.map V.int ++ fs.map V.int)) (Same.refl H4) hc3
  have k3 : IL (upd H4 c3 (.lst (ss.map V.int ++ fs.map V.int))) c3 (ss ++ fs) := by
    show upd _ _ _ c3 = _
    rw [upd_same, List.map_append]
  generalize upd H4 c3 (.lst (ss.map V.int ++ fs.map V.int)) = H5 at s5 k3 ⊢
  have s45 := s4.trans s5
  refine ⟨_, rfl, y, dy, _, rfl, s45 _ _ go, y, n2, ms2, ss2, rfl, hy.same s45, fun u2 H6 s6 nu2 hu2 => ?_⟩
  have s46 := s45.trans s6
  refine ⟨_, rfl, x, C, dx, _, _, rfl, s46 _ _ ho, R.cl, R.nL, fl_L _ _ _, ?_⟩
  refine ⟨u2, ss2, n, rfl, hu2, by omega, fun p7 H7 s7 np7 hp7 => ?_⟩
  have s47 := s46.trans s7
  refine ⟨c3, p7, _, _, rfl, rfl, s7 _ _ (s6 _ _ k3), hp7, by rw [List.length_map, List.length_map, List.length_append, List.length_map]; exact Nat.le_of_lt (small1000 (by omega)), fun c4 hc4 => ?_⟩
  have t8 := same_new (o := .lst ((ss ++ fs).map V.int ++ (ss2.map (· + n)).map V.int)) (Same.refl H7) hc4
  have k4 : IL (upd H7 c4 (.lst ((ss ++ fs).map V.int ++ (ss2.map (· + n)).map V.int))) c4 (ss ++ fs ++ ss2.map (· + n)) := by
    show upd _ _ _ c4 = _
    rw [upd_same, List.map_append (l₁ := ss ++ fs)]
  generalize upd H7 c4 (.lst ((ss ++ fs).map V.int ++ (ss2.map (· + n)).map V.int)) = H8 at t8 k4 ⊢
  have s8 := s47.trans t8
  have k2' := t8 _ _ (s7 _ _ (s6 _ _ (s5 _ _ k2)))
  try dsimp only [L2.start, List.set, List.map, List.append, List.replicate, List.length]
  refine ⟨_, rfl, x, C, dx, _, _, rfl, s8 _ _ ho, R.cl, R.nL, fl_L _ _ _, ?_⟩
  refine ⟨_, rfl, y, dy, _, rfl, s8 _ _ go, y, n2, ms2, ss2, rfl, hy.same s8, _, _, rfl, rfl, _, rfl, _, rfl, fun z dz nz nd ne => ?_⟩
  have s9 : Same H8 (upd (upd H8 dz (.own z)) z (.ins C dz [])) := same_new (same_new (Same.refl H8) nd) (by rw [upd_ne (Ne.symm ne)]; exact nz)
  refine ⟨z, dz, c2, c4, _, _, _, rfl, upd_same, s9 _ _ k2', s9 _ _ k4, good_join G G2 hz few, fun H9 row kp => ⟨rfl, ?_⟩⟩
  exact q z H9 (same_ins s8 nz nd kp) (row.mono fun c o e => ⟨o, s9 _ _ (s8 _ _ e)⟩)
end
end Cw
namespace Cw
open PySem L2
abbrev kinds3 : List V := [.str "none", .str "plain", .str "strict"]
/-- the marks between two ends -/
def cutM (ns : List Int) (b e : Int) : List Int := (ns.filter fun x => decide (b < x) && decide (x < e)).map (· - b)
theorem mem_cutM {ns : List Int} {b e x : Int} : x ∈ cutM ns b e ↔ x + b ∈ ns ∧ 0 < x ∧ x < e - b := by
  unfold cutM
  rw [List.mem_map]
  constructor
  · rintro ⟨y, hy, rfl⟩
    obtain ⟨h1, h2⟩ := List.mem_filter.mp hy
    simp only [Bool.and_eq_true, decide_eq_true_eq] at h2
    have z : y - b + b = y := by omega
    rw [z]
    exact ⟨h1, by omega, by omega⟩
  · rintro ⟨h1, h2, h3⟩
    refine ⟨x + b, List.mem_filter.mpr ⟨h1, ?_⟩, by omega⟩
    simp only [Bool.and_eq_true, decide_eq_true_eq]
    omega
theorem asc_cutM {ns : List Int} (h : Asc ns) (b e : Int) : Asc (cutM ns b e) := by
  unfold cutM
  rw [Asc, List.pairwise_map]
  exact (h.filter _).imp fun {a c} x => by omega
theorem good_part {n b e : Int} {ms ss : List Int} (G : Good n ms ss) (be : b < e) : Good (e - b) (cutM ms b e) (cutM ss b e) := by
  refine ⟨by omega, ?_, fun x hx => ?_, asc_cutM G.asc _ _, asc_cutM G.asc2 _ _, fun x hx => ?_⟩
  · unfold cutM
    rw [List.length_map]
    exact Nat.le_trans (List.length_filter_le _ _) G.len
  · have := mem_cutM.mp hx
    omega
  · have z := mem_cutM.mp hx
    exact mem_cutM.mpr ⟨G.sub _ z.1, z.2⟩
/-- a comprehension that takes some whole numbers of a list and changes them -/
theorem lc_fmI {K : PySem.W.Frag} {a D : Addr} {ns : List Int} {g : TG} {tt : TT} {te : TE} {vs : List Nat} {σ : St} {H1 : Hp} {Qd : Hp → Prop} (f : Int → Bool) (h : Int → Int)
    (ha : IL H1 a ns) (hD : H1 D = none) (few : ns.length ≤ 999)
    (step : ∀ (z : Int) (H : Hp) (A : V → Hp → Prop) (B : Hp → Prop), Same H1 H → (f z = true → A (.int (h z)) H) → (f z = false → B H) →
      g (.int z) (wipe σ vs) H fun σ2 H2 => wipe σ2 vs = wipe σ vs ∧ tt σ2 H2 fun b H3 => if b = true then te σ2 H3 fun y H4 => A y H4 else B H3)
    (fin : ∀ (H : Hp), Same H1 H → IL H D ((ns.filter f).map h) → Qd H) :
    ∃ W : Nat → Nat → Hp → Prop, (∃ m, W 0 m (upd H1 D (HO.lst []))) ∧ ∀ (i m : Nat) (H : Hp), W i m H → (Itl K a).stop i H ∧ Qd H ∨ (Itl K a).go i H ∧ ∃ Nx : Hp → Prop, (∀ H', Nx H' → ∃ m', m' < m ∧ W (i + 1) m' H') ∧
      ∀ (x : V) (H' : Hp), (Itl K a).yld i H x H' → g x (wipe σ vs) H' fun σ2 H2 => wipe σ2 vs = wipe σ vs ∧ tt σ2 H2 fun b H3 => if b = true then te σ2 H3 fun y H4 => ∃ acc, H4 D = some (HO.lst acc) ∧ acc.length < sizeLine ∧ Nx (upd H4 D (HO.lst (acc ++ [y]))) else Nx H3 := by
  refine lc_list (K := K) (a := a) (xs := ns.map V.int) (fun i H' => Same H1 H' ∧ IL H' D (((ns.take i).filter f).map h)) ⟨same_new (Same.refl H1) hD, upd_same⟩ (fun i H' _ z => SqL.of (z.1 _ _ ha)) ?_ ?_
  · rintro i x H' hx ⟨s1, hE⟩
    obtain ⟨z, rfl, hz⟩ := il_at hx
    have hil := (List.getElem?_eq_some_iff.mp hz).1
    have tk := take_fil hz f
    have ln : (((ns.take i).filter f).map h).length ≤ 999 := by
      have z1 := List.length_filter_le f (ns.take i)
      rw [List.length_take] at z1
      rw [List.length_map]
      omega
    refine step z H' _ _ s1 (fun c => ?_) (fun c => ?_)
    · refine ⟨_, hE, by rw [List.length_map]; exact small1000 (by omega), same_put s1 hD, ?_⟩
      show upd _ _ _ D = _
      rw [upd_same, ints_app, tk, if_pos c, List.map_append (f := h)]
      rfl
    · refine ⟨s1, ?_⟩
      show H' D = _
      rw [hE, tk, if_neg (by rw [c]; exact Bool.false_ne_true), List.append_nil]
  · rintro H ⟨s1, hE⟩
    rw [List.length_map, List.take_length] at hE
    exact fin H s1 hE
def spPart (C : Addr) : Sp := fun vs H Q _ => ∃ (x : Addr) (n b e : Int) (ms ss : List Int), vs = [.ref x, .int b, .int e] ∧ RowAt C H x n ms ss ∧ Good n ms ss ∧ 0 ≤ b ∧ b < e ∧ e ≤ n ∧ ∀ p H', Same H H' → RowNew C H H' p (e - b) (cutM ms b e) (cutM ss b e) → Q (.ref p) H'
section
variable {P : Program} {w : World} {K : PySem.W.Frag} {mg : Str → Option Value} {base : Heap}
theorem ok_join {f C fI fS pL fL pM fM pS fSs kn : Addr} {fd fdI fdS dL dM dS : FuncData} (F : Fun K "joined" "Row.joined" sJoin f fd) (R : Cl K mg C) (M : Mk K C fI) (Gs : Gets P w K mg base C pL fL pM fM pS fSs dL dM dS)
    (gN : mg "KINDS" = some (.ref kn)) (hN : ∀ H : Hp, SqT K H kn kinds3)
    (gS : mg "shifted" = some (.ref fS)) (kS : PySem.W.keepIn K (.ref fS) = true) (bS : Binds K fdS ["places", "number"] []) (GS : FnOk P w K mg base CX0 1 fS fdS ["places", "number"] spShift)
    (bI : Binds K fdI NI []) (GI : FnOk P w K mg base CX0 5 fI fdI NI (spInit C)) :
    FnOk P w K mg base CX0 7 f fd ["self", "other", "kind"] (spJoin C) := by
  refine F.ok scJo (fun vs H Q E h => ?_) (fun cdv A outer s H vs Q E hr h => ?_)
  · obtain ⟨x, y, n, n2, ms, ss, ms2, ss2, kd, rfl, _⟩ := h
    rfl
  · obtain ⟨x, y, n, n2, ms, ss, ms2, ss2, kd, rfl, hx, hy, G, G2, hk, few, q⟩ := h
    obtain ⟨tl, hTL, hQ⟩ := join_tail (P := P) (w := w) (K := K) (mg := mg) (base := base) R M Gs gS kS bS GS bI GI (f := f) (cdv := cdv) (outer := outer) (H0 := H) (E := E) hr
    refine ⟨_, pss_cons (ps_if (pt_cmpR (show OpR _ (compareOp .NotIn) (rIn K true) from op_notIn_seq) (pv 2) (pe_glob (by rfl) gN (v := .ref kn) rfl) (by rfl)) pss_never pss_nil)
      (pss_cons (ps_set (i := 3) scJo.nd rfl (Or.inl rfl) (pe_ifExp (pt_cmpR op_eq (pv 2) pe_str (nomark _)) (pe_lst pa_nil) (pe_lst (pa_cons (pe_fld (pv 0) rfl) pa_nil))))
      (pss_cons (ps_set (i := 4) scJo.nd rfl (Or.inl rfl) (pe_ifExp (pt_cmpR op_eq (pv 2) pe_str (nomark _)) (pv 3) (pe_lst pa_nil))) hTL)), ?_⟩
    obtain ⟨dx, l1, l2, ho, h1, h2⟩ := id hx
    have inK : (if true = true then !inV (.str kd) kinds3 else inV (.str kd) kinds3) = false := by rcases hk with rfl | rfl | rfl <;> decide +kernel
    refine ⟨_, rfl, kn, _, rfl, .inr (hN _), rfl, rfl, _, rfl, ?_⟩
    refine ifF inK ?_
    rcases hk with rfl | rfl | rfl
    · refine ⟨_, rfl, rfl, _, rfl, ?_⟩
      refine ifT (by decide +kernel) ?_
      refine ⟨Nat.zero_le _, fun b1 hb1 => ?_⟩
      have s1 := same_new (o := .lst []) (Same.refl H) hb1
      have y1 : IL (upd H b1 (.lst [])) b1 [] := upd_same
      generalize upd H b1 (.lst []) = H1 at s1 y1 ⊢
      refine ⟨_, rfl, rfl, _, rfl, ?_⟩
      refine ifF (by decide +kernel) ?_
      refine ⟨Nat.zero_le _, fun f1 hf1 => ?_⟩
      have s2 := same_new (o := .lst []) (Same.refl H1) hf1
      have y2 : IL (upd H1 f1 (.lst [])) f1 [] := upd_same
      generalize upd H1 f1 (.lst []) = H2 at s2 y2 ⊢
      have s12 := s1.trans s2
      refine hQ Q H2 x y b1 f1 n n2 ms ss ms2 ss2 [] [] _ (hx.same s12) (hy.same s12) G G2 (s2 _ _ y1) y2 (.inl ⟨rfl, rfl⟩) (by omega) fun p H' sx row => q p H' (s12.trans sx) ?_
      exact row.mono fun c o e => ⟨o, s12 _ _ e⟩
    · refine ⟨_, rfl, rfl, _, rfl, ?_⟩
      refine ifF (by decide +kernel) ?_
      refine ⟨_, rfl, x, C, dx, _, _, rfl, ho, R.cl, R.nL, fl_L _ _ _, (by show 1 ≤ sizeLine; decide), fun b1 hb1 => ?_⟩
      have s1 := same_new (o := .lst [.int n]) (Same.refl H) hb1
      have y1 : IL (upd H b1 (.lst [.int n])) b1 [n] := upd_same
      generalize upd H b1 (.lst [.int n]) = H1 at s1 y1 ⊢
      refine ⟨_, rfl, rfl, _, rfl, ?_⟩
      refine ifF (by decide +kernel) ?_
      refine ⟨Nat.zero_le _, fun f1 hf1 => ?_⟩
      have s2 := same_new (o := .lst []) (Same.refl H1) hf1
      have y2 : IL (upd H1 f1 (.lst [])) f1 [] := upd_same
      generalize upd H1 f1 (.lst []) = H2 at s2 y2 ⊢
      have s12 := s1.trans s2
      refine hQ Q H2 x y b1 f1 n n2 ms ss ms2 ss2 [n] [] _ (hx.same s12) (hy.same s12) G G2 (s2 _ _ y1) y2 (.inr (.inl ⟨rfl, rfl⟩)) (by omega) fun p H' sx row => q p H' (s12.trans sx) ?_
      exact row.mono fun c o e => ⟨o, s12 _ _ e⟩
    · refine ⟨_, rfl, rfl, _, rfl, ?_⟩
      refine ifF (by decide +kernel) ?_
      refine ⟨_, rfl, x, C, dx, _, _, rfl, ho, R.cl, R.nL, fl_L _ _ _, (by show 1 ≤ sizeLine; decide), fun b1 hb1 => ?_⟩
      have s1 := same_new (o := .lst [.int n]) (Same.refl H) hb1
      have y1 : IL (upd H b1 (.lst [.int n])) b1 [n] := upd_same
      generalize upd H b1 (.lst [.int n]) = H1 at s1 y1 ⊢
      refine ⟨_, rfl, rfl, _, rfl, ?_⟩
      refine ifT (by decide +kernel) ?_
      refine ⟨_, rfl, ?_⟩
      refine hQ Q H1 x y b1 b1 n n2 ms ss ms2 ss2 [n] [n] _ (hx.same s1) (hy.same s1) G G2 y1 y1 (.inr (.inr ⟨rfl, rfl⟩)) (by omega) fun p H' sx row => q p H' (s1.trans sx) ?_
      exact row.mono fun c o e => ⟨o, s1 _ _ e⟩
end
end Cw
namespace Cw
open PySem L2
abbrev sShown : Stmt := top 0
abbrev sDue : Stmt := top 0
/-- length, marks and strict marks as a list -/
def ShAt (H : Hp) (p : Addr) (n : Int) (ms ss : List Int) : Prop := ∃ a b, H p = some (.lst [.int n, .ref a, .ref b]) ∧ IL H a ms ∧ IL H b ss
def spShown (C : Addr) : Sp := fun vs H Q _ => ∃ (x : Addr) (n : Int) (ms ss : List Int), vs = [.ref x] ∧ RowAt C H x n ms ss ∧ ∀ p H', Same H H' → ShAt H' p n ms ss → Q (.ref p) H'
def spDue : Sp := fun vs H Q _ => ∃ (l : Addr) (n : Int) (ts : List Addr) (prs : List (Int × Int)), vs = [.int n, .ref l] ∧ H l = some (.lst (ts.map V.ref)) ∧ PrAt H ts prs ∧ prs.length ≤ 900 ∧ ∀ p H', Same H H' → ShAt H' p n (marksOf prs) (strictOf prs) → Q (.ref p) H'
section
variable {P : Program} {w : World} {K : PySem.W.Frag} {mg : Str → Option Value} {base : Heap}
abbrev NPa : List Str := ["self", "begin", "end", "marks", "strict", "mark"]
theorem scPa : FnScope NPa ["self", "begin", "end"] (defScope sPart) := ⟨rfl, rfl, rfl, by decide +kernel, rfl, by decide +kernel, by decide +kernel⟩
theorem ok_part {f C fI fP : Addr} {fd fdI fdP : FuncData} (F : Fun K "part" "Row.part" sPart f fd) (R : Cl K mg C) (M : Mk K C fI)
    (gP : mg "check_place" = some (.ref fP)) (kP : PySem.W.keepIn K (.ref fP) = true) (bP : Binds K fdP ["place", "low", "high"] []) (GP : FnOk P w K mg base CX0 2 fP fdP ["place", "low", "high"] spPl)
    (bI : Binds K fdI NI []) (GI : FnOk P w K mg base CX0 5 fI fdI NI (spInit C)) :
    FnOk P w K mg base CX0 7 f fd ["self", "begin", "end"] (spPart C) := by
  refine F.ok scPa (fun vs H Q E h => ?_) (fun cdv A outer s H vs Q E hr h => ?_)
  · obtain ⟨x, n, b, e, ms, ss, rfl, _⟩ := h
    rfl
  · obtain ⟨x, n, b, e, ms, ss, rfl, hx, G, b0, be, en, q⟩ := h
    have hr2 : Room 2 (A.deeper (PyProof.Rows.envOfC "Row.part" (defScope sPart) s.heap.objs.size f cdv)) := hr.mono (by decide)
    refine ⟨_, pss_cons (ps_expr (pe_call GP hr2 rfl gP kP bP .nil pass0 (pa_cons (pv 1) (pa_cons pe_int (pa_cons (pe_fld (pv 0) rfl) pa_nil)))))
      (pss_cons (ps_expr (pe_call GP hr2 rfl gP kP bP .nil pass0 (pa_cons (pv 2) (pa_cons (pe_op op_add (pv 1) pe_int) (pa_cons (pe_fld (pv 0) rfl) pa_nil)))))
      (pss_cons (ps_setLc (i := 3) (own := [("mark", 5)]) (g := gName 5) rfl scPa.nd rfl rfl (sw_true rfl rfl rfl (by decide +kernel)) (pi_list (pe_fld (pv 0) rfl)) (blkOk_by (own := [("mark", 5)]) (N := NPa) (sc := defScope sPart) (by decide +kernel))
          (fun _ _ _ _ _ => pg_name (i := 5) scPa.nd rfl (Or.inl rfl)) (fun _ _ _ _ _ => pts_one (pt_chain op_lt op_lt (pv 1) (pv 5) (pv 2))) (fun _ _ _ _ _ => pe_op op_sub (pv 5) (pv 1)))
      (pss_cons (ps_setLc (i := 4) (own := [("mark", 5)]) (g := gName 5) rfl scPa.nd rfl rfl (sw_true rfl rfl rfl (by decide +kernel)) (pi_list (pe_fld (pv 0) rfl)) (blkOk_by (own := [("mark", 5)]) (N := NPa) (sc := defScope sPart) (by decide +kernel))
          (fun _ _ _ _ _ => pg_name (i := 5) scPa.nd rfl (Or.inl rfl)) (fun _ _ _ _ _ => pts_one (pt_chain op_lt op_lt (pv 1) (pv 5) (pv 2))) (fun _ _ _ _ _ => pe_op op_sub (pv 5) (pv 1)))
      (pss_one (ps_ret (pe_make M GI hr rfl R.mgR bI .nil pass0 (pa_cons (pe_op op_sub (pv 2) (pv 1)) (pa_cons (pv 3) (pa_cons (pv 4) pa_nil))))))))), ?_⟩
    obtain ⟨dx, l1, l2, ho, h1, h2⟩ := id hx
    have lm := G.len
    have ls := G.len2
    refine ⟨_, rfl, _, rfl, x, C, dx, _, _, rfl, ho, R.cl, R.nL, fl_L _ _ _, b, 0, n, rfl, by omega, by omega, ?_⟩
    refine ⟨_, rfl, _, rfl, _, _, rfl, rfl, _, rfl, x, C, dx, _, _, rfl, ho, R.cl, R.nL, fl_L _ _ _, e, b + 1, n, rfl, by omega, by omega, ?_⟩
    have stepT : ∀ z : Int, (b < z ∧ z < e) → (decide (b < z) && decide (z < e)) = true := fun z h => by simp [h.1, h.2]
    have stepF : ∀ z : Int, ¬ (b < z ∧ z < e) → (decide (b < z) && decide (z < e)) = false := fun z h => by
      by_cases c : b < z
      · have : ¬ z < e := fun y => h ⟨c, y⟩
        simp [this]
      · simp [c]
    refine ⟨_, rfl, x, C, dx, _, _, rfl, ho, R.cl, R.nM, fl_M _ _ _, l1, rfl, ⟨_, SqL.of h1⟩, fun D hD => ?_⟩
    refine lc_fmI (fun z => decide (b < z) && decide (z < e)) (· - b) h1 hD (by omega) ?_ ?_
    · intro z H' A B s1 ka kb
      refine ⟨rfl, ?_⟩
      refine ⟨_, rfl, _, rfl, _, _, rfl, rfl, _, rfl, ?_⟩
      by_cases c1 : b < z
      · refine ifT (decide_eq_true c1) ?_
        refine ⟨_, rfl, _, _, rfl, rfl, _, rfl, ?_⟩
        by_cases c2 : z < e
        · refine ifT (decide_eq_true c2) ?_
          exact ⟨_, rfl, _, rfl, _, _, rfl, rfl, ka (stepT z ⟨c1, c2⟩)⟩
        · refine ifF (decide_eq_false c2) ?_
          exact kb (stepF z fun y => c2 y.2)
      · refine ifF (decide_eq_false c1) ?_
        refine ⟨_, rfl, ?_⟩
        exact ifF rfl (kb (stepF z fun y => c1 y.1))
    intro H1 s1 hD1
    try dsimp only [L2.start, List.set, List.map, List.append, List.replicate, List.length]
    refine ⟨_, rfl, x, C, dx, _, _, rfl, s1 _ _ ho, R.cl, R.nS, fl_S _ _ _, l2, rfl, ⟨_, SqL.of (s1 _ _ h2)⟩, fun D2 hD2 => ?_⟩
    refine lc_fmI (fun z => decide (b < z) && decide (z < e)) (· - b) (s1 _ _ h2) hD2 (by omega) ?_ ?_
    · intro z H' A B s1 ka kb
      refine ⟨rfl, ?_⟩
      refine ⟨_, rfl, _, rfl, _, _, rfl, rfl, _, rfl, ?_⟩
      by_cases c1 : b < z
      · refine ifT (decide_eq_true c1) ?_
        refine ⟨_, rfl, _, _, rfl, rfl, _, rfl, ?_⟩
        by_cases c2 : z < e
        · refine ifT (decide_eq_true c2) ?_
          exact ⟨_, rfl, _, rfl, _, _, rfl, rfl, ka (stepT z ⟨c1, c2⟩)⟩
        · refine ifF (decide_eq_false c2) ?_
          exact kb (stepF z fun y => c2 y.2)
      · refine ifF (decide_eq_false c1) ?_
        refine ⟨_, rfl, ?_⟩
        exact ifF rfl (kb (stepF z fun y => c1 y.1))
    intro H2 s2 hE2
    have s12 := s1.trans s2
    try dsimp only [L2.start, List.set, List.map, List.append, List.replicate, List.length]
    refine ⟨_, rfl, _, rfl, _, _, rfl, rfl, _, rfl, _, rfl, fun z dz nz nd ne => ?_⟩
    have s9 : Same H2 (upd (upd H2 dz (.own z)) z (.ins C dz [])) := same_new (same_new (Same.refl H2) nd) (by rw [upd_ne (Ne.symm ne)]; exact nz)
    refine ⟨z, dz, D, D2, _, _, _, rfl, upd_same, s9 _ _ (s2 _ _ hD1), s9 _ _ hE2, good_part G be, fun H9 row kp => ⟨rfl, ?_⟩⟩
    exact q z H9 (same_ins s12 nz nd kp) (row.mono fun c o y => ⟨o, s9 _ _ (s12 _ _ y)⟩)
abbrev NDu : List Str := ["length", "marked", "place", "sort"]
end
end Cw
namespace Cw
open PySem L2
abbrev sReplaced : Stmt := top 21
/-- a change of a row of n cells -/
structure ChOk (n b e len : Int) (ms ss : List Int) : Prop where
  b0 : 0 ≤ b
  be : b ≤ e
  en : e ≤ n
  l0 : 0 ≤ len
  big : 1 ≤ n - (e - b) + len
  few : ms.length ≤ 400
  rng : ∀ x ∈ ms, 1 ≤ x ∧ x ≤ (if e = n then len - 1 else len)
  asc : Asc ms
  asc2 : Asc ss
  sub : ∀ x ∈ ss, x ∈ ms
theorem ChOk.len2 {n b e len : Int} {ms ss : List Int} (g : ChOk n b e len ms ss) : ss.length ≤ 400 :=
  Nat.le_trans (nodup_len (g.asc2.imp fun h e => by omega) g.sub) g.few
def spRepl : Sp := fun vs H Q _ => ∃ (b e len n : Int), vs = [.int b, .int e, .int len, .int n] ∧ 0 ≤ b ∧ b ≤ e ∧ e ≤ n ∧ 0 ≤ len ∧ 1 ≤ n - (e - b) + len ∧ ∀ H', Same H H' → Q (.bl true) H'
def spChange : Sp := fun vs H Q _ => ∃ (t m s : Addr) (b e len n : Int) (ms ss : List Int), vs = [.ref t, .int n] ∧ H t = some (.tup [.int b, .int e, .int len, .ref m, .ref s]) ∧ IL H m ms ∧ IL H s ss ∧ ChOk n b e len ms ss ∧ ∀ H', Same H H' → Q (.bl true) H'
section
variable {P : Program} {w : World} {K : PySem.W.Frag} {mg : Str → Option Value} {base : Heap}
abbrev NR : List Str := ["begin", "end", "length", "row_length", "number"]
theorem scR : FnScope NR ["begin", "end", "length", "row_length"] (defScope sRepl) := ⟨rfl, rfl, rfl, by decide +kernel, rfl, by decide +kernel, by decide +kernel⟩
theorem ok_repl {f fI : Addr} {fd fdI : FuncData} (F : Fun K "is_replacement" "is_replacement" sRepl f fd) (T : Bl mg) (gI : mg "is_integer" = some (.ref fI)) (kI : PySem.W.keepIn K (.ref fI) = true) (bI : Binds K fdI ["thing"] []) (GI : FnOk P w K mg base CX0 1 fI fdI ["thing"] spOne) :
    FnOk P w K mg base CX0 2 f fd ["begin", "end", "length", "row_length"] spRepl := by
  refine F.ok scR (fun vs H Q E h => ?_) (fun cdv A outer s H vs Q E hr h => ?_)
  · obtain ⟨b, e, len, n, rfl, _⟩ := h
    rfl
  · obtain ⟨b, e, len, n, rfl, b0, be, en, l0, big, k⟩ := h
    refine ⟨_, pss_cons (ps_if (pt_not (pt_val (pe_callB (cr_all rfl) (by rfl) T.all (by decide +kernel) (pa_cons (pe_lc (own := [("number", 4)]) (g := gName 4) (tt := tYes) rfl scR.nd
        (pi_tup (pe_tup (pa_cons (pv 0) (pa_cons (pv 1) (pa_cons (pv 2) pa_nil))))) (blkOk_by (own := [("number", 4)]) (N := NR) (sc := defScope sRepl) (by decide +kernel)) (fun _ _ _ _ _ => pg_name (i := 4) scR.nd rfl (Or.inl rfl)) (fun _ _ _ _ _ => pts_nil)
        (fun _ _ _ _ _ => pe_call GI hr rfl gI kI bI .nil pass0 (pa_cons (pv 4) pa_nil))) pa_nil)))) (pss_one (ps_ret pe_bl)) pss_nil)
      (pss_cons (ps_if (PW.pt (pw_or (pt_not (pt_chain3 op_le op_le op_le pe_int (pv 0) (pv 1) (pv 3))) (pw_or1 (pt_cmpR op_lt (pv 2) pe_int (nomark _))))) (pss_one (ps_ret pe_bl)) pss_nil)
      (pss_one (ps_ret (pe_cmpR op_ge (pe_op op_add (pe_op op_sub (pv 3) (pe_op op_sub (pv 1) (pv 0))) (pv 2)) pe_int (nomark _))))), ?_⟩
    refine ⟨_, rfl, _, rfl, _, rfl, (by show 3 ≤ sizeLine; decide), fun t ht => ?_⟩
    have s1 := same_new (o := .tup [.int b, .int e, .int len]) (Same.refl H) ht
    refine ⟨t, rfl, ⟨_, SqT.of upd_same⟩, fun D hD => ?_⟩
    have nt : t ≠ D := ne_of_none upd_same hD
    refine lc_tup (K := K) (a := t) (xs := [.int b, .int e, .int len]) (fun i H' => Same H H' ∧ H' t = some (.tup [.int b, .int e, .int len]) ∧ H' D = some (.lst (List.replicate i (V.bl true))))
      ⟨same_new s1 hD, by rw [upd_ne nt]; exact upd_same, upd_same⟩ (fun i H' _ q => SqT.of q.2.1) ?_ ?_
    · rintro i x H' hx ⟨s2, h2, h3⟩
      have hi : i < 3 := (List.getElem?_eq_some_iff.mp hx).1
      obtain ⟨z, rfl⟩ : ∃ z, x = V.int z := by
        have m := List.mem_of_getElem? hx
        simp only [List.mem_cons, List.not_mem_nil, or_false] at m
        rcases m with rfl | rfl | rfl <;> exact ⟨_, rfl⟩
      refine ⟨rfl, ?_⟩
      unfold tYes
      refine iteT ?_
      refine ⟨_, rfl, _, rfl, ?_⟩
      refine ⟨_, h3, by rw [List.length_replicate]; exact small1000 (by omega), same_put s2 (s1.free hD), by rw [upd_ne nt]; exact h2, ?_⟩
      rw [upd_same, List.replicate_succ']
    · rintro H' ⟨s2, h2, h3⟩
      refine ⟨D, List.replicate 3 true, rfl, SqL.of (by rw [h3, List.map_replicate]; rfl), _, rfl, ?_⟩
      rw [all_true]
      refine ifF rfl ?_
      refine ⟨_, rfl, _, _, rfl, rfl, _, rfl, ?_⟩
      refine ifT (by simp [b0]) ?_
      refine ⟨_, rfl, _, _, rfl, rfl, _, rfl, ?_⟩
      refine ifT (by simp [be]) ?_
      refine ⟨_, rfl, _, _, rfl, rfl, _, rfl, ?_⟩
      refine ifF (by simp [en]) ?_
      refine ⟨_, rfl, _, _, rfl, rfl, _, rfl, ?_⟩
      refine ifF (decide_eq_false (by omega)) ?_
      refine ⟨_, rfl, _, rfl, _, rfl, _, _, rfl, rfl, _, _, rfl, rfl, _, rfl, _, _, rfl, rfl, _, _, rfl, rfl, ?_⟩
      have z := k _ s2
      rw [← decide_eq_true (p := n - (e - b) + len ≥ 1) big] at z
      exact z
abbrev NC : List Str := ["thing", "row_length", "begin", "end", "length", "marks", "strict", "high"]
theorem scC : FnScope NC ["thing", "row_length"] (defScope sChange) := ⟨rfl, rfl, rfl, by decide +kernel, rfl, by decide +kernel, by decide +kernel⟩
theorem ok_change {f fR fM fS : Addr} {fd fdR fdM fdS : FuncData} (F : Fun K "is_change" "is_change" sChange f fd) (T : Bl mg)
    (gR : mg "is_replacement" = some (.ref fR)) (kR : PySem.W.keepIn K (.ref fR) = true) (bR : Binds K fdR ["begin", "end", "length", "row_length"] []) (GR : FnOk P w K mg base CX0 2 fR fdR ["begin", "end", "length", "row_length"] spRepl)
    (gM : mg "are_marks" = some (.ref fM)) (kM : PySem.W.keepIn K (.ref fM) = true) (bM : Binds K fdM ["thing", "high"] []) (GM : FnOk P w K mg base CX0 4 fM fdM ["thing", "high"] spMarks)
    (gS : mg "are_some_of" = some (.ref fS)) (kS : PySem.W.keepIn K (.ref fS) = true) (bS : Binds K fdS ["thing", "marks"] []) (GS : FnOk P w K mg base CX0 4 fS fdS ["thing", "marks"] spSome) :
    FnOk P w K mg base CX0 5 f fd ["thing", "row_length"] spChange := by
  refine F.ok scC (fun vs H Q E h => ?_) (fun cdv A outer s H vs Q E hr h => ?_)
  · obtain ⟨t, m, u, b, e, len, n, ms, ss, rfl, _⟩ := h
    rfl
  · obtain ⟨t, m, u, b, e, len, n, ms, ss, rfl, ht, hM, hS, G, k⟩ := h
    have hr2 : Room 2 (A.deeper (PyProof.Rows.envOfC "is_change" (defScope sChange) s.heap.objs.size f cdv)) := hr.mono (by decide)
    refine ⟨_, pss_cons (ps_if (PW.pt (pw_or (pt_not (pt_val (pe_callB call_isi (by rfl) T.isi (by decide +kernel) (pa_cons (pv 0) (pa_cons (pe_bltn (by rfl) T.tuple (by decide +kernel) (v := V.ty "tuple") rfl) pa_nil)))))
        (pw_or1 (pt_cmpR op_ne (pe_callB call_len_seq (by rfl) T.len PySem.boot_len (pa_cons (pv 0) pa_nil)) pe_int (nomark _))))) (pss_one (ps_ret pe_bl)) pss_nil)
      (pss_cons (ps_asg (pv 0) (pg_tup (by rfl) (pgs_cons (pg_name (i := 2) scC.nd rfl (Or.inl rfl)) (pgs_cons (pg_name (i := 3) scC.nd rfl (Or.inl rfl)) (pgs_cons (pg_name (i := 4) scC.nd rfl (Or.inl rfl)) (pgs_cons (pg_name (i := 5) scC.nd rfl (Or.inl rfl)) (pgs_cons (pg_name (i := 6) scC.nd rfl (Or.inl rfl)) pgs_nil)))))))
      (pss_cons (ps_if (pt_not (pt_val (pe_call GR hr2 rfl gR kR bR .nil pass0 (pa_cons (pv 2) (pa_cons (pv 3) (pa_cons (pv 4) (pa_cons (pv 1) pa_nil))))))) (pss_one (ps_ret pe_bl)) pss_nil)
      (pss_cons (ps_set (i := 7) scC.nd rfl (Or.inl rfl) (pe_ifExp (pt_cmpR op_eq (pv 3) (pv 1) (nomark _)) (pe_op op_sub (pv 4) pe_int) (pv 4)))
      (pss_one (ps_ret (pe_and (pe_call GM hr rfl gM kM bM .nil pass0 (pa_cons (pv 5) (pa_cons (pv 7) pa_nil))) (pe_one (pe_call GS hr rfl gS kS bS .nil pass0 (pa_cons (pv 6) (pa_cons (pv 5) pa_nil)))))))))), ?_⟩
    refine ⟨_, rfl, _, _, _, _, true, rfl, ClsV.ty _, .base (.tup ht), kit_ty (by decide +kernel), _, rfl, ?_⟩
    refine ifF rfl ?_
    refine ⟨_, rfl, t, _, rfl, .inr (SqT.of ht), rfl, _, rfl, ?_⟩
    refine ifF (by simp) ?_
    refine ⟨_, rfl, t, _, rfl, SqT.of ht, rfl, _, _, rfl, _, _, rfl, _, _, rfl, _, _, rfl, _, _, rfl, rfl, ?_⟩
    refine ⟨_, rfl, _, rfl, _, rfl, _, rfl, b, e, len, n, rfl, G.b0, G.be, G.en, G.l0, G.big, fun H1 s1 => ⟨_, rfl, ?_⟩⟩
    refine ifF rfl ?_
    have fin : ∀ hi, (∀ x ∈ ms, 1 ≤ x ∧ x ≤ hi) → spMarks [.ref m, .int hi] H1 (fun v H2 => ∃ c, v = .bl c ∧ (if c = true then spSome [.ref u, .ref m] H2 Q E else Q (.bl false) H2)) E := fun hi hx =>
      ⟨m, ms, hi, rfl, s1 _ _ hM, G.few, hx, G.asc, fun H2 s2 => ⟨_, rfl, iteT ⟨u, m, ss, ms, rfl, s2 _ _ (s1 _ _ hS), s2 _ _ (s1 _ _ hM), G.len2, G.few, G.asc2, fun y hy => (G.rng y (G.sub y hy)).1, G.sub, fun H3 s3 => k _ ((s1.trans s2).trans s3)⟩⟩⟩
    have rng := G.rng
    refine ⟨_, rfl, _, rfl, rfl, _, rfl, ?_⟩
    by_cases hen : e = n
    · refine ifT (by simp [hen]) ?_
      rw [if_pos hen] at rng
      refine ⟨_, rfl, _, _, rfl, rfl, ?_⟩
      refine ⟨_, rfl, _, rfl, ?_⟩
      obtain ⟨m1, ns1, hi1, e1, i1, i2, i3, i4, i5⟩ := fin _ rng
      refine ⟨m1, ns1, hi1, e1, i1, i2, i3, i4, fun H2 s2 => ?_⟩
      obtain ⟨c, ec, q⟩ := i5 H2 s2
      refine ⟨c, ec, ?_⟩
      cases ec
      exact ⟨_, rfl, _, rfl, q⟩
    · refine ifF (by simp [hen]) ?_
      rw [if_neg hen] at rng
      refine ⟨_, rfl, ?_⟩
      refine ⟨_, rfl, _, rfl, ?_⟩
      obtain ⟨m1, ns1, hi1, e1, i1, i2, i3, i4, i5⟩ := fin _ rng
      refine ⟨m1, ns1, hi1, e1, i1, i2, i3, i4, fun H2 s2 => ?_⟩
      obtain ⟨c, ec, q⟩ := i5 H2 s2
      refine ⟨c, ec, ?_⟩
      cases ec
      exact ⟨_, rfl, _, rfl, q⟩
end
end Cw
namespace Cw
open PySem L2
/-! ## the mathematics of a change -/
def rep (old new : List Int) (b e len nl : Int) : List Int := old.filter (fun x => decide (x ≤ b) && decide (x < nl)) ++ new.map (· + b) ++ (old.filter (fun x => decide (x > e))).map (· + (len - (e - b)))
theorem mem_rep {old new : List Int} {b e len nl x : Int} : x ∈ rep old new b e len nl ↔ (x ∈ old ∧ x ≤ b ∧ x < nl) ∨ (x - b ∈ new) ∨ (x - (len - (e - b)) ∈ old ∧ e < x - (len - (e - b))) := by
  unfold rep
  rw [List.mem_append, List.mem_append, List.mem_filter, List.mem_map, List.mem_map]
  constructor
  · rintro ((⟨h1, h2⟩ | ⟨y, h, rfl⟩) | ⟨y, h, rfl⟩)
    · simp only [Bool.and_eq_true, decide_eq_true_eq] at h2
      exact .inl ⟨h1, h2⟩
    · refine .inr (.inl ?_)
      have z : y + b - b = y := by omega
      rw [z]
      exact h
    · rw [List.mem_filter] at h
      have z : y + (len - (e - b)) - (len - (e - b)) = y := by omega
      refine .inr (.inr ?_)
      rw [z]
      exact ⟨h.1, of_decide_eq_true h.2⟩
  · rintro (⟨h1, h2, h3⟩ | h | ⟨h1, h2⟩)
    · exact .inl (.inl ⟨h1, by simp [h2, h3]⟩)
    · exact .inl (.inr ⟨_, h, by omega⟩)
    · exact .inr ⟨_, List.mem_filter.mpr ⟨h1, decide_eq_true h2⟩, by omega⟩
theorem asc_rep {old new : List Int} {b e len nl : Int} (h1 : Asc old) (h2 : Asc new) (hn : ∀ x ∈ new, 1 ≤ x ∧ x ≤ len) (hl : 0 ≤ len) : Asc (rep old new b e len nl) := by
  unfold rep
  rw [Asc, List.pairwise_append, List.pairwise_append]
  refine ⟨⟨h1.filter _, asc_shift h2 b, ?_⟩, asc_shift (h1.filter _) _, ?_⟩
  · intro x hx y hy
    obtain ⟨z, hz, rfl⟩ := List.mem_map.mp hy
    have q := (List.mem_filter.mp hx).2
    simp only [Bool.and_eq_true, decide_eq_true_eq] at q
    have := hn z hz
    omega
  · intro x hx y hy
    obtain ⟨z, hz, rfl⟩ := List.mem_map.mp hy
    have q := of_decide_eq_true (List.mem_filter.mp hz).2
    rcases List.mem_append.mp hx with hx | hx
    · have r := (List.mem_filter.mp hx).2
      simp only [Bool.and_eq_true, decide_eq_true_eq] at r
      omega
    · obtain ⟨u, hu, rfl⟩ := List.mem_map.mp hx
      have := hn u hu
      omega
theorem good_rep {n b e len : Int} {ms ss cs ds : List Int} (G : Good n ms ss) (D : ChOk n b e len cs ds) (hl : (rep ms cs b e len (n - (e - b) + len)).length ≤ 400) :
    Good (n - (e - b) + len) (rep ms cs b e len (n - (e - b) + len)) (rep ss ds b e len (n - (e - b) + len)) := by
  have b0 := D.b0
  have be := D.be
  have en := D.en
  have l0 := D.l0
  have le : ∀ x ∈ cs, 1 ≤ x ∧ x ≤ len := fun x hx => by
    have := D.rng x hx
    split at this <;> omega
  refine ⟨by have := D.big; omega, hl, fun x hx => ?_, asc_rep G.asc D.asc le l0, asc_rep G.asc2 D.asc2 (fun x hx => le x (D.sub x hx)) l0, fun x hx => ?_⟩
  · rcases mem_rep.mp hx with ⟨h1, h2, h3⟩ | h | ⟨h1, h2⟩
    · have := G.rng x h1
      omega
    · have := D.rng _ h
      split at this <;> omega
    · have := G.rng _ h1
      omega
  · rcases mem_rep.mp hx with ⟨h1, h2, h3⟩ | h | ⟨h1, h2⟩
    · exact mem_rep.mpr (.inl ⟨G.sub _ h1, h2, h3⟩)
    · exact mem_rep.mpr (.inr (.inl (D.sub _ h)))
    · exact mem_rep.mpr (.inr (.inr ⟨G.sub _ h1, h2⟩))
theorem small2000 {n : Nat} (h : n ≤ 2000) : n < sizeLine := Nat.lt_of_le_of_lt h (by decide)
theorem small3000 {n : Nat} (h : n ≤ 3000) : n < sizeLine := Nat.lt_of_le_of_lt h (by decide)
def spReplaced : Sp := fun vs H Q _ => ∃ (a c t : Addr) (os ns : List Int) (b e len nl : Int) (x y : V), vs = [.ref a, .ref c, .ref t, .int nl] ∧ IL H a os ∧ IL H c ns ∧ H t = some (.tup [.int b, .int e, .int len, x, y]) ∧ os.length ≤ 1000 ∧ ns.length ≤ 1000 ∧
  ∀ p H', Same H H' → H p = none → IL H' p (rep os ns b e len nl) → Q (.ref p) H'
def spChanged (C : Addr) : Sp := fun vs H Q _ => ∃ (x t m u : Addr) (n b e len : Int) (ms ss cs ds : List Int), vs = [.ref x, .ref t] ∧ RowAt C H x n ms ss ∧ H t = some (.tup [.int b, .int e, .int len, .ref m, .ref u]) ∧ IL H m cs ∧ IL H u ds ∧ Good n ms ss ∧ ChOk n b e len cs ds ∧
  (rep ms cs b e len (n - (e - b) + len)).length ≤ 400 ∧ ∀ p H', Same H H' → RowNew C H H' p (n - (e - b) + len) (rep ms cs b e len (n - (e - b) + len)) (rep ss ds b e len (n - (e - b) + len)) → Q (.ref p) H'
section
variable {P : Program} {w : World} {K : PySem.W.Frag} {mg : Str → Option Value} {base : Heap}
abbrev NP : List Str := ["old", "new", "change", "new_length", "begin", "end", "length", "_", "before", "behind", "mark"]
theorem scRp : FnScope NP ["old", "new", "change", "new_length"] (defScope sReplaced) := ⟨rfl, rfl, rfl, by decide +kernel, rfl, by decide +kernel, by decide +kernel⟩
theorem ok_replaced {f fS : Addr} {fd fdS : FuncData} (F : Fun K "replaced" "replaced" sReplaced f fd) (gS : mg "shifted" = some (.ref fS)) (kS : PySem.W.keepIn K (.ref fS) = true) (bS : Binds K fdS ["places", "number"] []) (GS : FnOk P w K mg base CX0 1 fS fdS ["places", "number"] spShift) :
    FnOk P w K mg base CX0 2 f fd ["old", "new", "change", "new_length"] spReplaced := by
  refine F.ok scRp (fun vs H Q E h => ?_) (fun cdv A outer s H vs Q E hr h => ?_)
  · obtain ⟨a, c, t, os, ns, b, e, len, nl, x, y, rfl, _⟩ := h
    rfl
  · obtain ⟨a, c, t, os, ns, b, e, len, nl, x, y, rfl, hO, hN, ht, lo, ln, q⟩ := h
    refine ⟨_, pss_cons (ps_asg (pv 2) (pg_tup (by rfl) (pgs_cons (pg_name (i := 4) scRp.nd rfl (Or.inr rfl)) (pgs_cons (pg_name (i := 5) scRp.nd rfl (Or.inr rfl)) (pgs_cons (pg_name (i := 6) scRp.nd rfl (Or.inl rfl)) (pgs_cons (pg_name (i := 7) scRp.nd rfl (Or.inl rfl)) (pgs_cons (pg_name (i := 7) scRp.nd rfl (Or.inl rfl)) pgs_nil)))))))
      (pss_cons (ps_setLc (i := 8) (own := [("mark", 10)]) (g := gName 10) rfl scRp.nd rfl rfl (sw_true rfl rfl rfl (by decide +kernel)) (pi_list (pv 0)) (blkOk_by (own := [("mark", 10)]) (N := NP) (sc := defScope sReplaced) (by decide +kernel))
        (fun _ _ _ _ _ => pg_name (i := 10) scRp.nd rfl (Or.inl rfl)) (fun _ _ _ _ _ => pts_one (PW.pt (pw_and (pt_cmpR op_le (pv 10) (pv 4) (nomark _)) (pw_and1 (pt_cmpR op_lt (pv 10) (pv 3) (nomark _)))))) (fun _ _ _ _ _ => pv 10))
      (pss_cons (ps_setLc (i := 9) (own := [("mark", 10)]) (g := gName 10) rfl scRp.nd rfl rfl (sw_true rfl rfl rfl (by decide +kernel)) (pi_list (pv 0)) (blkOk_by (own := [("mark", 10)]) (N := NP) (sc := defScope sReplaced) (by decide +kernel))
        (fun _ _ _ _ _ => pg_name (i := 10) scRp.nd rfl (Or.inl rfl)) (fun _ _ _ _ _ => pts_one (pt_cmpR op_gt (pv 10) (pv 5) (nomark _))) (fun _ _ _ _ _ => pv 10))
      (pss_one (ps_ret (pe_op op_cat (pe_op op_cat (pv 8) (pe_call GS hr rfl gS kS bS .nil pass0 (pa_cons (pv 1) (pa_cons (pv 4) pa_nil))))
        (pe_call GS hr rfl gS kS bS .nil pass0 (pa_cons (pv 9) (pa_cons (pe_op op_sub (pv 6) (pe_op op_sub (pv 5) (pv 4))) pa_nil)))))))), ?_⟩
    refine ⟨_, rfl, t, _, rfl, SqT.of ht, rfl, _, _, rfl, _, _, rfl, _, _, rfl, _, _, rfl, _, _, rfl, rfl, ?_⟩
    refine ⟨_, rfl, a, rfl, ⟨_, SqL.of hO⟩, fun D hD => ?_⟩
    refine lc_list (K := K) (a := a) (xs := os.map V.int) (fun i H' => Same H H' ∧ IL H' D ((os.take i).filter (fun x => decide (x ≤ b) && decide (x < nl)))) ⟨same_new (Same.refl H) hD, upd_same⟩ (fun i H' _ z => SqL.of (z.1 _ _ hO)) ?_ ?_
    · rintro i x' H' hx ⟨s1, hD'⟩
      obtain ⟨z, rfl, hz⟩ := il_at hx
      have hil : i < os.length := (List.getElem?_eq_some_iff.mp hz).1
      have tf := take_fil hz (fun x => decide (x ≤ b) && decide (x < nl))
      have sm : (List.map V.int ((os.take i).filter (fun x => decide (x ≤ b) && decide (x < nl)))).length < sizeLine := by
        rw [List.length_map]
        have z1 := List.length_filter_le (fun x => decide (x ≤ b) && decide (x < nl)) (os.take i)
        rw [List.length_take] at z1
        exact small1000 (by omega)
      refine ⟨rfl, ?_⟩
      refine ⟨_, rfl, _, rfl, _, _, rfl, rfl, _, rfl, ?_⟩
      by_cases c1 : z ≤ b
      · refine ifT (decide_eq_true c1) ?_
        refine ⟨_, rfl, _, rfl, _, _, rfl, rfl, _, rfl, ?_⟩
        by_cases c2 : z < nl
        · refine ifT (decide_eq_true c2) ?_
          refine ⟨_, rfl, _, hD', sm, same_put s1 hD, ?_⟩
          show upd _ _ _ D = _
          rw [upd_same, ints_app, tf]
          simp [c1, c2]
        · refine ifF (decide_eq_false c2) ?_
          refine ⟨s1, ?_⟩
          show H' D = _
          rw [hD', tf]
          simp [c2]
      · refine ifF (decide_eq_false c1) ?_
        refine ifF rfl ?_
        refine ⟨s1, ?_⟩
        show H' D = _
        rw [hD', tf]
        simp [c1]
    · rintro H' ⟨s1, hD'⟩
      rw [List.length_map, List.take_length] at hD'
      have nD : H D = none := hD
      refine ⟨_, rfl, a, rfl, ⟨_, SqL.of (s1 _ _ hO)⟩, fun D2 hD2 => ?_⟩
      have nDD : D ≠ D2 := ne_of_none hD' hD2
      refine lc_list (K := K) (a := a) (xs := os.map V.int) (fun i H2 => Same H' H2 ∧ IL H2 D2 ((os.take i).filter (fun x => decide (x > e)))) ⟨same_new (Same.refl H') hD2, upd_same⟩ (fun i H2 _ z => SqL.of (z.1 _ _ (s1 _ _ hO))) ?_ ?_
      · rintro i x' H2 hx ⟨s2, hE⟩
        obtain ⟨z, rfl, hz⟩ := il_at hx
        have hil : i < os.length := (List.getElem?_eq_some_iff.mp hz).1
        have tf := take_fil hz (fun x => decide (x > e))
        have sm : (List.map V.int ((os.take i).filter (fun x => decide (x > e)))).length < sizeLine := by
          rw [List.length_map]
          have z1 := List.length_filter_le (fun x => decide (x > e)) (os.take i)
          rw [List.length_take] at z1
          exact small1000 (by omega)
        refine ⟨rfl, ?_⟩
        refine ⟨_, rfl, _, rfl, _, _, rfl, rfl, _, rfl, ?_⟩
        by_cases c1 : z > e
        · refine ifT (decide_eq_true c1) ?_
          refine ⟨_, rfl, _, hE, sm, same_put s2 hD2, ?_⟩
          show upd _ _ _ D2 = _
          rw [upd_same, ints_app, tf]
          simp [c1]
        · refine ifF (decide_eq_false c1) ?_
          refine ⟨s2, ?_⟩
          show H2 D2 = _
          rw [hE, tf]
          simp [c1]
      · rintro H2 ⟨s2, hE⟩
        rw [List.length_map, List.take_length] at hE
        have s12 := s1.trans s2
        have l1 := List.length_filter_le (fun x => decide (x ≤ b) && decide (x < nl)) os
        have l2 := List.length_filter_le (fun x => decide (x > e)) os
        refine ⟨_, rfl, _, rfl, _, rfl, c, ns, b, rfl, s12 _ _ hN, ln, fun p3 H3 s3 n3 hp3 => ?_⟩
        refine ⟨D, p3, _, _, rfl, rfl, s3 _ _ (s2 _ _ hD'), hp3, by rw [List.length_map, List.length_map, List.length_map]; exact Nat.le_of_lt (small2000 (by omega)), fun p4 n4 => ?_⟩
        have s4 := same_new (o := .lst (((os.filter (fun x => decide (x ≤ b) && decide (x < nl))).map V.int) ++ ((ns.map (· + b)).map V.int))) s3 n4
        refine ⟨_, rfl, _, rfl, _, rfl, _, rfl, _, _, rfl, rfl, _, _, rfl, rfl, ?_⟩
        refine ⟨D2, _, _, rfl, s4 _ _ hE, by omega, fun p5 H5 s5 n5 hp5 => ?_⟩
        refine ⟨p4, p5, _, _, rfl, rfl, s5 _ _ upd_same, hp5, by simp only [List.length_append, List.length_map]; exact Nat.le_of_lt (small3000 (by omega)), fun p6 n6 => ?_⟩
        have s16 : Same H (upd H5 p6 (.lst (((os.filter (fun x => decide (x ≤ b) && decide (x < nl))).map V.int ++ (ns.map (· + b)).map V.int) ++ ((os.filter (fun x => decide (x > e))).map (· + (len - (e - b)))).map V.int))) := same_new ((s12.trans s4).trans s5) n6
        have n6' : H p6 = none := ((s12.trans s4).trans s5).free n6
        refine q p6 _ s16 n6' ?_
        show upd _ _ _ p6 = _
        rw [upd_same]
        unfold rep
        rw [List.map_append, List.map_append]
end
end Cw
namespace Cw
open PySem L2
abbrev sParts : Stmt := top 20
def spParts (C : Addr) : Sp := fun vs H Q _ => ∃ (x t m u : Addr) (n b e len : Int) (ms ss cs ds : List Int), vs = [.ref x, .ref t] ∧ RowAt C H x n ms ss ∧ H t = some (.tup [.int b, .int e, .int len, .ref m, .ref u]) ∧ IL H m cs ∧ IL H u ds ∧ Good n ms ss ∧ ChOk n b e len cs ds ∧
  ∀ p p2 p3 H', Same H H' → H' p = some (.tup [.int (n - (e - b) + len), .ref p2, .ref p3]) → IL H' p2 (rep ms cs b e len (n - (e - b) + len)) → IL H' p3 (rep ss ds b e len (n - (e - b) + len)) → Q (.ref p) H'
section
variable {P : Program} {w : World} {K : PySem.W.Frag} {mg : Str → Option Value} {base : Heap}
abbrev NPq : List Str := ["row", "change", "begin", "end", "length", "marks", "strict", "new_length", "new_marks", "new_strict"]
theorem scPq : FnScope NPq ["row", "change"] (defScope sParts) := ⟨rfl, rfl, rfl, by decide +kernel, rfl, by decide +kernel, by decide +kernel⟩
theorem ok_parts {f C fP pL fL pM fM pS fS : Addr} {fd fdP dL dM dS : FuncData} (F : Fun K "changed_parts" "changed_parts" sParts f fd) (R : Cl K mg C) (Gs : Gets P w K mg base C pL fL pM fM pS fS dL dM dS)
    (gP : mg "replaced" = some (.ref fP)) (kP : PySem.W.keepIn K (.ref fP) = true) (bP : Binds K fdP ["old", "new", "change", "new_length"] []) (GP : FnOk P w K mg base CX0 2 fP fdP ["old", "new", "change", "new_length"] spReplaced) :
    FnOk P w K mg base CX0 3 f fd ["row", "change"] (spParts C) := by
  refine F.ok scPq (fun vs H Q E h => ?_) (fun cdv A outer s H vs Q E hr h => ?_)
  · obtain ⟨x, t, m, u, n, b, e, len, ms, ss, cs, ds, rfl, _⟩ := h
    rfl
  · obtain ⟨x, t, m, u, n, b, e, len, ms, ss, cs, ds, rfl, hx, ht, hM, hS, G, D, q⟩ := h
    refine ⟨_, pss_cons (ps_asg (pv 1) (pg_tup (by rfl) (pgs_cons (pg_name (i := 2) scPq.nd rfl (Or.inl rfl)) (pgs_cons (pg_name (i := 3) scPq.nd rfl (Or.inl rfl)) (pgs_cons (pg_name (i := 4) scPq.nd rfl (Or.inl rfl)) (pgs_cons (pg_name (i := 5) scPq.nd rfl (Or.inl rfl)) (pgs_cons (pg_name (i := 6) scPq.nd rfl (Or.inl rfl)) pgs_nil)))))))
      (pss_cons (ps_set (i := 7) scPq.nd rfl (Or.inl rfl) (pe_op op_add (pe_op op_sub (pe_prop (pv 0) R.cl Gs.hL Gs.GL hr Gs.bL .nil pass0 rfl) (pe_op op_sub (pv 3) (pv 2))) (pv 4)))
      (pss_cons (ps_set (i := 8) scPq.nd rfl (Or.inl rfl) (pe_call GP hr rfl gP kP bP .nil pass0 (pa_cons (pe_prop (pv 0) R.cl Gs.hM Gs.GM hr Gs.bM .nil pass0 rfl) (pa_cons (pv 5) (pa_cons (pv 1) (pa_cons (pv 7) pa_nil))))))
      (pss_cons (ps_set (i := 9) scPq.nd rfl (Or.inl rfl) (pe_call GP hr rfl gP kP bP .nil pass0 (pa_cons (pe_prop (pv 0) R.cl Gs.hS Gs.GS hr Gs.bS .nil pass0 rfl) (pa_cons (pv 6) (pa_cons (pv 1) (pa_cons (pv 7) pa_nil))))))
      (pss_one (ps_ret (pe_tup (pa_cons (pv 7) (pa_cons (pv 8) (pa_cons (pv 9) pa_nil))))))))), ?_⟩
    obtain ⟨dx, l1, l2, ho, h1, h2⟩ := id hx
    refine ⟨_, rfl, t, _, rfl, SqT.of ht, rfl, _, _, rfl, _, _, rfl, _, _, rfl, _, _, rfl, _, _, rfl, rfl, ?_⟩
    refine ⟨_, rfl, x, dx, _, rfl, ho, x, n, ms, ss, rfl, hx, _, rfl, _, rfl, _, _, rfl, rfl, _, _, rfl, rfl, _, rfl, _, _, rfl, rfl, ?_⟩
    have lm := G.len
    have ls := G.len2
    have lc := D.few
    have ld := D.len2
    refine ⟨_, rfl, x, dx, _, rfl, ho, x, n, ms, ss, rfl, hx, fun a1 H1 s1 n1 i1 => ?_⟩
    refine ⟨_, rfl, _, rfl, _, rfl, a1, m, t, ms, cs, b, e, len, _, _, _, rfl, i1, s1 _ _ hM, s1 _ _ ht, by omega, by omega, fun p2 H2 s2 n2 hp2 => ?_⟩
    have s12 := s1.trans s2
    have R2 := hx.same s12
    refine ⟨_, rfl, x, dx, _, rfl, s12 _ _ ho, x, n, ms, ss, rfl, R2, fun a3 H3 s3 n3 i3 => ?_⟩
    have s13 := s12.trans s3
    refine ⟨_, rfl, _, rfl, _, rfl, a3, u, t, ss, ds, b, e, len, _, _, _, rfl, i3, s13 _ _ hS, s13 _ _ ht, by omega, by omega, fun p3 H4 s4 n4 hp3 => ?_⟩
    refine ⟨_, rfl, _, rfl, _, rfl, (by show 3 ≤ sizeLine; decide), fun p np => ?_⟩
    have s5 := same_new (o := .tup [.int (n - (e - b) + len), .ref p2, .ref p3]) (Same.refl H4) np
    exact q p p2 p3 _ ((s13.trans s4).trans s5) upd_same (s5 _ _ (s4 _ _ (s3 _ _ hp2))) (s5 _ _ hp3)
abbrev NCh : List Str := ["self", "change", "length", "marks", "strict"]
theorem scCh : FnScope NCh ["self", "change"] (defScope sChanged) := ⟨rfl, rfl, rfl, by decide +kernel, rfl, by decide +kernel, by decide +kernel⟩
theorem ok_changed {f C fC fP fI : Addr} {fd fdC fdP fdI : FuncData} (F : Fun K "changed" "Row.changed" sChanged f fd) (R : Cl K mg C) (M : Mk K C fI)
    (gC : mg "is_change" = some (.ref fC)) (kC : PySem.W.keepIn K (.ref fC) = true) (bC : Binds K fdC ["thing", "row_length"] []) (GC : FnOk P w K mg base CX0 5 fC fdC ["thing", "row_length"] spChange)
    (gP : mg "changed_parts" = some (.ref fP)) (kP : PySem.W.keepIn K (.ref fP) = true) (bP : Binds K fdP ["row", "change"] []) (GP : FnOk P w K mg base CX0 3 fP fdP ["row", "change"] (spParts C))
    (bI : Binds K fdI NI []) (GI : FnOk P w K mg base CX0 5 fI fdI NI (spInit C)) :
    FnOk P w K mg base CX0 7 f fd ["self", "change"] (spChanged C) := by
  refine F.ok scCh (fun vs H Q E h => ?_) (fun cdv A outer s H vs Q E hr h => ?_)
  · obtain ⟨x, t, m, u, n, b, e, len, ms, ss, cs, ds, rfl, _⟩ := h
    rfl
  · obtain ⟨x, t, m, u, n, b, e, len, ms, ss, cs, ds, rfl, hx, ht, hM, hS, G, D, hl, q⟩ := h
    have hr5 : Room 5 (A.deeper (PyProof.Rows.envOfC "Row.changed" (defScope sChanged) s.heap.objs.size f cdv)) := hr.mono (by decide)
    have hr3 : Room 3 (A.deeper (PyProof.Rows.envOfC "Row.changed" (defScope sChanged) s.heap.objs.size f cdv)) := hr.mono (by decide)
    refine ⟨_, pss_cons (ps_if (pt_not (pt_val (pe_call GC hr5 rfl gC kC bC .nil pass0 (pa_cons (pv 1) (pa_cons (pe_fld (pv 0) rfl) pa_nil))))) pss_never pss_nil)
      (pss_cons (ps_asg (pe_call GP hr3 rfl gP kP bP .nil pass0 (pa_cons (pv 0) (pa_cons (pv 1) pa_nil))) (pg_tup (by rfl) (pgs_cons (pg_name (i := 2) scCh.nd rfl (Or.inl rfl)) (pgs_cons (pg_name (i := 3) scCh.nd rfl (Or.inl rfl)) (pgs_cons (pg_name (i := 4) scCh.nd rfl (Or.inl rfl)) pgs_nil)))))
      (pss_one (ps_ret (pe_make M GI hr rfl R.mgR bI .nil pass0 (pa_cons (pv 2) (pa_cons (pv 3) (pa_cons (pv 4) pa_nil))))))), ?_⟩
    obtain ⟨dx, l1, l2, ho, h1, h2⟩ := id hx
    refine ⟨_, rfl, _, rfl, x, C, dx, _, _, rfl, ho, R.cl, R.nL, fl_L _ _ _, ?_⟩
    refine ⟨t, m, u, b, e, len, n, cs, ds, rfl, ht, hM, hS, D, fun H1 s1 => ⟨_, rfl, ?_⟩⟩
    refine ifF rfl ?_
    refine ⟨_, rfl, _, rfl, x, t, m, u, n, b, e, len, ms, ss, cs, ds, rfl, hx.same s1, s1 _ _ ht, s1 _ _ hM, s1 _ _ hS, G, D, fun p p2 p3 H2 s2 hp hp2 hp3 => ?_⟩
    refine ⟨p, _, rfl, SqT.of hp, rfl, _, _, rfl, _, _, rfl, _, _, rfl, rfl, ?_⟩
    refine ⟨_, rfl, _, rfl, _, rfl, fun y dy ny nd ne => ?_⟩
    have s12 := s1.trans s2
    have s4 : Same H2 (upd (upd H2 dy (.own y)) y (.ins C dy [])) := same_new (same_new (Same.refl H2) nd) (by rw [upd_ne (Ne.symm ne)]; exact ny)
    refine ⟨y, dy, p2, p3, _, _, _, rfl, upd_same, s4 _ _ hp2, s4 _ _ hp3, good_rep G D hl, fun H5 row kp => ⟨rfl, ?_⟩⟩
    exact q y H5 (same_ins s12 ny nd kp) (row.mono fun c o e => ⟨o, s4 _ _ (s12 _ _ e)⟩)
end
end Cw
namespace Cw
open PySem PySem.Spec PyProof.Rows L2
/-! ## x -> 5 x + 1 meets all numbers below a power of two -/
def ff : Nat → Nat → Nat
  | 0, i => i
  | n + 1, i => 5 * ff n i + 1
theorem ff_add (a i : Nat) : ∀ b, ff (a + b) i = ff b (ff a i)
  | 0 => rfl
  | b + 1 => by
    show 5 * ff (a + b) i + 1 = 5 * ff b (ff a i) + 1
    rw [ff_add a i b]
theorem ff_two (k : Nat) : ∃ u v : Nat, ∀ i, ff (2 ^ k) i = (1 + 4 * 2 ^ k * u) * i + 2 ^ k * (1 + 2 * v) := by
  induction k with
  | zero => exact ⟨1, 0, fun i => by show 5 * i + 1 = _; omega⟩
  | succ k ih =>
    obtain ⟨u, v, h⟩ := ih
    generalize hK : 2 ^ k = K at h
    refine ⟨u + 2 * K * u * u, v + K * u * (1 + 2 * v), fun i => ?_⟩
    have e : 2 ^ (k + 1) = K + K := by rw [Nat.pow_succ, hK]; omega
    rw [e, ff_add, h, h]
    grind
theorem ff_half (k i : Nat) : ∃ c, ff (2 ^ k) i = i + 2 ^ k + 2 ^ (k + 1) * c := by
  obtain ⟨u, v, h⟩ := ff_two k
  refine ⟨2 * u * i + v, ?_⟩
  rw [h, Nat.pow_succ]
  generalize 2 ^ k = K
  grind
/-- each residue comes -/
theorem ff_all : ∀ (k i j : Nat), j < 2 ^ k → ∃ n, n < 2 ^ k ∧ ff n i % 2 ^ k = j
  | 0, i, j, h => ⟨0, by decide, by
    have : j < 1 := h
    show i % 1 = j
    omega⟩
  | k + 1, i, j, h => by
    obtain ⟨n, hn, e⟩ := ff_all k i (j % 2 ^ k) (Nat.mod_lt _ (Nat.pow_pos (by decide)))
    obtain ⟨c, hc⟩ := ff_half k (ff n i)
    have e1 : 2 ^ (k + 1) = 2 * 2 ^ k := by rw [Nat.pow_succ]; omega
    rw [e1] at h hc ⊢
    have pos : 0 < 2 ^ k := Nat.pow_pos (by decide)
    generalize 2 ^ k = K at *
    generalize hx : ff n i = x at *
    have d1 := Nat.div_add_mod x (2 * K)
    have m1 := Nat.mod_lt x (show 0 < 2 * K by omega)
    have key : x % (2 * K) % K = j % K := by rw [Nat.mod_mul_left_mod]; exact e
    by_cases q : x % (2 * K) = j
    · exact ⟨n, by omega, by rw [hx]; exact q⟩
    · refine ⟨n + K, by omega, ?_⟩
      rw [ff_add, hx, hc]
      have z : x + K + 2 * K * c = (x % (2 * K) + K) + 2 * K * (x / (2 * K) + c) := by
        rw [Nat.mul_add]
        omega
      rw [z, Nat.add_mul_mod_self_left]
      generalize x % (2 * K) = y at *
      have dy : y % K = if y < K then y else y - K := by
        split
        · exact Nat.mod_eq_of_lt (by assumption)
        · rw [Nat.mod_eq_sub_mod (by omega), Nat.mod_eq_of_lt (by omega)]
      have dj : j % K = if j < K then j else j - K := by
        split
        · exact Nat.mod_eq_of_lt (by assumption)
        · rw [Nat.mod_eq_sub_mod (by omega), Nat.mod_eq_of_lt (by omega)]
      rw [dy, dj] at key
      by_cases a : y < K
      · rw [if_pos a] at key
        have b : ¬ j < K := fun b => by rw [if_pos b] at key; exact q key
        rw [if_neg b] at key
        rw [Nat.mod_eq_of_lt (by omega)]
        omega
      · rw [if_neg a] at key
        have b : j < K := by
          by_cases b : j < K
          · exact b
          · rw [if_neg b] at key
            omega
        rw [if_pos b] at key
        rw [Nat.mod_eq_sub_mod (by omega), Nat.mod_eq_of_lt (by omega)]
        omega
/-- a mask of a set's table -/
def MaskG (m : Nat) : Prop := ∃ k, m + 1 = 2 ^ k
theorem lcgI_ff (m i : Nat) : ∀ n, 0 < n → lcgI m i n = ff n i % (m + 1)
  | 0, h => absurd h (Nat.lt_irrefl _)
  | 1, _ => by
    show (i * 5 + 1) % (m + 1) = (5 * i + 1) % (m + 1)
    rw [Nat.mul_comm]
  | n + 2, _ => by
    have ih := lcgI_ff m i (n + 1) (Nat.succ_pos _)
    show (lcgI m i (n + 1) * 5 + 1) % (m + 1) = (5 * ff (n + 1) i + 1) % (m + 1)
    rw [ih, Nat.mul_comm, Nat.add_mod, Nat.mul_mod, Nat.mod_mod, ← Nat.mul_mod, ← Nat.add_mod]
theorem lcgI_any {m i j : Nat} (G : MaskG m) (hi : i ≤ m) (hj : j ≤ m) : ∃ n, n ≤ m ∧ lcgI m i n = j := by
  obtain ⟨k, e⟩ := G
  obtain ⟨n, hn, h⟩ := ff_all k i j (by omega)
  refine ⟨n, by omega, ?_⟩
  cases n with
  | zero =>
    have : i % 2 ^ k = j := h
    rw [Nat.mod_eq_of_lt (by omega)] at this
    exact this
  | succ n => rw [lcgI_ff m i _ (Nat.succ_pos _), e, h]
end Cw
namespace Cw
open PySem PySem.Spec PyProof.Rows L2
/-! ## a table is laid for any mask -/
theorem runs_meet {m j : Nat} (G : MaskG m) (h : Int) (hj : j ≤ m) : ∃ n, n ≤ m + 12 ∧ runI m (SetTable.bits h) n = j := by
  obtain ⟨k, hk, e⟩ := lcgI_any G (runI_le m (SetTable.bits h) 12) hj
  refine ⟨12 + k, by omega, ?_⟩
  rw [runI_tail (bits_lt h) k, e]
/-- one more hash finds its slot -/
theorem free_got {m j : Nat} (G : MaskG m) (owner : Array (Option Nat)) (h : Int) (hj : j ≤ m) (hf : oAt owner j = none) :
    ∃ i, i ≤ m ∧ oAt owner i = none ∧ SetTable.layClean.free m owner (SetTable.turns m) (SetTable.bits h % (m + 1)) (SetTable.bits h) = some i := by
  obtain ⟨n, hn, e⟩ := runs_meet G h hj
  let P : Nat → Prop := fun k => oAt owner (nth m (runAt m (SetTable.bits h % (m + 1)) (SetTable.bits h)) k).j = none
  have at_n : P (off m (SetTable.bits h % (m + 1)) (SetTable.bits h) n) := by
    show oAt owner (nth m (runAt m _ _) (off m _ _ n)).j = none
    rw [nth_off, itL_run]
    show oAt owner (runI m (SetTable.bits h) n) = none
    rw [e]
    exact hf
  obtain ⟨k, h1, h2, h3⟩ := st_least (p := P) _ at_n
  refine ⟨_, ?_, h2, free_spec m owner (SetTable.turns m) n _ _ k (by unfold SetTable.turns; omega) h1 (fun i hi => ?_) ?_⟩
  · have i0 : SetTable.bits h % (m + 1) ≤ m := Nat.le_of_lt_succ (Nat.mod_lt _ (Nat.succ_pos _))
    have r0 := runEnd_bd i0
    have z := nth_in (m := m) k (runAt m (SetTable.bits h % (m + 1)) (SetTable.bits h)) (show SetTable.bits h % (m + 1) + (SetTable.runEnd m (SetTable.bits h % (m + 1)) - SetTable.bits h % (m + 1)) ≤ m by omega)
    omega
  · have q := h3 i hi
    cases z : oAt owner (nth m (runAt m (SetTable.bits h % (m + 1)) (SetTable.bits h)) i).j with
    | none => exact absurd z q
    | some _ => rfl
  · have q : oAt owner (nth m (runAt m (SetTable.bits h % (m + 1)) (SetTable.bits h)) k).j = none := h2
    rw [q]
    rfl
/-- the first c hashes have their slots -/
structure Ow (m c : Nat) (u : Array (Option Nat)) : Prop where
  sz : u.size = m + 1
  has : ∀ k, k < c → ∃ j, j ≤ m ∧ oAt u j = some k
  occ : ∃ ps : List Nat, ps.length = c ∧ ∀ j, j ≤ m → oAt u j ≠ none → j ∈ ps
theorem ow_one {m c : Nat} {u : Array (Option Nat)} (G : MaskG m) (O : Ow m c u) (few : c ≤ m) (h : Int) :
    ∃ i, SetTable.layClean.free m u (SetTable.turns m) (SetTable.bits h % (m + 1)) (SetTable.bits h) = some i ∧ Ow m (c + 1) (u.setIfInBounds i (some c)) := by
  obtain ⟨ps, pl, pm⟩ := O.occ
  obtain ⟨j, j1, j2⟩ := st_missing ps (m + 1) (by omega)
  have fj : oAt u j = none := by
    cases z : oAt u j with
    | none => rfl
    | some k => exact absurd (pm j (by omega) (by rw [z]; exact Option.some_ne_none k)) j2
  obtain ⟨i, im, fi, e⟩ := free_got G u h (by omega) fj
  have ib : i < u.size := by rw [O.sz]; omega
  have other : ∀ {x : Nat}, x ≠ i → oAt (u.setIfInBounds i (some c)) x = oAt u x := fun {x} hx => oAt_set_ne _ hx
  refine ⟨i, e, by rw [Array.size_setIfInBounds]; exact O.sz, fun k hk => ?_, i :: ps, by rw [List.length_cons, pl], fun x hx hne => ?_⟩
  · rcases Nat.lt_or_ge k c with q | q
    · obtain ⟨x, x1, x2⟩ := O.has k q
      refine ⟨x, x1, (other fun z => ?_).trans x2⟩
      rw [z, fi] at x2
      cases x2
    · have : k = c := by omega
      exact ⟨i, im, by rw [this]; exact oAt_set_self _ ib⟩
  · by_cases q : x = i
    · rw [q]
      exact List.mem_cons_self ..
    · rw [other q] at hne
      exact List.mem_cons_of_mem _ (pm x hx hne)
theorem ow_fold {m : Nat} (G : MaskG m) : ∀ (rest : List Int) (c : Nat) (u : Array (Option Nat)), Ow m c u → c + rest.length ≤ m + 1 →
    ∃ v, rest.foldl (stepF m) (some (u, c)) = some (v, c + rest.length) ∧ Ow m (c + rest.length) v
  | [], c, u, O, _ => ⟨u, rfl, O⟩
  | h :: rest, c, u, O, few => by
    rw [List.length_cons] at few
    obtain ⟨i, e, O2⟩ := ow_one G O (by omega) h
    obtain ⟨v, f, O3⟩ := ow_fold G rest (c + 1) _ O2 (by omega)
    have z : c + 1 + rest.length = c + (h :: rest).length := by rw [List.length_cons]; omega
    rw [z] at f O3
    exact ⟨v, by rw [List.foldl_cons, stepF_some e]; exact f, O3⟩
theorem clean_got {m : Nat} (G : MaskG m) {hs : Array Int} (few : hs.size ≤ m + 1) : ∃ u, SetTable.layClean m hs = some u ∧ Ow m hs.size u := by
  have O0 : Ow m 0 (Array.replicate (m + 1) none) := ⟨by simp, fun k hk => absurd hk (Nat.not_lt_zero _), [], rfl, fun j hj e => absurd (oAt_init hj) e⟩
  have hl : hs.toList.length = hs.size := Array.length_toList
  obtain ⟨u, f, O⟩ := ow_fold G hs.toList 0 _ O0 (by omega)
  rw [Nat.zero_add, hl] at O
  refine ⟨u, ?_, O⟩
  rw [layClean_eq, f]
  rfl
theorem laid_got {m : Nat} (G : MaskG m) (fi mo : Nat) (ld pl : Bool) {hs : Array Int} (few : hs.size ≤ m) :
    ∃ t order, SetTable.laid m fi mo ld pl hs = some (t, order) ∧ order.toList.Perm (List.range hs.size) ∧ t.fits hs.size = true ∧ Ris t.place.toList ∧ t.led = ld ∧ t.plain = pl := by
  obtain ⟨u, e, O⟩ := clean_got G (hs := hs) (by omega)
  have rl := ris_live (fun j => u.getD j none) (List.range (m + 1)) (by unfold Ris; exact List.pairwise_lt_range)
  have r1 : Ris ((liveOf m u).map (·.1)) := rl.1
  have nd : ((liveOf m u).map (·.1)).Nodup := List.Pairwise.imp (fun h => Nat.ne_of_lt h) r1
  have inn : ∀ k, k < hs.size → k ∈ (liveOf m u).map (·.2) := fun k hk => by
    obtain ⟨j, j1, j2⟩ := O.has k hk
    exact List.mem_map.mpr ⟨(j, k), (mem_live O.sz).mpr ⟨j1, j2⟩, rfl⟩
  have up : (liveOf m u).length ≤ hs.size := by
    obtain ⟨ps, p1, p2⟩ := O.occ
    have z := nat_nodup_len _ ps nd fun x hx => by
      obtain ⟨⟨a, b⟩, hab, rfl⟩ := List.mem_map.mp hx
      obtain ⟨h1, h2⟩ := (mem_live O.sz).mp hab
      exact p2 a h1 (by rw [h2]; exact Option.some_ne_none b)
    rw [List.length_map, p1] at z
    exact z
  have dn : hs.size ≤ (liveOf m u).length := by
    have z := nat_nodup_len (List.range hs.size) _ List.nodup_range fun x hx => inn x (List.mem_range.mp hx)
    rw [List.length_range, List.length_map] at z
    exact z
  refine ⟨{ mask := m, place := ((liveOf m u).map (·.1)).toArray, dummies := #[], finger := fi, led := ld, moves := mo, plain := pl }, ((liveOf m u).map (·.2)).toArray, ?_, ?_, ?_, ?_, rfl, rfl⟩
  · show (SetTable.layClean m hs).bind _ = _
    rw [e]
    rfl
  · rw [List.toList_toArray]
    exact perm_range _ _ (by rw [List.length_map]; omega) inn
  · unfold SetTable.fits SetTable.fill
    dsimp only
    rw [List.size_toArray, List.length_map]
    simp only [Bool.and_eq_true, beq_iff_eq, decide_eq_true_eq]
    exact ⟨by omega, by show (liveOf m u).length + 0 ≤ m; omega⟩
  · exact r1
theorem pick_range {α : Type} : ∀ l : List α, (List.range l.length).filterMap (fun i => l[i]?) = l
  | [] => rfl
  | x :: r => by
    rw [List.length_cons, List.range_succ_eq_map, List.filterMap_cons_some (f := fun i => (x :: r)[i]?) (a := 0) (b := x) rfl, List.filterMap_map]
    show x :: (List.range r.length).filterMap (fun i => r[i]?) = _
    rw [pick_range r]
theorem order_perm {α : Type} (es : Array α) {order : Array Nat} (h : order.toList.Perm (List.range es.size)) : (order.filterMap (es[·]?)).toList.Perm es.toList := by
  rw [Array.toList_filterMap]
  have e : (fun i => es[i]?) = fun i : Nat => es.toList[i]? := funext fun i => Array.getElem?_toList.symm
  rw [e]
  refine (h.filterMap _).trans ?_
  rw [← Array.length_toList, pick_range]
theorem above_go : ∀ (f size n : Nat), (∃ k, size = 2 ^ k) → n < size * 2 ^ f → (∃ k, SetTable.sizeAbove.go n f size = 2 ^ k) ∧ n < SetTable.sizeAbove.go n f size ∧ (SetTable.sizeAbove.go n f size ≤ size ∨ SetTable.sizeAbove.go n f size ≤ 2 * n)
  | 0, size, n, h, l => ⟨h, by rw [Nat.pow_zero, Nat.mul_one] at l; exact l, .inl (Nat.le_refl _)⟩
  | f + 1, size, n, h, l => by
    obtain ⟨k, rfl⟩ := h
    show (∃ k', (if 2 ^ k ≤ n then SetTable.sizeAbove.go n f (2 ^ k * 2) else 2 ^ k) = 2 ^ k') ∧ n < (if 2 ^ k ≤ n then SetTable.sizeAbove.go n f (2 ^ k * 2) else 2 ^ k) ∧ ((if 2 ^ k ≤ n then SetTable.sizeAbove.go n f (2 ^ k * 2) else 2 ^ k) ≤ 2 ^ k ∨ (if 2 ^ k ≤ n then SetTable.sizeAbove.go n f (2 ^ k * 2) else 2 ^ k) ≤ 2 * n)
    by_cases c : 2 ^ k ≤ n
    · rw [if_pos c]
      obtain ⟨h1, h2, h3⟩ := above_go f (2 ^ k * 2) n ⟨k + 1, by rw [Nat.pow_succ]⟩ (by rw [Nat.pow_succ] at l; rw [Nat.mul_assoc, Nat.mul_comm 2]; exact l)
      exact ⟨h1, h2, .inr (by omega)⟩
    · rw [if_neg c]
      exact ⟨⟨k, rfl⟩, by omega, .inl (Nat.le_refl _)⟩
/-- the new size is a power of two, above what is wanted, and not far above -/
theorem above_ok {n : Nat} (h : n < 100000) : MaskG (SetTable.sizeAbove n - 1) ∧ n < SetTable.sizeAbove n ∧ SetTable.sizeAbove n ≤ 8 + 2 * n := by
  obtain ⟨⟨k, e⟩, h2, h3⟩ := above_go 64 8 n ⟨3, rfl⟩ (Nat.lt_of_lt_of_le h (by decide))
  have e0 : SetTable.sizeAbove n = SetTable.sizeAbove.go n 64 8 := rfl
  rw [e0]
  refine ⟨⟨k, by omega⟩, h2, by omega⟩
end Cw
namespace Cw
open PySem PySem.Spec PyProof.Rows L2
section
variable {P : Program} {w : World} {A : Around} {E : Value → Shared → Prop} {s : Shared} {a b : Addr} {S T : Int → Bool} {n m : Nat}
/-- more of a laid table -/
theorem laid_more {m : Nat} {fi mo : Nat} {ld pl : Bool} {hs : Array Int} {t : SetTable} {order : Array Nat} (e : SetTable.laid m fi mo ld pl hs = some (t, order)) : t.mask = m ∧ t.dummies = #[] := by
  have e2 : (SetTable.layClean m hs).bind (fun u => some (({ mask := m, place := ((liveOf m u).map (·.1)).toArray, dummies := #[], finger := fi, led := ld, moves := mo, plain := pl } : SetTable), ((liveOf m u).map (·.2)).toArray)) = some (t, order) := e
  cases z : SetTable.layClean m hs with
  | none => rw [z] at e2; cases e2
  | some u =>
    rw [z] at e2
    injection e2 with e3
    injection e3 with e4 e5
    rw [← e4]
    exact ⟨rfl, rfl⟩
/-- laid anew with more room -/
theorem relay_got {wanted : Nat} (R : SetR w s.heap a S n) (hw : wanted < 100000) (few : n < SetTable.sizeAbove wanted) {Q : Unit → Shared → Prop}
    (q : ∀ h' o es ep t, Heap.SameBut a s.heap h' → SetR w h' a S n → h'.get? a = some o → o.data = .set es ep t → MaskG t.mask → t.mask = SetTable.sizeAbove wanted - 1 → t.dummies = #[] → Q () { s with heap := h' }) : wpAny (model P w) A (setRelay a wanted) Q E s := by
  obtain ⟨o, es, ep, t, ho, hx, hd, g, nd, hm, hb, hf, hn, hr, hl⟩ := R
  obtain ⟨G, h1, h2⟩ := above_ok hw
  have hs0 : (es.map (·.1)).size = es.size := Array.size_map ..
  obtain ⟨t', order, e, p, f, r, l1, l2⟩ := laid_got G t.finger (t.movedTo (SetTable.sizeAbove wanted - 1)) t.led t.plain (hs := es.map (·.1)) (by omega)
  obtain ⟨m1, m2⟩ := laid_more e
  rw [hs0] at p f
  have pm := order_perm es p
  have sz : (order.filterMap (es[·]?)).size = es.size := by rw [← Array.length_toList, pm.length_eq, Array.length_toList]
  have er : t.relaid (es.map (·.1)) wanted = some (t', order) := e
  rw [setRelay_eq]
  refine wpAny_bind (wpAny_setState_of ho hd hf ?_)
  dsimp only
  refine wp_if_neg (by rw [sizeLine_eq]; omega) ?_
  try refine wpAny_bind (wpAny_pure ?_)
  rw [er]
  dsimp only
  refine wpAny_bind ?_
  refine wp_if_neg (by rw [sz]; simp) ?_
  try refine wpAny_bind (wpAny_pure ?_)
  refine wpAny_pure ?_
  dsimp only
  refine wpAny_storeSet_of ho hd ?_ (fits_of_scanBound (by rw [sz]; exact hb))
  refine q _ _ _ _ _ (Heap.SameBut.update ..) ⟨_, _, _, _, store_at ho hd, ⟨hx.1, hx.2.1, hx.2.2⟩, rfl, fun e he => g e (pm.mem_iff.mp he), (pm.map keyOf).nodup_iff.mpr nd, fun k => (hm k).trans (pm.map keyOf).mem_iff.symm, by rw [sz]; exact hb, by rw [sz]; exact f, by rw [sz]; exact hn, r, hl.imp id fun z => by rw [l1]; exact z⟩ (store_at ho hd) rfl (by rw [m1]; exact G) m1 m2
/-- all of the set's members are walked -/
def MemAll (xs : Array (Int × Value)) (S : Int → Bool) (n : Nat) : Prop := (∀ e ∈ xs.toList, GoodE e) ∧ (∀ k, S k = true ↔ k ∈ xs.toList.map keyOf) ∧ xs.size = n
theorem walk_all {o : Obj} {es : Array (Int × Value)} {ep : Nat} {t : SetTable} (ho : s.heap.get? a = some o) (hd : o.data = .set es ep t) (hf : t.fits es.size = true) (hl : w.params.followText "set-order" = true ∨ t.led = true) (hp : w.params.followText "set-order" = true ∨ (!t.plain && decide (es.size > 1)) = false)
    {Q : Array (Int × Value) → Shared → Prop} (q : ∀ xs : Array (Int × Value), xs.toList.Perm es.toList → Q xs s) : wpAny (model P w) A (setWalk a) Q E s := by
  unfold setWalk
  refine wpAny_bind (wpAny_setState_of ho hd hf ?_)
  dsimp only
  refine wpAny_bind (wpAny_byText ?_)
  by_cases c : w.params.followText "set-order" = true
  · refine wp_if_pos c ?_
    exact wpAny_bind (wpAny_askSetting (wpAny_pure (q _ (pick_perm _ es))))
  · have p1 := hp.resolve_left c
    have p2 := hl.resolve_left c
    refine wp_if_neg c ?_
    try refine wpAny_bind (wpAny_pure ?_)
    refine wp_if_neg (by show ¬ ((!t.plain && decide (es.size > 1)) = true); rw [p1]; exact Bool.false_ne_true) ?_
    try refine wpAny_bind (wpAny_pure ?_)
    refine wpAny_bind (wpAny_of_eq (a := ()) ?_ (wpAny_pure (q es (List.Perm.refl _))))
    show (if (!t.led && decide (es.size > 1)) = true then unsupported "set:maker-not-led" else pure ()) = pure ()
    rw [p2]
    rfl
/-- the set at a walked while the set at r is filled -/
theorem unseen_all {r : Addr} {U : Int → Bool} {c : Nat} (R : SetR w s.heap a S n) (Rr : SetR w s.heap r U c) {l : List Addr} (hall : ∀ c ∈ a :: l, ∃ S n, SetR w s.heap c S n) {Q : Array (Int × Value) → Shared → Prop}
    (q : ∀ xs h', MemAll xs S n → Heap.SameBut r s.heap h' → SetR w h' r U c → Q xs { s with heap := h' }) : wpAny (model P w) A (setWalkUnseen a l (some r)) Q E s := by
  obtain ⟨o, es, ep, t, ho, hx, hd, g, nd, hm, hb, hf, hn, hr, hl⟩ := R
  have mem : ∀ xs : Array (Int × Value), xs.toList.Perm es.toList → MemAll xs S n := fun xs h => ⟨fun e he => g e (h.mem_iff.mp he), fun k => (hm k).trans (h.map keyOf).mem_iff.symm, by rw [← Array.length_toList, h.length_eq, Array.length_toList, hn]⟩
  unfold setWalkUnseen
  refine wpAny_bind (wpAny_setState_of ho hd hf ?_)
  dsimp only
  refine wpAny_bind (wpAny_byText ?_)
  by_cases c : (w.params.followText "set-order" || t.led && t.plain || decide (es.size ≤ 1)) = true
  · refine wp_if_pos c ?_
    refine walk_all ho hd hf hl ?_ fun xs h => q xs s.heap (mem xs h) (Heap.SameBut.refl _ _) Rr
    simp only [Bool.or_eq_true, Bool.and_eq_true, decide_eq_true_eq] at c
    rcases c with (c | c) | c
    · exact .inl c
    · exact .inr (by rw [c.2]; rfl)
    · exact .inr (by rw [decide_eq_false (by omega), Bool.and_false])
  · refine wp_if_neg c ?_
    try refine wpAny_bind (wpAny_pure ?_)
    refine wpAny_bind (quiet_at (a :: l) hall ?_)
    refine wp_if_neg (by decide) ?_
    try refine wpAny_bind (wpAny_pure ?_)
    refine wpAny_bind (wpAny_rule ?_)
    obtain ⟨o2, es2, ep2, t2, ho2, hx2, hd2, g2, nd2, hm2, hb2, hf2, hn2, hr2, hl2⟩ := Rr
    try dsimp only
    refine wpAny_bind (wpAny_setState_of ho2 hd2 hf2 ?_)
    dsimp only
    have nb : w.params.followText "set-order" = false := by
      cases z : w.params.followText "set-order" with
      | false => rfl
      | true => rw [z] at c; simp at c
    have l1 : t.led = true := hl.resolve_left (by rw [nb]; exact Bool.false_ne_true)
    have l2 : t2.led = true := hl2.resolve_left (by rw [nb]; exact Bool.false_ne_true)
    by_cases c2 : (t2.led && !t.led || t2.plain && !t.plain) = true
    · refine wp_if_pos c2 ?_
      refine wpAny_bind (wpAny_storeSet_of ho2 hd2 ?_ (fits_of_scanBound hb2))
      refine wpAny_pure (q es _ (mem es (List.Perm.refl _)) (Heap.SameBut.update ..) ?_)
      exact ⟨_, es2, _, _, store_at ho2 hd2, ⟨hx2.1, hx2.2.1, hx2.2.2⟩, rfl, g2, nd2, hm2, hb2, by exact hf2, hn2, hr2, .inr (by rw [l1, l2]; rfl)⟩
    · refine wp_if_neg c2 ?_
      try refine wpAny_bind (wpAny_pure ?_)
      exact wpAny_pure (q es s.heap (mem es (List.Perm.refl _)) (Heap.SameBut.refl _ _) ⟨o2, es2, ep2, t2, ho2, hx2, hd2, g2, nd2, hm2, hb2, hf2, hn2, hr2, hl2⟩)
end
end Cw
namespace Cw
open PySem PySem.Spec PyProof.Rows L2
theorem merge_eq (s o : Addr) (each : Sem Unit) : setMerge s o each = (do
    if s == o then return
    let (eo, epoch, to) ← setState o
    if eo.isEmpty then return
    (do if let some wanted := (← setState s).2.2.roomFor eo.size then setRelay s wanted)
    let (_, _, ts) ← setState s
    match ts.road to with
    | .slotForSlot => storeSet s eo { to with finger := ts.finger, led := ts.led && to.led, moves := ts.moves, plain := ts.plain && to.plain }
    | .clean =>
      let (es, t) ← (do
        let some (t, order) := SetTable.laid ts.mask ts.finger ts.moves (ts.led && to.led) (ts.plain && to.plain) (eo.map (·.1)) | unsupported "internal:set-table-without-room"
        let es' := order.filterMap (eo[·]?)
        if es'.size != eo.size then unsupported "internal:set-table-lost-an-element"
        pure (es', t) : Sem (Array (Int × Value) × SetTable))
      storeSet s es t
    | .oneByOne =>
      for (h, x) in ← setWalkUnseen o [s] (some s) do
        let _ ← holding [x] (setAddHashed s x h)
        each
        if (← setState o).2.1 != epoch then unsupported "set.changed-during-merge") := by rfl
section
variable {P : Program} {w : World} {A : Around} {E : Value → Shared → Prop} {s : Shared} {a b : Addr} {S T : Int → Bool} {n m : Nat}
/-- the empty new set -/
def Fresh (w : World) (h : Heap) (r : Addr) : Prop := ∃ o ep ld, h.get? r = some o ∧ o.ExactSet ∧ o.data = .set #[] ep (.fresh 0 0 ld) ∧ (w.params.followText "set-order" = true ∨ ld = true)
theorem Fresh.setR {h : Heap} {r : Addr} (f : Fresh w h r) : SetR w h r (fun _ => false) 0 := by
  obtain ⟨o, ep, ld, ho, hx, hd, hl⟩ := f
  exact ⟨o, #[], ep, _, ho, hx, hd, (fun e he => by simp at he), (by simp), (fun k => by simp), (by decide), rfl, rfl, List.Pairwise.nil, hl⟩
/-- all of b's members into a new set -/
theorem merge_fresh {r : Addr} {each : Sem Unit} (f : Fresh w s.heap r) (R : SetR w s.heap b T m) (ne : r ≠ b) {Q : Unit → Shared → Prop}
    (q : ∀ h', Heap.SameBut r s.heap h' → SetR w h' r T m → (m = 0 → Fresh w h' r) → Q () { s with heap := h' }) : wpAny (model P w) A (setMerge r b each) Q E s := by
  have Rr := f.setR
  obtain ⟨o, es, ep, t, ho, hx, hd, g, nd, hm, hb, hf, hn, hr, hl⟩ := id R
  rw [merge_eq]
  refine wp_if_neg (by simp [ne]) ?_
  try refine wpAny_bind (wpAny_pure ?_)
  refine wpAny_bind (wpAny_setState_of ho hd hf ?_)
  dsimp only
  by_cases c0 : es = #[]
  · have m0 : m = 0 := by rw [← hn, c0]; rfl
    refine wp_if_pos (by rw [c0]; rfl) (wpAny_pure ?_)
    refine q s.heap (Heap.SameBut.refl _ _) ?_ fun _ => f
    have e : T = fun _ => false := funext fun k => by
      cases z : T k with
      | false => rfl
      | true =>
        have := (hm k).mp z
        rw [c0] at this
        simp at this
    rw [e, m0]
    exact Rr
  · have pos : 0 < es.size := Array.size_pos_iff.mpr c0
    refine wp_if_neg (by simp [c0]) ?_
    try refine wpAny_bind (wpAny_pure ?_)
    obtain ⟨o1, ep1, ld, ho1, hx1, hd1, hl1⟩ := f
    have hb' : es.size < 4096 := hb
    -- the last part, for any table without members
    have last : ∀ (h1 : Heap) (o2 : Obj) (e2 : Nat) (t2 : SetTable), Heap.SameBut r s.heap h1 → h1.get? r = some o2 → o2.ExactSet → o2.data = .set #[] e2 t2 → t2.dummies = #[] → t2.fits 0 = true → MaskG t2.mask → es.size ≤ t2.mask → (w.params.followText "set-order" = true ∨ t2.led = true) →
        wpAny (model P w) A (do
          let (_, _, ts) ← setState r
          match ts.road t with
          | .slotForSlot => storeSet r es { t with finger := ts.finger, led := ts.led && t.led, moves := ts.moves, plain := ts.plain && t.plain }
          | .clean =>
            let (es, t) ← (do
              let some (t, order) := SetTable.laid ts.mask ts.finger ts.moves (ts.led && t.led) (ts.plain && t.plain) (es.map (·.1)) | unsupported "internal:set-table-without-room"
              let es' := order.filterMap (es[·]?)
              if es'.size != es.size then unsupported "internal:set-table-lost-an-element"
              pure (es', t) : Sem (Array (Int × Value) × SetTable))
            storeSet r es t
          | .oneByOne =>
            for (h, x) in ← setWalkUnseen b [r] (some r) do
              let _ ← holding [x] (setAddHashed r x h)
              each
              if (← setState b).2.1 != ep then unsupported "set.changed-during-merge") Q E { s with heap := h1 } := by
      intro h1 o2 e2 t2 sb ho2 hx2 hd2 dm2 f2 G2 few2 l2
      refine wpAny_bind (wpAny_setState_of ho2 hd2 f2 ?_)
      dsimp only
      have p0 : t2.place.size = 0 := by
        unfold SetTable.fits at f2
        simp only [Bool.and_eq_true, beq_iff_eq] at f2
        exact f2.1
      have fill0 : t2.fill = 0 := by
        unfold SetTable.fill
        rw [p0, dm2]
        rfl
      have led2 : w.params.followText "set-order" = true ∨ (t2.led && t.led) = true := by
        rcases l2 with x | x
        · exact .inl x
        · rcases hl with y | y
          · exact .inl y
          · exact .inr (by rw [x, y]; rfl)
      have m0 : m ≠ 0 := by omega
      unfold SetTable.road
      rw [fill0, if_neg (by decide)]
      by_cases c1 : (t2.mask == t.mask && t.dummies.isEmpty) = true
      · rw [if_pos c1]
        dsimp only
        refine wpAny_storeSet_of ho2 hd2 ?_ (fits_of_scanBound hb)
        exact q _ (sb.trans (Heap.SameBut.update ..)) ⟨_, _, _, _, store_at ho2 hd2, ⟨hx2.1, hx2.2.1, hx2.2.2⟩, rfl, g, nd, hm, hb, hf, hn, hr, led2⟩ fun z => absurd z m0
      · rw [if_neg c1]
        dsimp only
        have hs0 : (es.map (·.1)).size = es.size := Array.size_map ..
        obtain ⟨t', order, e, p, f', r', k1, k2⟩ := laid_got G2 t2.finger t2.moves (t2.led && t.led) (t2.plain && t.plain) (hs := es.map (·.1)) (by omega)
        rw [hs0] at p f'
        have pm := order_perm es p
        have sz : (order.filterMap (es[·]?)).size = es.size := by rw [← Array.length_toList, pm.length_eq, Array.length_toList]
        rw [e]
        dsimp only
        refine wpAny_bind ?_
        refine wp_if_neg (by rw [sz]; simp) ?_
        try refine wpAny_bind (wpAny_pure ?_)
        refine wpAny_pure ?_
        dsimp only
        refine wpAny_storeSet_of ho2 hd2 ?_ (fits_of_scanBound (by rw [sz]; exact hb))
        exact q _ (sb.trans (Heap.SameBut.update ..)) ⟨_, _, _, _, store_at ho2 hd2, ⟨hx2.1, hx2.2.1, hx2.2.2⟩, rfl, fun e he => g e (pm.mem_iff.mp he), (pm.map keyOf).nodup_iff.mpr nd, fun k => (hm k).trans (pm.map keyOf).mem_iff.symm, by rw [sz]; exact hb, by rw [sz]; exact f', by rw [sz]; exact hn, r', by rw [k1]; exact led2⟩ fun z => absurd z m0
    refine wpAny_bind ?_
    refine wpAny_bind (wpAny_setState_of ho1 hd1 rfl ?_)
    dsimp only
    unfold SetTable.roomFor
    by_cases c2 : ((SetTable.fresh 0 0 ld).fill + es.size) * 5 ≥ (SetTable.fresh 0 0 ld).mask * 3
    · rw [if_pos c2]
      dsimp only
      have wn : ((SetTable.fresh 0 0 ld).place.size + es.size) * 2 = es.size * 2 := by
        show (0 + es.size) * 2 = _
        rw [Nat.zero_add]
      rw [wn]
      obtain ⟨G3, k3, k4⟩ := above_ok (n := es.size * 2) (by omega)
      refine relay_got Rr (by omega) (by omega) fun h' o2 es2 e2 t2 sb R2 ho2 hd2 G2 mk dm => ?_
      obtain ⟨o3, es3, ep3, t3, ho3, hx3, hd3, g3, nd3, hm3, hb3, hf3, hn3, hr3, hl3⟩ := R2
      rw [ho2] at ho3
      cases ho3
      rw [hd2] at hd3
      cases hd3
      have e0 : es2 = #[] := Array.size_eq_zero_iff.mp hn3
      subst e0
      exact last h' o2 e2 t2 sb ho2 hx3 hd2 dm hf3 G2 (by rw [mk]; omega) hl3
    · rw [if_neg c2]
      dsimp only
      refine wpAny_pure ?_
      have c3 : ¬ ((0 + es.size) * 5 ≥ 7 * 3) := c2
      exact last s.heap o1 ep1 _ (Heap.SameBut.refl _ _) ho1 hx1 hd1 rfl rfl ⟨3, rfl⟩ (by show es.size ≤ 7; omega) hl1
theorem forIn_upto {α β : Type} {M : Model} {f : α → β → Sem (ForInStep β)} {b : β} (I : List α → Shared → Prop) : ∀ (l done : List α) {s : Shared} {Q : β → Shared → Prop},
    (∀ (d : List α) (x : α) (r : List α), d ++ x :: r = done ++ l → ∀ (s : Shared) (Q' : ForInStep β → Shared → Prop), I d s → (∀ s', I (d ++ [x]) s' → Q' (.yield b) s') → wpAny M A (f x b) Q' E s) → I done s → (∀ s', I (done ++ l) s' → Q b s') → wpAny M A (forIn l b f) Q E s
  | [], done, s, Q, _, i, q => by
    rw [List.forIn_nil]
    rw [List.append_nil] at q
    exact wpAny_pure (q s i)
  | x :: l, done, s, Q, h, i, q => by
    rw [List.forIn_cons]
    have e : (done ++ [x]) ++ l = done ++ x :: l := by rw [List.append_assoc]; rfl
    refine wpAny_bind (h done x l rfl s _ i fun s' i' => ?_)
    refine forIn_upto I l (done ++ [x]) (fun d y r z => h d y r (z.trans e)) i' ?_
    rw [e]
    exact q
/-- all of b's members, one by one, into a set that isn't empty -/
theorem merge_more {each : Sem Unit} (R : SetR w s.heap a S n) (R2 : SetR w s.heap b T m) (ne : a ≠ b) (pos : 0 < n) (room : n + m + 1 < scanBound)
    (he : ∀ (h' : Heap) (Q' : Unit → Shared → Prop), (∀ o, s.heap.get? b = some o → h'.get? b = some o) → Q' () { s with heap := h' } → wpAny (model P w) A each Q' E { s with heap := h' }) {Q : Unit → Shared → Prop}
    (q : ∀ h' c, Heap.SameBut a s.heap h' → SetR w h' a (fun j => S j || T j) c → c ≤ n + m → Q () { s with heap := h' }) : wpAny (model P w) A (setMerge a b each) Q E s := by
  obtain ⟨o, es, ep, t, ho, hx, hd, g, nd, hm, hb, hf, hn, hr, hl⟩ := id R2
  rw [merge_eq]
  refine wp_if_neg (by simp [ne]) ?_
  try refine wpAny_bind (wpAny_pure ?_)
  refine wpAny_bind (wpAny_setState_of ho hd hf ?_)
  dsimp only
  by_cases c0 : es = #[]
  · refine wp_if_pos (by rw [c0]; rfl) (wpAny_pure ?_)
    refine q s.heap n (Heap.SameBut.refl _ _) (R.congr fun k => ?_) (Nat.le_add_right _ _)
    have z : T k = false := by
      cases z : T k with
      | false => rfl
      | true =>
        have := (hm k).mp z
        rw [c0] at this
        simp at this
    rw [z, Bool.or_false]
  · refine wp_if_neg (by simp [c0]) ?_
    try refine wpAny_bind (wpAny_pure ?_)
    have rm : n + m + 1 < 4096 := room
    have last : ∀ h1 : Heap, Heap.SameBut a s.heap h1 → SetR w h1 a S n →
        wpAny (model P w) A (do
          let (_, _, ts) ← setState a
          match ts.road t with
          | .slotForSlot => storeSet a es { t with finger := ts.finger, led := ts.led && t.led, moves := ts.moves, plain := ts.plain && t.plain }
          | .clean =>
            let (es, t) ← (do
              let some (t, order) := SetTable.laid ts.mask ts.finger ts.moves (ts.led && t.led) (ts.plain && t.plain) (es.map (·.1)) | unsupported "internal:set-table-without-room"
              let es' := order.filterMap (es[·]?)
              if es'.size != es.size then unsupported "internal:set-table-lost-an-element"
              pure (es', t) : Sem (Array (Int × Value) × SetTable))
            storeSet a es t
          | .oneByOne =>
            for (h, x) in ← setWalkUnseen b [a] (some a) do
              let _ ← holding [x] (setAddHashed a x h)
              each
              if (← setState b).2.1 != ep then unsupported "set.changed-during-merge") Q E { s with heap := h1 } := by
      intro h1 sb R1
      obtain ⟨o1, es1, ep1, t1, ho1, hx1, hd1, g1, nd1, hm1, hb1, hf1, hn1, hr1, hl1⟩ := id R1
      refine wpAny_bind (wpAny_setState_of ho1 hd1 hf1 ?_)
      dsimp only
      have fill1 : t1.fill ≠ 0 := by
        have z := hf1
        unfold SetTable.fits at z
        simp only [Bool.and_eq_true, beq_iff_eq] at z
        unfold SetTable.fill
        omega
      unfold SetTable.road
      rw [if_pos (by simp [fill1])]
      dsimp only
      have ob : ∀ {h : Heap}, Heap.SameBut a s.heap h → ∀ o, s.heap.get? b = some o → h.get? b = some o := fun {h} k o e => by rw [k.2 b (Ne.symm ne)]; exact e
      refine wpAny_bind (unseen_all (R2.at (ob sb)) R1 (fun c hc => ?_) fun xs h2 M sb2 R3 => ?_)
      · rcases List.mem_cons.mp hc with rfl | hc
        · exact ⟨_, _, R2.at (ob sb)⟩
        rcases List.mem_cons.mp hc with rfl | hc
        · exact ⟨_, _, R1⟩
        · cases hc
      · obtain ⟨M1, M2, M3⟩ := M
        rw [← Array.forIn_toList]
        have len : xs.toList.length = m := by rw [Array.length_toList]; exact M3
        refine wpAny_bind (forIn_upto (fun d s' => ∃ h' c, s' = { s with heap := h' } ∧ Heap.SameBut a s.heap h' ∧ SetR w h' a (fun j => S j || decide (j ∈ d.map keyOf)) c ∧ c ≤ n + d.length) xs.toList [] (fun d x r e s' Q' i k => ?_)
          ⟨h2, n, rfl, sb.trans sb2, R3.congr fun j => by simp, Nat.le_add_right _ _⟩ fun s' i => ?_)
        · obtain ⟨h', c, rfl, sb', Rc, cl⟩ := i
          have hxm : x ∈ xs.toList := by
            rw [List.nil_append] at e
            rw [← e]
            simp
          have dl : d.length + 1 ≤ m := by
            have := congrArg List.length e
            simp at this
            omega
          obtain ⟨i, tk, e1, e2⟩ := M1 x hxm
          obtain ⟨x1, x2⟩ := x
          dsimp only at e1 e2
          subst e1 e2
          have kk : keyOf (hashInt i, Value.int i tk) = i := rfl
          dsimp only
          refine wpAny_bind (wpAny_holding (setR_add_hashed Rc (by show c + 1 < 4096; omega) fun h3 sb3 R4 => ?_))
          have sb4 := sb'.trans sb3
          refine wpAny_bind (he h3 _ (ob sb4) ?_)
          refine wpAny_bind (wpAny_setState_of (ob sb4 _ ho) hd hf ?_)
          refine wp_if_neg (by simp) ?_
          try refine wpAny_bind (wpAny_pure ?_)
          refine wpAny_pure (k _ ⟨h3, _, rfl, sb4, R4.congr fun j => ?_, ?_⟩)
          · try dsimp only
            rw [Bool.or_assoc]
            congr 1
            rw [List.map_append, Bool.eq_iff_iff, Bool.or_eq_true, decide_eq_true_eq, decide_eq_true_eq, decide_eq_true_eq, List.mem_append, List.map_cons, kk]
            simp
          · try dsimp only
            rw [List.length_append]
            show _ ≤ n + (d.length + 1)
            split <;> omega
        · obtain ⟨h', c, rfl, sb', Rc, cl⟩ := i
          rw [List.nil_append] at Rc cl
          refine wpAny_pure (q h' c sb' (Rc.congr fun j => ?_) (by omega))
          congr 1
          rw [Bool.eq_iff_iff, decide_eq_true_eq]
          exact M2 j
    obtain ⟨o1, es1, ep1, t1, ho1, hx1, hd1, g1, nd1, hm1, hb1, hf1, hn1, hr1, hl1⟩ := id R
    refine wpAny_bind ?_
    refine wpAny_bind (wpAny_setState_of ho1 hd1 hf1 ?_)
    dsimp only
    unfold SetTable.roomFor
    have z : t1.place.size = n := by
      have z := hf1
      unfold SetTable.fits at z
      simp only [Bool.and_eq_true, beq_iff_eq] at z
      omega
    by_cases c2 : (t1.fill + es.size) * 5 ≥ t1.mask * 3
    · rw [if_pos c2]
      dsimp only
      rw [z]
      obtain ⟨G3, k3, k4⟩ := above_ok (n := (n + es.size) * 2) (by omega)
      exact relay_got R (by omega) (by omega) fun h' o2 es2 e2 t2 sb R4 _ _ _ _ _ => last h' sb R4
    · rw [if_neg c2]
      dsimp only
      exact wpAny_pure (last s.heap (Heap.SameBut.refl _ _) R)
end
end Cw
namespace Cw
open PySem PySem.Spec PyProof.Rows L2
section
variable {P : Program} {w : World} {A : Around} {E : Value → Shared → Prop} {s : Shared} {a b : Addr} {S T : Int → Bool} {n m : Nat}
theorem entry_or : entryFor table "set.__or__" = some Builtin.«frozenset.__or__» := entryFor_alias (id' := "frozenset.__or__") (by kernel_rfl) rfl (by decide +kernel) (by kernel_rfl)
theorem or_form (a b : Value) : Builtin.«frozenset.__or__» ⟨[a, b], []⟩ = (do
    let p ← Builtin.Frozenset.slot1 "__or__" ⟨[a, b], []⟩
    if !(← (Builtin.Frozenset.isAnySet p.1 <&&> Builtin.Frozenset.isAnySet p.2)) then
      rule "frozenset.__or__.declined"
      ret .notImplemented
    else do
      let la ← Builtin.Frozenset.addrOf p.1
      let v ← (do
        let result ← Builtin.Frozenset.copyOf la
        if p.2 != .ref la then holding [result] (Builtin.Frozenset.updateFrom "frozenset.__or__" (← Builtin.Frozenset.addrOf result) p.2)
        return result)
      ret v) := by
  rfl
/-- a | b: a new set -/
theorem or_new (R1 : SetR w s.heap a S n) (R2 : SetR w s.heap b T m) (ne : a ≠ b) (room : n + m + 1 < scanBound) {Q : Value → Shared → Prop}
    (q : ∀ h' c, (∀ x o, s.heap.get? x = some o → h'.get? x = some o) → SetR w h' s.heap.objs.size (fun j => S j || T j) c → c ≤ n + m → Q (.ref s.heap.objs.size) { s with heap := h' }) : wpAny (model P w) A (binaryOp .BitOr (.ref a) (.ref b)) Q E s := by
  have ta : s.TypeIs (.ref a) "set" := (R1.setOf (P := P)).typeIs
  have tb : s.TypeIs (.ref b) "set" := (R2.setOf (P := P)).typeIs
  refine wpAny_binaryOp_same (T := "set") ta tb F.fills_set_or F.slot_set_or ?_
  refine wpAny_call_entry F.slot_set_or ta entry_or ?_ (F.args_set_or_2 _ _)
  rw [or_form]
  unfold Builtin.Frozenset.slot1 slotArgs
  refine wpAny_bind (wpAny_bind (wpAny_of_eq (a := (Value.ref a, [Value.ref b])) rfl (wpAny_pure ?_)))
  dsimp only
  refine wpAny_bind (m := _ <&&> _) ?_
  unfold andM
  refine wpAny_bind (isSet_at ta ?_)
  show wpAny _ _ (Builtin.Frozenset.isAnySet (.ref b)) _ _ _
  refine isSet_at tb (wp_if_neg (by decide) ?_)
  try refine wpAny_bind (wpAny_pure ?_)
  refine wpAny_bind ?_
  unfold Builtin.Frozenset.copyOf Builtin.Frozenset.baseOf isInstance
  have z := sub_set_self
  obtain ⟨hp, gg, dr, tk, os⟩ := s
  dsimp only at q R1 R2
  have k1 : ∀ c o, hp.get? c = some o → (hp.push (newS w)).get? c = some o := fun c o e => Heap.get?_push_of_some _ e
  have fr : Fresh w (hp.push (newS w)) hp.objs.size := by
    refine ⟨newS w, 0, _, Heap.get?_push_size _ rfl, ⟨rfl, rfl, rfl⟩, rfl, ?_⟩
    cases w.params.followText "set-order"
    · exact .inr rfl
    · exact .inl rfl
  have na : hp.objs.size ≠ a := Nat.ne_of_gt R1.lt
  have nb : hp.objs.size ≠ b := Nat.ne_of_gt R2.lt
  wp_walk
  refine wpAny_askSetting (wpAny_pure ?_)
  simp only [newObj, if_true]
  refine wpAny_bind (wpAny_alloc (wpAny_pure ?_))
  dsimp only
  refine wpAny_bind (m := Builtin.Frozenset.addrOf (.ref hp.objs.size)) (wpAny_pure ?_)
  refine wpAny_bind (merge_fresh fr (R1.at fun o e => k1 _ _ e) na fun h1 sb1 Rr f1 => ?_)
  have k2 : ∀ c o, c ≠ hp.objs.size → hp.get? c = some o → h1.get? c = some o := fun c o hc e => by
    rw [sb1.2 c hc]
    exact k1 c o e
  have k3 : ∀ c o, hp.get? c = some o → h1.get? c = some o := fun c o e => k2 c o (Nat.ne_of_lt (Heap.lt_size e)) e
  have R3 : SetR w h1 b T m := R2.at fun o e => k3 _ _ e
  refine wpAny_pure ?_
  refine wp_if_pos (by simp [Ne.symm ne]) ?_
  refine wpAny_bind (m := Builtin.Frozenset.addrOf (.ref hp.objs.size)) (wpAny_pure ?_)
  refine wpAny_bind (wpAny_holding ?_)
  unfold Builtin.Frozenset.updateFrom
  refine wpAny_bind (isSet_at (R3.setOf (P := P)).typeIs ?_)
  refine wp_if_pos rfl ?_
  refine wpAny_bind (m := Builtin.Frozenset.addrOf (.ref b)) (wpAny_pure ?_)
  unfold Builtin.Frozenset.merge
  obtain ⟨o, es, ep, t, ho, hx, hd, g, nd, hm, hb, hf, hn, hr, hl⟩ := id R3
  refine wpAny_bind (wpAny_setEpoch_of ho hd hf ?_)
  have fin : ∀ h' c, Heap.SameBut hp.objs.size h1 h' → SetR w h' hp.objs.size (fun j => S j || T j) c → c ≤ n + m → Q (.ref hp.objs.size) ⟨h', gg, dr, tk, os⟩ := fun h' c sb R le =>
    q h' c (fun x o e => by rw [sb.2 x (Nat.ne_of_lt (Heap.lt_size e))]; exact k3 x o e) R le
  have done : ∀ h' c, Heap.SameBut hp.objs.size h1 h' → SetR w h' hp.objs.size (fun j => S j || T j) c → c ≤ n + m →
      wpAny (model P w) A.in1 (pure (Value.ref hp.objs.size)) (fun a s' => wpAny (model P w) A.in1 (ret a) (fun fin s' => ∃ v, fin = Fin.done (Flow.ret v) ∧ v ≠ Value.notImplemented ∧ Q v s') E s') E ⟨h', gg, dr, tk, os⟩ := fun h' c sb R le =>
    wpAny_pure (wpAny_pure ⟨_, rfl, (fun z => nomatch z), fin h' c sb R le⟩)
  by_cases n0 : n = 0
  · refine merge_fresh (f1 n0) R3 nb fun h2 sb2 R4 _ => ?_
    refine done h2 m sb2 (R4.congr fun k => ?_) (Nat.le_add_left _ _)
    obtain ⟨o5, es5, ep5, t5, ho5, hx5, hd5, g5, nd5, hm5, hb5, hf5, hn5, _⟩ := R1
    have e0 : es5 = #[] := Array.size_eq_zero_iff.mp (by omega)
    have z : S k = false := by
      cases z : S k with
      | false => rfl
      | true =>
        have := (hm5 k).mp z
        rw [e0] at this
        simp at this
    rw [z, Bool.false_or]
  · refine merge_more Rr R3 nb (Nat.pos_of_ne_zero n0) room (fun h' Q' kb qq => ?_) fun h2 c sb2 R4 le => done h2 c sb2 R4 le
    unfold Builtin.Frozenset.unchanged
    refine wpAny_bind (wpAny_setEpoch_of (kb _ ho) hd hf ?_)
    refine wp_if_neg (by simp) (wpAny_pure qq)
end
end Cw
namespace Cw
open PySem PySem.Spec PyProof.Rows L2
section
variable {X : Cx}
/-- a | b -/
def rOrN (w : World) : R2 := fun x y H Q => ∃ (a b : Addr) (S T : Int → Bool) (n m : Nat), x = .ref a ∧ y = .ref b ∧ a ≠ b ∧ H a = some (SetO w a S n) ∧ H b = some (SetO w b T m) ∧ n + m ≤ 4000 ∧ ∀ p c, c ≤ n + m → H p = none → Q (.ref p) (upd H p (SetO w p (fun j => S j || T j) c))
theorem op_orN : OpR X (binaryOp .BitOr) (rOrN X.w) := by
  intro pins s σ H x y v u Q I rx ry h
  obtain ⟨a, b, S, T, n, m, rfl, rfl, ne, ha, hb, le, q⟩ := h
  cases rx
  cases ry
  refine or_new (setO_get I ha) (setO_get I hb) ne (by show n + m + 1 < 4096; omega) fun h' c k R lc => ?_
  exact ⟨.ref s.heap.objs.size, _, I.laid (t' := s.toks) k (Nat.le_refl _) (setO_new R), rfl, q _ c lc (I.hok.fresh (Nat.le_refl _))⟩
end
end Cw
namespace Cw
open PySem PySem.Spec PyProof.Rows L2
section
variable {P : Program} {w : World} {A : Around} {E : Value → Shared → Prop} {s : Shared} {a : Addr}
/-- sorted of a set of ints, as many as there are -/
theorem sorted_all {S : Int → Bool} {n : Nat} {Q : Value → Shared → Prop} (R : SetR w s.heap a S n) (calm : A.handled = none)
    (q : ∀ (t : Shared) (p : Addr) (out : Array Value) (c : Nat) (ns : List Int), (∀ x o, s.heap.get? x = some o → t.heap.get? x = some o) → t.gens = s.gens → t.os = s.os → s.heap.objs.size ≤ p →
      t.heap.get? p = some (seqObj "list" out c) → IntsAre out.toList ns → List.Pairwise (· < ·) ns → (∀ k, k ∈ ns ↔ S k = true) → ns.length = n → Q (.ref p) t) :
    wpAny (model P w) A (call (.builtin "sorted") [.ref a]) Q E s := by
  obtain ⟨o, es, ep, t, ho, hx, hd, g, nd, hm, hb, hf, hn, hr, hl⟩ := R
  refine Calls.call_function_entry kind_sorted
    plain_sorted entry_sorted (args_sorted1 _) ?_
  unfold Builtin.«sorted»
  refine wpAny_bind (m := checkCount "sorted" 1 1 _)
    (wpAny_pure ?_)
  refine wpAny_bind (collect_set (A := A.in1) calm ⟨o, ho, hx.1, hd⟩ hf hb hr hl fun u vs old sz ge oss pm => ?_)
  have len : vs.length = n := by
    rw [pm.length_eq, List.length_map, Array.length_toList, hn]
  have iz : IntsAre vs (vs.map Builtin.Re.reRawOf) := ints_of vs fun v hv => by
    obtain ⟨e, he, z⟩ := List.mem_map.mp (pm.mem_iff.mp hv)
    obtain ⟨k, tk, e1, _⟩ := g e he
    exact ⟨k, tk, by rw [← z]; exact e1⟩
  have keys : (vs.map Builtin.Re.reRawOf).Perm (es.toList.map keyOf) := by
    have z := pm.map Builtin.Re.reRawOf
    rw [List.map_map] at z
    exact z
  have nb : n < 4096 := by rw [← hn]; exact hb
  refine wpAny_bind (wpAny_newList ?_ (by rw [len, sizeLine_eq]; omega))
  have at0 : (u.heap.push (seqObj "list" vs.toArray 0)).get? u.heap.objs.size = some (seqObj "list" vs.toArray 0) := Heap.get?_push_size _ rfl
  refine wpAny_bind (wpAny_holding (wpAny_call_entry slot_list_sort ⟨_, at0, rfl⟩ entry_list_sort
    (SrtO.list_sort_ord SrtO.swo_int at0 (by rw [len, sizeLine_eq]; omega) (fun h2 => SrtO.ints_sortable iz h2) fun out h1 h2 => ⟨.none, rfl, ?_⟩) (args_list_sort _)))
  obtain ⟨k1, k2, k3⟩ := SrtO.ints_out iz h1 h2
  obtain ⟨c, hc⟩ := sortedHeap_at (vs := vs) (out := out.toArray) at0
  have perm := k2.trans keys
  refine wpAny_pure ⟨_, rfl, q _ u.heap.objs.size out.toArray c (out.map SrtO.iv) (fun x v e => ?_) ge oss sz hc k1 (lt_of_le_nodup _ k3 (perm.nodup_iff.mpr nd)) (fun k => ?_) ?_⟩
  · have z := old x v e
    have lt := Heap.lt_size z
    show (sortedHeap (u.heap.push (seqObj "list" vs.toArray 0)) u.heap.objs.size vs out.toArray).get? x = some v
    rw [sortedHeap_old (Nat.ne_of_lt lt) (Nat.lt_of_lt_of_le lt (by rw [size_push']; exact Nat.le_succ _))]
    exact Heap.get?_push_of_some _ z
  · rw [perm.mem_iff]
    exact (hm k).symm
  · rw [perm.length_eq, List.length_map, Array.length_toList, hn]
end
section
variable {X : Cx}
/-- sorted(s), s a set of ints -/
def rSortSet (w : World) : List V → Hp → VK → Prop := fun vs H Q => ∃ (a : Addr) (S : Int → Bool) (n : Nat), vs = [V.ref a] ∧ H a = some (SetO w a S n) ∧
  ∀ (ns : List Int) (p : Addr), List.Pairwise (· < ·) ns → (∀ k, k ∈ ns ↔ S k = true) → H p = none → Q (.ref p) (upd H p (.lst (ns.map V.int)))
theorem cr_sortSet (hc : X.calm = true) : CallR X (.builtin "sorted") (rSortSet X.w) := by
  intro pins s σ H vs us Q I r h
  obtain ⟨a, S, n, rfl, ha, q⟩ := h
  have R := setO_get I ha
  rw [Vals.ref1 r]
  obtain ⟨o, es, ep, t, ho, hx, hd, g, nd, hm, hb, hf, hn, hr, hl⟩ := id R
  have nb : n < 4096 := by rw [← hn]; exact hb
  refine sorted_all R (I.ok.hd hc) fun t p out c ns k ge oss sz hg hi hs hm' hl' => ?_
  have few : (ns.map V.int).length ≤ sizeLine := by
    rw [List.length_map, hl', sizeLine_eq]
    omega
  have np : H p = none := I.hok.fresh sz
  obtain ⟨hp2, g2, d2, tk2, os2⟩ := t
  dsimp only at k ge oss hg
  subst ge oss
  refine ⟨.ref p, upd H p (.lst (ns.map V.int)), ?_, rfl, q ns p hs hm' np⟩
  exact I.call (ch := []) (Un.laid k sz np) (I.hok.laid k sz ⟨few, out.toList, c, vals_of_ints hi, hg⟩) I.bare (fun _ z => nomatch z)
end
end Cw
namespace Cw
open PySem L2
/-! ## marks put and taken -/
abbrev sCI : Stmt := inClass sRow 12
abbrev sWith : Stmt := inClass sRow 7
abbrev sWout : Stmt := inClass sRow 8
def spCI (C : Addr) : Sp := fun vs H Q _ => ∃ (x g : Addr) (n : Int) (ms ss gs : List Int), vs = [.ref x, .ref g] ∧ RowAt C H x n ms ss ∧ IL H g gs ∧ gs.length ≤ 1000 ∧ (∀ z ∈ gs, 1 ≤ z ∧ z ≤ n - 1) ∧ ∀ H', Same H H' → Q .non H'
def spWith (C : Addr) : Sp := fun vs H Q _ => ∃ (x g : Addr) (b : Bool) (n : Int) (ms ss gs : List Int), vs = [.ref x, .ref g, .bl b] ∧ RowAt C H x n ms ss ∧ Good n ms ss ∧ IL H g gs ∧ gs.length ≤ 1000 ∧ (∃ L : List Int, L.length ≤ 400 ∧ (∀ z ∈ ms, z ∈ L) ∧ ∀ z ∈ gs, z ∈ L) ∧ (∀ z ∈ gs, 1 ≤ z ∧ z ≤ n - 1) ∧
  ∀ p H' ms' ss', Same H H' → Good n ms' ss' → (∀ z, z ∈ ms' ↔ z ∈ ms ∨ z ∈ gs) → (∀ z, z ∈ ss' ↔ if b = true then z ∈ ss ∨ z ∈ gs else z ∈ ss ∧ z ∉ gs) → RowNew C H H' p n ms' ss' → Q (.ref p) H'
def offM (ms gs : List Int) : List Int := ms.filter fun z => !decide (z ∈ gs)
def spWout (C : Addr) : Sp := fun vs H Q _ => ∃ (x g : Addr) (n : Int) (ms ss gs : List Int), vs = [.ref x, .ref g] ∧ RowAt C H x n ms ss ∧ Good n ms ss ∧ IL H g gs ∧ gs.length ≤ 1000 ∧ (∀ z ∈ gs, 1 ≤ z ∧ z ≤ n - 1) ∧
  ∀ p H', Same H H' → RowNew C H H' p n (offM ms gs) (offM ss gs) → Q (.ref p) H'
/-- set(xs), told by its parts -/
def rSetOfW (K : PySem.W.Frag) (w : World) : List V → Hp → VK → Prop := fun xs H Q => ∃ (l : Addr) (ns : List Int), xs = [.ref l] ∧ SqL K H l (ns.map V.int) ∧ ns.length ≤ 4000 ∧ ∀ p c, c ≤ ns.length → H p = none → Q (.ref p) (upd H p (SetO w p (fun j => decide (j ∈ ns)) c))
theorem mem_off {ms gs : List Int} {z : Int} : z ∈ offM ms gs ↔ z ∈ ms ∧ z ∉ gs := by
  unfold offM
  rw [List.mem_filter]
  simp
theorem good_off {n : Int} {ms ss gs : List Int} (G : Good n ms ss) : Good n (offM ms gs) (offM ss gs) :=
  ⟨G.pos, Nat.le_trans (List.length_filter_le _ _) G.len, fun x hx => G.rng x (mem_off.mp hx).1, G.asc.filter _, G.asc2.filter _, fun x hx => mem_off.mpr ⟨G.sub x (mem_off.mp hx).1, (mem_off.mp hx).2⟩⟩
section
variable {P : Program} {w : World} {K : PySem.W.Frag} {mg : Str → Option Value} {base : Heap}
theorem scCI : FnScope ["self", "places"] ["self", "places"] (defScope sCI) := ⟨rfl, rfl, rfl, by decide +kernel, rfl, by decide +kernel, by decide +kernel⟩
theorem ok_ci {f C fP : Addr} {fd fdP : FuncData} (F : Fun K "_check_inner" "Row._check_inner" sCI f fd) (R : Cl K mg C)
    (gP : mg "are_places" = some (.ref fP)) (kP : PySem.W.keepIn K (.ref fP) = true) (bP : Binds K fdP ["thing", "low", "high"] []) (GP : FnOk P w K mg base CX0 2 fP fdP ["thing", "low", "high"] spPlaces) :
    FnOk P w K mg base CX0 3 f fd ["self", "places"] (spCI C) := by
  refine F.ok scCI (fun vs H Q E h => ?_) (fun cdv A outer s H vs Q E hr h => ?_)
  · obtain ⟨x, g, n, ms, ss, gs, rfl, _⟩ := h
    rfl
  · obtain ⟨x, g, n, ms, ss, gs, rfl, ⟨dx, l1, l2, ho, h1, h2⟩, hg, few, rg, q⟩ := h
    refine ⟨_, pss_one (ps_if (pt_not (pt_val (pe_call GP hr rfl gP kP bP .nil pass0 (pa_cons (pv 1) (pa_cons pe_int (pa_cons (pe_op op_sub (pe_fld (pv 0) rfl) pe_int) pa_nil)))))) pss_never pss_nil), ?_⟩
    refine ⟨_, rfl, _, rfl, x, C, dx, _, _, rfl, ho, R.cl, R.nL, fl_L _ _ _, _, _, rfl, rfl, ?_⟩
    refine ⟨g, gs, 1, n - 1, rfl, hg, few, rg, fun H1 s1 => ⟨_, rfl, ?_⟩⟩
    refine ifF rfl ?_
    exact q _ s1
abbrev NWt : List Str := ["self", "places", "is_strict", "given", "marks", "strict", "mark"]
theorem scWt : FnScope NWt ["self", "places", "is_strict"] (defScope sWith) := ⟨rfl, rfl, rfl, by decide +kernel, rfl, by decide +kernel, by decide +kernel⟩
theorem ok_with {f C fI fC : Addr} {fd fdI fdC : FuncData} (F : Fun K "with_marks" "Row.with_marks" sWith f fd) (T : Bl mg) (R : Cl K mg C) (M : Mk K C fI)
    (mC : Meth K C "_check_inner" fC) (bC : Binds K fdC ["self", "places"] []) (GC : FnOk P w K mg base CX0 3 fC fdC ["self", "places"] (spCI C))
    (bI : Binds K fdI NI []) (GI : FnOk P w K mg base CX0 5 fI fdI NI (spInit C)) :
    FnOk P w K mg base CX0 7 f fd ["self", "places", "is_strict"] (spWith C) := by
  refine F.ok scWt (fun vs H Q E h => ?_) (fun cdv A outer s H vs Q E hr h => ?_)
  · obtain ⟨x, g, b, n, ms, ss, gs, rfl, _⟩ := h
    rfl
  · obtain ⟨x, g, b, n, ms, ss, gs, rfl, hx, G, hg, lg, ⟨L, lL, mL, gL⟩, rg, q⟩ := h
    have lm := G.len
    have hr3 : Room 3 (A.deeper (PyProof.Rows.envOfC "Row.with_marks" (defScope sWith) s.heap.objs.size f cdv)) := hr.mono (by decide)
    refine ⟨_, pss_cons (ps_expr (pe_meth (pv 0) R.cl mC GC hr3 bC .nil pass0 (pa_cons (pv 1) pa_nil)))
      (pss_cons (ps_set (i := 3) scWt.nd rfl (Or.inr rfl) (pe_callTy (show CallR _ (.type "set") (rSetOfW K w) from cr_setOf rfl) (by rfl) T.set (by decide +kernel) (pa_cons (pv 1) pa_nil)))
      (pss_cons (ps_set (i := 4) scWt.nd rfl (Or.inl rfl) (pe_callB (show CallR _ (.builtin "sorted") (rSortSet w) from cr_sortSet rfl) (by rfl) T.sorted (by decide +kernel) (pa_cons (pe_op (show OpR _ (binaryOp .BitOr) (rOrN w) from op_orN) (pe_callTy (show CallR _ (.type "set") (rSetOfW K w) from cr_setOf rfl) (by rfl) T.set (by decide +kernel) (pa_cons (pe_fld (pv 0) rfl) pa_nil)) (pe_callTy (show CallR _ (.type "set") (rSetOfW K w) from cr_setOf rfl) (by rfl) T.set (by decide +kernel) (pa_cons (pv 1) pa_nil))) pa_nil)))
      (pss_cons (ps_setLc (i := 5) (own := [("mark", 6)]) (g := gName 6) rfl scWt.nd rfl rfl (sw_true rfl rfl rfl (by decide +kernel)) (pi_list (pe_fld (pv 0) rfl)) (blkOk_by (own := [("mark", 6)]) (N := NWt) (sc := defScope sWith) (by decide +kernel))
          (fun _ _ _ _ _ => pg_name (i := 6) scWt.nd rfl (Or.inl rfl)) (fun _ _ _ _ _ => pts_one (pt_cmpR (show OpR _ (compareOp .NotIn) (rSNotIn w) from or_snotin) (pv 6) (pv 3) (by rfl))) (fun _ _ _ _ _ => pv 6))
      (pss_cons (ps_if (pt_val (pv 2)) (pss_one (ps_set (i := 5) scWt.nd rfl (Or.inl rfl) (pe_callB (show CallR _ (.builtin "sorted") (rSortSet w) from cr_sortSet rfl) (by rfl) T.sorted (by decide +kernel) (pa_cons (pe_op (show OpR _ (binaryOp .BitOr) (rOrN w) from op_orN) (pe_callTy (show CallR _ (.type "set") (rSetOfW K w) from cr_setOf rfl) (by rfl) T.set (by decide +kernel) (pa_cons (pe_fld (pv 0) rfl) pa_nil)) (pe_callTy (show CallR _ (.type "set") (rSetOfW K w) from cr_setOf rfl) (by rfl) T.set (by decide +kernel) (pa_cons (pv 1) pa_nil))) pa_nil)))) pss_nil)
      (pss_one (ps_ret (pe_make M GI hr rfl R.mgR bI .nil pass0 (pa_cons (pe_fld (pv 0) rfl) (pa_cons (pv 4) (pa_cons (pv 5) pa_nil)))))))))), ?_⟩
    obtain ⟨dx, l1, l2, ho, h1, h2⟩ := id hx
    have ls := G.len2
    refine ⟨_, rfl, x, dx, _, rfl, ho, fl_no _ _ _ (by decide +kernel) (by decide +kernel) (by decide +kernel), ?_⟩
    refine ⟨_, rfl, x, g, n, ms, ss, gs, rfl, hx, hg, by omega, rg, fun H1 s1 => ?_⟩
    have hg1 := s1 _ _ hg
    refine ⟨_, rfl, g, gs, rfl, SqL.of hg1, by omega, fun p0 c0 hc0 hp0 => ?_⟩
    have s2 := same_new (o := SetO w p0 (fun j => decide (j ∈ gs)) c0) s1 hp0
    have k0 : upd H1 p0 (SetO w p0 (fun j => decide (j ∈ gs)) c0) p0 = some (SetO w p0 (fun j => decide (j ∈ gs)) c0) := upd_same
    generalize upd H1 p0 (SetO w p0 (fun j => decide (j ∈ gs)) c0) = H2 at s2 k0 ⊢
    -- the marks
    refine ⟨_, rfl, x, C, dx, _, _, rfl, s2 _ _ ho, R.cl, R.nM, fl_M _ _ _, l1, ms, rfl, SqL.of (s2 _ _ h1), by omega, fun p1 c1 hc1 hp1 => ?_⟩
    have s3 := same_new (o := SetO w p1 (fun j => decide (j ∈ ms)) c1) (Same.refl H2) hp1
    have k1 : upd H2 p1 (SetO w p1 (fun j => decide (j ∈ ms)) c1) p1 = some (SetO w p1 (fun j => decide (j ∈ ms)) c1) := upd_same
    generalize upd H2 p1 (SetO w p1 (fun j => decide (j ∈ ms)) c1) = H3 at s3 k1 ⊢
    refine ⟨_, rfl, g, gs, rfl, SqL.of (s3 _ _ (s2 _ _ hg)), by omega, fun p2 c2 hc2 hp2 => ?_⟩
    have n12 : p1 ≠ p2 := ne_of_none k1 hp2
    refine ⟨p1, p2, _, _, c1, c2, rfl, rfl, n12, by rw [upd_ne n12]; exact k1, upd_same, by omega, fun p3 c3 hc3 hp3 => ?_⟩
    refine ⟨p3, _, c3, rfl, upd_same, fun ns p4 nasc nmem hp4 => ?_⟩
    have s4 := same_new (o := .lst (ns.map V.int)) (same_new (o := SetO w p3 (fun j => decide (j ∈ ms) || decide (j ∈ gs)) c3) (same_new (o := SetO w p2 (fun j => decide (j ∈ gs)) c2) s3 hp2) hp3) hp4
    have k4 : IL (upd (upd (upd H3 p2 (SetO w p2 (fun j => decide (j ∈ gs)) c2)) p3 (SetO w p3 (fun j => decide (j ∈ ms) || decide (j ∈ gs)) c3)) p4 (.lst (ns.map V.int))) p4 ns := upd_same
    generalize upd (upd (upd H3 p2 (SetO w p2 (fun j => decide (j ∈ gs)) c2)) p3 (SetO w p3 (fun j => decide (j ∈ ms) || decide (j ∈ gs)) c3)) p4 (.lst (ns.map V.int)) = H4 at s4 k4 ⊢
    have mem1 : ∀ z, z ∈ ns ↔ z ∈ ms ∨ z ∈ gs := fun z => by
      rw [nmem z, Bool.or_eq_true, decide_eq_true_eq, decide_eq_true_eq]
    have lns : ns.length ≤ L.length := nodup_len (nasc.imp fun h e => by omega) fun z hz => by rcases (mem1 z).mp hz with h | h; exact mL z h; exact gL z h
    have s24 := s2.trans s4
    try dsimp only [L2.start, List.set, List.map, List.append, List.replicate, List.length]
    -- the strict ones that stay
    refine ⟨_, rfl, x, C, dx, _, _, rfl, s24 _ _ ho, R.cl, R.nS, fl_S _ _ _, l2, rfl, ⟨_, SqL.of (s24 _ _ h2)⟩, fun D hD => ?_⟩
    refine lc_fil (K := K) (fun z => !decide (z ∈ gs)) (s24 _ _ h2) hD (by omega) ?_ ?_
    · intro z H' A B sx ka kb
      refine ⟨rfl, ?_⟩
      refine ⟨_, rfl, _, rfl, z, p0, _, _, rfl, rfl, sx _ _ (s4 _ _ k0), _, rfl, ?_⟩
      by_cases c : z ∈ gs
      · exact ifF (by simp [c]) (kb (by simp [c]))
      · refine ifT (by simp [c]) ?_
        exact ⟨_, rfl, ka (by simp [c])⟩
    intro H5 s5 k5
    have s45 := s4.trans s5
    have s25 := s24.trans s5
    have k4' := s5 _ _ k4
    have rng : ∀ z ∈ ns, 1 ≤ z ∧ z ≤ n - 1 := fun z hz => by
      rcases (mem1 z).mp hz with h | h
      · exact G.rng z h
      · exact rg z h
    try dsimp only [L2.start, List.set, List.map, List.append, List.replicate, List.length]
    cases b with
    | false =>
      refine ⟨_, rfl, _, rfl, ?_⟩
      refine ifF rfl ?_
      have G' : Good n ns (offM ss gs) := ⟨G.pos, by omega, rng, nasc, G.asc2.filter _, fun z hz => (mem1 z).mpr (.inl (G.sub z (mem_off.mp hz).1))⟩
      refine ⟨_, rfl, x, C, dx, _, _, rfl, s25 _ _ ho, R.cl, R.nL, fl_L _ _ _, _, rfl, _, rfl, fun z dz nz nd ne => ?_⟩
      have s9 : Same H5 (upd (upd H5 dz (.own z)) z (.ins C dz [])) := same_new (same_new (Same.refl H5) nd) (by rw [upd_ne (Ne.symm ne)]; exact nz)
      refine ⟨z, dz, p4, D, _, _, _, rfl, upd_same, s9 _ _ k4', s9 _ _ k5, G', fun H9 row kp => ⟨rfl, ?_⟩⟩
      exact q z H9 ns (offM ss gs) (same_ins s25 nz nd kp) G' mem1 (fun y => by rw [if_neg Bool.false_ne_true]; exact mem_off) (row.mono fun c o e => ⟨o, s9 _ _ (s25 _ _ e)⟩)
    | true =>
      refine ⟨_, rfl, _, rfl, ?_⟩
      refine ifT rfl ?_
      refine ⟨_, rfl, x, C, dx, _, _, rfl, s25 _ _ ho, R.cl, R.nS, fl_S _ _ _, l2, ss, rfl, SqL.of (s25 _ _ h2), by omega, fun q1 d1 hd1 hq1 => ?_⟩
      have t3 := same_new (o := SetO w q1 (fun j => decide (j ∈ ss)) d1) (Same.refl H5) hq1
      have u1 : upd H5 q1 (SetO w q1 (fun j => decide (j ∈ ss)) d1) q1 = some (SetO w q1 (fun j => decide (j ∈ ss)) d1) := upd_same
      generalize upd H5 q1 (SetO w q1 (fun j => decide (j ∈ ss)) d1) = H6 at t3 u1 ⊢
      refine ⟨_, rfl, g, gs, rfl, SqL.of (t3 _ _ (s25 _ _ hg)), by omega, fun q2 d2 hd2 hq2 => ?_⟩
      have m12 : q1 ≠ q2 := ne_of_none u1 hq2
      refine ⟨q1, q2, _, _, d1, d2, rfl, rfl, m12, by rw [upd_ne m12]; exact u1, upd_same, by omega, fun q3 d3 hd3 hq3 => ?_⟩
      refine ⟨q3, _, d3, rfl, upd_same, fun us q4 uasc umem hq4 => ?_⟩
      have t4 := same_new (o := .lst (us.map V.int)) (same_new (o := SetO w q3 (fun j => decide (j ∈ ss) || decide (j ∈ gs)) d3) (same_new (o := SetO w q2 (fun j => decide (j ∈ gs)) d2) t3 hq2) hq3) hq4
      have u4 : IL (upd (upd (upd H6 q2 (SetO w q2 (fun j => decide (j ∈ gs)) d2)) q3 (SetO w q3 (fun j => decide (j ∈ ss) || decide (j ∈ gs)) d3)) q4 (.lst (us.map V.int))) q4 us := upd_same
      generalize upd (upd (upd H6 q2 (SetO w q2 (fun j => decide (j ∈ gs)) d2)) q3 (SetO w q3 (fun j => decide (j ∈ ss) || decide (j ∈ gs)) d3)) q4 (.lst (us.map V.int)) = H7 at t4 u4 ⊢
      have mem2 : ∀ z, z ∈ us ↔ z ∈ ss ∨ z ∈ gs := fun z => by
        rw [umem z, Bool.or_eq_true, decide_eq_true_eq, decide_eq_true_eq]
      have G' : Good n ns us := ⟨G.pos, by omega, rng, nasc, uasc, fun z hz => (mem1 z).mpr (by rcases (mem2 z).mp hz with h | h; exact .inl (G.sub z h); exact .inr h)⟩
      have s27 := s25.trans t4
      try dsimp only [L2.start, List.set, List.map, List.append, List.replicate, List.length]
      refine ⟨_, rfl, x, C, dx, _, _, rfl, s27 _ _ ho, R.cl, R.nL, fl_L _ _ _, _, rfl, _, rfl, fun z dz nz nd ne => ?_⟩
      have s9 : Same H7 (upd (upd H7 dz (.own z)) z (.ins C dz [])) := same_new (same_new (Same.refl H7) nd) (by rw [upd_ne (Ne.symm ne)]; exact nz)
      refine ⟨z, dz, p4, q4, _, _, _, rfl, upd_same, s9 _ _ (t4 _ _ k4'), s9 _ _ u4, G', fun H9 row kp => ⟨rfl, ?_⟩⟩
      exact q z H9 ns us (same_ins s27 nz nd kp) G' mem1 (fun y => by rw [if_pos rfl]; exact mem2 y) (row.mono fun c o e => ⟨o, s9 _ _ (s27 _ _ e)⟩)
abbrev NWo : List Str := ["self", "places", "gone", "marks", "strict", "mark"]
theorem scWo : FnScope NWo ["self", "places"] (defScope sWout) := ⟨rfl, rfl, rfl, by decide +kernel, rfl, by decide +kernel, by decide +kernel⟩
theorem ok_wout {f C fI fC : Addr} {fd fdI fdC : FuncData} (F : Fun K "without_marks" "Row.without_marks" sWout f fd) (T : Bl mg) (R : Cl K mg C) (M : Mk K C fI)
    (mC : Meth K C "_check_inner" fC) (bC : Binds K fdC ["self", "places"] []) (GC : FnOk P w K mg base CX0 3 fC fdC ["self", "places"] (spCI C))
    (bI : Binds K fdI NI []) (GI : FnOk P w K mg base CX0 5 fI fdI NI (spInit C)) :
    FnOk P w K mg base CX0 7 f fd ["self", "places"] (spWout C) := by
  refine F.ok scWo (fun vs H Q E h => ?_) (fun cdv A outer s H vs Q E hr h => ?_)
  · obtain ⟨x, g, n, ms, ss, gs, rfl, _⟩ := h
    rfl
  · obtain ⟨x, g, n, ms, ss, gs, rfl, hx, G, hg, few, rg, q⟩ := h
    have hr3 : Room 3 (A.deeper (PyProof.Rows.envOfC "Row.without_marks" (defScope sWout) s.heap.objs.size f cdv)) := hr.mono (by decide)
    refine ⟨_, pss_cons (ps_expr (pe_meth (pv 0) R.cl mC GC hr3 bC .nil pass0 (pa_cons (pv 1) pa_nil)))
      (pss_cons (ps_set (i := 2) scWo.nd rfl (Or.inr rfl) (pe_callTy (show CallR _ (.type "set") (rSetOfW K w) from cr_setOf rfl) (by rfl) T.set (by decide +kernel) (pa_cons (pv 1) pa_nil)))
      (pss_cons (ps_setLc (i := 3) (own := [("mark", 5)]) (g := gName 5) rfl scWo.nd rfl rfl (sw_true rfl rfl rfl (by decide +kernel)) (pi_list (pe_fld (pv 0) rfl)) (blkOk_by (own := [("mark", 5)]) (N := NWo) (sc := defScope sWout) (by decide +kernel))
          (fun _ _ _ _ _ => pg_name (i := 5) scWo.nd rfl (Or.inl rfl)) (fun _ _ _ _ _ => pts_one (pt_cmpR (show OpR _ (compareOp .NotIn) (rSNotIn w) from or_snotin) (pv 5) (pv 2) (by rfl))) (fun _ _ _ _ _ => pv 5))
      (pss_cons (ps_setLc (i := 4) (own := [("mark", 5)]) (g := gName 5) rfl scWo.nd rfl rfl (sw_true rfl rfl rfl (by decide +kernel)) (pi_list (pe_fld (pv 0) rfl)) (blkOk_by (own := [("mark", 5)]) (N := NWo) (sc := defScope sWout) (by decide +kernel))
          (fun _ _ _ _ _ => pg_name (i := 5) scWo.nd rfl (Or.inl rfl)) (fun _ _ _ _ _ => pts_one (pt_cmpR (show OpR _ (compareOp .NotIn) (rSNotIn w) from or_snotin) (pv 5) (pv 2) (by rfl))) (fun _ _ _ _ _ => pv 5))
      (pss_one (ps_ret (pe_make M GI hr rfl R.mgR bI .nil pass0 (pa_cons (pe_fld (pv 0) rfl) (pa_cons (pv 3) (pa_cons (pv 4) pa_nil))))))))), ?_⟩
    obtain ⟨dx, l1, l2, ho, h1, h2⟩ := id hx
    have lm := G.len
    have ls := G.len2
    refine ⟨_, rfl, x, dx, _, rfl, ho, fl_no _ _ _ (by decide +kernel) (by decide +kernel) (by decide +kernel), ?_⟩
    refine ⟨_, rfl, x, g, n, ms, ss, gs, rfl, hx, hg, few, rg, fun H1 s1 => ?_⟩
    refine ⟨_, rfl, g, gs, rfl, SqL.of (s1 _ _ hg), by omega, fun p0 c0 hc0 hp0 => ?_⟩
    have s2 := same_new (o := SetO w p0 (fun j => decide (j ∈ gs)) c0) s1 hp0
    have k0 : upd H1 p0 (SetO w p0 (fun j => decide (j ∈ gs)) c0) p0 = some (SetO w p0 (fun j => decide (j ∈ gs)) c0) := upd_same
    generalize upd H1 p0 (SetO w p0 (fun j => decide (j ∈ gs)) c0) = H2 at s2 k0 ⊢
    refine ⟨_, rfl, x, C, dx, _, _, rfl, s2 _ _ ho, R.cl, R.nM, fl_M _ _ _, l1, rfl, ⟨_, SqL.of (s2 _ _ h1)⟩, fun D hD => ?_⟩
    refine lc_fil (K := K) (fun z => !decide (z ∈ gs)) (s2 _ _ h1) hD (by omega) ?_ ?_
    · intro z H' A B sx ka kb
      refine ⟨rfl, ?_⟩
      refine ⟨_, rfl, _, rfl, z, p0, _, _, rfl, rfl, sx _ _ k0, _, rfl, ?_⟩
      by_cases c : z ∈ gs
      · exact ifF (by simp [c]) (kb (by simp [c]))
      · refine ifT (by simp [c]) ?_
        exact ⟨_, rfl, ka (by simp [c])⟩
    intro H3 s3 k3
    have s23 := s2.trans s3
    try dsimp only [L2.start, List.set, List.map, List.append, List.replicate, List.length]
    refine ⟨_, rfl, x, C, dx, _, _, rfl, s23 _ _ ho, R.cl, R.nS, fl_S _ _ _, l2, rfl, ⟨_, SqL.of (s23 _ _ h2)⟩, fun D2 hD2 => ?_⟩
    refine lc_fil (K := K) (fun z => !decide (z ∈ gs)) (s23 _ _ h2) hD2 (by omega) ?_ ?_
    · intro z H' A B sx ka kb
      refine ⟨rfl, ?_⟩
      refine ⟨_, rfl, _, rfl, z, p0, _, _, rfl, rfl, sx _ _ (s3 _ _ k0), _, rfl, ?_⟩
      by_cases c : z ∈ gs
      · exact ifF (by simp [c]) (kb (by simp [c]))
      · refine ifT (by simp [c]) ?_
        exact ⟨_, rfl, ka (by simp [c])⟩
    intro H4 s4 k4
    have s24 := s23.trans s4
    try dsimp only [L2.start, List.set, List.map, List.append, List.replicate, List.length]
    refine ⟨_, rfl, x, C, dx, _, _, rfl, s24 _ _ ho, R.cl, R.nL, fl_L _ _ _, _, rfl, _, rfl, fun z dz nz nd ne => ?_⟩
    have s9 : Same H4 (upd (upd H4 dz (.own z)) z (.ins C dz [])) := same_new (same_new (Same.refl H4) nd) (by rw [upd_ne (Ne.symm ne)]; exact nz)
    refine ⟨z, dz, D, D2, _, _, _, rfl, upd_same, s9 _ _ (s4 _ _ k3), s9 _ _ k4, good_off G, fun H9 row kp => ⟨rfl, ?_⟩⟩
    exact q z H9 (same_ins s24 nz nd kp) (row.mono fun c o e => ⟨o, s9 _ _ (s24 _ _ e)⟩)
end
end Cw
namespace Cw
open PySem PySem.Spec PyProof.Rows PySem.SeqAt L2
/-! ## in by an own __contains__, len by an own __len__ -/
section
variable {X : Cx} {n : Nat} {CX : CXT} {C f : Addr} {fd : FuncData} {ps : List Str} {sp : Sp} {E : XK}
def rInOwn (C : Addr) (sp : Sp) (E : XK) : R2 := fun x y H Q => ∃ (a dx : Addr) (fs : List (Str × V)), y = .ref a ∧ H a = some (.ins C dx fs) ∧ sp [.ref a, x] H (fun v H' => ∃ k, v = .bl k ∧ Q (.bl k) H') E
theorem op_inOwn (F : FnOk X.prog X.w X.K X.mg X.base CX n f fd ps sp) (hs : PySem.W.findIn X.K (.ref C) "__contains__" = some (some (.ref f))) (hf : PySem.W.isFn X.K (.ref f) = true)
    (hb : Binds X.K fd ps []) (hx : Passes CX X E) (hr : Room n X.A) : OpR X (compareOp .In) (rInOwn C sp E) := by
  intro pins s σ H x y v u Q I rx ry h
  obtain ⟨a, dx, fs, rfl, ha, hsp⟩ := h
  cases ry
  obtain ⟨mA, J, _⟩ := ins_get I.hok ha
  obtain ⟨od, J, _⟩ := J.look
  obtain ⟨m, hF⟩ := I.fr
  refine PySem.W.in_K hF I.ok.mod.kin J hs hf ?_
  have r2 : Vals [V.ref a, x] [Value.ref a, v] := .cons rfl (.cons rx .nil)
  refine wpAny_mono (run_fn F hr hb .nil hx I r2 (show sp ([V.ref a, x] ++ []) H _ E from hsp)) (fun r s' z => ?_) fun _ _ e => e
  obtain ⟨w, H', I', rw', k, rfl, q⟩ := z
  cases rw'
  exact wpAny_truthy_bool ⟨.bl k, H', I', rfl, q⟩
def rLenOwn (C : Addr) (sp : Sp) (E : XK) : List V → Hp → VK → Prop := fun xs H Q => ∃ (a dx : Addr) (fs : List (Str × V)), xs = [.ref a] ∧ H a = some (.ins C dx fs) ∧ sp [.ref a] H (fun v H' => ∃ k : Nat, v = .int k ∧ k ≤ 1000000 ∧ Q (.int k) H') E
theorem call_lenOwn (F : FnOk X.prog X.w X.K X.mg X.base CX n f fd ps sp) (hs : PySem.W.findIn X.K (.ref C) "__len__" = some (some (.ref f))) (hf : PySem.W.isFn X.K (.ref f) = true)
    (hb : Binds X.K fd ps []) (hx : Passes CX X E) (hr : Room (n + 1) X.A) : CallR X (.builtin "len") (rLenOwn C sp E) := by
  intro pins s σ H xs us Q I r h
  obtain ⟨a, dx, fs, rfl, ha, hsp⟩ := h
  rw [Vals.ref1 r]
  obtain ⟨mA, J, _⟩ := ins_get I.hok ha
  obtain ⟨od, J, _⟩ := J.look
  obtain ⟨m, hF⟩ := I.fr
  refine PySem.W.len_K hF I.ok.mod.kin J hs hf ?_
  have hl := F.len _ _ _ _ hsp
  have r2 : Vals [V.ref a] [Value.ref a] := .cons rfl .nil
  have e0 : Env0 X.prog X.w X.K X.mg X.base X.A.in1 X.stack s H := I.env0.in1
  refine wpAny_call (codeAny_mono (F.run X.A.in1 X.stack s H ⟨[.ref a], []⟩ [.ref a] [.ref a] _ E hr.in1 e0 (by
    have := hb s [.ref a] I.kIn (by simpa using hl)
    simpa using this) r2 hsp) fun r s' hq => ?_)
  cases r with
  | error e => exact hx pins σ H s e s' I hq
  | ok fl =>
    cases fl with
    | ret w =>
      obtain ⟨z, H', I', rz, k, rfl, kb, q⟩ := I.after hq
      obtain ⟨t, rfl⟩ := rz
      exact ⟨⟨by omega, by have : (k : Int) ≤ 1000000 := by omega
                           exact Int.lt_of_le_of_lt this (by decide)⟩, .int k, H', I'.tok _, ⟨_, rfl⟩, q⟩
    | next => exact False.elim hq
    | brk => exact False.elim hq
    | cont => exact False.elim hq
end
end Cw
namespace Cw
open PySem L2
abbrev sCon : Stmt := inClass sRow 5
abbrev sKd : Stmt := top 29
abbrev sKs : Stmt := top 30
theorem asc_ext : ∀ {xs ys : List Int}, Asc xs → Asc ys → (∀ z, z ∈ xs ↔ z ∈ ys) → xs = ys
  | [], [], _, _, _ => rfl
  | [], y :: ys, _, _, h => by have := (h y).mpr (List.mem_cons_self ..); cases this
  | x :: xs, [], _, _, h => by have := (h x).mp (List.mem_cons_self ..); cases this
  | x :: xs, y :: ys, hx, hy, h => by
    obtain ⟨x1, x2⟩ := List.pairwise_cons.mp hx
    obtain ⟨y1, y2⟩ := List.pairwise_cons.mp hy
    have e : x = y := by
      rcases List.mem_cons.mp ((h x).mp (List.mem_cons_self ..)) with a | a
      · exact a
      · rcases List.mem_cons.mp ((h y).mpr (List.mem_cons_self ..)) with b | b
        · exact b.symm
        · have := x1 y b
          have := y1 x a
          omega
    subst e
    congr 1
    refine asc_ext x2 y2 fun z => ⟨fun hz => ?_, fun hz => ?_⟩
    · rcases List.mem_cons.mp ((h z).mp (List.mem_cons_of_mem _ hz)) with a | a
      · have := x1 z hz
        omega
      · exact a
    · rcases List.mem_cons.mp ((h z).mpr (List.mem_cons_of_mem _ hz)) with a | a
      · have := y1 z hz
        omega
      · exact a
def spCon (C : Addr) : Sp := fun vs H Q _ => ∃ (r : Addr) (p n : Int) (ms ss : List Int), vs = [.ref r, .int p] ∧ RowAt C H r n ms ss ∧ Q (.bl (decide (p ∈ ms))) H
/-- what a place is -/
def kindOf (ms ss : List Int) (p : Int) : Str := if p ∈ ss then "strict" else if p ∈ ms then "plain" else "none"
def spKd (C : Addr) : Sp := fun vs H Q _ => ∃ (r : Addr) (p n : Int) (ms ss : List Int), vs = [.ref r, .int p] ∧ RowAt C H r n ms ss ∧ ∀ H', Same H H' → Q (.str (kindOf ms ss p)) H'
def IsKind (kd : Str) : Prop := kd = "none" ∨ kd = "plain" ∨ kd = "strict"
theorem kindOf_is {ms ss : List Int} {p : Int} : IsKind (kindOf ms ss p) := by
  unfold kindOf IsKind
  split
  · exact .inr (.inr rfl)
  · split
    · exact .inr (.inl rfl)
    · exact .inl rfl
def spKs : Sp := fun vs H Q _ => ∃ (a : Addr) (k : Nat), vs = [.ref a] ∧ JarAt H a (k + 1) ∧ ∀ (H' : Hp) (kd : Str), JarAt H' a k → But H H' a → IsKind kd → Q (.str kd) H'
section
variable {P : Program} {w : World} {K : PySem.W.Frag} {mg : Str → Option Value} {base : Heap}
abbrev NCon : List Str := ["self", "place"]
theorem scCon : FnScope NCon ["self", "place"] (defScope sCon) := ⟨rfl, rfl, rfl, by decide +kernel, rfl, by decide +kernel, by decide +kernel⟩
theorem ok_con {f C fI : Addr} {fd fdI : FuncData} (F : Fun K "__contains__" "Row.__contains__" sCon f fd) (R : Cl K mg C)
    (gI : mg "is_integer" = some (.ref fI)) (kI : PySem.W.keepIn K (.ref fI) = true) (bI : Binds K fdI ["thing"] []) (GI : FnOk P w K mg base CX0 1 fI fdI ["thing"] spOne) :
    FnOk P w K mg base CX0 2 f fd ["self", "place"] (spCon C) := by
  refine F.ok scCon (fun vs H Q E h => ?_) (fun cdv A outer s H vs Q E hr h => ?_)
  · obtain ⟨r, p, n, ms, ss, rfl, _⟩ := h
    rfl
  · obtain ⟨r, p, n, ms, ss, rfl, row, q⟩ := h
    refine ⟨_, (pss_one (ps_ret (pe_and (pe_call GI (hr.mono (by decide)) rfl gI kI bI .nil pass0 (pa_cons (pv 1) pa_nil)) (pe_one (pe_cmpR (show OpR _ (compareOp .In) (rIn K false) from op_in_seq) (pv 1) (pe_fld (pv 0) rfl) (by rfl)))))), ?_⟩
    obtain ⟨dx, l1, l2, ho, h1, h2⟩ := row
    refine ⟨_, rfl, p, rfl, _, rfl, ifT rfl ?_⟩
    refine ⟨_, rfl, _, rfl, r, C, dx, _, _, rfl, ho, R.cl, R.nM, rfl, l1, _, rfl, .inl (SqL.of h1), rfl, flat_il, ?_⟩
    rw [inV_il]
    exact q
abbrev NKd : List Str := ["made", "place"]
theorem scKd : FnScope NKd ["made", "place"] (defScope sKd) := ⟨rfl, rfl, rfl, by decide +kernel, rfl, by decide +kernel, by decide +kernel⟩
theorem ok_kd {f C fC pL fGL pM fGM pS fGS : Addr} {fd fdC dL dM dS : FuncData} (F : Fun K "_law_kind" "_law_kind" sKd f fd) (R : Cl K mg C) (Gs : Gets P w K mg base C pL fGL pM fGM pS fGS dL dM dS)
    (mC : Meth K C "__contains__" fC) (bC : Binds K fdC ["self", "place"] []) (GC : FnOk P w K mg base CX0 2 fC fdC ["self", "place"] (spCon C)) :
    FnOk P w K mg base CX0 3 f fd ["made", "place"] (spKd C) := by
  refine F.ok scKd (fun vs H Q E h => ?_) (fun cdv A outer s H vs Q E hr h => ?_)
  · obtain ⟨r, p, n, ms, ss, rfl, _⟩ := h
    rfl
  · obtain ⟨r, p, n, ms, ss, rfl, row, q⟩ := h
    refine ⟨_, (pss_cons (ps_if (pt_cmpR (show OpR _ (compareOp .In) (rIn K false) from op_in_seq) (pv 1) (pe_prop (pv 0) R.cl Gs.hS Gs.GS (hr.mono (by decide)) Gs.bS .nil pass0 rfl) (by rfl)) (pss_one (ps_ret pe_str)) pss_nil)
        (pss_one (ps_ret (pe_ifExp (pt_cmpR (op_inOwn GC mC.at_ mC.fn bC pass0 (hr.mono (by decide))) (pv 1) (pv 0) (by rfl)) pe_str pe_str)))), ?_⟩
    obtain ⟨dx, l1, l2, ho, h1, h2⟩ := id row
    refine ⟨_, rfl, _, rfl, r, dx, _, rfl, ho, r, n, ms, ss, rfl, row, fun c H1 s1 nc ic => ⟨c, _, rfl, .inl (SqL.of ic), rfl, flat_il, _, rfl, ?_⟩⟩
    rw [inV_il]
    by_cases c1 : p ∈ ss
    · refine ifT (decide_eq_true c1) ?_
      have := q H1 s1
      unfold kindOf at this
      rw [if_pos c1] at this
      exact this
    · refine ifF (decide_eq_false c1) ?_
      refine ⟨_, rfl, _, rfl, r, dx, _, rfl, s1 _ _ ho, r, p, n, ms, ss, rfl, row.same s1, _, rfl, _, rfl, ?_⟩
      have := q H1 s1
      unfold kindOf at this
      rw [if_neg c1] at this
      by_cases c2 : p ∈ ms
      · refine ifT (decide_eq_true c2) ?_
        rw [if_pos c2] at this
        exact this
      · refine ifF (decide_eq_false c2) ?_
        rw [if_neg c2] at this
        exact this
abbrev NKs : List Str := ["jar"]
theorem scKs : FnScope NKs ["jar"] (defScope sKs) := ⟨rfl, rfl, rfl, by decide +kernel, rfl, by decide +kernel, by decide +kernel⟩
theorem ok_ks {f fD : Addr} {fd fdD : FuncData} (F : Fun K "_law_kinds" "_law_kinds" sKs f fd)
    (gD : mg "_law_dip" = some (.ref fD)) (kD : PySem.W.keepIn K (.ref fD) = true) (bD : Binds K fdD ["jar", "many"] []) (GD : FnOk P w K mg base CX0 1 fD fdD ["jar", "many"] spDip) :
    FnOk P w K mg base CX0 2 f fd ["jar"] (spKs) := by
  refine F.ok scKs (fun vs H Q E h => ?_) (fun cdv A outer s H vs Q E hr h => ?_)
  · obtain ⟨a, k, rfl, _⟩ := h
    rfl
  · obtain ⟨a, k, rfl, J, q⟩ := h
    refine ⟨_, (pss_one (ps_ret (pe_ix (r := rIxL K) ix_list (pe_lst (pa_cons pe_str (pa_cons pe_str (pa_cons pe_str pa_nil)))) (pe_call GD (hr.mono (by decide)) rfl gD kD bD .nil pass0 (pa_cons (pv 0) (pa_cons pe_int pa_nil))) (fun _ _ => rfl)))), ?_⟩
    refine ⟨(by show 3 ≤ sizeLine; decide), fun L hL => ?_⟩
    have nLa : L ≠ a := (J.ne hL).symm
    have J1 := J.put (o := .lst [.str "none", .str "plain", .str "strict"]) nLa.symm
    have B1 := (But.refl H a).new (o := .lst [.str "none", .str "plain", .str "strict"]) hL
    have kL : upd H L (.lst [.str "none", .str "plain", .str "strict"]) L = some (.lst [.str "none", .str "plain", .str "strict"]) := upd_same
    generalize upd H L (.lst [.str "none", .str "plain", .str "strict"]) = H1 at J1 B1 kL ⊢
    refine ⟨_, rfl, a, k, 3, rfl, J1, by decide, by decide, fun v H2 v0 v1 J2 B2 => ?_⟩
    have pick : ∃ kd : Str, atI [V.str "none", V.str "plain", V.str "strict"] v = some (V.str kd) ∧ IsKind kd := by
      have c : v = 0 ∨ v = 1 ∨ v = 2 := by omega
      rcases c with rfl | rfl | rfl
      · exact ⟨"none", rfl, .inl rfl⟩
      · exact ⟨"plain", rfl, .inr (.inl rfl)⟩
      · exact ⟨"strict", rfl, .inr (.inr rfl)⟩
    obtain ⟨kd, e, ik⟩ := pick
    exact ⟨L, _, _, _, rfl, rfl, SqL.of (B2 _ _ kL nLa), e, q H2 kd J2 (B1.trans B2) ik⟩
end
end Cw
namespace Cw
open PySem L2
/-! ## rows that are joined, parted and changed -/
def jm (n : Int) (kd : Str) (ms ms2 : List Int) : List Int := ms ++ (if kd = "none" then [] else [n]) ++ ms2.map (· + n)
def js (n : Int) (kd : Str) (ss ss2 : List Int) : List Int := ss ++ (if kd = "strict" then [n] else []) ++ ss2.map (· + n)
theorem mem_jm {n : Int} {kd : Str} {ms ms2 : List Int} {z : Int} : z ∈ jm n kd ms ms2 ↔ z ∈ ms ∨ (kd ≠ "none" ∧ z = n) ∨ z - n ∈ ms2 := by
  unfold jm
  rw [List.mem_append, List.mem_append, List.mem_map, or_assoc]
  refine or_congr Iff.rfl (or_congr ?_ ?_)
  · by_cases c : kd = "none"
    · rw [if_pos c]
      exact ⟨fun h => (nomatch h), fun h => absurd c h.1⟩
    · rw [if_neg c, List.mem_singleton]
      exact ⟨fun h => ⟨c, h⟩, fun h => h.2⟩
  · constructor
    · rintro ⟨y, hy, e⟩
      have : z - n = y := by omega
      rw [this]
      exact hy
    · intro h
      exact ⟨z - n, h, by omega⟩
theorem mem_js {n : Int} {kd : Str} {ss ss2 : List Int} {z : Int} : z ∈ js n kd ss ss2 ↔ z ∈ ss ∨ (kd = "strict" ∧ z = n) ∨ z - n ∈ ss2 := by
  unfold js
  rw [List.mem_append, List.mem_append, List.mem_map, or_assoc]
  refine or_congr Iff.rfl (or_congr ?_ ?_)
  · by_cases c : kd = "strict"
    · rw [if_pos c, List.mem_singleton]
      exact ⟨fun h => ⟨c, h⟩, fun h => h.2⟩
    · rw [if_neg c]
      exact ⟨fun h => (nomatch h), fun h => absurd h.1 c⟩
  · constructor
    · rintro ⟨y, hy, e⟩
      have : z - n = y := by omega
      rw [this]
      exact hy
    · intro h
      exact ⟨z - n, h, by omega⟩
theorem good_jm {n n2 : Int} {kd : Str} {ms ss ms2 ss2 : List Int} (ik : IsKind kd) (G : Good n ms ss) (G2 : Good n2 ms2 ss2) (few : ms.length + ms2.length + 1 ≤ 400) : Good (n + n2) (jm n kd ms ms2) (js n kd ss ss2) := by
  refine good_join G G2 ?_ few
  rcases ik with rfl | rfl | rfl
  · exact .inl ⟨rfl, rfl⟩
  · exact .inr (.inl ⟨rfl, rfl⟩)
  · exact .inr (.inr ⟨rfl, rfl⟩)
theorem jm_len {n : Int} {kd : Str} {ms ms2 : List Int} : (jm n kd ms ms2).length ≤ ms.length + ms2.length + 1 := by
  unfold jm
  rw [List.length_append, List.length_append, List.length_map]
  split <;> simp <;> omega
theorem cutM_len {ms : List Int} {b e : Int} : (cutM ms b e).length ≤ ms.length := by
  unfold cutM
  rw [List.length_map]
  exact List.length_filter_le _ _
theorem jm_assoc {n n2 : Int} {k0 k1 : Str} {a b c : List Int} : jm (n + n2) k1 (jm n k0 a b) c = jm n k0 a (jm n2 k1 b c) := by
  unfold jm
  simp only [List.map_append, List.map_map, List.append_assoc]
  congr 3
  by_cases d : k1 = "none"
  · rw [if_pos d, if_pos d]
    refine congrArg _ (List.map_congr_left fun x _ => ?_)
    show x + (n + n2) = x + n2 + n
    omega
  · rw [if_neg d, if_neg d]
    refine congr (congrArg _ ?_) (List.map_congr_left fun x _ => ?_)
    · show [n + n2] = [n2 + n]
      rw [Int.add_comm]
    · show x + (n + n2) = x + n2 + n
      omega
theorem js_assoc {n n2 : Int} {k0 k1 : Str} {a b c : List Int} : js (n + n2) k1 (js n k0 a b) c = js n k0 a (js n2 k1 b c) := by
  unfold js
  simp only [List.map_append, List.map_map, List.append_assoc]
  congr 3
  by_cases d : k1 = "strict"
  · rw [if_pos d, if_pos d]
    refine congr (congrArg _ ?_) (List.map_congr_left fun x _ => ?_)
    · show [n + n2] = [n2 + n]
      rw [Int.add_comm]
    · show x + (n + n2) = x + n2 + n
      omega
  · rw [if_neg d, if_neg d]
    refine congrArg _ (List.map_congr_left fun x _ => ?_)
    show x + (n + n2) = x + n2 + n
    omega
theorem kind_none {ms ss : List Int} {p : Int} (sub : ∀ x ∈ ss, x ∈ ms) : kindOf ms ss p ≠ "none" ↔ p ∈ ms := by
  unfold kindOf
  by_cases c : p ∈ ss
  · rw [if_pos c]
    exact ⟨fun _ => sub p c, fun _ => by decide⟩
  · rw [if_neg c]
    by_cases d : p ∈ ms
    · rw [if_pos d]
      exact ⟨fun _ => d, fun _ => by decide⟩
    · rw [if_neg d]
      exact ⟨fun h => absurd rfl h, fun h => absurd h d⟩
theorem kind_strict {ms ss : List Int} {p : Int} : kindOf ms ss p = "strict" ↔ p ∈ ss := by
  unfold kindOf
  by_cases c : p ∈ ss
  · rw [if_pos c]
    exact ⟨fun _ => c, fun _ => rfl⟩
  · rw [if_neg c]
    refine ⟨fun h => ?_, fun h => absurd h c⟩
    by_cases d : p ∈ ms
    · rw [if_pos d] at h
      exact absurd h (by decide)
    · rw [if_neg d] at h
      exact absurd h (by decide)
theorem whole_part {n : Int} {ms ss : List Int} (G : Good n ms ss) : cutM ms 0 n = ms ∧ cutM ss 0 n = ss := by
  have GP := good_part G (b := 0) (e := n) (by have := G.pos; omega)
  refine ⟨asc_ext GP.asc G.asc fun z => ?_, asc_ext GP.asc2 G.asc2 fun z => ?_⟩
  · rw [mem_cutM, Int.add_zero]
    exact ⟨fun h => h.1, fun h => by have := G.rng z h; exact ⟨h, by omega, by omega⟩⟩
  · rw [mem_cutM, Int.add_zero]
    exact ⟨fun h => h.1, fun h => by have := G.rng z (G.sub z h); exact ⟨h, by omega, by omega⟩⟩
theorem parts_eq {n p : Int} {ms ss : List Int} (G : Good n ms ss) (few : ms.length ≤ 100) (h0 : 0 < p) (h1 : p < n) :
    jm p (kindOf ms ss p) (cutM ms 0 p) (cutM ms p n) = ms ∧ js p (kindOf ms ss p) (cutM ss 0 p) (cutM ss p n) = ss := by
  have A := good_part G (b := 0) (e := p) (by omega)
  rw [Int.sub_zero] at A
  have B := good_part G (b := p) (e := n) (by omega)
  have l1 := cutM_len (ms := ms) (b := 0) (e := p)
  have l2 := cutM_len (ms := ms) (b := p) (e := n)
  have GJ := good_jm (kd := kindOf ms ss p) kindOf_is A B (by omega)
  refine ⟨asc_ext GJ.asc G.asc fun z => ?_, asc_ext GJ.asc2 G.asc2 fun z => ?_⟩
  · rw [mem_jm, mem_cutM, mem_cutM, Int.add_zero, kind_none G.sub, Int.sub_add_cancel]
    constructor
    · rintro (h | ⟨h, e⟩ | h)
      · exact h.1
      · rw [e]
        exact h
      · exact h.1
    · intro h
      have r := G.rng z h
      by_cases c : z < p
      · exact .inl ⟨h, by omega, by omega⟩
      · by_cases d : z = p
        · exact .inr (.inl ⟨by rw [← d]; exact h, d⟩)
        · exact .inr (.inr ⟨h, by omega, by omega⟩)
  · rw [mem_js, mem_cutM, mem_cutM, Int.add_zero, kind_strict, Int.sub_add_cancel]
    constructor
    · rintro (h | ⟨h, e⟩ | h)
      · exact h.1
      · rw [e]
        exact h
      · exact h.1
    · intro h
      have r := G.rng z (G.sub z h)
      by_cases c : z < p
      · exact .inl ⟨h, by omega, by omega⟩
      · by_cases d : z = p
        · exact .inr (.inl ⟨by rw [← d]; exact h, d⟩)
        · exact .inr (.inr ⟨h, by omega, by omega⟩)
/-! ## a change and back -/
def putM (fm : List Int) (f : Int) (last : Str) : List Int := fm ++ (if last = "none" then [] else [f])
def putS (fs : List Int) (f : Int) (last : Str) : List Int := fs ++ (if last = "strict" then [f] else [])
theorem mem_putM {fm : List Int} {f z : Int} {last : Str} : z ∈ putM fm f last ↔ z ∈ fm ∨ (last ≠ "none" ∧ z = f) := by
  unfold putM
  rw [List.mem_append]
  by_cases c : last = "none"
  · rw [if_pos c]
    exact ⟨fun h => h.elim .inl (fun h => (nomatch h)), fun h => h.elim .inl fun h => absurd c h.1⟩
  · rw [if_neg c, List.mem_singleton]
    exact ⟨fun h => h.elim .inl fun h => .inr ⟨c, h⟩, fun h => h.elim .inl fun h => .inr h.2⟩
theorem mem_putS {fs : List Int} {f z : Int} {last : Str} : z ∈ putS fs f last ↔ z ∈ fs ∨ (last = "strict" ∧ z = f) := by
  unfold putS
  rw [List.mem_append]
  by_cases c : last = "strict"
  · rw [if_pos c, List.mem_singleton]
    exact ⟨fun h => h.elim .inl fun h => .inr ⟨c, h⟩, fun h => h.elim .inl fun h => .inr h.2⟩
  · rw [if_neg c]
    exact ⟨fun h => h.elim .inl (fun h => (nomatch h)), fun h => h.elim .inl fun h => absurd h.1 c⟩
theorem asc_app1 {xs : List Int} {z : Int} (h : Asc xs) (u : ∀ x ∈ xs, x < z) : Asc (xs ++ [z]) := by
  refine List.pairwise_append.mpr ⟨h, List.pairwise_singleton _ _, fun x hx y hy => ?_⟩
  rw [List.mem_singleton.mp hy]
  exact u x hx
theorem ch_ok {n f b e : Int} {ms ss fm fs : List Int} {last : Str} (ik : IsKind last) (G : Good n ms ss) (F : Good f fm fs) (b1 : 1 ≤ b) (be : b ≤ e) (en : e < n) (few : fm.length ≤ 100) : ChOk n b e f (putM fm f last) (putS fs f last) := by
  have fp := F.pos
  refine ⟨by omega, be, by omega, by omega, by omega, ?_, fun x hx => ?_, ?_, ?_, fun x hx => ?_⟩
  · unfold putM
    rw [List.length_append]
    split <;> simp <;> omega
  · rw [if_neg (by omega)]
    rcases mem_putM.mp hx with h | ⟨_, h⟩
    · have := F.rng x h
      omega
    · omega
  · unfold putM
    split
    · rw [List.append_nil]
      exact F.asc
    · exact asc_app1 F.asc fun x hx => by have := F.rng x hx; omega
  · unfold putS
    split
    · exact asc_app1 F.asc2 fun x hx => by have := F.rng x (F.sub x hx); omega
    · rw [List.append_nil]
      exact F.asc2
  · rcases mem_putS.mp hx with h | ⟨h1, h2⟩
    · exact mem_putM.mpr (.inl (F.sub x h))
    · exact mem_putM.mpr (.inr ⟨by rw [h1]; decide, h2⟩)
theorem rep_len {old new : List Int} {b e len nl : Int} : (rep old new b e len nl).length ≤ 2 * old.length + new.length := by
  unfold rep
  rw [List.length_append, List.length_append, List.length_map, List.length_map]
  have h1 := List.length_filter_le (fun x => decide (x ≤ b) && decide (x < nl)) old
  have h2 := List.length_filter_le (fun x => decide (x > e)) old
  omega
theorem change_eq {n f b e : Int} {ms ss fm fs : List Int} {last : Str} (ik : IsKind last) (G : Good n ms ss) (F : Good f fm fs) (l1 : ms.length ≤ 40) (l2 : fm.length ≤ 40) (b1 : 1 ≤ b) (be : b ≤ e) (en : e < n) :
    rep ms (putM fm f last) b e f (n - (e - b) + f) = jm (b + f) last (jm b (kindOf ms ss b) (cutM ms 0 b) fm) (cutM ms e n) ∧
    rep ss (putS fs f last) b e f (n - (e - b) + f) = js (b + f) last (js b (kindOf ms ss b) (cutM ss 0 b) fs) (cutM ss e n) := by
  have fp := F.pos
  have CO := ch_ok ik G F b1 be en (by omega)
  have pl : (putM fm f last).length ≤ 41 := by
    unfold putM
    rw [List.length_append]
    split <;> simp <;> omega
  have GR := good_rep G CO (Nat.le_trans rep_len (by omega))
  have A := good_part G (b := 0) (e := b) (by omega)
  rw [Int.sub_zero] at A
  have B := good_part G (b := e) (e := n) (by omega)
  have c1 := cutM_len (ms := ms) (b := 0) (e := b)
  have c2 := cutM_len (ms := ms) (b := e) (e := n)
  have J1 := good_jm (kd := kindOf ms ss b) kindOf_is A F (by omega)
  have jl := jm_len (n := b) (kd := kindOf ms ss b) (ms := cutM ms 0 b) (ms2 := fm)
  have J2 := good_jm ik J1 B (by omega)
  refine ⟨asc_ext GR.asc J2.asc fun z => ?_, asc_ext GR.asc2 J2.asc2 fun z => ?_⟩
  · rw [mem_rep, mem_jm, mem_jm, mem_cutM, mem_cutM, mem_putM, kind_none G.sub, Int.add_zero]
    constructor
    · rintro (⟨h1, h2, h3⟩ | (h | ⟨h1, h2⟩) | ⟨h1, h2⟩)
      · have r := G.rng z h1
        by_cases c : z < b
        · exact .inl (.inl ⟨h1, by omega, by omega⟩)
        · have : z = b := by omega
          subst this
          exact .inl (.inr (.inl ⟨h1, rfl⟩))
      · exact .inl (.inr (.inr h))
      · exact .inr (.inl ⟨h1, by omega⟩)
      · have r := G.rng _ h1
        refine .inr (.inr ⟨?_, by omega, by omega⟩)
        rw [show z - (b + f) + e = z - (f - (e - b)) by omega]
        exact h1
    · rintro ((⟨h1, h2, h3⟩ | ⟨h1, h2⟩ | h) | ⟨h1, h2⟩ | ⟨h1, h2, h3⟩)
      · exact .inl ⟨h1, by omega, by omega⟩
      · rw [h2]
        exact .inl ⟨h1, by omega, by omega⟩
      · exact .inr (.inl (.inl h))
      · exact .inr (.inl (.inr ⟨h1, by omega⟩))
      · refine .inr (.inr ⟨?_, by omega⟩)
        rw [show z - (f - (e - b)) = z - (b + f) + e by omega]
        exact h1
  · rw [mem_rep, mem_js, mem_js, mem_cutM, mem_cutM, mem_putS, kind_strict, Int.add_zero]
    constructor
    · rintro (⟨h1, h2, h3⟩ | (h | ⟨h1, h2⟩) | ⟨h1, h2⟩)
      · have r := G.rng z (G.sub z h1)
        by_cases c : z < b
        · exact .inl (.inl ⟨h1, by omega, by omega⟩)
        · have : z = b := by omega
          subst this
          exact .inl (.inr (.inl ⟨h1, rfl⟩))
      · exact .inl (.inr (.inr h))
      · exact .inr (.inl ⟨h1, by omega⟩)
      · have r := G.rng _ (G.sub _ h1)
        refine .inr (.inr ⟨?_, by omega, by omega⟩)
        rw [show z - (b + f) + e = z - (f - (e - b)) by omega]
        exact h1
    · rintro ((⟨h1, h2, h3⟩ | ⟨h1, h2⟩ | h) | ⟨h1, h2⟩ | ⟨h1, h2, h3⟩)
      · exact .inl ⟨h1, by omega, by omega⟩
      · rw [h2]
        exact .inl ⟨h1, by omega, by omega⟩
      · exact .inr (.inl (.inl h))
      · exact .inr (.inl (.inr ⟨h1, by omega⟩))
      · refine .inr (.inr ⟨?_, by omega⟩)
        rw [show z - (f - (e - b)) = z - (b + f) + e by omega]
        exact h1
/-- the marks that go -/
def goneM (ms : List Int) (b e : Int) : List Int := (ms.filter fun x => decide (b < x) && decide (x ≤ e)).map (· - b)
def goneS (gone ss : List Int) (b : Int) : List Int := gone.filter fun x => decide (b + x ∈ ss)
theorem mem_gone {ms : List Int} {b e z : Int} : z ∈ goneM ms b e ↔ z + b ∈ ms ∧ 0 < z ∧ z ≤ e - b := by
  unfold goneM
  rw [List.mem_map]
  constructor
  · rintro ⟨x, hx, rfl⟩
    obtain ⟨h1, h2⟩ := List.mem_filter.mp hx
    rw [Bool.and_eq_true, decide_eq_true_iff, decide_eq_true_iff] at h2
    rw [Int.sub_add_cancel]
    exact ⟨h1, by omega, by omega⟩
  · rintro ⟨h1, h2, h3⟩
    exact ⟨z + b, List.mem_filter.mpr ⟨h1, by rw [Bool.and_eq_true, decide_eq_true_iff, decide_eq_true_iff]; omega⟩, by omega⟩
theorem asc_gone {ms : List Int} {b e : Int} (h : Asc ms) : Asc (goneM ms b e) := List.pairwise_map.mpr ((h.filter _).imp fun h => by omega)
theorem gone_len {ms : List Int} {b e : Int} : (goneM ms b e).length ≤ ms.length := by
  unfold goneM
  rw [List.length_map]
  exact List.length_filter_le _ _
theorem mem_goneS {ms ss : List Int} {b e z : Int} (sub : ∀ x ∈ ss, x ∈ ms) : z ∈ goneS (goneM ms b e) ss b ↔ z + b ∈ ss ∧ 0 < z ∧ z ≤ e - b := by
  unfold goneS
  rw [List.mem_filter, decide_eq_true_iff, mem_gone, Int.add_comm b z]
  exact ⟨fun h => ⟨h.2, h.1.2⟩, fun h => ⟨⟨sub _ h.1, h.2⟩, h.1⟩⟩
theorem back_ok {n f b e : Int} {ms ss : List Int} (G : Good n ms ss) (f1 : 1 ≤ f) (b1 : 1 ≤ b) (be : b ≤ e) (en : e < n) : ChOk (n - (e - b) + f) b (b + f) (e - b) (goneM ms b e) (goneS (goneM ms b e) ss b) := by
  have gl := gone_len (ms := ms) (b := b) (e := e)
  have g4 := G.len
  refine ⟨by omega, by omega, by omega, by omega, by omega, by omega, fun x hx => ?_, asc_gone G.asc, (asc_gone G.asc).filter _, fun x hx => (List.mem_filter.mp hx).1⟩
  rw [if_neg (by omega)]
  have := mem_gone.mp hx
  omega
theorem back_eq {n f b e : Int} {ms ss fm fs : List Int} {last : Str} (ik : IsKind last) (G : Good n ms ss) (F : Good f fm fs) (l1 : ms.length ≤ 40) (l2 : fm.length ≤ 40) (b1 : 1 ≤ b) (be : b ≤ e) (en : e < n) :
    rep (rep ms (putM fm f last) b e f (n - (e - b) + f)) (goneM ms b e) b (b + f) (e - b) n = ms ∧
    rep (rep ss (putS fs f last) b e f (n - (e - b) + f)) (goneS (goneM ms b e) ss b) b (b + f) (e - b) n = ss := by
  have fp := F.pos
  have CO := ch_ok ik G F b1 be en (by omega)
  have pl : (putM fm f last).length ≤ 41 := by
    unfold putM
    rw [List.length_append]
    split <;> simp <;> omega
  have rl := rep_len (old := ms) (new := putM fm f last) (b := b) (e := e) (len := f) (nl := n - (e - b) + f)
  have GR := good_rep G CO (by omega)
  have BO := back_ok G (f := f) (by omega) b1 be en
  have rl2 := rep_len (old := rep ms (putM fm f last) b e f (n - (e - b) + f)) (new := goneM ms b e) (b := b) (e := b + f) (len := e - b) (nl := n - (e - b) + f - (b + f - b) + (e - b))
  have gl := gone_len (ms := ms) (b := b) (e := e)
  have GB := good_rep GR BO (by omega)
  have en2 : n - (e - b) + f - (b + f - b) + (e - b) = n := by omega
  rw [en2] at GB
  have key : ∀ {os ns gs : List Int} {z : Int}, (∀ x ∈ os, 1 ≤ x ∧ x ≤ n - 1) → (∀ x ∈ ns, 1 ≤ x ∧ x ≤ f) → (∀ x, x ∈ gs ↔ x + b ∈ os ∧ 0 < x ∧ x ≤ e - b) → (z ∈ rep (rep os ns b e f (n - (e - b) + f)) gs b (b + f) (e - b) n ↔ z ∈ os) := fun {os ns gs z} ho hn hg => by
    rw [mem_rep, mem_rep, mem_rep, hg, Int.sub_add_cancel]
    constructor
    · rintro (⟨⟨h1, _, _⟩ | h1 | ⟨h1, h2⟩, h3, h4⟩ | ⟨h1, _, _⟩ | ⟨⟨h1, h2, _⟩ | h1 | ⟨h1, h2⟩, h3⟩)
      · exact h1
      · have := hn _ h1
        omega
      · omega
      · exact h1
      · omega
      · have := hn _ h1
        omega
      · rw [show z - (e - b - (b + f - b)) - (f - (e - b)) = z by omega] at h1
        exact h1
    · intro h
      have r := ho z h
      by_cases c : z ≤ b
      · exact .inl ⟨.inl ⟨h, c, by omega⟩, c, by omega⟩
      · by_cases d : z ≤ e
        · exact .inr (.inl ⟨h, by omega, by omega⟩)
        · refine .inr (.inr ⟨.inr (.inr ⟨?_, by omega⟩), by omega⟩)
          rw [show z - (e - b - (b + f - b)) - (f - (e - b)) = z by omega]
          exact h
  refine ⟨asc_ext GB.asc G.asc fun z => key G.rng (fun x hx => ?_) fun x => mem_gone, asc_ext GB.asc2 G.asc2 fun z => key (fun x hx => G.rng x (G.sub x hx)) (fun x hx => ?_) fun x => mem_goneS G.sub⟩
  · have := CO.rng x hx
    rw [if_neg (by omega)] at this
    exact this
  · have := CO.rng x (CO.sub x hx)
    rw [if_neg (by omega)] at this
    exact this
/-- marks put in and taken out -/
theorem off_eq {n : Int} {ms ss ms' ss' gs : List Int} {b : Bool} (G : Good n ms ss) (G' : Good n ms' ss') (h1 : ∀ z, z ∈ ms' ↔ z ∈ ms ∨ z ∈ gs) (h2 : ∀ z, z ∈ ss' ↔ if b = true then z ∈ ss ∨ z ∈ gs else z ∈ ss ∧ z ∉ gs) : offM ms' gs = offM ms gs ∧ offM ss' gs = offM ss gs := by
  refine ⟨asc_ext (G'.asc.filter _) (G.asc.filter _) fun z => ?_, asc_ext (G'.asc2.filter _) (G.asc2.filter _) fun z => ?_⟩
  · rw [mem_off, mem_off, h1]
    exact ⟨fun h => ⟨h.1.resolve_right h.2, h.2⟩, fun h => ⟨.inl h.1, h.2⟩⟩
  · rw [mem_off, mem_off, h2]
    cases b with
    | true => exact ⟨fun h => ⟨h.1.resolve_right h.2, h.2⟩, fun h => ⟨.inl h.1, h.2⟩⟩
    | false => exact ⟨fun h => ⟨h.1.1, h.2⟩, fun h => ⟨⟨h.1, h.2⟩, h.2⟩⟩
end Cw
namespace Cw
open PySem L2
/-! ## comprehensions that give whole numbers -/
theorem lcF {α : Type} {K : PySem.W.Frag} {a D : Addr} {src : List V} {xs : List α} {g : TG} {tt : TT} {te : TE} {vs : List Nat} {σ : St} {H1 : Hp} {Qd : Hp → Prop} (p : α → Bool) (v : α → Int)
    (ha : ∀ H, Same H1 H → SqL K H a src) (hl : src.length = xs.length) (hD : H1 D = none) (few : xs.length ≤ 999)
    (step : ∀ (i : Nat) (x : V) (z : α) (H : Hp) (A : V → Hp → Prop) (B : Hp → Prop), src[i]? = some x → xs[i]? = some z → Same H1 H → (∀ H', p z = true → Same H H' → A (.int (v z)) H') → (∀ H', p z = false → Same H H' → B H') →
      g x (wipe σ vs) H fun σ2 H2 => wipe σ2 vs = wipe σ vs ∧ tt σ2 H2 fun b H3 => if b = true then te σ2 H3 fun y H4 => A y H4 else B H3)
    (fin : ∀ (H : Hp), Same H1 H → IL H D ((xs.filter p).map v) → Qd H) :
    ∃ W : Nat → Nat → Hp → Prop, (∃ m, W 0 m (upd H1 D (HO.lst []))) ∧ ∀ (i m : Nat) (H : Hp), W i m H → (Itl K a).stop i H ∧ Qd H ∨ (Itl K a).go i H ∧ ∃ Nx : Hp → Prop, (∀ H', Nx H' → ∃ m', m' < m ∧ W (i + 1) m' H') ∧
      ∀ (x : V) (H' : Hp), (Itl K a).yld i H x H' → g x (wipe σ vs) H' fun σ2 H2 => wipe σ2 vs = wipe σ vs ∧ tt σ2 H2 fun b H3 => if b = true then te σ2 H3 fun y H4 => ∃ acc, H4 D = some (HO.lst acc) ∧ acc.length < sizeLine ∧ Nx (upd H4 D (HO.lst (acc ++ [y]))) else Nx H3 := by
  refine lc_list (K := K) (a := a) (xs := src) (fun i H' => Same H1 H' ∧ IL H' D (((xs.take i).filter p).map v)) ⟨same_new (Same.refl H1) hD, upd_same⟩ (fun i H' _ z => ha _ z.1) ?_ ?_
  · rintro i x H' hx ⟨s1, hE⟩
    have il : i < xs.length := by rw [← hl]; exact (List.getElem?_eq_some_iff.mp hx).1
    obtain ⟨z, hz⟩ : ∃ z, xs[i]? = some z := ⟨_, List.getElem?_eq_getElem il⟩
    have tk : ((xs.take (i + 1)).filter p).map v = ((xs.take i).filter p).map v ++ (if p z = true then [v z] else []) := by
      rw [List.take_add_one, hz, List.filter_append, List.map_append]
      congr 1
      cases c : p z <;> simp [c]
    have ln : (((xs.take i).filter p).map v).length ≤ 999 := by
      rw [List.length_map]
      refine Nat.le_trans (List.length_filter_le _ _) ?_
      rw [List.length_take]
      omega
    refine step i x z H' _ _ hx hz s1 (fun H2 c s2 => ?_) fun H2 c s2 => ?_
    · refine ⟨_, s2 _ _ hE, by rw [List.length_map]; exact small1000 (by omega), same_put (s1.trans s2) hD, ?_⟩
      show upd _ _ _ D = _
      rw [upd_same, tk, if_pos c, ints_app]
    · refine ⟨s1.trans s2, ?_⟩
      rw [tk, if_neg (by rw [c]; decide), List.append_nil]
      exact s2 _ _ hE
  · rintro H' ⟨s1, hE⟩
    rw [hl, List.take_length] at hE
    exact fin H' s1 hE
theorem lcFt {α : Type} {K : PySem.W.Frag} {a D : Addr} {src : List V} {xs : List α} {g : TG} {tt : TT} {te : TE} {vs : List Nat} {σ : St} {H1 : Hp} {Qd : Hp → Prop} (p : α → Bool) (v : α → Int)
    (ha : ∀ H, Same H1 H → SqT K H a src) (hl : src.length = xs.length) (hD : H1 D = none) (few : xs.length ≤ 999)
    (step : ∀ (i : Nat) (x : V) (z : α) (H : Hp) (A : V → Hp → Prop) (B : Hp → Prop), src[i]? = some x → xs[i]? = some z → Same H1 H → (∀ H', p z = true → Same H H' → A (.int (v z)) H') → (∀ H', p z = false → Same H H' → B H') →
      g x (wipe σ vs) H fun σ2 H2 => wipe σ2 vs = wipe σ vs ∧ tt σ2 H2 fun b H3 => if b = true then te σ2 H3 fun y H4 => A y H4 else B H3)
    (fin : ∀ (H : Hp), Same H1 H → IL H D ((xs.filter p).map v) → Qd H) :
    ∃ W : Nat → Nat → Hp → Prop, (∃ m, W 0 m (upd H1 D (HO.lst []))) ∧ ∀ (i m : Nat) (H : Hp), W i m H → (Itt K a).stop i H ∧ Qd H ∨ (Itt K a).go i H ∧ ∃ Nx : Hp → Prop, (∀ H', Nx H' → ∃ m', m' < m ∧ W (i + 1) m' H') ∧
      ∀ (x : V) (H' : Hp), (Itt K a).yld i H x H' → g x (wipe σ vs) H' fun σ2 H2 => wipe σ2 vs = wipe σ vs ∧ tt σ2 H2 fun b H3 => if b = true then te σ2 H3 fun y H4 => ∃ acc, H4 D = some (HO.lst acc) ∧ acc.length < sizeLine ∧ Nx (upd H4 D (HO.lst (acc ++ [y]))) else Nx H3 := by
  refine lc_tup (K := K) (a := a) (xs := src) (fun i H' => Same H1 H' ∧ IL H' D (((xs.take i).filter p).map v)) ⟨same_new (Same.refl H1) hD, upd_same⟩ (fun i H' _ z => ha _ z.1) ?_ ?_
  · rintro i x H' hx ⟨s1, hE⟩
    have il : i < xs.length := by rw [← hl]; exact (List.getElem?_eq_some_iff.mp hx).1
    obtain ⟨z, hz⟩ : ∃ z, xs[i]? = some z := ⟨_, List.getElem?_eq_getElem il⟩
    have tk : ((xs.take (i + 1)).filter p).map v = ((xs.take i).filter p).map v ++ (if p z = true then [v z] else []) := by
      rw [List.take_add_one, hz, List.filter_append, List.map_append]
      congr 1
      cases c : p z <;> simp [c]
    have ln : (((xs.take i).filter p).map v).length ≤ 999 := by
      rw [List.length_map]
      refine Nat.le_trans (List.length_filter_le _ _) ?_
      rw [List.length_take]
      omega
    refine step i x z H' _ _ hx hz s1 (fun H2 c s2 => ?_) fun H2 c s2 => ?_
    · refine ⟨_, s2 _ _ hE, by rw [List.length_map]; exact small1000 (by omega), same_put (s1.trans s2) hD, ?_⟩
      show upd _ _ _ D = _
      rw [upd_same, tk, if_pos c, ints_app]
    · refine ⟨s1.trans s2, ?_⟩
      rw [tk, if_neg (by rw [c]; decide), List.append_nil]
      exact s2 _ _ hE
  · rintro H' ⟨s1, hE⟩
    rw [hl, List.take_length] at hE
    exact fin H' s1 hE
theorem eqv_nilI {ns : List Int} : PyData.eqv (.list (ns.map PyData.int)) (.list []) = decide (ns = []) := by
  cases ns with
  | nil => rfl
  | cons a r => rfl
/-- the last k of a list -/
theorem cut_last {α : Type} (f : α → V) (xs : List α) (k : Nat) (hk : 0 < k) : ∃ j, cutV (xs.map f) (some (-(k : Int))) none = (xs.drop j).map f ∧ (xs.drop j).length ≤ k := by
  have e : HT.sIx (xs.map f).length 0 (some (-(k : Int))) = ((-(k : Int)) + (((xs.map f).length : Nat) : Int)).toNat := if_pos (by omega)
  refine ⟨HT.sIx (xs.map f).length 0 (some (-(k : Int))), ?_, ?_⟩
  · unfold cutV
    rw [List.map_drop, List.take_of_length_le]
    rw [List.length_drop]
    exact Nat.le_refl _
  · rw [List.length_drop, e, List.length_map]
    omega
end Cw
namespace Cw
open PySem L2
abbrev sPr : Stmt := top 31
def spPr (C : Addr) : Sp := fun vs H Q _ => ∃ (a r : Addr) (k : Nat) (n : Int) (ms ss : List Int), vs = [.ref a, .ref r] ∧ JarAt H a (k + 1 + 1) ∧ RowOff C H a r n ms ss ∧ Good n ms ss ∧ ms.length ≤ 40 ∧ n ≤ 10000000000000000000000000000000 ∧ ∀ H', JarAt H' a k → But H H' a → Q (.bl true) H'
section
variable {P : Program} {w : World} {K : PySem.W.Frag} {mg : Str → Option Value} {base : Heap}
abbrev NPr : List Str := ["jar", "made", "near", "place", "one", "two"]
theorem scPr : FnScope NPr ["jar", "made"] (defScope sPr) := ⟨rfl, rfl, rfl, by decide +kernel, rfl, by decide +kernel, by decide +kernel⟩
theorem ok_pr {f C fD fP fU fK pL fGL pM fGM pS fGS : Addr} {fd fdD fdP fdU fdK dL dM dS : FuncData} (F : Fun K "_law_parts_right" "_law_parts_right" sPr f fd) (T : Bl mg) (R : Cl K mg C) (Gs : Gets P w K mg base C pL fGL pM fGM pS fGS dL dM dS) {fE : Addr} {fdE : FuncData} (Z : Eqs P w K mg base C fE fdE)
    (gD : mg "_law_dip" = some (.ref fD)) (kD : PySem.W.keepIn K (.ref fD) = true) (bD : Binds K fdD ["jar", "many"] []) (GD : FnOk P w K mg base CX0 1 fD fdD ["jar", "many"] spDip)
    (mP : Meth K C "part" fP) (bP : Binds K fdP ["self", "begin", "end"] []) (GP : FnOk P w K mg base CX0 7 fP fdP ["self", "begin", "end"] (spPart C))
    (mU : Meth K C "joined" fU) (bU : Binds K fdU ["self", "other", "kind"] []) (GU : FnOk P w K mg base CX0 7 fU fdU ["self", "other", "kind"] (spJoin C))
    (gK : mg "_law_kind" = some (.ref fK)) (kK : PySem.W.keepIn K (.ref fK) = true) (bK : Binds K fdK ["made", "place"] []) (GK : FnOk P w K mg base CX0 3 fK fdK ["made", "place"] (spKd C)) :
    FnOk P w K mg base CX0 8 f fd ["jar", "made"] (spPr C) := by
  refine F.ok scPr (fun vs H Q E h => ?_) (fun cdv A outer s H vs Q E hr h => ?_)
  · obtain ⟨a, r, k, n, ms, ss, rfl, _⟩ := h
    rfl
  · obtain ⟨a, r, k, n, ms, ss, rfl, J, ro, G, few, nlim, q⟩ := h
    refine ⟨_, (pss_cons (ps_set (i := 2) scPr.nd rfl (Or.inl rfl) (pe_op op_cat (pe_op op_cat (pe_prop (pv 1) R.cl Gs.hM Gs.GM (hr.mono (by decide)) Gs.bM .nil pass0 rfl) (pe_lc (own := [("place", 3)]) (g := (gName 3)) (tt := tYes) rfl scPr.nd (pi_list (pe_prop (pv 1) R.cl Gs.hM Gs.GM (hr.mono (by decide)) Gs.bM .nil pass0 rfl)) (blkOk_by (own := [("place", 3)]) (N := NPr) (sc := defScope sPr) (by decide +kernel)) (fun _ _ _ _ _ => (pg_name (i := 3) scPr.nd rfl (Or.inl rfl))) (fun _ _ _ _ _ => pts_nil) (fun _ _ _ _ _ => (pe_op op_add (pv 3) pe_int)))) (pe_lst (pa_cons pe_int (pa_cons (pe_op op_sub (pe_prop (pv 1) R.cl Gs.hL Gs.GL (hr.mono (by decide)) Gs.bL .nil pass0 rfl) pe_int) pa_nil)))))
        (pss_cons (ps_for PassesOwn.never rfl (pi_list (pe_lst (pa_cons (pe_ix (r := rIxL K) ix_list (pv 2) (pe_call GD (hr.mono (by decide)) rfl gD kD bD .nil pass0 (pa_cons (pv 0) (pa_cons (pe_callB call_len_seq (by rfl) T.len PySem.boot_len (pa_cons (pv 2) pa_nil)) pa_nil))) (fun _ _ => rfl)) (pa_cons (pe_op op_add pe_int (pe_call GD (hr.mono (by decide)) rfl gD kD bD .nil pass0 (pa_cons (pv 0) (pa_cons (pe_prop (pv 1) R.cl Gs.hL Gs.GL (hr.mono (by decide)) Gs.bL .nil pass0 rfl) pa_nil)))) pa_nil)))) (pg_name (i := 3) scPr.nd rfl (Or.inl rfl))
        (pss_one (ps_if (pt_chain op_lt op_lt pe_int (pv 3) (pe_prop (pv 1) R.cl Gs.hL Gs.GL (hr.mono (by decide)) Gs.bL .nil pass0 rfl)) (pss_cons (ps_par (i := 4) (j := 5) rfl scPr.nd rfl rfl (by decide) rfl rfl (pa_cons (pe_meth (pv 1) R.cl mP GP (hr.mono (by decide)) bP .nil pass0 (pa_cons pe_int (pa_cons (pv 3) pa_nil))) (pa_cons (pe_meth (pv 1) R.cl mP GP (hr.mono (by decide)) bP .nil pass0 (pa_cons (pv 3) (pa_cons (pe_prop (pv 1) R.cl Gs.hL Gs.GL (hr.mono (by decide)) Gs.bL .nil pass0 rfl) pa_nil))) pa_nil)) (by rfl))
        (pss_one (ps_if (pt_cmpR (op_neG Z.ok Z.hm Z.hn Z.hs Z.hf Z.hb pass0 (hr.mono (by decide))) (pe_meth (pv 4) R.cl mU GU (hr.mono (by decide)) bU .nil pass0 (pa_cons (pv 5) (pa_cons (pe_call GK (hr.mono (by decide)) rfl gK kK bK .nil pass0 (pa_cons (pv 1) (pa_cons (pv 3) pa_nil))) pa_nil))) (pv 1) (nomark _)) (pss_one (ps_ret pe_bl)) pss_nil))) pss_nil)))
        (pss_one (ps_ret (pe_cmpR (op_eqG (rcG_ins Z.ok Z.hs Z.hf Z.hb pass0) (hr.mono (by decide))) (pe_meth (pv 1) R.cl mP GP (hr.mono (by decide)) bP .nil pass0 (pa_cons pe_int (pa_cons (pe_prop (pv 1) R.cl Gs.hL Gs.GL (hr.mono (by decide)) Gs.bL .nil pass0 rfl) pa_nil))) (pv 1) (nomark _)))))), ?_⟩
    have nb : ∀ x : Int, x ≤ 10000000000000000000000000000001 → x < 2 ^ 120 := fun x h => Int.lt_of_le_of_lt h (by decide)
    have n0 := G.pos
    obtain ⟨dx, l1, l2, ho, hm, hs, nl1, nl2⟩ := id ro
    have nra : r ≠ a := J.no ho fun _ _ _ z => nomatch z
    have row := ro.at
    -- near
    refine ⟨_, rfl, r, dx, _, rfl, ho, r, n, ms, ss, rfl, row, fun c1 H1 s1 nc1 ic1 => ?_⟩
    have row1 := row.same s1
    refine ⟨_, rfl, r, dx, _, rfl, s1 _ _ ho, r, n, ms, ss, rfl, row1, fun c2 H2 s2 nc2 ic2 => ⟨c2, rfl, ⟨_, SqL.of ic2⟩, fun D hD => ?_⟩⟩
    refine lcF (α := Int) (K := K) (src := ms.map V.int) (xs := ms) (fun _ => true) (fun x => x + 1) (fun H' s => SqL.of (s _ _ ic2)) (by rw [List.length_map]) hD (by omega) ?_ ?_
    · intro i x z H3 A' B' hx hz s3 ka kb
      obtain ⟨z3, rfl, hz3⟩ := il_at hx
      rw [hz] at hz3
      cases hz3
      refine ⟨rfl, ?_⟩
      unfold tYes
      refine iteT ?_
      exact ⟨_, rfl, _, _, rfl, rfl, ka _ rfl (Same.refl _)⟩
    intro H3 s3 hE
    rw [show ms.filter (fun _ => true) = ms from List.filter_eq_self.mpr fun _ _ => rfl] at hE
    have s13 := s2.trans s3
    refine ⟨c1, D, _, _, rfl, rfl, s13 _ _ ic1, hE, by rw [List.length_map, List.length_map, List.length_map, sizeLine_eq]; omega, fun c3 hc3 => ?_⟩
    have s4 := same_new (o := .lst (ms.map V.int ++ (ms.map fun x => x + 1).map V.int)) (Same.refl H3) hc3
    have k4 : upd H3 c3 (.lst (ms.map V.int ++ (ms.map fun x => x + 1).map V.int)) c3 = some (.lst (ms.map V.int ++ (ms.map fun x => x + 1).map V.int)) := upd_same
    generalize upd H3 c3 (.lst (ms.map V.int ++ (ms.map fun x => x + 1).map V.int)) = H4 at s4 k4 ⊢
    have s04 := (s1.trans s13).trans s4
    refine ⟨_, rfl, r, dx, _, rfl, s04 _ _ ho, r, n, ms, ss, rfl, row.same s04, _, _, rfl, rfl, (by show 2 ≤ sizeLine; decide), fun c4 hc4 => ?_⟩
    try dsimp -proj only at hc4 ⊢
    have s5 := same_new (o := .lst [.int 1, .int (n - 1)]) (Same.refl H4) hc4
    have k5 : upd H4 c4 (.lst [.int 1, .int (n - 1)]) c4 = some (.lst [.int 1, .int (n - 1)]) := upd_same
    generalize upd H4 c4 (.lst [.int 1, .int (n - 1)]) = H5 at s5 k5 ⊢
    refine ⟨c3, c4, _, _, rfl, rfl, s5 _ _ k4, k5, by rw [List.length_append, List.length_map, List.length_map, List.length_map, sizeLine_eq]; show _ + 2 ≤ _; omega, fun L hL => ?_⟩
    obtain ⟨ns, en, nl0, nl1'⟩ : ∃ ns : List Int, ms.map V.int ++ (ms.map fun x => x + 1).map V.int ++ [.int 1, .int (n - 1)] = ns.map V.int ∧ 0 < ns.length ∧ ns.length ≤ 1000 := ⟨ms ++ ms.map (fun x => x + 1) ++ [1, n - 1], by simp, by simp; omega, by simp; omega⟩
    rw [en]
    have s6 := same_new (o := .lst (ns.map V.int)) (Same.refl H5) hL
    have iL : IL (upd H5 L (.lst (ns.map V.int))) L ns := upd_same
    generalize upd H5 L (.lst (ns.map V.int)) = H6 at s6 iL ⊢
    have s06 := (s04.trans s5).trans s6
    have J6 : JarAt H6 a (k + 1 + 1) := J.same s06
    have ro6 := ro.but J (But.of s06)
    have nLa : L ≠ a := ((J.same (s04.trans s5)).ne hL).symm
    try dsimp only [L2.start, List.set, List.map, List.append, List.replicate, List.length]
    -- the places
    refine ⟨_, rfl, _, rfl, _, rfl, L, _, rfl, .inl (SqL.of iL), a, _, _, rfl, J6, by rw [List.length_map]; omega, nb _ (by rw [List.length_map]; omega), fun x1 H7 a1 b1 J7 B7 => ?_⟩
    obtain ⟨y1, ey1, my1⟩ := near_at a1 b1
    refine ⟨L, _, _, _, rfl, rfl, SqL.of (B7 _ _ iL nLa), ey1, ?_⟩
    have ro7 := ro6.but J6 B7
    obtain ⟨dx7, _, _, ho7, _, _, _, _⟩ := id ro7
    refine ⟨_, rfl, _, rfl, r, dx7, _, rfl, ho7, r, n, ms, ss, rfl, ro7.at, a, _, n, rfl, J7, by omega, nb _ (by omega), fun x2 H8 a2 b2 J8 B8 => ⟨_, _, rfl, rfl, (by show 2 ≤ sizeLine; decide), fun P0 hP0 => ?_⟩⟩
    try dsimp -proj only at hP0 ⊢
    have s9 := same_new (o := .lst [.int y1, .int (1 + x2)]) (Same.refl H8) hP0
    have i9 : IL (upd H8 P0 (.lst [.int y1, .int (1 + x2)])) P0 [y1, 1 + x2] := upd_same
    generalize upd H8 P0 (.lst [.int y1, .int (1 + x2)]) = H9 at s9 i9 ⊢
    have B69 := (B7.trans B8).trans (But.of s9)
    have J9 : JarAt H9 a k := J8.same s9
    have ro9 := ro6.but J6 B69
    have B06 : But H H6 a := But.of s06
    have B09 := B06.trans B69
    refine ⟨P0, rfl, ⟨_, SqL.of i9⟩, for_list (xs := [y1, 1 + x2].map V.int) (fun i σ H' => ∃ (v3 v4 v5 : Option V), σ = [some (.ref a), some (.ref r), some (.ref L), v3, v4, v5] ∧ Same H9 H') ⟨_, _, _, rfl, Same.refl _⟩ (fun i σ H' _ ⟨_, _, _, _, s⟩ => SqL.of (s _ _ i9)) ?_ ?_⟩
    · rintro i x σ HA hx ⟨v3, v4, v5, rfl, sA⟩
      obtain ⟨p, rfl, hp⟩ := il_at hx
      have rA := ro9.at.same sA
      obtain ⟨dA, _, _, hA, _, _⟩ := id rA
      try dsimp only [L2.start, List.set, List.map, List.append, List.replicate, List.length]
      refine ⟨_, rfl, _, _, rfl, rfl, _, rfl, ?_⟩
      by_cases c1 : 0 < p
      · refine ifT (decide_eq_true c1) ?_
        refine ⟨_, rfl, r, dA, _, rfl, hA, r, n, ms, ss, rfl, rA, _, _, rfl, rfl, _, rfl, ?_⟩
        by_cases c2 : p < n
        · refine ifT (decide_eq_true c2) ?_
          refine ⟨_, rfl, r, dA, _, rfl, hA, fl_no _ _ _ (by decide +kernel) (by decide +kernel) (by decide +kernel), _, rfl, r, n, 0, p, ms, ss, rfl, rA, G, Int.le_refl _, c1, by omega, fun q1 HB sB rowB => ?_⟩
          have rB := rA.same sB
          obtain ⟨dB, _, _, hB, _, _⟩ := id rB
          refine ⟨_, rfl, r, dB, _, rfl, hB, fl_no _ _ _ (by decide +kernel) (by decide +kernel) (by decide +kernel), _, rfl, _, rfl, r, dB, _, rfl, hB, r, n, ms, ss, rfl, rB, r, n, p, n, ms, ss, rfl, rB, G, by omega, c2, Int.le_refl _, fun q2 HC sC rowC => ?_⟩
          refine ⟨_, _, rfl, ?_⟩
          try dsimp only [L2.start, List.set, List.map, List.append, List.replicate, List.length]
          have r1 := rowB.at.same sC
          obtain ⟨d1, _, _, h1, _, _⟩ := id r1
          have rC := rB.same sC
          refine ⟨_, rfl, q1, d1, _, rfl, h1, fl_no _ _ _ (by decide +kernel) (by decide +kernel) (by decide +kernel), _, rfl, _, rfl, _, rfl, r, p, n, ms, ss, rfl, rC, fun HD sD => ?_⟩
          have A := good_part G (b := 0) (e := p) (by omega)
          have B := good_part G (b := p) (e := n) (by omega)
          have l1' := cutM_len (ms := ms) (b := 0) (e := p)
          have l2' := cutM_len (ms := ms) (b := p) (e := n)
          refine ⟨q1, q2, p - 0, n - p, _, _, _, _, _, rfl, r1.same sD, rowC.at.same sD, A, B, kindOf_is, by omega, fun q3 HE sE rowE => ?_⟩
          have e := parts_eq G (by omega) c1 c2
          have rE := rowE.at
          rw [Int.sub_zero] at rE
          unfold jm js at e
          rw [e.1, e.2, show p + (n - p) = n by omega] at rE
          have sCE := sD.trans sE
          refine ⟨_, rfl, alike_ins rE (rC.same sCE), fun HF eF => ⟨_, rfl, ?_⟩⟩
          refine ifF rfl ?_
          exact ⟨_, _, _, rfl, fun c o h => eF c o ((((sA.trans sB).trans sC).trans sCE) c o h)⟩
        · refine ifF (decide_eq_false c2) ?_
          exact ⟨_, _, _, rfl, sA⟩
      · refine ifF (decide_eq_false c1) ?_
        refine ⟨_, rfl, ?_⟩
        refine ifF rfl ?_
        exact ⟨_, _, _, rfl, sA⟩
    rintro σ HA ⟨v3, v4, v5, rfl, sA⟩
    have rA := ro9.at.same sA
    obtain ⟨dA, _, _, hA, _, _⟩ := id rA
    try dsimp only [L2.start, List.set, List.map, List.append, List.replicate, List.length]
    refine ⟨_, rfl, r, dA, _, rfl, hA, fl_no _ _ _ (by decide +kernel) (by decide +kernel) (by decide +kernel), _, rfl, r, dA, _, rfl, hA, r, n, ms, ss, rfl, rA, r, n, 0, n, ms, ss, rfl, rA, G, Int.le_refl _, by omega, Int.le_refl _, fun q1 HB sB rowB => ?_⟩
    have rB := rowB.at
    have e := whole_part G
    rw [e.1, e.2, Int.sub_zero] at rB
    refine ⟨_, rfl, alike_ins rB (rA.same sB), fun HC eC => ?_⟩
    have sC : Same H9 HC := fun c o h => eC c o ((sA.trans sB) c o h)
    exact q HC (J9.same sC) (B09.trans (But.of sC))
end
end Cw
namespace Cw
open PySem L2
abbrev sChr : Stmt := top 32
theorem rest_ofA {C R : Addr → Hp → Prop} {G : Prop} (a : (∀ x H, C x H → R x H) → G) (b : ∀ x H, C x H → R x H) : G := a b
def spChr (C : Addr) : Sp := fun vs H Q _ => ∃ (a r fr : Addr) (k : Nat) (n fn : Int) (ms ss fm fs : List Int), vs = [.ref a, .ref r, .ref fr] ∧ JarAt H a (k + 1 + 1 + 1) ∧ RowOff C H a r n ms ss ∧ RowOff C H a fr fn fm fs ∧ Good n ms ss ∧ Good fn fm fs ∧ ms.length ≤ 40 ∧ fm.length ≤ 40 ∧ n ≤ 10000000000000000000000000000000 ∧ ∀ H', JarAt H' a k → But H H' a → Q (.bl true) H'
section
variable {P : Program} {w : World} {K : PySem.W.Frag} {mg : Str → Option Value} {base : Heap}
abbrev NChr : List Str := ["jar", "made", "fresh", "begin", "length", "end", "last", "put_in", "some", "told", "first", "gone", "back", "place", "one"]
theorem scChr : FnScope NChr ["jar", "made", "fresh"] (defScope sChr) := ⟨rfl, rfl, rfl, by decide +kernel, rfl, by decide +kernel, by decide +kernel⟩
theorem ok_chr {f C fD fY fP fU fV fK pL fGL pM fGM pS fGS : Addr} {fd fdD fdY fdP fdU fdV fdK dL dM dS : FuncData} (F : Fun K "_law_change_right" "_law_change_right" sChr f fd) (T : Bl mg) (R : Cl K mg C) (Gs : Gets P w K mg base C pL fGL pM fGM pS fGS dL dM dS) {fE : Addr} {fdE : FuncData} (Z : Eqs P w K mg base C fE fdE)
    (gD : mg "_law_dip" = some (.ref fD)) (kD : PySem.W.keepIn K (.ref fD) = true) (bD : Binds K fdD ["jar", "many"] []) (GD : FnOk P w K mg base CX0 1 fD fdD ["jar", "many"] spDip)
    (gY : mg "_law_kinds" = some (.ref fY)) (kY : PySem.W.keepIn K (.ref fY) = true) (bY : Binds K fdY ["jar"] []) (GY : FnOk P w K mg base CX0 2 fY fdY ["jar"] spKs)
    (mP : Meth K C "part" fP) (bP : Binds K fdP ["self", "begin", "end"] []) (GP : FnOk P w K mg base CX0 7 fP fdP ["self", "begin", "end"] (spPart C))
    (mU : Meth K C "joined" fU) (bU : Binds K fdU ["self", "other", "kind"] []) (GU : FnOk P w K mg base CX0 7 fU fdU ["self", "other", "kind"] (spJoin C))
    (mV : Meth K C "changed" fV) (bV : Binds K fdV ["self", "change"] []) (GV : FnOk P w K mg base CX0 7 fV fdV ["self", "change"] (spChanged C))
    (gK : mg "_law_kind" = some (.ref fK)) (kK : PySem.W.keepIn K (.ref fK) = true) (bK : Binds K fdK ["made", "place"] []) (GK : FnOk P w K mg base CX0 3 fK fdK ["made", "place"] (spKd C)) :
    FnOk P w K mg base CX0 8 f fd ["jar", "made", "fresh"] (spChr C) := by
  refine F.ok scChr (fun vs H Q E h => ?_) (fun cdv A outer s H vs Q E hr h => ?_)
  · obtain ⟨a, r, fr, k, n, fn, ms, ss, fm, fs, rfl, _⟩ := h
    rfl
  · obtain ⟨a, r, fr, k, n, fn, ms, ss, fm, fs, rfl, J, ro, rf, G, F2, few, few2, nlim, q⟩ := h
    refine ⟨_, (pss_cons (ps_asg (pe_tup (pa_cons (pe_op op_add pe_int (pe_call GD (hr.mono (by decide)) rfl gD kD bD .nil pass0 (pa_cons (pv 0) (pa_cons (pe_prop (pv 1) R.cl Gs.hL Gs.GL (hr.mono (by decide)) Gs.bL .nil pass0 rfl) pa_nil)))) (pa_cons (pe_prop (pv 1) R.cl Gs.hL Gs.GL (hr.mono (by decide)) Gs.bL .nil pass0 rfl) pa_nil))) (pg_tup rfl (pgs_cons (pg_name (i := 3) scChr.nd rfl (Or.inr rfl)) (pgs_cons (pg_name (i := 4) scChr.nd rfl (Or.inl rfl)) pgs_nil))))
        (pss_cons (ps_set (i := 5) scChr.nd rfl (Or.inr rfl) (pe_op op_add (pv 3) (pe_call GD (hr.mono (by decide)) rfl gD kD bD .nil pass0 (pa_cons (pv 0) (pa_cons (pv 4) pa_nil)))))
        (pss_cons (ps_if (pt_cmpR op_ge (pv 5) (pv 4) (nomark _)) (pss_one (ps_ret pe_bl)) pss_nil)
        (pss_cons (ps_set (i := 6) scChr.nd rfl (Or.inl rfl) (pe_call GY (hr.mono (by decide)) rfl gY kY bY .nil pass0 (pa_cons (pv 0) pa_nil)))
        (pss_cons (ps_set (i := 7) scChr.nd rfl (Or.inl rfl) (pe_op op_cat (pe_prop (pv 2) R.cl Gs.hM Gs.GM (hr.mono (by decide)) Gs.bM .nil pass0 rfl) (pe_ifExp (pt_cmpR op_eq (pv 6) pe_str (nomark _)) (pe_lst pa_nil) (pe_lst (pa_cons (pe_prop (pv 2) R.cl Gs.hL Gs.GL (hr.mono (by decide)) Gs.bL .nil pass0 rfl) pa_nil)))))
        (pss_cons (ps_set (i := 8) scChr.nd rfl (Or.inl rfl) (pe_op op_cat (pe_prop (pv 2) R.cl Gs.hS Gs.GS (hr.mono (by decide)) Gs.bS .nil pass0 rfl) (pe_ifExp (pt_cmpR op_eq (pv 6) pe_str (nomark _)) (pe_lst (pa_cons (pe_prop (pv 2) R.cl Gs.hL Gs.GL (hr.mono (by decide)) Gs.bL .nil pass0 rfl) pa_nil)) (pe_lst pa_nil))))
        (pss_cons (ps_set (i := 9) scChr.nd rfl (Or.inl rfl) (pe_meth (pv 1) R.cl mV GV (hr.mono (by decide)) bV .nil pass0 (pa_cons (pe_tup (pa_cons (pv 3) (pa_cons (pv 5) (pa_cons (pe_prop (pv 2) R.cl Gs.hL Gs.GL (hr.mono (by decide)) Gs.bL .nil pass0 rfl) (pa_cons (pv 7) (pa_cons (pv 8) pa_nil)))))) pa_nil)))
        (pss_cons (ps_set (i := 10) scChr.nd rfl (Or.inl rfl) (pe_meth (pe_meth (pv 1) R.cl mP GP (hr.mono (by decide)) bP .nil pass0 (pa_cons pe_int (pa_cons (pv 3) pa_nil))) R.cl mU GU (hr.mono (by decide)) bU .nil pass0 (pa_cons (pv 2) (pa_cons (pe_call GK (hr.mono (by decide)) rfl gK kK bK .nil pass0 (pa_cons (pv 1) (pa_cons (pv 3) pa_nil))) pa_nil))))
        (pss_cons (ps_if (pt_cmpR (op_neG Z.ok Z.hm Z.hn Z.hs Z.hf Z.hb pass0 (hr.mono (by decide))) (pv 9) (pe_meth (pv 10) R.cl mU GU (hr.mono (by decide)) bU .nil pass0 (pa_cons (pe_meth (pv 1) R.cl mP GP (hr.mono (by decide)) bP .nil pass0 (pa_cons (pv 5) (pa_cons (pv 4) pa_nil))) (pa_cons (pv 6) pa_nil))) (nomark _)) (pss_one (ps_ret pe_bl)) pss_nil)
        (pss_cons (ps_setLc (i := 11) (own := [("place", 13)]) (g := (gName 13)) rfl scChr.nd rfl rfl (sw_true rfl rfl rfl (by decide +kernel)) (pi_list (pe_prop (pv 1) R.cl Gs.hM Gs.GM (hr.mono (by decide)) Gs.bM .nil pass0 rfl)) (blkOk_by (own := [("place", 13)]) (N := NChr) (sc := defScope sChr) (by decide +kernel)) (fun _ _ _ _ _ => (pg_name (i := 13) scChr.nd rfl (Or.inl rfl))) (fun _ _ _ _ _ => (pts_one (pt_chain op_lt op_le (pv 3) (pv 13) (pv 5)))) (fun _ _ _ _ _ => (pe_op op_sub (pv 13) (pv 3))))
        (pss_cons (ps_set (i := 12) scChr.nd rfl (Or.inl rfl) (pe_tup (pa_cons (pv 3) (pa_cons (pe_op op_add (pv 3) (pe_prop (pv 2) R.cl Gs.hL Gs.GL (hr.mono (by decide)) Gs.bL .nil pass0 rfl)) (pa_cons (pe_op op_sub (pv 5) (pv 3)) (pa_cons (pv 11) (pa_cons (pe_lc (own := [("one", 14)]) (g := (gName 14)) rfl scChr.nd (pi_list (pv 11)) (blkOk_by (own := [("one", 14)]) (N := NChr) (sc := defScope sChr) (by decide +kernel)) (fun _ _ _ _ _ => (pg_name (i := 14) scChr.nd rfl (Or.inl rfl))) (fun _ _ _ _ _ => (pts_one (pt_cmpR (show OpR _ (compareOp .In) (rIn K false) from op_in_seq) (pe_op op_add (pv 3) (pv 14)) (pe_prop (pv 1) R.cl Gs.hS Gs.GS (hr.mono (by decide)) Gs.bS .nil pass0 rfl) (by rfl)))) (fun _ _ _ _ _ => (pv 14))) pa_nil)))))))
        (pss_one (ps_ret (pe_cmpR (op_eqG (rcG_ins Z.ok Z.hs Z.hf Z.hb pass0) (hr.mono (by decide))) (pe_meth (pv 9) R.cl mV GV (hr.mono (by decide)) bV .nil pass0 (pa_cons (pv 12) pa_nil)) (pv 1) (nomark _))))))))))))))), ?_⟩
    have nb : ∀ x : Int, x ≤ 10000000000000000000000000000001 → x < 2 ^ 120 := fun x h => Int.lt_of_le_of_lt h (by decide)
    have n0 := G.pos
    have fp := F2.pos
    have row0 := ro.at
    have fr0 := rf.at
    obtain ⟨dx, _, _, ho, _, _⟩ := id row0
    -- begin, length
    refine ⟨_, rfl, _, rfl, r, dx, _, rfl, ho, r, n, ms, ss, rfl, row0, a, _, n, rfl, J, by omega, nb _ (by omega), fun v1 H1 a1 b1 J1 B1 => ⟨_, _, rfl, rfl, ?_⟩⟩
    have ro1 := ro.but J B1
    obtain ⟨dx1, _, _, ho1, _, _, _, _⟩ := id ro1
    refine ⟨_, rfl, r, dx1, _, rfl, ho1, r, n, ms, ss, rfl, ro1.at, (by show 2 ≤ sizeLine; decide), fun tp htp => ?_⟩
    try dsimp -proj only at htp ⊢
    have b1' : 1 ≤ 1 + v1 ∧ 1 + v1 ≤ n := by omega
    generalize 1 + v1 = b at b1' ⊢
    have s2 := same_new (o := .tup [.int b, .int n]) (Same.refl H1) htp
    have k2 : upd H1 tp (.tup [.int b, .int n]) tp = some (.tup [.int b, .int n]) := upd_same
    generalize upd H1 tp (.tup [.int b, .int n]) = H2 at s2 k2 ⊢
    have B2 := B1.trans (But.of s2)
    have J2 := J1.same s2
    refine ⟨tp, _, rfl, SqT.of k2, rfl, _, _, rfl, _, _, rfl, rfl, ?_⟩
    try dsimp only [L2.start, List.set, List.map, List.append, List.replicate, List.length]
    -- end
    refine ⟨_, rfl, _, rfl, _, rfl, a, _, n, rfl, J2, by omega, nb _ (by omega), fun v2 H3 a2 b2 J3 B3 => ⟨_, _, rfl, rfl, ?_⟩⟩
    have B03 := B2.trans B3
    have be : b ≤ b + v2 := by omega
    try dsimp only [L2.start, List.set, List.map, List.append, List.replicate, List.length]
    generalize b + v2 = e at be ⊢
    refine ⟨_, rfl, _, rfl, _, _, rfl, rfl, _, rfl, ?_⟩
    by_cases en : e ≥ n
    · refine ifT (decide_eq_true en) ?_
      exact q H3 (J3.mono (by omega)) B03
    refine ifF (decide_eq_false en) ?_
    have en : e < n := by omega
    try dsimp only [L2.start, List.set, List.map, List.append, List.replicate, List.length]
    -- the last kind
    refine ⟨_, rfl, a, k, rfl, J3, fun H4 last J4 B4 ik => ?_⟩
    have B04 := B03.trans B4
    have row4 := (ro.but J B04).at
    have fr4 := (rf.but J B04).at
    obtain ⟨d4, _, _, h4, _, _⟩ := id row4
    obtain ⟨e4, _, _, g4, _, _⟩ := id fr4
    try dsimp only [L2.start, List.set, List.map, List.append, List.replicate, List.length]
    -- the marks that are put in
    apply rest_ofA (C := fun p H' => Same H4 H' ∧ IL H' p (putM fm fn last))
    · intro rest
      refine ⟨_, rfl, fr, e4, _, rfl, g4, fr, fn, fm, fs, rfl, fr4, fun c1 H5 s5 nc1 ic1 => ?_⟩
      refine ⟨_, rfl, rfl, _, rfl, ?_⟩
      by_cases c : last = "none"
      · refine ifT (decide_eq_true (by rw [c])) ?_
        refine ⟨Nat.zero_le _, fun c2 hc2 => ?_⟩
        have s6 := same_new (o := .lst []) (Same.refl H5) hc2
        refine ⟨c1, c2, _, _, rfl, rfl, s6 _ _ ic1, upd_same, by rw [List.length_map, sizeLine_eq]; show fm.length + 0 ≤ _; omega, fun p hp => ?_⟩
        refine rest p _ ⟨same_new (s5.trans s6) hp, ?_⟩
        unfold putM
        rw [if_pos c]
        show upd _ _ _ p = _
        rw [upd_same, List.map_append]
        rfl
      · refine ifF (decide_eq_false fun z => c (V.str.inj z)) ?_
        refine ⟨_, rfl, fr, e4, _, rfl, s5 _ _ g4, fr, fn, fm, fs, rfl, fr4.same s5, (by show 1 ≤ sizeLine; decide), fun c2 hc2 => ?_⟩
        have s6 := same_new (o := .lst [.int fn]) (Same.refl H5) hc2
        refine ⟨c1, c2, _, _, rfl, rfl, s6 _ _ ic1, upd_same, by rw [List.length_map, sizeLine_eq]; show fm.length + 1 ≤ _; omega, fun p hp => ?_⟩
        refine rest p _ ⟨same_new (s5.trans s6) hp, ?_⟩
        unfold putM
        rw [if_neg c]
        show upd _ _ _ p = _
        rw [upd_same, List.map_append]
        rfl
    rintro pm H5 ⟨s5, ipm⟩
    have fr5 := fr4.same s5
    try dsimp only [L2.start, List.set, List.map, List.append, List.replicate, List.length]
    apply rest_ofA (C := fun p H' => Same H5 H' ∧ IL H' p (putS fs fn last))
    · intro rest
      refine ⟨_, rfl, fr, e4, _, rfl, s5 _ _ g4, fr, fn, fm, fs, rfl, fr5, fun c1 H6 s6 nc1 ic1 => ?_⟩
      have fsl := F2.len2
      refine ⟨_, rfl, rfl, _, rfl, ?_⟩
      by_cases c : last = "strict"
      · refine ifT (decide_eq_true (by rw [c])) ?_
        refine ⟨_, rfl, fr, e4, _, rfl, s6 _ _ (s5 _ _ g4), fr, fn, fm, fs, rfl, fr5.same s6, (by show 1 ≤ sizeLine; decide), fun c2 hc2 => ?_⟩
        have s7 := same_new (o := .lst [.int fn]) (Same.refl H6) hc2
        refine ⟨c1, c2, _, _, rfl, rfl, s7 _ _ ic1, upd_same, by rw [List.length_map, sizeLine_eq]; show fs.length + 1 ≤ _; omega, fun p hp => ?_⟩
        refine rest p _ ⟨same_new (s6.trans s7) hp, ?_⟩
        unfold putS
        rw [if_pos c]
        show upd _ _ _ p = _
        rw [upd_same, List.map_append]
        rfl
      · refine ifF (decide_eq_false fun z => c (V.str.inj z)) ?_
        refine ⟨Nat.zero_le _, fun c2 hc2 => ?_⟩
        have s7 := same_new (o := .lst []) (Same.refl H6) hc2
        refine ⟨c1, c2, _, _, rfl, rfl, s7 _ _ ic1, upd_same, by rw [List.length_map, sizeLine_eq]; show fs.length + 0 ≤ _; omega, fun p hp => ?_⟩
        refine rest p _ ⟨same_new (s6.trans s7) hp, ?_⟩
        unfold putS
        rw [if_neg c]
        show upd _ _ _ p = _
        rw [upd_same, List.map_append]
        rfl
    rintro ps H6 ⟨s6, ips⟩
    have s46 := s5.trans s6
    have row6 := row4.same s46
    have fr6 := fr4.same s46
    have ipm6 : IL H6 pm _ := s6 _ _ ipm
    try dsimp only [L2.start, List.set, List.map, List.append, List.replicate, List.length]
    -- told
    refine ⟨_, rfl, r, d4, _, rfl, s46 _ _ h4, fl_no _ _ _ (by decide +kernel) (by decide +kernel) (by decide +kernel), _, rfl, _, rfl, _, rfl, fr, e4, _, rfl, s46 _ _ g4, fr, fn, fm, fs, rfl, fr6, _, rfl, _, rfl, (by show 5 ≤ sizeLine; decide), fun ch hch => ?_⟩
    have s7 := same_new (o := .tup [.int b, .int e, .int fn, .ref pm, .ref ps]) (Same.refl H6) hch
    have k7 : upd H6 ch (.tup [.int b, .int e, .int fn, .ref pm, .ref ps]) ch = some (.tup [.int b, .int e, .int fn, .ref pm, .ref ps]) := upd_same
    generalize upd H6 ch (.tup [.int b, .int e, .int fn, .ref pm, .ref ps]) = H7 at s7 k7 ⊢
    have CO := ch_ok ik G F2 b1'.1 be en (by omega)
    have pl : (putM fm fn last).length ≤ 41 := by
      unfold putM
      rw [List.length_append]
      split <;> simp <;> omega
    have rl := rep_len (old := ms) (new := putM fm fn last) (b := b) (e := e) (len := fn) (nl := n - (e - b) + fn)
    have s47 := s46.trans s7
    have GR := good_rep G CO (by omega)
    refine ⟨r, ch, pm, ps, n, b, e, fn, ms, ss, putM fm fn last, putS fs fn last, rfl, row4.same s47, k7, s7 _ _ ipm6, s7 _ _ ips, G, CO, by omega, fun td H8 s8 rowT => ?_⟩
    have s48 := s47.trans s8
    have row8 := row4.same s48
    have fr8 := fr4.same s48
    try dsimp only [L2.start, List.set, List.map, List.append, List.replicate, List.length]
    -- the parts around the new row
    refine ⟨_, rfl, r, d4, _, rfl, s48 _ _ h4, fl_no _ _ _ (by decide +kernel) (by decide +kernel) (by decide +kernel), _, rfl, r, n, 0, b, ms, ss, rfl, row8, G, Int.le_refl _, by omega, by omega, fun q1 H9 s9 rowQ => ?_⟩
    have A := good_part G (b := 0) (e := b) (by omega)
    have lA := cutM_len (ms := ms) (b := 0) (e := b)
    have row9 := row8.same s9
    have rQ := rowQ.at
    rw [Int.sub_zero] at rQ A
    obtain ⟨dQ, _, _, hQ, _, _⟩ := id rQ
    refine ⟨q1, dQ, _, rfl, hQ, fl_no _ _ _ (by decide +kernel) (by decide +kernel) (by decide +kernel), _, rfl, _, rfl, _, rfl, r, b, n, ms, ss, rfl, row9, fun HA sA => ?_⟩
    refine ⟨q1, fr, b, fn, _, _, fm, fs, _, rfl, rQ.same sA, (fr8.same s9).same sA, A, F2, kindOf_is, by omega, fun fi HB sB rowF => ?_⟩
    have s8B := (s9.trans sA).trans sB
    have GF := good_jm (kd := kindOf ms ss b) kindOf_is A F2 (by omega)
    have jl := jm_len (n := b) (kd := kindOf ms ss b) (ms := cutM ms 0 b) (ms2 := fm)
    have rF := rowF.at
    have rT := rowT.at.same s8B
    have rowB := row8.same s8B
    obtain ⟨dF, _, _, hF, _, _⟩ := id rF
    have hB := s8B _ _ (s48 _ _ h4)
    try dsimp only [L2.start, List.set, List.map, List.append, List.replicate, List.length]
    refine ⟨_, rfl, _, rfl, fi, dF, _, rfl, hF, fl_no _ _ _ (by decide +kernel) (by decide +kernel) (by decide +kernel), _, rfl, r, d4, _, rfl, hB, fl_no _ _ _ (by decide +kernel) (by decide +kernel) (by decide +kernel), _, rfl, _, rfl, r, n, e, n, ms, ss, rfl, rowB, G, by omega, en, Int.le_refl _, fun q2 HC sC rowR => ?_⟩
    have B' := good_part G (b := e) (e := n) (by omega)
    have lB := cutM_len (ms := ms) (b := e) (e := n)
    refine ⟨_, rfl, fi, q2, b + fn, n - e, _, _, _, _, last, rfl, rF.same sC, rowR.at, GF, B', ik, (by unfold jm at jl; omega), fun q3 HD sD rowJ => ?_⟩
    have ce := change_eq ik G F2 few few2 b1'.1 be en
    have rJ := rowJ.at
    have e1 := ce.1
    have e2 := ce.2
    unfold jm at e1
    unfold js at e2
    rw [← e1, ← e2, show b + fn + (n - e) = n - (e - b) + fn by omega] at rJ
    have sBD := sC.trans sD
    refine ⟨alike_ins (rT.same sBD) rJ, fun HE eE => ⟨_, rfl, ?_⟩⟩
    refine ifF rfl ?_
    have sDE : Same HD HE := fun c o h => eE c o h
    have s4E := (s48.trans s8B).trans (sBD.trans sDE)
    have rowE := row4.same s4E
    have rTE := rT.same (sBD.trans sDE)
    have frE := fr4.same s4E
    clear rF hF rQ hQ rowB row9 row8 fr8 row6 fr6 ipm ipm6 ips k7
    try dsimp only [L2.start, List.set, List.map, List.append, List.replicate, List.length]
    -- and back
    refine ⟨_, rfl, r, d4, _, rfl, s4E _ _ h4, r, n, ms, ss, rfl, rowE, fun c1 HF sF nc1 ic1 => ⟨c1, rfl, ⟨_, SqL.of ic1⟩, fun D1 hD1 => ?_⟩⟩
    refine lcF (α := Int) (K := K) (src := ms.map V.int) (xs := ms) (fun x => decide (b < x) && decide (x ≤ e)) (fun x => x - b) (fun H' s => SqL.of (s _ _ ic1)) (by rw [List.length_map]) hD1 (by omega) ?_ ?_
    · intro i x z HG A' B'' hx hz sG ka kb
      obtain ⟨z3, rfl, hz3⟩ := il_at hx
      rw [hz] at hz3
      cases hz3
      refine ⟨rfl, _, rfl, _, rfl, _, _, rfl, rfl, _, rfl, ?_⟩
      by_cases c1 : b < z
      · refine ifT (decide_eq_true c1) ?_
        refine ⟨_, rfl, _, _, rfl, rfl, _, rfl, ?_⟩
        by_cases c2 : z ≤ e
        · refine ifT (decide_eq_true c2) ?_
          exact ⟨_, rfl, _, rfl, _, _, rfl, rfl, ka _ (by rw [decide_eq_true c1, decide_eq_true c2]; rfl) (Same.refl _)⟩
        · refine ifF (decide_eq_false c2) ?_
          exact kb _ (by rw [decide_eq_false c2, Bool.and_false]) (Same.refl _)
      · refine ifF (decide_eq_false c1) ?_
        refine ⟨_, rfl, ?_⟩
        refine ifF rfl ?_
        exact kb _ (by rw [decide_eq_false c1, Bool.false_and]) (Same.refl _)
    intro HG sG hG
    have hG : IL HG D1 (goneM ms b e) := hG
    have gl := gone_len (ms := ms) (b := b) (e := e)
    have sEG := sF.trans sG
    have rowG := rowE.same sEG
    have frG := frE.same sEG
    have s4G := s4E.trans sEG
    try dsimp only [L2.start, List.set, List.map, List.append, List.replicate, List.length]
    refine ⟨_, rfl, _, rfl, _, rfl, fr, e4, _, rfl, s4G _ _ g4, fr, fn, fm, fs, rfl, frG, _, _, rfl, rfl, _, rfl, _, rfl, _, _, rfl, rfl, _, rfl, ?_⟩
    refine ⟨_, rfl, D1, rfl, ⟨_, SqL.of hG⟩, fun D2 hD2 => ?_⟩
    refine lcF (α := Int) (K := K) (src := (goneM ms b e).map V.int) (xs := goneM ms b e) (fun x => decide (b + x ∈ ss)) (fun x => x) (fun H' s => SqL.of (s _ _ hG)) (by rw [List.length_map]) hD2 (by omega) ?_ ?_
    · intro i x z HH A' B'' hx hz sH ka kb
      obtain ⟨z3, rfl, hz3⟩ := il_at hx
      rw [hz] at hz3
      cases hz3
      have rH := rowG.same sH
      obtain ⟨dH, _, _, hH, _, _⟩ := id rH
      refine ⟨rfl, _, rfl, _, rfl, _, _, rfl, rfl, _, rfl, r, dH, _, rfl, hH, r, n, ms, ss, rfl, rH, fun c2 HI sI nc2 ic2 => ⟨c2, _, rfl, .inl (SqL.of ic2), rfl, flat_il, _, rfl, ?_⟩⟩
      rw [inV_il]
      by_cases c1 : b + z ∈ ss
      · refine ifT (decide_eq_true c1) ?_
        exact ⟨_, rfl, ka _ (decide_eq_true c1) sI⟩
      · refine ifF (decide_eq_false c1) ?_
        exact kb _ (decide_eq_false c1) sI
    intro HH sH hH
    have hH : IL HH D2 (goneS (goneM ms b e) ss b) := by
      have z : IL HH D2 (((goneM ms b e).filter fun x => decide (b + x ∈ ss)).map fun x => x) := hH
      rw [List.map_id'] at z
      exact z
    refine ⟨(by show 5 ≤ sizeLine; decide), fun bk hbk => ?_⟩
    try dsimp -proj only at hbk ⊢
    have sI := same_new (o := .tup [.int b, .int (b + fn), .int (e - b), .ref D1, .ref D2]) (Same.refl HH) hbk
    have kI : upd HH bk (.tup [.int b, .int (b + fn), .int (e - b), .ref D1, .ref D2]) bk = some (.tup [.int b, .int (b + fn), .int (e - b), .ref D1, .ref D2]) := upd_same
    generalize upd HH bk (.tup [.int b, .int (b + fn), .int (e - b), .ref D1, .ref D2]) = HI at sI kI ⊢
    have sEI := (sEG.trans sH).trans sI
    have rTI := rTE.same sEI
    have rowI := rowE.same sEI
    obtain ⟨dT, _, _, hT, _, _⟩ := id rTI
    have BO := back_ok G (f := fn) fp b1'.1 be en
    have be2 := back_eq ik G F2 few few2 b1'.1 be en
    have rl2 := rep_len (old := rep ms (putM fm fn last) b e fn (n - (e - b) + fn)) (new := goneM ms b e) (b := b) (e := b + fn) (len := e - b) (nl := n - (e - b) + fn - (b + fn - b) + (e - b))
    try dsimp only [L2.start, List.set, List.map, List.append, List.replicate, List.length]
    refine ⟨_, rfl, td, dT, _, rfl, hT, fl_no _ _ _ (by decide +kernel) (by decide +kernel) (by decide +kernel), _, rfl, td, bk, D1, D2, n - (e - b) + fn, b, b + fn, e - b, _, _, goneM ms b e, goneS (goneM ms b e) ss b, rfl, rTI, kI, (sH.trans sI) _ _ hG, sI _ _ hH, GR, BO, by omega, fun q4 HJ sJ rowL => ?_⟩
    have rL := rowL.at
    rw [show n - (e - b) + fn - (b + fn - b) + (e - b) = n by omega, be2.1, be2.2] at rL
    refine ⟨_, rfl, alike_ins rL (rowI.same sJ), fun HK eK => ?_⟩
    have s4K : Same H4 HK := fun c o h => eK c o (((s4E.trans sEI).trans sJ) c o h)
    exact q HK (J4.same s4K) (B04.trans (But.of s4K))
end
end Cw
namespace Cw
open PySem L2
abbrev sRt : Stmt := top 33
def spRt (C : Addr) : Sp := fun vs H Q _ => ∃ (a x y z : Addr) (k : Nat) (n n2 n3 : Int) (ms ss ms2 ss2 ms3 ss3 : List Int), vs = [.ref a, .ref x, .ref y, .ref z] ∧ JarAt H a (k + 8 * 2 + 1 + 1) ∧ RowOff C H a x n ms ss ∧ RowOff C H a y n2 ms2 ss2 ∧ RowOff C H a z n3 ms3 ss3 ∧ Good n ms ss ∧ Good n2 ms2 ss2 ∧ Good n3 ms3 ss3 ∧ ms.length ≤ 40 ∧ ms2.length ≤ 40 ∧ ms3.length ≤ 40 ∧ n ≤ 10000000000000000000000000000000 ∧ n2 ≤ 10000000000000000000000000000000 ∧ ∀ H', JarAt H' a k → But H H' a → Q (.bl true) H'
section
variable {P : Program} {w : World} {K : PySem.W.Frag} {mg : Str → Option Value} {base : Heap}
abbrev NRt : List Str := ["jar", "one", "two", "three", "kinds", "made", "spots", "is_strict", "turn"]
theorem scRt : FnScope NRt ["jar", "one", "two", "three"] (defScope sRt) := ⟨rfl, rfl, rfl, by decide +kernel, rfl, by decide +kernel, by decide +kernel⟩
theorem ok_rt {f C fD fY fU fA fV fW fO pL fGL pM fGM pS fGS : Addr} {fd fdD fdY fdU fdA fdV fdW fdO dL dM dS : FuncData} (F : Fun K "_law_right" "_law_right" sRt f fd) (T : Bl mg) (R : Cl K mg C) (Gs : Gets P w K mg base C pL fGL pM fGM pS fGS dL dM dS) {fE : Addr} {fdE : FuncData} (Z : Eqs P w K mg base C fE fdE)
    (gD : mg "_law_dip" = some (.ref fD)) (kD : PySem.W.keepIn K (.ref fD) = true) (bD : Binds K fdD ["jar", "many"] []) (GD : FnOk P w K mg base CX0 1 fD fdD ["jar", "many"] spDip)
    (gY : mg "_law_kinds" = some (.ref fY)) (kY : PySem.W.keepIn K (.ref fY) = true) (bY : Binds K fdY ["jar"] []) (GY : FnOk P w K mg base CX0 2 fY fdY ["jar"] spKs)
    (mU : Meth K C "joined" fU) (bU : Binds K fdU ["self", "other", "kind"] []) (GU : FnOk P w K mg base CX0 7 fU fdU ["self", "other", "kind"] (spJoin C))
    (gA : mg "_law_parts_right" = some (.ref fA)) (kA : PySem.W.keepIn K (.ref fA) = true) (bA : Binds K fdA ["jar", "made"] []) (GA : FnOk P w K mg base CX0 8 fA fdA ["jar", "made"] (spPr C))
    (gV : mg "_law_change_right" = some (.ref fV)) (kV : PySem.W.keepIn K (.ref fV) = true) (bV : Binds K fdV ["jar", "made", "fresh"] []) (GV : FnOk P w K mg base CX0 8 fV fdV ["jar", "made", "fresh"] (spChr C))
    (mW : Meth K C "with_marks" fW) (bW : Binds K fdW ["self", "places", "is_strict"] []) (GW : FnOk P w K mg base CX0 7 fW fdW ["self", "places", "is_strict"] (spWith C))
    (mO : Meth K C "without_marks" fO) (bO : Binds K fdO ["self", "places"] []) (GO : FnOk P w K mg base CX0 7 fO fdO ["self", "places"] (spWout C)) :
    FnOk P w K mg base CX0 9 f fd ["jar", "one", "two", "three"] (spRt C) := by
  refine F.ok scRt (fun vs H Q E h => ?_) (fun cdv A outer s H vs Q E hr h => ?_)
  · obtain ⟨a, x, y, z, k, n, n2, n3, ms, ss, ms2, ss2, ms3, ss3, rfl, _⟩ := h
    rfl
  · obtain ⟨a, x, y, z, k, n, n2, n3, ms, ss, ms2, ss2, ms3, ss3, rfl, J, ox, oy, oz, G, G2, G3, f1, f2, f3, nl1, nl2, q⟩ := h
    refine ⟨_, (pss_cons (ps_set (i := 4) scRt.nd rfl (Or.inl rfl) (pe_lst (pa_cons (pe_call GY (hr.mono (by decide)) rfl gY kY bY .nil pass0 (pa_cons (pv 0) pa_nil)) (pa_cons (pe_call GY (hr.mono (by decide)) rfl gY kY bY .nil pass0 (pa_cons (pv 0) pa_nil)) pa_nil))))
        (pss_cons (ps_if (pt_cmpR (op_neG Z.ok Z.hm Z.hn Z.hs Z.hf Z.hb pass0 (hr.mono (by decide))) (pe_meth (pe_meth (pv 1) R.cl mU GU (hr.mono (by decide)) bU .nil pass0 (pa_cons (pv 2) (pa_cons (pe_ix (r := rIxL K) ix_list (pv 4) pe_int (fun _ _ => rfl)) pa_nil))) R.cl mU GU (hr.mono (by decide)) bU .nil pass0 (pa_cons (pv 3) (pa_cons (pe_ix (r := rIxL K) ix_list (pv 4) pe_int (fun _ _ => rfl)) pa_nil))) (pe_meth (pv 1) R.cl mU GU (hr.mono (by decide)) bU .nil pass0 (pa_cons (pe_meth (pv 2) R.cl mU GU (hr.mono (by decide)) bU .nil pass0 (pa_cons (pv 3) (pa_cons (pe_ix (r := rIxL K) ix_list (pv 4) pe_int (fun _ _ => rfl)) pa_nil))) (pa_cons (pe_ix (r := rIxL K) ix_list (pv 4) pe_int (fun _ _ => rfl)) pa_nil))) (nomark _)) (pss_one (ps_ret pe_bl)) pss_nil)
        (pss_cons (ps_for PassesOwn.never rfl (pi_tup (pe_tup (pa_cons (pv 1) (pa_cons (pv 2) pa_nil)))) (pg_name (i := 5) scRt.nd rfl (Or.inr rfl))
        (pss_cons (ps_if (PW.pt (pw_or (pt_not (pt_val (pe_call GA (hr.mono (by decide)) rfl gA kA bA .nil pass0 (pa_cons (pv 0) (pa_cons (pv 5) pa_nil))))) (pw_or1 (pt_not (pt_val (pe_call GV (hr.mono (by decide)) rfl gV kV bV .nil pass0 (pa_cons (pv 0) (pa_cons (pv 5) (pa_cons (pv 3) pa_nil))))))))) (pss_one (ps_ret pe_bl)) pss_nil)
        (pss_cons (ps_set (i := 6) scRt.nd rfl (Or.inl rfl) (pe_ifExp (pt_cmpR op_gt (pe_prop (pv 5) R.cl Gs.hL Gs.GL (hr.mono (by decide)) Gs.bL .nil pass0 rfl) pe_int (nomark _)) (pe_lc (own := [("turn", 8)]) (g := (gName 8)) (tt := tYes) rfl scRt.nd (pi_range1 (by rfl) T.range (pa_cons pe_int pa_nil)) (blkOk_by (own := [("turn", 8)]) (N := NRt) (sc := defScope sRt) (by decide +kernel)) (fun _ _ _ _ _ => (pg_name (i := 8) scRt.nd rfl (Or.inl rfl))) (fun _ _ _ _ _ => pts_nil) (fun _ _ _ _ _ => (pe_op op_add pe_int (pe_call GD (hr.mono (by decide)) rfl gD kD bD .nil pass0 (pa_cons (pv 0) (pa_cons (pe_op op_sub (pe_prop (pv 5) R.cl Gs.hL Gs.GL (hr.mono (by decide)) Gs.bL .nil pass0 rfl) pe_int) pa_nil)))))) (pe_lst pa_nil)))
        (pss_one (ps_for PassesOwn.never rfl (pi_tup (pe_tup (pa_cons pe_bl (pa_cons pe_bl pa_nil)))) (pg_name (i := 7) scRt.nd rfl (Or.inl rfl))
        (pss_one (ps_if (pt_cmpR (op_neG Z.ok Z.hm Z.hn Z.hs Z.hf Z.hb pass0 (hr.mono (by decide))) (pe_meth (pe_meth (pv 5) R.cl mW GW (hr.mono (by decide)) bW .nil pass0 (pa_cons (pv 6) (pa_cons (pv 7) pa_nil))) R.cl mO GO (hr.mono (by decide)) bO .nil pass0 (pa_cons (pv 6) pa_nil)) (pe_meth (pv 5) R.cl mO GO (hr.mono (by decide)) bO .nil pass0 (pa_cons (pv 6) pa_nil)) (nomark _)) (pss_one (ps_ret pe_bl)) pss_nil)))))))
        (pss_one (ps_ret pe_bl))))), ?_⟩
    have nb : ∀ x : Int, x ≤ 10000000000000000000000000000001 → x < 2 ^ 120 := fun x h => Int.lt_of_le_of_lt h (by decide)
    -- kinds
    refine ⟨_, rfl, a, _, rfl, J, fun H1 kd0 J1 B1 ik0 => ⟨_, rfl, a, _, rfl, J1, fun H2 kd1 J2 B2 ik1 => ⟨(by show 2 ≤ sizeLine; decide), fun L hL => ?_⟩⟩⟩
    have nLa : L ≠ a := (J2.ne hL).symm
    have B3 := (B1.trans B2).new (o := .lst [.str kd0, .str kd1]) hL
    have J3 := J2.put (o := .lst [.str kd0, .str kd1]) nLa.symm
    have iL : upd H2 L (.lst [.str kd0, .str kd1]) L = some (.lst [.str kd0, .str kd1]) := upd_same
    try dsimp -proj only
    generalize upd H2 L (.lst [.str kd0, .str kd1]) = H3 at B3 J3 iL ⊢
    have rx := (ox.but J B3).at
    have ry := (oy.but J B3).at
    have rz := (oz.but J B3).at
    obtain ⟨dx, _, _, hx, _, _⟩ := id rx
    obtain ⟨dy, _, _, hy, _, _⟩ := id ry
    try dsimp only [L2.start, List.set, List.map, List.append, List.replicate, List.length]
    -- joined in two orders
    refine ⟨_, rfl, x, dx, _, rfl, hx, fl_no _ _ _ (by decide +kernel) (by decide +kernel) (by decide +kernel), _, rfl, _, rfl, L, _, _, _, rfl, rfl, SqL.of iL, at_of2 (j := 0) rfl rfl, ?_⟩
    refine ⟨x, y, n, n2, ms, ss, ms2, ss2, kd0, rfl, rx, ry, G, G2, ik0, by omega, fun p1 H4 s4 row1 => ?_⟩
    have l12 := jm_len (n := n) (kd := kd0) (ms := ms) (ms2 := ms2)
    have G12 := good_jm ik0 G G2 (by omega)
    obtain ⟨d1, _, _, h1, _, _⟩ := id row1.at
    refine ⟨p1, d1, _, rfl, h1, fl_no _ _ _ (by decide +kernel) (by decide +kernel) (by decide +kernel), _, rfl, _, rfl, L, _, _, _, rfl, rfl, SqL.of (s4 _ _ iL), at_of2 (j := 1) rfl rfl, ?_⟩
    refine ⟨p1, z, n + n2, n3, jm n kd0 ms ms2, js n kd0 ss ss2, ms3, ss3, kd1, rfl, row1.at, rz.same s4, G12, G3, ik1, by omega, fun p2 H5 s5 row2 => ?_⟩
    have s35 := s4.trans s5
    refine ⟨_, rfl, x, dx, _, rfl, s35 _ _ hx, fl_no _ _ _ (by decide +kernel) (by decide +kernel) (by decide +kernel), _, rfl, y, dy, _, rfl, s35 _ _ hy, fl_no _ _ _ (by decide +kernel) (by decide +kernel) (by decide +kernel), _, rfl, _, rfl, L, _, _, _, rfl, rfl, SqL.of (s35 _ _ iL), at_of2 (j := 1) rfl rfl, ?_⟩
    refine ⟨y, z, n2, n3, ms2, ss2, ms3, ss3, kd1, rfl, ry.same s35, rz.same s35, G2, G3, ik1, by omega, fun p3 H6 s6 row3 => ?_⟩
    have l23 := jm_len (n := n2) (kd := kd1) (ms := ms2) (ms2 := ms3)
    have G23 := good_jm ik1 G2 G3 (by omega)
    have s36 := s35.trans s6
    refine ⟨_, rfl, L, _, _, _, rfl, rfl, SqL.of (s36 _ _ iL), at_of2 (j := 0) rfl rfl, ?_⟩
    refine ⟨x, p3, n, n2 + n3, ms, ss, jm n2 kd1 ms2 ms3, js n2 kd1 ss2 ss3, kd0, rfl, rx.same s36, row3.at, G, G23, ik0, by omega, fun p4 H7 s7 row4 => ?_⟩
    have r2 : RowAt C H7 p2 (n + n2 + n3) (jm (n + n2) kd1 (jm n kd0 ms ms2) ms3) (js (n + n2) kd1 (js n kd0 ss ss2) ss3) := row2.at.same (s6.trans s7)
    have r4 : RowAt C H7 p4 (n + (n2 + n3)) (jm n kd0 ms (jm n2 kd1 ms2 ms3)) (js n kd0 ss (js n2 kd1 ss2 ss3)) := row4.at
    rw [jm_assoc, js_assoc, Int.add_assoc] at r2
    refine ⟨alike_ins r2 r4, fun H8 e8 => ⟨_, rfl, ?_⟩⟩
    refine ifF rfl ?_
    have s38 : Same H3 H8 := fun c o h => e8 c o ((s36.trans s7) c o h)
    have J8 : JarAt H8 a (k + 8 * 2) := (J3.same s38).mono (by omega)
    have B8 := B3.trans (But.of s38)
    have ox8 := ox.but J B8
    have oy8 := oy.but J B8
    have oz8 := oz.but J B8
    try dsimp only [L2.start, List.set, List.map, List.append, List.replicate, List.length]
    -- one, and two
    refine ⟨_, rfl, _, rfl, (by show 2 ≤ sizeLine; decide), fun tp htp => ⟨tp, rfl, ⟨_, SqT.of upd_same⟩, ?_⟩⟩
    have s9 := same_new (o := .tup [.ref x, .ref y]) (Same.refl H8) htp
    have k9 : upd H8 tp (.tup [.ref x, .ref y]) tp = some (.tup [.ref x, .ref y]) := upd_same
    try dsimp -proj only
    generalize upd H8 tp (.tup [.ref x, .ref y]) = H9 at s9 k9 ⊢
    have J9 := J8.same s9
    have B9 := B8.trans (But.of s9)
    have nta : tp ≠ a := J9.no k9 fun _ _ _ z => nomatch z
    have ox9 := ox8.but J8 (But.of s9)
    have oy9 := oy8.but J8 (But.of s9)
    have oz9 := oz8.but J8 (But.of s9)
    have pick : ∀ (i : Nat) (v : V), [V.ref x, V.ref y][i]? = some v → ∃ (m : Addr) (nn : Int) (mm sm : List Int), v = .ref m ∧ RowOff C H9 a m nn mm sm ∧ Good nn mm sm ∧ mm.length ≤ 40 ∧ nn ≤ 10000000000000000000000000000000 := fun i v h => by
      match i with
      | 0 =>
        cases h
        exact ⟨x, n, ms, ss, rfl, ox9, G, f1, nl1⟩
      | 1 =>
        cases h
        exact ⟨y, n2, ms2, ss2, rfl, oy9, G2, f2, nl2⟩
      | i + 2 => cases h
    refine for_tup (xs := [.ref x, .ref y]) (fun i σ H' => ∃ (v5 v6 v7 : Option V), σ = [some (.ref a), some (.ref x), some (.ref y), some (.ref z), some (.ref L), v5, v6, v7, none] ∧ JarAt H' a (k + 8 * (2 - i)) ∧ But H9 H' a) ⟨_, _, _, rfl, J9, But.refl _ _⟩ (fun i σ H' _ ⟨_, _, _, _, _, b⟩ => SqT.of (b _ _ k9 nta)) ?_ ?_
    · rintro i v σ HA hi ⟨v5, v6, v7, rfl, JA, BA⟩
      obtain ⟨m, nn, mm, sm, rfl, om, GM, fm, nlm⟩ := pick i v hi
      have il : i < 2 := (List.getElem?_eq_some_iff.mp hi).1
      have JA : JarAt HA a (k + 8 * (2 - (i + 1)) + 3 + (1 + 1 + 1) + 1 + 1) := JA.mono (by omega)
      generalize k + 8 * (2 - (i + 1)) = kk at JA ⊢
      have nn0 := GM.pos
      try dsimp only [L2.start, List.set, List.map, List.append, List.replicate, List.length]
      refine ⟨_, rfl, _, rfl, a, m, _, nn, mm, sm, rfl, JA, om.but J9 BA, GM, fm, nlm, fun HB JB BB => ⟨_, rfl, ?_⟩⟩
      refine ifF rfl ?_
      have BAB := BA.trans BB
      refine ⟨_, rfl, _, rfl, _, rfl, a, m, z, _, nn, n3, mm, sm, ms3, ss3, rfl, JB, om.but J9 BAB, oz9.but J9 BAB, GM, G3, fm, f3, nlm, fun HC JC BC => ⟨_, rfl, ?_⟩⟩
      refine ifF rfl ?_
      have BAC := BAB.trans BC
      have rC := (om.but J9 BAC).at
      obtain ⟨dC, _, _, hC, _, _⟩ := id rC
      try dsimp only [L2.start, List.set, List.map, List.append, List.replicate, List.length]
      -- the places
      apply rest_ofA (C := fun sp H' => JarAt H' a kk ∧ But HC H' a ∧ ∃ gs : List Int, IL H' sp gs ∧ gs.length ≤ 3 ∧ ∀ z ∈ gs, 1 ≤ z ∧ z ≤ nn - 1)
      · intro rest
        refine ⟨_, rfl, m, dC, _, rfl, hC, m, nn, mm, sm, rfl, rC, _, _, rfl, rfl, _, rfl, ?_⟩
        by_cases c : nn > 1
        · refine ifT (decide_eq_true c) ?_
          refine ⟨_, rfl, by decide, by decide, fun D hD => ?_⟩
          have nD : D ≠ a := (JC.ne hD).symm
          refine lc_range (lo := 0) (n := 3) (fun i H' => ∃ xs : List Int, JarAt H' a (kk + (3 - i)) ∧ But HC H' a ∧ IL H' D xs ∧ xs.length = i ∧ ∀ z ∈ xs, 1 ≤ z ∧ z ≤ nn - 1) ⟨[], JC.put nD.symm, (But.refl HC a).new hD, upd_same, rfl, fun _ h => (nomatch h)⟩ ?_ ?_
          · rintro i2 HD hi2 ⟨xs, JD, BD, hE, xl, xr⟩
            have oD := om.but J9 (BAC.trans BD)
            obtain ⟨dD, _, _, hDD, _, _, _, _⟩ := id oD
            refine ⟨rfl, ?_⟩
            unfold tYes
            refine iteT ?_
            refine ⟨_, rfl, _, rfl, m, dD, _, rfl, hDD, m, nn, mm, sm, rfl, oD.at, _, _, rfl, rfl, a, kk + (3 - (i2 + 1)), nn - 1, rfl, JD.mono (by omega), by omega, nb _ (by omega), fun v HE va vb JE BE => ⟨_, _, rfl, rfl, ?_⟩⟩
            refine ⟨_, BE _ _ hE nD, by rw [List.length_map]; exact small1000 (by omega), xs ++ [1 + v], JE.put nD.symm, (BD.trans BE).put hD, ?_, by rw [List.length_append, xl]; rfl, fun z hz => ?_⟩
            · show upd _ _ _ D = _
              rw [upd_same, ints_app]
            · rcases List.mem_append.mp hz with hz | hz
              · exact xr z hz
              · rw [List.mem_singleton.mp hz]
                omega
          rintro HD ⟨xs, JD, BD, hE, xl, xr⟩
          exact rest D HD ⟨JD.mono (by omega), BD, xs, hE, by omega, xr⟩
        · refine ifF (decide_eq_false c) ?_
          refine ⟨Nat.zero_le _, fun e he => ?_⟩
          exact rest e _ ⟨(JC.put (JC.ne he)).mono (by omega), (But.refl HC a).new he, [], upd_same, Nat.zero_le _, fun _ h => (nomatch h)⟩
      rintro sp HD ⟨JD, BD, gs, hG, gl, gr⟩
      have BAD := BAC.trans BD
      try dsimp only [L2.start, List.set, List.map, List.append, List.replicate, List.length]
      refine ⟨(by show 2 ≤ sizeLine; decide), fun t2 ht2 => ⟨t2, rfl, ⟨_, SqT.of upd_same⟩, ?_⟩⟩
      have sE := same_new (o := .tup [.bl true, .bl false]) (Same.refl HD) ht2
      have kE : upd HD t2 (.tup [.bl true, .bl false]) t2 = some (.tup [.bl true, .bl false]) := upd_same
      try dsimp -proj only
      generalize upd HD t2 (.tup [.bl true, .bl false]) = HE at sE kE ⊢
      have JE := JD.same sE
      have BAE := BAD.trans (But.of sE)
      have rE := (om.but J9 BAE).at
      have hGE : IL HE sp gs := sE _ _ hG
      refine for_tup (xs := [.bl true, .bl false]) (fun j σ H' => ∃ (v8 : Option V), σ = [some (.ref a), some (.ref x), some (.ref y), some (.ref z), some (.ref L), some (.ref m), some (.ref sp), v8, none] ∧ Same HE H') ⟨_, rfl, Same.refl _⟩ (fun j σ H' _ ⟨_, _, s⟩ => SqT.of (s _ _ kE)) ?_ ?_
      · rintro j v2 σ HF hj ⟨v8, rfl, sF⟩
        obtain ⟨b, rfl⟩ : ∃ b : Bool, v2 = .bl b := by
          match j with
          | 0 =>
            cases hj
            exact ⟨_, rfl⟩
          | 1 =>
            cases hj
            exact ⟨_, rfl⟩
          | j + 2 => cases hj
        have rF := rE.same sF
        obtain ⟨dF, _, _, hF, _, _⟩ := id rF
        have hGF := sF _ _ hGE
        try dsimp only [L2.start, List.set, List.map, List.append, List.replicate, List.length]
        refine ⟨_, rfl, m, dF, _, rfl, hF, fl_no _ _ _ (by decide +kernel) (by decide +kernel) (by decide +kernel), _, rfl, _, rfl, ?_⟩
        refine ⟨m, sp, b, nn, mm, sm, gs, rfl, rF, GM, hGF, by omega, ⟨mm ++ gs, by rw [List.length_append]; omega, fun z h => List.mem_append_left _ h, fun z h => List.mem_append_right _ h⟩, gr, fun q1 HG m' s' sG G' e1 e2 rowA => ?_⟩
        obtain ⟨d1', _, _, h1', _, _⟩ := id rowA.at
        refine ⟨q1, d1', _, rfl, h1', fl_no _ _ _ (by decide +kernel) (by decide +kernel) (by decide +kernel), _, rfl, q1, sp, nn, m', s', gs, rfl, rowA.at, G', sG _ _ hGF, by omega, gr, fun q2 HH sH rowB => ?_⟩
        have sFH := sG.trans sH
        refine ⟨_, rfl, m, dF, _, rfl, sFH _ _ hF, fl_no _ _ _ (by decide +kernel) (by decide +kernel) (by decide +kernel), _, rfl, m, sp, nn, mm, sm, gs, rfl, rF.same sFH, GM, sFH _ _ hGF, by omega, gr, fun q3 HI sI rowC => ?_⟩
        have oe := off_eq GM G' e1 e2
        have rB := rowB.at.same sI
        rw [oe.1, oe.2] at rB
        refine ⟨alike_ins rB rowC.at, fun HJ eJ => ⟨_, rfl, ?_⟩⟩
        refine ifF rfl ?_
        exact ⟨_, rfl, fun c o h => eJ c o (((sF.trans sFH).trans sI) c o h)⟩
      · rintro σ HF ⟨v8, rfl, sF⟩
        exact ⟨_, _, _, rfl, JE.same sF, BAE.trans (But.of sF)⟩
    · rintro σ HA ⟨v5, v6, v7, rfl, JA, BA⟩
      exact q HA (JA.mono (by omega)) (B9.trans BA)
end
end Cw
namespace Cw
open PySem PySem.Spec L2
abbrev sL : Stmt := top 34
def spLaw (K : PySem.W.Frag) : Sp := fun vs H Q _ => ∃ (a : Addr) (ns : List Int), vs = [.ref a] ∧ SqL K H a (ns.map V.int) ∧ ns.length ≤ 63 ∧ ∀ H', Q (.bl true) H'
/-- the script, which is not the jar -/
def Scr (K : PySem.W.Frag) (H : Hp) (a : Addr) (xs : List V) (p : Addr) : Prop := (a ≠ p ∧ (H a = some (.lst xs) ∨ ∃ o, H a = some (.frz o (.lst xs)))) ∨ ∀ H' : Hp, SqL K H' a xs
theorem Scr.of {K : PySem.W.Frag} {H : Hp} {a p : Addr} {xs : List V} (h : SqL K H a xs) (n : H p = none) : Scr K H a xs p := by
  rcases h with h | h
  · refine .inl ⟨fun e => ?_, h⟩
    subst e
    rcases h with h | ⟨o, h⟩ <;> rw [n] at h <;> cases h
  · exact .inr fun H' => .inr h
theorem Scr.sq {K : PySem.W.Frag} {H : Hp} {a p : Addr} {xs : List V} (h : Scr K H a xs p) : SqL K H a xs := by
  rcases h with ⟨_, h⟩ | h
  · exact .inl h
  · exact h H
theorem Scr.but {K : PySem.W.Frag} {H H' : Hp} {a p : Addr} {xs : List V} (h : Scr K H a xs p) (e : But H H' p) : Scr K H' a xs p := by
  rcases h with ⟨n, h | ⟨o, h⟩⟩ | h
  · exact .inl ⟨n, .inl (e _ _ h n)⟩
  · exact .inl ⟨n, .inr ⟨o, e _ _ h n⟩⟩
  · exact .inr h
/-! ## the examples -/
theorem goodW : Good 999999999999999999999999999999 [5] [5] := ⟨by decide, by decide, by decide, by decide, by decide, by decide⟩
theorem good31 : Good 3 [1] [] := ⟨by decide, by decide, by decide, by decide, by decide, by decide⟩
theorem good32 : Good 3 [2] [] := ⟨by decide, by decide, by decide, by decide, by decide, by decide⟩
theorem good1 : Good 1 [] [] := ⟨by decide, by decide, by decide, by decide, by decide, by decide⟩
section
variable {P : Program} {w : World} {K : PySem.W.Frag} {mg : Str → Option Value} {base : Heap}
abbrev NL : List Str := ["script", "k", "jar", "turn", "one", "two", "both"]
theorem scL : FnScope NL ["script"] (defScope sL) := ⟨rfl, rfl, rfl, by decide +kernel, rfl, by decide +kernel, by decide +kernel⟩
theorem ok_law {f C fJ fS fG fH fA fU fP fN : Addr} {fd fdJ fdS fdG fdH fdA fdU fdP fdN : FuncData} (F : Fun K "law" "law" sL f fd) (T : Bl mg) (R : Cl K mg C) (M : Mk K C fN) (bN : Binds K fdN NI []) (GN : FnOk P w K mg base CX0 5 fN fdN NI (spInit C)) {pL fGL pM fGM pS fGS : Addr} {dL dM dS : FuncData} (Gs : Gets P w K mg base C pL fGL pM fGM pS fGS dL dM dS) {fE : Addr} {fdE : FuncData} (Z : Eqs P w K mg base C fE fdE)
    (gJ : mg "_law_jar" = some (.ref fJ)) (kJ : PySem.W.keepIn K (.ref fJ) = true) (bJ : Binds K fdJ ["script", "k"] []) (GJ : FnOk P w K mg base CX0 1 fJ fdJ ["script", "k"] (spJar K))
    (gS : mg "_law_small" = some (.ref fS)) (kS : PySem.W.keepIn K (.ref fS) = true) (bS : Binds K fdS ["jar", "most"] []) (GS : FnOk P w K mg base CX0 3 fS fdS ["jar", "most"] spSmall)
    (gG : mg "_law_great" = some (.ref fG)) (kG : PySem.W.keepIn K (.ref fG) = true) (bG : Binds K fdG ["jar", "most"] []) (GG : FnOk P w K mg base CX0 3 fG fdG ["jar", "most"] spGreat)
    (gH : mg "_law_heap" = some (.ref fH)) (kH : PySem.W.keepIn K (.ref fH) = true) (bH : Binds K fdH ["raw"] []) (GH : FnOk P w K mg base CX0 7 fH fdH ["raw"] (spHeap C))
    (gA : mg "_law_right" = some (.ref fA)) (kA : PySem.W.keepIn K (.ref fA) = true) (bA : Binds K fdA ["jar", "one", "two", "three"] []) (GA : FnOk P w K mg base CX0 9 fA fdA ["jar", "one", "two", "three"] (spRt C))
    (mU : Meth K C "joined" fU) (bU : Binds K fdU ["self", "other", "kind"] []) (GU : FnOk P w K mg base CX0 7 fU fdU ["self", "other", "kind"] (spJoin C))
    (mP : Meth K C "part" fP) (bP : Binds K fdP ["self", "begin", "end"] []) (GP : FnOk P w K mg base CX0 7 fP fdP ["self", "begin", "end"] (spPart C)) :
    FnG P w K mg base 10 f fd ["script"] (spLaw K) := by
  refine okG F scL (fun vs H Q E h => ?_) (fun cdv A outer s H vs Q E hr hg h => ?_)
  · obtain ⟨a, ns, rfl, _⟩ := h
    rfl
  · obtain ⟨a, ns, rfl, hS, hl, q⟩ := h
    have hu : (A.deeper (PyProof.Rows.envOfC "law" (defScope sL) s.heap.objs.size f cdv)).units + 64 < cLine := Nat.lt_of_le_of_lt (by omega) hr.un
    have gu : (A.deeper (PyProof.Rows.envOfC "law" (defScope sL) s.heap.objs.size f cdv)).guards = some [] := hg
    refine ⟨_, (pss_cons (ps_for PassesOwn.never rfl (pi_range1 (by rfl) T.range (pa_cons (pe_callB (call_max2 rfl) (by rfl) T.max (by decide +kernel) (pa_cons pe_int (pa_cons (pe_callB (call_min2 rfl) (by rfl) T.min (by decide +kernel) (pa_cons pe_int (pa_cons (pe_callB call_len_seq (by rfl) T.len PySem.boot_len (pa_cons (pv 0) pa_nil)) pa_nil))) pa_nil))) pa_nil)) (pg_name (i := 1) scL.nd rfl (Or.inl rfl))
        (pss_cons (ps_set (i := 2) scL.nd rfl (Or.inl rfl) (pe_call GJ (hr.mono (by decide)) rfl gJ kJ bJ .nil pass0 (pa_cons (pv 0) (pa_cons (pv 1) pa_nil))))
        (pss_one (ps_for PassesOwn.never rfl (pi_range1 (by rfl) T.range (pa_cons pe_int pa_nil)) (pg_name (i := 3) scL.nd rfl (Or.inl rfl))
        (pss_cons (ps_par (i := 4) (j := 5) rfl scL.nd rfl rfl (by decide) rfl rfl (pa_cons (pe_call GH (hr.mono (by decide)) rfl gH kH bH .nil pass0 (pa_cons (pe_call GS (hr.mono (by decide)) rfl gS kS bS .nil pass0 (pa_cons (pv 2) (pa_cons pe_int pa_nil))) pa_nil)) (pa_cons (pe_call GH (hr.mono (by decide)) rfl gH kH bH .nil pass0 (pa_cons (pe_call GG (hr.mono (by decide)) rfl gG kG bG .nil pass0 (pa_cons (pv 2) (pa_cons pe_int pa_nil))) pa_nil)) pa_nil)) (by rfl))
        (pss_one (ps_if (pt_not (pt_val (pe_call GA (hr.mono (by decide)) rfl gA kA bA .nil pass0 (pa_cons (pv 2) (pa_cons (pv 4) (pa_cons (pv 5) (pa_cons (pe_call GH (hr.mono (by decide)) rfl gH kH bH .nil pass0 (pa_cons (pe_call GS (hr.mono (by decide)) rfl gS kS bS .nil pass0 (pa_cons (pv 2) (pa_cons pe_int pa_nil))) pa_nil)) pa_nil))))))) (pss_one (ps_ret pe_bl)) pss_nil)))))))
        (pss_cons (ps_set (i := 4) scL.nd rfl (Or.inl rfl) (pe_make M GN (hr.mono (by decide)) rfl R.mgR bN .nil pass0 (pa_cons (pe_op op_sub (pe_op op_pow pe_int pe_int) pe_int) (pa_cons (pe_lst (pa_cons pe_int pa_nil)) (pa_cons (pe_lst (pa_cons pe_int pa_nil)) pa_nil)))))
        (pss_cons (ps_set (i := 6) scL.nd rfl (Or.inl rfl) (pe_meth (pv 4) R.cl mU GU (hr.mono (by decide)) bU .nil pass0 (pa_cons (pv 4) (pa_cons pe_str pa_nil))))
        (pss_cons (ps_if (pt_cmpR (op_neD hr.units) (pe_lst (pa_cons (pe_prop (pv 6) R.cl Gs.hM Gs.GM (hr.mono (by decide)) Gs.bM .nil pass0 rfl) (pa_cons (pe_prop (pv 6) R.cl Gs.hS Gs.GS (hr.mono (by decide)) Gs.bS .nil pass0 rfl) pa_nil))) (pe_lst (pa_cons (pe_lst (pa_cons pe_int (pa_cons (pe_op op_sub (pe_op op_pow pe_int pe_int) pe_int) (pa_cons (pe_op op_add (pe_op op_pow pe_int pe_int) pe_int) pa_nil)))) (pa_cons (pe_lst (pa_cons pe_int (pa_cons (pe_op op_add (pe_op op_pow pe_int pe_int) pe_int) pa_nil))) pa_nil))) (nomark _)) (pss_one (ps_ret pe_bl)) pss_nil)
        (pss_cons (ps_if (pt_cmpR (op_neG Z.ok Z.hm Z.hn Z.hs Z.hf Z.hb pass0 (hr.mono (by decide))) (pe_meth (pv 6) R.cl mP GP (hr.mono (by decide)) bP .nil pass0 (pa_cons (pe_prop (pv 4) R.cl Gs.hL Gs.GL (hr.mono (by decide)) Gs.bL .nil pass0 rfl) (pa_cons (pe_prop (pv 6) R.cl Gs.hL Gs.GL (hr.mono (by decide)) Gs.bL .nil pass0 rfl) pa_nil))) (pv 4) (nomark _)) (pss_one (ps_ret pe_bl)) pss_nil)
        (pss_one (ps_ret (pe_cmpR (op_eqG (rcG_ins Z.ok Z.hs Z.hf Z.hb pass0) (hr.mono (by decide))) (pe_meth (pe_meth (pe_make M GN (hr.mono (by decide)) rfl R.mgR bN .nil pass0 (pa_cons pe_int (pa_cons (pe_lst (pa_cons pe_int pa_nil)) (pa_cons (pe_lst pa_nil) pa_nil)))) R.cl mU GU (hr.mono (by decide)) bU .nil pass0 (pa_cons (pe_make M GN (hr.mono (by decide)) rfl R.mgR bN .nil pass0 (pa_cons pe_int (pa_cons (pe_lst pa_nil) (pa_cons (pe_lst pa_nil) pa_nil)))) (pa_cons pe_str pa_nil))) R.cl mP GP (hr.mono (by decide)) bP .nil pass0 (pa_cons pe_int (pa_cons pe_int pa_nil))) (pe_make M GN (hr.mono (by decide)) rfl R.mgR bN .nil pass0 (pa_cons pe_int (pa_cons (pe_lst (pa_cons pe_int pa_nil)) (pa_cons (pe_lst pa_nil) pa_nil)))) (nomark _))))))))), ?_⟩
    refine ⟨_, rfl, a, _, rfl, .inl hS, _, _, rfl, _, _, rfl, _, rfl, ?_, ?_, for_range (lo := 0) (n := Int.toNat _) (fun _ σ H' => ∃ v1 v2 v3 v4 v5, σ = [some (.ref a), v1, v2, v3, v4, v5, none] ∧ SqL K H' a (ns.map V.int)) ⟨_, _, _, _, _, rfl, hS⟩ ?_ ?_⟩
    · rw [List.length_map]
      split <;> split <;> omega
    · rw [List.length_map]
      split <;> split <;> omega
    · rintro i σ H1 hi ⟨v1, v2, v3, v4, v5, rfl, s1⟩
      have hil : i ≤ ns.length := by
        rw [List.length_map] at hi
        split at hi <;> split at hi <;> omega
      refine ⟨_, rfl, _, rfl, a, ns, i, by rw [Int.zero_add]; rfl, s1, hil, hl, fun p H2 s2 np J2 => ?_⟩
      have sc2 := (Scr.of s1 np).but (But.of s2)
      try dsimp only [L2.start, List.set, List.map, List.append, List.replicate, List.length]
      refine ⟨_, rfl, by decide, by decide, for_range (lo := 0) (n := 3) (fun t σ H' => ∃ v3 v4 v5, σ = [some (.ref a), some (.int (0 + (i : Int))), some (.ref p), v3, v4, v5, none] ∧ JarAt H' p (300 * (3 - t)) ∧ Scr K H' a (ns.map V.int) p) ⟨_, _, _, rfl, J2.mono (by omega), sc2⟩ ?_ ?_⟩
      · rintro t σ H3 ht ⟨v3, v4, v5, rfl, J3, sc3⟩
        have Jd : JarAt H3 p (300 * (3 - (t + 1)) + 8 * 2 + 1 + 1 + 60 + 120 + 60) := J3.mono (by omega)
        generalize 300 * (3 - (t + 1)) = kk at Jd ⊢
        refine ⟨_, rfl, p, _, 12, rfl, by decide, by decide, Jd, fun r1 H4 n l m g prs n12 G l39 hR S big gb J4 B4 => ?_⟩
        have sc4 := sc3.but B4
        refine ⟨r1, n, prs, rfl, hR.raw, G, fun m1 H5 s5 row1 => ?_⟩
        have J5 := J4.same s5
        have sc5 := sc4.but (But.of s5)
        have o1 := row1.off J4
        refine ⟨_, rfl, p, _, 30, rfl, by decide, by decide, J5, fun r2 H6 n2 l2 m2 g2 prs2 G2 f16 hR2 S2 big2 gb2 J6 B6 => ?_⟩
        have sc6 := sc5.but B6
        refine ⟨r2, n2, prs2, rfl, hR2.raw, G2, fun m2' H7 s7 row2 => ?_⟩
        have J7 := J6.same s7
        have sc7 := sc6.but (But.of s7)
        have o2 := row2.off J6
        have B57 := B6.trans (But.of s7)
        have o1 := o1.but J5 B57
        refine ⟨_, _, rfl, ?_⟩
        try dsimp only [L2.start, List.set, List.map, List.append, List.replicate, List.length]
        refine ⟨_, rfl, _, rfl, _, rfl, _, rfl, p, _, 6, rfl, by decide, by decide, J7, fun r3 H8 n3 l3 m3 g3 prs3 n6 G3 l39' hR3 S3 big3 gb3 J8 B8 => ?_⟩
        have sc8 := sc7.but B8
        refine ⟨r3, n3, prs3, rfl, hR3.raw, G3, fun m3' H9 s9 row3 => ?_⟩
        have J9 := J8.same s9
        have sc9 := sc8.but (But.of s9)
        have o3 := row3.off J8
        have B79 := B8.trans (But.of s9)
        have e1 : (marksOf prs).length ≤ 40 := by rw [show (marksOf prs).length = prs.length from List.length_map ..]; omega
        have e2 : (marksOf prs2).length ≤ 40 := by rw [show (marksOf prs2).length = prs2.length from List.length_map ..]; omega
        have e3 : (marksOf prs3).length ≤ 40 := by rw [show (marksOf prs3).length = prs3.length from List.length_map ..]; omega
        have z1 := S2.l1
        have z2 := S2.lm
        have z3 := S2.mg
        refine ⟨p, m1, m2', m3', kk, n, n2, n3, _, _, _, _, _, _, rfl, J9, o1.but J7 B79, o2.but J7 B79, o3, G.good, G2.good, G3.good, e1, e2, e3, by omega, by omega, fun HA JA BA => ⟨_, rfl, ?_⟩⟩
        refine ifF rfl ?_
        exact ⟨_, _, _, rfl, JA, sc9.but BA⟩
      · rintro σ H3 ⟨v3, v4, v5, rfl, J3, sc3⟩
        exact ⟨_, _, _, _, _, rfl, sc3.sq⟩
    · rintro σ H1 ⟨v1, v2, v3, v4, v5, rfl, s1⟩
      try dsimp only [L2.start, List.set, List.map, List.append, List.replicate, List.length]
      refine ⟨_, _, rfl, rfl, ⟨by decide, by decide, by decide⟩, _, _, rfl, rfl, ?_⟩
      try dsimp -proj only
      rw [show (10 : Int) ^ Int.toNat 30 - 1 = 999999999999999999999999999999 by decide +kernel]
      refine ⟨(by show 1 ≤ sizeLine; decide), fun c1 hc1 => ⟨(by show 1 ≤ sizeLine; decide), fun e1 he1 => ?_⟩⟩
      have m1 : IL (upd (upd H1 c1 (.lst [.int 5])) e1 (.lst [.int 5])) c1 [5] := by
        show upd _ _ _ c1 = _
        rw [upd_ne (ne_of_none upd_same he1)]
        exact upd_same
      have n1 : IL (upd (upd H1 c1 (.lst [.int 5])) e1 (.lst [.int 5])) e1 [5] := upd_same
      have t1 : Same H1 (upd (upd H1 c1 (.lst [.int 5])) e1 (.lst [.int 5])) := same_new (same_new (Same.refl H1) hc1) he1
      generalize upd (upd H1 c1 (.lst [.int 5])) e1 (.lst [.int 5]) = X1 at m1 n1 t1 ⊢
      refine fun x dx1 nx1 nd1 ne1 => ?_
      have u1 : Same X1 (upd (upd X1 dx1 (.own x)) x (.ins C dx1 [])) := same_new (same_new (Same.refl X1) nd1) (by rw [upd_ne (Ne.symm ne1)]; exact nx1)
      refine ⟨x, dx1, c1, e1, 999999999999999999999999999999, _, _, rfl, upd_same, u1 _ _ m1, u1 _ _ n1, goodW, fun H2 row1 kp1 => ⟨rfl, ?_⟩⟩
      have rx := row1.at
      have sx : Same H1 H2 := t1.trans (same_ins (Same.refl X1) nx1 nd1 kp1)
      clear row1 kp1 u1 nx1 nd1 ne1 m1 n1 hc1 he1 t1
      try dsimp only [L2.start, List.set, List.map, List.append, List.replicate, List.length]
      obtain ⟨dx, _, _, hx, _, _⟩ := id rx
      refine ⟨_, rfl, x, dx, _, rfl, hx, fl_no _ _ _ (by decide +kernel) (by decide +kernel) (by decide +kernel), _, rfl, x, x, 999999999999999999999999999999, 999999999999999999999999999999, [5], [5], [5], [5], "plain", rfl, rx, rx, goodW, goodW, .inr (.inl rfl), by decide, fun bo H3 s3 rowB => ?_⟩
      have rb : RowAt C H3 bo (999999999999999999999999999999 + 999999999999999999999999999999) [5, 999999999999999999999999999999, 5 + 999999999999999999999999999999] [5, 5 + 999999999999999999999999999999] := rowB.at
      have GB : Good (999999999999999999999999999999 + 999999999999999999999999999999) [5, 999999999999999999999999999999, 5 + 999999999999999999999999999999] [5, 5 + 999999999999999999999999999999] := ⟨by decide, by decide, by decide, by decide, by decide, by decide⟩
      have rx3 := rx.same s3
      obtain ⟨db, _, _, hb, _, _⟩ := id rb
      try dsimp only [L2.start, List.set, List.map, List.append, List.replicate, List.length]
      -- the lists
      refine ⟨_, rfl, bo, db, _, rfl, hb, bo, _, _, _, rfl, rb, fun g1 H4 s4 ng1 ig1 => ⟨_, rfl, bo, db, _, rfl, s4 _ _ hb, bo, _, _, _, rfl, rb.same s4, fun g2 H5 s5 ng2 ig2 => ⟨(by show 2 ≤ sizeLine; decide), fun g3 hg3 => ?_⟩⟩⟩
      have s6 := same_new (o := .lst [.ref g1, .ref g2]) (Same.refl H5) hg3
      have k6 : upd H5 g3 (.lst [.ref g1, .ref g2]) g3 = some (.lst [.ref g1, .ref g2]) := upd_same
      generalize upd H5 g3 (.lst [.ref g1, .ref g2]) = H6 at s6 k6 ⊢
      have ig1 := s6 _ _ (s5 _ _ ig1)
      have ig2 := s6 _ _ ig2
      refine ⟨_, _, rfl, rfl, ⟨by decide, by decide, by decide⟩, _, _, rfl, rfl, _, _, rfl, rfl, ⟨by decide, by decide, by decide⟩, _, _, rfl, rfl, (by show 3 ≤ sizeLine; decide), fun f1 hf1 => ?_⟩
      try dsimp -proj only at hf1 ⊢
      rw [show (10 : Int) ^ Int.toNat 30 - 1 = 999999999999999999999999999999 by decide +kernel, show (10 : Int) ^ Int.toNat 30 + 4 = 5 + 999999999999999999999999999999 by decide +kernel]
      have s7 := same_new (o := .lst [.int 5, .int 999999999999999999999999999999, .int (5 + 999999999999999999999999999999)]) (Same.refl H6) hf1
      have k7 : IL (upd H6 f1 (.lst [.int 5, .int 999999999999999999999999999999, .int (5 + 999999999999999999999999999999)])) f1 [5, 999999999999999999999999999999, 5 + 999999999999999999999999999999] := upd_same
      generalize upd H6 f1 (.lst [.int 5, .int 999999999999999999999999999999, .int (5 + 999999999999999999999999999999)]) = H7 at s7 k7 ⊢
      refine ⟨_, _, rfl, rfl, ⟨by decide, by decide, by decide⟩, _, _, rfl, rfl, (by show 2 ≤ sizeLine; decide), fun f2 hf2 => ?_⟩
      try dsimp -proj only at hf2 ⊢
      rw [show (10 : Int) ^ Int.toNat 30 + 4 = 5 + 999999999999999999999999999999 by decide +kernel]
      have s8 := same_new (o := .lst [.int 5, .int (5 + 999999999999999999999999999999)]) (Same.refl H7) hf2
      have k8 : IL (upd H7 f2 (.lst [.int 5, .int (5 + 999999999999999999999999999999)])) f2 [5, 5 + 999999999999999999999999999999] := upd_same
      generalize upd H7 f2 (.lst [.int 5, .int (5 + 999999999999999999999999999999)]) = H8 at s8 k8 ⊢
      refine ⟨(by show 2 ≤ sizeLine; decide), fun f3 hf3 => ?_⟩
      have s9 := same_new (o := .lst [.ref f1, .ref f2]) (Same.refl H8) hf3
      have k9 : upd H8 f3 (.lst [.ref f1, .ref f2]) f3 = some (.lst [.ref f1, .ref f2]) := upd_same
      generalize upd H8 f3 (.lst [.ref f1, .ref f2]) = H9 at s9 k9 ⊢
      have s69 := (s7.trans s8).trans s9
      refine ⟨.list [.list ([5, 999999999999999999999999999999, 5 + 999999999999999999999999999999].map PyData.int), .list ([5, 5 + 999999999999999999999999999999].map PyData.int)], .list [.list ([5, 999999999999999999999999999999, 5 + 999999999999999999999999999999].map PyData.int), .list ([5, 5 + 999999999999999999999999999999].map PyData.int)],
        .lst (SqL.of (s69 _ _ k6)) (.cons (dp_il (s69 _ _ ig1)) (.cons (dp_il (s69 _ _ ig2)) .nil)), .lst (SqL.of k9) (.cons (dp_il (s9 _ _ (s8 _ _ k7))) (.cons (dp_il (s9 _ _ k8)) .nil)), by decide +kernel, by decide +kernel, _, rfl, ?_⟩
      refine ifF (by decide +kernel) ?_
      have s39 := ((s4.trans s5).trans s6).trans s69
      have rb9 := rb.same s39
      have rx9 := rx3.same s39
      obtain ⟨d9, _, _, h9, _, _⟩ := id rb9
      obtain ⟨c9, _, _, j9, _, _⟩ := id rx9
      try dsimp only [L2.start, List.set, List.map, List.append, List.replicate, List.length]
      -- a part
      refine ⟨_, rfl, bo, d9, _, rfl, h9, fl_no _ _ _ (by decide +kernel) (by decide +kernel) (by decide +kernel), _, rfl, x, c9, _, rfl, j9, x, _, _, _, rfl, rx9, _, rfl, bo, d9, _, rfl, h9, bo, _, _, _, rfl, rb9, bo, 999999999999999999999999999999 + 999999999999999999999999999999, 999999999999999999999999999999, 999999999999999999999999999999 + 999999999999999999999999999999, _, _, rfl, rb9, GB, by decide, by decide, Int.le_refl _, fun pa HA sA rowP => ?_⟩
      have rp : RowAt C HA pa 999999999999999999999999999999 [5] [5] := by
        have z := rowP.at
        rw [show cutM [5, 999999999999999999999999999999, 5 + 999999999999999999999999999999] 999999999999999999999999999999 (999999999999999999999999999999 + 999999999999999999999999999999) = [5] by decide +kernel, show cutM [5, 5 + 999999999999999999999999999999] 999999999999999999999999999999 (999999999999999999999999999999 + 999999999999999999999999999999) = [5] by decide +kernel, show (999999999999999999999999999999 : Int) + 999999999999999999999999999999 - 999999999999999999999999999999 = 999999999999999999999999999999 by decide +kernel] at z
        exact z
      refine ⟨_, rfl, alike_ins rp (rx9.same sA), fun HB eB => ⟨_, rfl, ?_⟩⟩
      refine ifF rfl ?_
      try dsimp only [L2.start, List.set, List.map, List.append, List.replicate, List.length]
      refine ⟨(by show 1 ≤ sizeLine; decide), fun c2 hc2 => ⟨Nat.zero_le _, fun e2 he2 => ?_⟩⟩
      have m2 : IL (upd (upd HB c2 (.lst [.int 1])) e2 (.lst [])) c2 [1] := by
        show upd _ _ _ c2 = _
        rw [upd_ne (ne_of_none upd_same he2)]
        exact upd_same
      have n2 : IL (upd (upd HB c2 (.lst [.int 1])) e2 (.lst [])) e2 [] := upd_same
      have t2 : Same HB (upd (upd HB c2 (.lst [.int 1])) e2 (.lst [])) := same_new (same_new (Same.refl HB) hc2) he2
      generalize upd (upd HB c2 (.lst [.int 1])) e2 (.lst []) = X2 at m2 n2 t2 ⊢
      refine fun y dx2 nx2 nd2 ne2 => ?_
      have u2 : Same X2 (upd (upd X2 dx2 (.own y)) y (.ins C dx2 [])) := same_new (same_new (Same.refl X2) nd2) (by rw [upd_ne (Ne.symm ne2)]; exact nx2)
      refine ⟨y, dx2, c2, e2, 3, _, _, rfl, upd_same, u2 _ _ m2, u2 _ _ n2, good31, fun HC row2 kp2 => ⟨rfl, ?_⟩⟩
      have ry := row2.at
      have sy : Same HB HC := t2.trans (same_ins (Same.refl X2) nx2 nd2 kp2)
      clear row2 kp2 u2 nx2 nd2 ne2 m2 n2 hc2 he2 t2
      obtain ⟨dy, _, _, hy, _, _⟩ := id ry
      refine ⟨y, dy, _, rfl, hy, fl_no _ _ _ (by decide +kernel) (by decide +kernel) (by decide +kernel), ?_⟩
      refine ⟨Nat.zero_le _, fun c3 hc3 => ⟨Nat.zero_le _, fun e3 he3 => ?_⟩⟩
      have m3 : IL (upd (upd HC c3 (.lst [])) e3 (.lst [])) c3 [] := by
        show upd _ _ _ c3 = _
        rw [upd_ne (ne_of_none upd_same he3)]
        exact upd_same
      have n3 : IL (upd (upd HC c3 (.lst [])) e3 (.lst [])) e3 [] := upd_same
      have t3 : Same HC (upd (upd HC c3 (.lst [])) e3 (.lst [])) := same_new (same_new (Same.refl HC) hc3) he3
      generalize upd (upd HC c3 (.lst [])) e3 (.lst []) = X3 at m3 n3 t3 ⊢
      refine fun z dx3 nx3 nd3 ne3 => ?_
      have u3 : Same X3 (upd (upd X3 dx3 (.own z)) z (.ins C dx3 [])) := same_new (same_new (Same.refl X3) nd3) (by rw [upd_ne (Ne.symm ne3)]; exact nx3)
      refine ⟨z, dx3, c3, e3, 1, _, _, rfl, upd_same, u3 _ _ m3, u3 _ _ n3, good1, fun HD row3 kp3 => ⟨rfl, ?_⟩⟩
      have rz := row3.at
      have sz : Same HC HD := t3.trans (same_ins (Same.refl X3) nx3 nd3 kp3)
      clear row3 kp3 u3 nx3 nd3 ne3 m3 n3 hc3 he3 t3
      have ry2 := ry.same sz
      refine ⟨y, z, 3, 1, [1], [], [], [], "plain", rfl, ry2, rz, good31, good1, .inr (.inl rfl), by decide, fun jo HE sE rowJ => ?_⟩
      have rj : RowAt C HE jo 4 [1, 3] [] := rowJ.at
      obtain ⟨dj, _, _, hj, _, _⟩ := id rj
      refine ⟨jo, dj, _, rfl, hj, fl_no _ _ _ (by decide +kernel) (by decide +kernel) (by decide +kernel), jo, 4, 1, 4, _, _, rfl, rj, ⟨by decide, by decide, by decide, by decide, by decide, by decide⟩, by decide, by decide, by decide, fun pq HF sF rowQ => ?_⟩
      have rq : RowAt C HF pq 3 [2] [] := rowQ.at
      refine ⟨(by show 1 ≤ sizeLine; decide), fun c4 hc4 => ⟨Nat.zero_le _, fun e4 he4 => ?_⟩⟩
      have m4 : IL (upd (upd HF c4 (.lst [.int 2])) e4 (.lst [])) c4 [2] := by
        show upd _ _ _ c4 = _
        rw [upd_ne (ne_of_none upd_same he4)]
        exact upd_same
      have n4 : IL (upd (upd HF c4 (.lst [.int 2])) e4 (.lst [])) e4 [] := upd_same
      have t4 : Same HF (upd (upd HF c4 (.lst [.int 2])) e4 (.lst [])) := same_new (same_new (Same.refl HF) hc4) he4
      generalize upd (upd HF c4 (.lst [.int 2])) e4 (.lst []) = X4 at m4 n4 t4 ⊢
      refine fun v dx4 nx4 nd4 ne4 => ?_
      have u4 : Same X4 (upd (upd X4 dx4 (.own v)) v (.ins C dx4 [])) := same_new (same_new (Same.refl X4) nd4) (by rw [upd_ne (Ne.symm ne4)]; exact nx4)
      refine ⟨v, dx4, c4, e4, 3, _, _, rfl, upd_same, u4 _ _ m4, u4 _ _ n4, good32, fun HG row4 kp4 => ⟨rfl, ?_⟩⟩
      have rv := row4.at
      have sv : Same HF HG := t4.trans (same_ins (Same.refl X4) nx4 nd4 kp4)
      clear row4 kp4 u4 nx4 nd4 ne4 m4 n4 hc4 he4 t4
      exact ⟨alike_ins (rq.same sv) rv, fun HH eH => q HH⟩
end
end Cw
namespace Cw
open PySem L2
/-! ## what the top has written -/
theorem all_mk {l : PySem.W.OpenLaw} {w : World} {K : PySem.W.Frag} {h : Heap} {mg : Str → Option Value} {fa : Addr} (X : K.In h) (G : h.Ns mainGlobals mg) (hfa : mg "law" = some (.ref fa))
    {C kn fx0 fx1 fx2 fx3 fx4 fx5 fx6 fx7 fx8 fx9 fx10 fx11 fx12 fx13 fx14 pL fx15 pM fx16 pS fx17 fx18 fx19 fx20 fx21 fx22 fx23 fx24 fx25 fx26 fx27 fx28 fx29 fx30 fx31 fx32 fx33 fLW : Addr} {t_MOST_MARKS tK1 tK2 tK3 : Tok} {restpL restpM restpS : List Value}
    {odKN : Option Addr} {nKN : Nat} {slKN : Array (Option Value)}
    {ocx0 kVx0 dcx0 pmx0 cdx0 ctx0 : Value} {odx0 anx0 : Option Addr} {slx0 : Array (Option Value)}
    {ocx1 kVx1 dcx1 pmx1 cdx1 ctx1 : Value} {odx1 anx1 : Option Addr} {slx1 : Array (Option Value)}
    {ocx2 kVx2 dcx2 pmx2 cdx2 ctx2 : Value} {odx2 anx2 : Option Addr} {slx2 : Array (Option Value)}
    {ocx3 kVx3 dcx3 pmx3 cdx3 ctx3 : Value} {odx3 anx3 : Option Addr} {slx3 : Array (Option Value)}
    {ocx4 kVx4 dcx4 pmx4 cdx4 ctx4 : Value} {odx4 anx4 : Option Addr} {slx4 : Array (Option Value)}
    {ocx5 kVx5 dcx5 pmx5 cdx5 ctx5 : Value} {odx5 anx5 : Option Addr} {slx5 : Array (Option Value)}
    {ocx6 kVx6 dcx6 pmx6 cdx6 ctx6 : Value} {odx6 anx6 : Option Addr} {slx6 : Array (Option Value)}
    {ocx7 kVx7 dcx7 pmx7 cdx7 ctx7 : Value} {odx7 anx7 : Option Addr} {slx7 : Array (Option Value)}
    {ocx8 kVx8 dcx8 pmx8 cdx8 ctx8 : Value} {odx8 anx8 : Option Addr} {slx8 : Array (Option Value)}
    {ocx9 kVx9 dcx9 pmx9 cdx9 ctx9 : Value} {odx9 anx9 : Option Addr} {slx9 : Array (Option Value)}
    {ocx10 kVx10 dcx10 pmx10 cdx10 ctx10 : Value} {odx10 anx10 : Option Addr} {slx10 : Array (Option Value)}
    {ocx11 kVx11 dcx11 pmx11 cdx11 ctx11 : Value} {odx11 anx11 : Option Addr} {slx11 : Array (Option Value)}
    {ocx12 kVx12 dcx12 pmx12 cdx12 ctx12 : Value} {odx12 anx12 : Option Addr} {slx12 : Array (Option Value)}
    {ocx13 kVx13 dcx13 pmx13 cdx13 ctx13 : Value} {odx13 anx13 : Option Addr} {slx13 : Array (Option Value)}
    {ocx14 kVx14 dcx14 pmx14 cdx14 ctx14 : Value} {odx14 anx14 : Option Addr} {slx14 : Array (Option Value)}
    {ocx15 kVx15 dcx15 pmx15 cdx15 ctx15 : Value} {odx15 anx15 : Option Addr} {slx15 : Array (Option Value)}
    {ocx16 kVx16 dcx16 pmx16 cdx16 ctx16 : Value} {odx16 anx16 : Option Addr} {slx16 : Array (Option Value)}
    {ocx17 kVx17 dcx17 pmx17 cdx17 ctx17 : Value} {odx17 anx17 : Option Addr} {slx17 : Array (Option Value)}
    {ocx18 kVx18 dcx18 pmx18 cdx18 ctx18 : Value} {odx18 anx18 : Option Addr} {slx18 : Array (Option Value)}
    {ocx19 kVx19 dcx19 pmx19 cdx19 ctx19 : Value} {odx19 anx19 : Option Addr} {slx19 : Array (Option Value)}
    {ocx20 kVx20 dcx20 pmx20 cdx20 ctx20 : Value} {odx20 anx20 : Option Addr} {slx20 : Array (Option Value)}
    {ocx21 kVx21 dcx21 pmx21 cdx21 ctx21 : Value} {odx21 anx21 : Option Addr} {slx21 : Array (Option Value)}
    {ocx22 kVx22 dcx22 pmx22 cdx22 ctx22 : Value} {odx22 anx22 : Option Addr} {slx22 : Array (Option Value)}
    {ocx23 kVx23 dcx23 pmx23 cdx23 ctx23 : Value} {odx23 anx23 : Option Addr} {slx23 : Array (Option Value)}
    {ocx24 kVx24 dcx24 pmx24 cdx24 ctx24 : Value} {odx24 anx24 : Option Addr} {slx24 : Array (Option Value)}
    {ocx25 kVx25 dcx25 pmx25 cdx25 ctx25 : Value} {odx25 anx25 : Option Addr} {slx25 : Array (Option Value)}
    {ocx26 kVx26 dcx26 pmx26 cdx26 ctx26 : Value} {odx26 anx26 : Option Addr} {slx26 : Array (Option Value)}
    {ocx27 kVx27 dcx27 pmx27 cdx27 ctx27 : Value} {odx27 anx27 : Option Addr} {slx27 : Array (Option Value)}
    {ocx28 kVx28 dcx28 pmx28 cdx28 ctx28 : Value} {odx28 anx28 : Option Addr} {slx28 : Array (Option Value)}
    {ocx29 kVx29 dcx29 pmx29 cdx29 ctx29 : Value} {odx29 anx29 : Option Addr} {slx29 : Array (Option Value)}
    {ocx30 kVx30 dcx30 pmx30 cdx30 ctx30 : Value} {odx30 anx30 : Option Addr} {slx30 : Array (Option Value)}
    {ocx31 kVx31 dcx31 pmx31 cdx31 ctx31 : Value} {odx31 anx31 : Option Addr} {slx31 : Array (Option Value)}
    {ocx32 kVx32 dcx32 pmx32 cdx32 ctx32 : Value} {odx32 anx32 : Option Addr} {slx32 : Array (Option Value)}
    {ocx33 kVx33 dcx33 pmx33 cdx33 ctx33 : Value} {odx33 anx33 : Option Addr} {slx33 : Array (Option Value)}
    {ocLW kVLW dcLW pmLW cdLW ctLW : Value} {odLW anLW : Option Addr} {slLW : Array (Option Value)}
    (aC : PySem.W.nsIn K mainGlobals "Row" = some (some (.ref C)))
    (a_MOST_MARKS : PySem.W.nsIn K mainGlobals "MOST_MARKS" = some (some (.int 400 t_MOST_MARKS)))
    (n_int : PySem.W.nsIn K mainGlobals "int" = some none)
    (n_bool : PySem.W.nsIn K mainGlobals "bool" = some none)
    (n_list : PySem.W.nsIn K mainGlobals "list" = some none)
    (n_tuple : PySem.W.nsIn K mainGlobals "tuple" = some none)
    (n_range : PySem.W.nsIn K mainGlobals "range" = some none)
    (n_len : PySem.W.nsIn K mainGlobals "len" = some none)
    (n_abs : PySem.W.nsIn K mainGlobals "abs" = some none)
    (n_all : PySem.W.nsIn K mainGlobals "all" = some none)
    (n_isinstance : PySem.W.nsIn K mainGlobals "isinstance" = some none)
    (n_zip : PySem.W.nsIn K mainGlobals "zip" = some none)
    (n_max : PySem.W.nsIn K mainGlobals "max" = some none)
    (n_min : PySem.W.nsIn K mainGlobals "min" = some none)
    (n_set : PySem.W.nsIn K mainGlobals "set" = some none)
    (n_sorted : PySem.W.nsIn K mainGlobals "sorted" = some none)
    (n_dict : PySem.W.nsIn K mainGlobals "dict" = some none)
    (aKN : PySem.W.nsIn K mainGlobals "KINDS" = some (some (.ref kn)))
    (lKN : K.lookup kn = some ⟨.type "tuple", odKN, .seq #[.str (Str.ofString "none") tK1, .str (Str.ofString "plain") tK2, .str (Str.ofString "strict") tK3] nKN, slKN⟩)
    (ax0 : PySem.W.nsIn K mainGlobals "_law_jar" = some (some (.ref fx0)))
    (lx0 : K.lookup fx0 = some ⟨ocx0, odx0, .func (PySem.W.fnOf "_law_jar" "_law_jar" (defArgs sJar) (defBody sJar) (defScope sJar) .none kVx0 dcx0 pmx0 anx0 cdx0 ctx0), slx0⟩)
    (cox0 : PySem.W.codeIn K cdx0 "_law_jar" = true)
    (kx0 : PySem.W.keepIn K (.ref fx0) = true)
    (ax1 : PySem.W.nsIn K mainGlobals "_law_dip" = some (some (.ref fx1)))
    (lx1 : K.lookup fx1 = some ⟨ocx1, odx1, .func (PySem.W.fnOf "_law_dip" "_law_dip" (defArgs sDip) (defBody sDip) (defScope sDip) .none kVx1 dcx1 pmx1 anx1 cdx1 ctx1), slx1⟩)
    (cox1 : PySem.W.codeIn K cdx1 "_law_dip" = true)
    (kx1 : PySem.W.keepIn K (.ref fx1) = true)
    (ax2 : PySem.W.nsIn K mainGlobals "_law_three" = some (some (.ref fx2)))
    (lx2 : K.lookup fx2 = some ⟨ocx2, odx2, .func (PySem.W.fnOf "_law_three" "_law_three" (defArgs sThree) (defBody sThree) (defScope sThree) .none kVx2 dcx2 pmx2 anx2 cdx2 ctx2), slx2⟩)
    (cox2 : PySem.W.codeIn K cdx2 "_law_three" = true)
    (kx2 : PySem.W.keepIn K (.ref fx2) = true)
    (ax3 : PySem.W.nsIn K mainGlobals "_law_small" = some (some (.ref fx3)))
    (lx3 : K.lookup fx3 = some ⟨ocx3, odx3, .func (PySem.W.fnOf "_law_small" "_law_small" (defArgs sSmall) (defBody sSmall) (defScope sSmall) .none kVx3 dcx3 pmx3 anx3 cdx3 ctx3), slx3⟩)
    (cox3 : PySem.W.codeIn K cdx3 "_law_small" = true)
    (kx3 : PySem.W.keepIn K (.ref fx3) = true)
    (ax4 : PySem.W.nsIn K mainGlobals "_law_great" = some (some (.ref fx4)))
    (lx4 : K.lookup fx4 = some ⟨ocx4, odx4, .func (PySem.W.fnOf "_law_great" "_law_great" (defArgs sGreat) (defBody sGreat) (defScope sGreat) .none kVx4 dcx4 pmx4 anx4 cdx4 ctx4), slx4⟩)
    (cox4 : PySem.W.codeIn K cdx4 "_law_great" = true)
    (kx4 : PySem.W.keepIn K (.ref fx4) = true)
    (ax5 : PySem.W.nsIn K mainGlobals "is_integer" = some (some (.ref fx5)))
    (lx5 : K.lookup fx5 = some ⟨ocx5, odx5, .func (PySem.W.fnOf "is_integer" "is_integer" (defArgs sIsInt) (defBody sIsInt) (defScope sIsInt) .none kVx5 dcx5 pmx5 anx5 cdx5 ctx5), slx5⟩)
    (cox5 : PySem.W.codeIn K cdx5 "is_integer" = true)
    (kx5 : PySem.W.keepIn K (.ref fx5) = true)
    (ax6 : PySem.W.nsIn K mainGlobals "are_places" = some (some (.ref fx6)))
    (lx6 : K.lookup fx6 = some ⟨ocx6, odx6, .func (PySem.W.fnOf "are_places" "are_places" (defArgs sPlaces) (defBody sPlaces) (defScope sPlaces) .none kVx6 dcx6 pmx6 anx6 cdx6 ctx6), slx6⟩)
    (cox6 : PySem.W.codeIn K cdx6 "are_places" = true)
    (kx6 : PySem.W.keepIn K (.ref fx6) = true)
    (ax7 : PySem.W.nsIn K mainGlobals "are_ascending" = some (some (.ref fx7)))
    (lx7 : K.lookup fx7 = some ⟨ocx7, odx7, .func (PySem.W.fnOf "are_ascending" "are_ascending" (defArgs sAsc) (defBody sAsc) (defScope sAsc) .none kVx7 dcx7 pmx7 anx7 cdx7 ctx7), slx7⟩)
    (cox7 : PySem.W.codeIn K cdx7 "are_ascending" = true)
    (kx7 : PySem.W.keepIn K (.ref fx7) = true)
    (ax8 : PySem.W.nsIn K mainGlobals "are_marks" = some (some (.ref fx8)))
    (lx8 : K.lookup fx8 = some ⟨ocx8, odx8, .func (PySem.W.fnOf "are_marks" "are_marks" (defArgs sMarks) (defBody sMarks) (defScope sMarks) .none kVx8 dcx8 pmx8 anx8 cdx8 ctx8), slx8⟩)
    (cox8 : PySem.W.codeIn K cdx8 "are_marks" = true)
    (kx8 : PySem.W.keepIn K (.ref fx8) = true)
    (ax9 : PySem.W.nsIn K mainGlobals "are_some_of" = some (some (.ref fx9)))
    (lx9 : K.lookup fx9 = some ⟨ocx9, odx9, .func (PySem.W.fnOf "are_some_of" "are_some_of" (defArgs sSome) (defBody sSome) (defScope sSome) .none kVx9 dcx9 pmx9 anx9 cdx9 ctx9), slx9⟩)
    (cox9 : PySem.W.codeIn K cdx9 "are_some_of" = true)
    (kx9 : PySem.W.keepIn K (.ref fx9) = true)
    (ax10 : PySem.W.findIn K (.ref C) "__init__" = some (some (.ref fx10)))
    (ix10 : PySem.W.isFn K (.ref fx10) = true)
    (lx10 : K.lookup fx10 = some ⟨ocx10, odx10, .func (PySem.W.fnOf "__init__" "Row.__init__" (defArgs sInit) (defBody sInit) (defScope sInit) .none kVx10 dcx10 pmx10 anx10 cdx10 ctx10), slx10⟩)
    (cox10 : PySem.W.codeIn K cdx10 "Row.__init__" = true)
    (kx10 : PySem.W.keepIn K (.ref fx10) = true)
    (ax11 : PySem.W.nsIn K mainGlobals "_law_heap" = some (some (.ref fx11)))
    (lx11 : K.lookup fx11 = some ⟨ocx11, odx11, .func (PySem.W.fnOf "_law_heap" "_law_heap" (defArgs sHeap) (defBody sHeap) (defScope sHeap) .none kVx11 dcx11 pmx11 anx11 cdx11 ctx11), slx11⟩)
    (cox11 : PySem.W.codeIn K cdx11 "_law_heap" = true)
    (kx11 : PySem.W.keepIn K (.ref fx11) = true)
    (ax12 : PySem.W.nsIn K mainGlobals "_law_kinds" = some (some (.ref fx12)))
    (lx12 : K.lookup fx12 = some ⟨ocx12, odx12, .func (PySem.W.fnOf "_law_kinds" "_law_kinds" (defArgs sKs) (defBody sKs) (defScope sKs) .none kVx12 dcx12 pmx12 anx12 cdx12 ctx12), slx12⟩)
    (cox12 : PySem.W.codeIn K cdx12 "_law_kinds" = true)
    (kx12 : PySem.W.keepIn K (.ref fx12) = true)
    (ax13 : PySem.W.nsIn K mainGlobals "shifted" = some (some (.ref fx13)))
    (lx13 : K.lookup fx13 = some ⟨ocx13, odx13, .func (PySem.W.fnOf "shifted" "shifted" (defArgs sShift) (defBody sShift) (defScope sShift) .none kVx13 dcx13 pmx13 anx13 cdx13 ctx13), slx13⟩)
    (cox13 : PySem.W.codeIn K cdx13 "shifted" = true)
    (kx13 : PySem.W.keepIn K (.ref fx13) = true)
    (apL : PySem.W.findIn K (.ref C) "length" = some (some (.ref pL)))
    (gpL : PySem.W.specialIn K (.ref pL) "__get__" = some (some (.builtin "property.__get__")))
    (tpL : PySem.W.takesIn K (.ref pL) = some true)
    (rpL : PySem.W.recIn K pL "property" = some (.ref fx14 :: restpL))
    (lx14 : K.lookup fx14 = some ⟨ocx14, odx14, .func (PySem.W.fnOf "length" "Row.length" (defArgs sGetL) (defBody sGetL) (defScope sGetL) .none kVx14 dcx14 pmx14 anx14 cdx14 ctx14), slx14⟩)
    (cox14 : PySem.W.codeIn K cdx14 "Row.length" = true)
    (kx14 : PySem.W.keepIn K (.ref fx14) = true)
    (apM : PySem.W.findIn K (.ref C) "marks" = some (some (.ref pM)))
    (gpM : PySem.W.specialIn K (.ref pM) "__get__" = some (some (.builtin "property.__get__")))
    (tpM : PySem.W.takesIn K (.ref pM) = some true)
    (rpM : PySem.W.recIn K pM "property" = some (.ref fx15 :: restpM))
    (lx15 : K.lookup fx15 = some ⟨ocx15, odx15, .func (PySem.W.fnOf "marks" "Row.marks" (defArgs sGetM) (defBody sGetM) (defScope sGetM) .none kVx15 dcx15 pmx15 anx15 cdx15 ctx15), slx15⟩)
    (cox15 : PySem.W.codeIn K cdx15 "Row.marks" = true)
    (kx15 : PySem.W.keepIn K (.ref fx15) = true)
    (apS : PySem.W.findIn K (.ref C) "strict" = some (some (.ref pS)))
    (gpS : PySem.W.specialIn K (.ref pS) "__get__" = some (some (.builtin "property.__get__")))
    (tpS : PySem.W.takesIn K (.ref pS) = some true)
    (rpS : PySem.W.recIn K pS "property" = some (.ref fx16 :: restpS))
    (lx16 : K.lookup fx16 = some ⟨ocx16, odx16, .func (PySem.W.fnOf "strict" "Row.strict" (defArgs sGetS) (defBody sGetS) (defScope sGetS) .none kVx16 dcx16 pmx16 anx16 cdx16 ctx16), slx16⟩)
    (cox16 : PySem.W.codeIn K cdx16 "Row.strict" = true)
    (kx16 : PySem.W.keepIn K (.ref fx16) = true)
    (ax17 : PySem.W.findIn K (.ref C) "joined" = some (some (.ref fx17)))
    (ix17 : PySem.W.isFn K (.ref fx17) = true)
    (lx17 : K.lookup fx17 = some ⟨ocx17, odx17, .func (PySem.W.fnOf "joined" "Row.joined" (defArgs sJoin) (defBody sJoin) (defScope sJoin) .none kVx17 dcx17 pmx17 anx17 cdx17 ctx17), slx17⟩)
    (cox17 : PySem.W.codeIn K cdx17 "Row.joined" = true)
    (kx17 : PySem.W.keepIn K (.ref fx17) = true)
    (ax18 : PySem.W.nsIn K mainGlobals "check_place" = some (some (.ref fx18)))
    (lx18 : K.lookup fx18 = some ⟨ocx18, odx18, .func (PySem.W.fnOf "check_place" "check_place" (defArgs sCPl) (defBody sCPl) (defScope sCPl) .none kVx18 dcx18 pmx18 anx18 cdx18 ctx18), slx18⟩)
    (cox18 : PySem.W.codeIn K cdx18 "check_place" = true)
    (kx18 : PySem.W.keepIn K (.ref fx18) = true)
    (ax19 : PySem.W.findIn K (.ref C) "part" = some (some (.ref fx19)))
    (ix19 : PySem.W.isFn K (.ref fx19) = true)
    (lx19 : K.lookup fx19 = some ⟨ocx19, odx19, .func (PySem.W.fnOf "part" "Row.part" (defArgs sPart) (defBody sPart) (defScope sPart) .none kVx19 dcx19 pmx19 anx19 cdx19 ctx19), slx19⟩)
    (cox19 : PySem.W.codeIn K cdx19 "Row.part" = true)
    (kx19 : PySem.W.keepIn K (.ref fx19) = true)
    (ax20 : PySem.W.findIn K (.ref C) "__contains__" = some (some (.ref fx20)))
    (ix20 : PySem.W.isFn K (.ref fx20) = true)
    (lx20 : K.lookup fx20 = some ⟨ocx20, odx20, .func (PySem.W.fnOf "__contains__" "Row.__contains__" (defArgs sCon) (defBody sCon) (defScope sCon) .none kVx20 dcx20 pmx20 anx20 cdx20 ctx20), slx20⟩)
    (cox20 : PySem.W.codeIn K cdx20 "Row.__contains__" = true)
    (kx20 : PySem.W.keepIn K (.ref fx20) = true)
    (ax21 : PySem.W.nsIn K mainGlobals "_law_kind" = some (some (.ref fx21)))
    (lx21 : K.lookup fx21 = some ⟨ocx21, odx21, .func (PySem.W.fnOf "_law_kind" "_law_kind" (defArgs sKd) (defBody sKd) (defScope sKd) .none kVx21 dcx21 pmx21 anx21 cdx21 ctx21), slx21⟩)
    (cox21 : PySem.W.codeIn K cdx21 "_law_kind" = true)
    (kx21 : PySem.W.keepIn K (.ref fx21) = true)
    (ax22 : PySem.W.findIn K (.ref C) "__eq__" = some (some (.ref fx22)))
    (ix22 : PySem.W.isFn K (.ref fx22) = true)
    (lx22 : K.lookup fx22 = some ⟨ocx22, odx22, .func (PySem.W.fnOf "__eq__" "Row.__eq__" (defArgs sEq) (defBody sEq) (defScope sEq) .none kVx22 dcx22 pmx22 anx22 cdx22 ctx22), slx22⟩)
    (cox22 : PySem.W.codeIn K cdx22 "Row.__eq__" = true)
    (kx22 : PySem.W.keepIn K (.ref fx22) = true)
    (ax23 : PySem.W.nsIn K mainGlobals "_law_parts_right" = some (some (.ref fx23)))
    (lx23 : K.lookup fx23 = some ⟨ocx23, odx23, .func (PySem.W.fnOf "_law_parts_right" "_law_parts_right" (defArgs sPr) (defBody sPr) (defScope sPr) .none kVx23 dcx23 pmx23 anx23 cdx23 ctx23), slx23⟩)
    (cox23 : PySem.W.codeIn K cdx23 "_law_parts_right" = true)
    (kx23 : PySem.W.keepIn K (.ref fx23) = true)
    (ax24 : PySem.W.nsIn K mainGlobals "is_replacement" = some (some (.ref fx24)))
    (lx24 : K.lookup fx24 = some ⟨ocx24, odx24, .func (PySem.W.fnOf "is_replacement" "is_replacement" (defArgs sRepl) (defBody sRepl) (defScope sRepl) .none kVx24 dcx24 pmx24 anx24 cdx24 ctx24), slx24⟩)
    (cox24 : PySem.W.codeIn K cdx24 "is_replacement" = true)
    (kx24 : PySem.W.keepIn K (.ref fx24) = true)
    (ax25 : PySem.W.nsIn K mainGlobals "is_change" = some (some (.ref fx25)))
    (lx25 : K.lookup fx25 = some ⟨ocx25, odx25, .func (PySem.W.fnOf "is_change" "is_change" (defArgs sChange) (defBody sChange) (defScope sChange) .none kVx25 dcx25 pmx25 anx25 cdx25 ctx25), slx25⟩)
    (cox25 : PySem.W.codeIn K cdx25 "is_change" = true)
    (kx25 : PySem.W.keepIn K (.ref fx25) = true)
    (ax26 : PySem.W.nsIn K mainGlobals "replaced" = some (some (.ref fx26)))
    (lx26 : K.lookup fx26 = some ⟨ocx26, odx26, .func (PySem.W.fnOf "replaced" "replaced" (defArgs sReplaced) (defBody sReplaced) (defScope sReplaced) .none kVx26 dcx26 pmx26 anx26 cdx26 ctx26), slx26⟩)
    (cox26 : PySem.W.codeIn K cdx26 "replaced" = true)
    (kx26 : PySem.W.keepIn K (.ref fx26) = true)
    (ax27 : PySem.W.nsIn K mainGlobals "changed_parts" = some (some (.ref fx27)))
    (lx27 : K.lookup fx27 = some ⟨ocx27, odx27, .func (PySem.W.fnOf "changed_parts" "changed_parts" (defArgs sParts) (defBody sParts) (defScope sParts) .none kVx27 dcx27 pmx27 anx27 cdx27 ctx27), slx27⟩)
    (cox27 : PySem.W.codeIn K cdx27 "changed_parts" = true)
    (kx27 : PySem.W.keepIn K (.ref fx27) = true)
    (ax28 : PySem.W.findIn K (.ref C) "changed" = some (some (.ref fx28)))
    (ix28 : PySem.W.isFn K (.ref fx28) = true)
    (lx28 : K.lookup fx28 = some ⟨ocx28, odx28, .func (PySem.W.fnOf "changed" "Row.changed" (defArgs sChanged) (defBody sChanged) (defScope sChanged) .none kVx28 dcx28 pmx28 anx28 cdx28 ctx28), slx28⟩)
    (cox28 : PySem.W.codeIn K cdx28 "Row.changed" = true)
    (kx28 : PySem.W.keepIn K (.ref fx28) = true)
    (ax29 : PySem.W.nsIn K mainGlobals "_law_change_right" = some (some (.ref fx29)))
    (lx29 : K.lookup fx29 = some ⟨ocx29, odx29, .func (PySem.W.fnOf "_law_change_right" "_law_change_right" (defArgs sChr) (defBody sChr) (defScope sChr) .none kVx29 dcx29 pmx29 anx29 cdx29 ctx29), slx29⟩)
    (cox29 : PySem.W.codeIn K cdx29 "_law_change_right" = true)
    (kx29 : PySem.W.keepIn K (.ref fx29) = true)
    (ax30 : PySem.W.findIn K (.ref C) "_check_inner" = some (some (.ref fx30)))
    (ix30 : PySem.W.isFn K (.ref fx30) = true)
    (lx30 : K.lookup fx30 = some ⟨ocx30, odx30, .func (PySem.W.fnOf "_check_inner" "Row._check_inner" (defArgs sCI) (defBody sCI) (defScope sCI) .none kVx30 dcx30 pmx30 anx30 cdx30 ctx30), slx30⟩)
    (cox30 : PySem.W.codeIn K cdx30 "Row._check_inner" = true)
    (kx30 : PySem.W.keepIn K (.ref fx30) = true)
    (ax31 : PySem.W.findIn K (.ref C) "with_marks" = some (some (.ref fx31)))
    (ix31 : PySem.W.isFn K (.ref fx31) = true)
    (lx31 : K.lookup fx31 = some ⟨ocx31, odx31, .func (PySem.W.fnOf "with_marks" "Row.with_marks" (defArgs sWith) (defBody sWith) (defScope sWith) .none kVx31 dcx31 pmx31 anx31 cdx31 ctx31), slx31⟩)
    (cox31 : PySem.W.codeIn K cdx31 "Row.with_marks" = true)
    (kx31 : PySem.W.keepIn K (.ref fx31) = true)
    (ax32 : PySem.W.findIn K (.ref C) "without_marks" = some (some (.ref fx32)))
    (ix32 : PySem.W.isFn K (.ref fx32) = true)
    (lx32 : K.lookup fx32 = some ⟨ocx32, odx32, .func (PySem.W.fnOf "without_marks" "Row.without_marks" (defArgs sWout) (defBody sWout) (defScope sWout) .none kVx32 dcx32 pmx32 anx32 cdx32 ctx32), slx32⟩)
    (cox32 : PySem.W.codeIn K cdx32 "Row.without_marks" = true)
    (kx32 : PySem.W.keepIn K (.ref fx32) = true)
    (ax33 : PySem.W.nsIn K mainGlobals "_law_right" = some (some (.ref fx33)))
    (lx33 : K.lookup fx33 = some ⟨ocx33, odx33, .func (PySem.W.fnOf "_law_right" "_law_right" (defArgs sRt) (defBody sRt) (defScope sRt) .none kVx33 dcx33 pmx33 anx33 cdx33 ctx33), slx33⟩)
    (cox33 : PySem.W.codeIn K cdx33 "_law_right" = true)
    (kx33 : PySem.W.keepIn K (.ref fx33) = true)
    (aLW : PySem.W.nsIn K mainGlobals "law" = some (some (.ref fLW)))
    (lLW : K.lookup fLW = some ⟨ocLW, odLW, .func (PySem.W.fnOf "law" "law" (defArgs sL) (defBody sL) (defScope sL) .none kVLW dcLW pmLW anLW cdLW ctLW), slLW⟩)
    (coLW : PySem.W.codeIn K cdLW "law" = true)
    (kLW : PySem.W.keepIn K (.ref fLW) = true)
    (pg : PySem.W.plainGet K C Str.empty = true)
    (hd : PySem.W.hasDictIn K C = true)
    (po : PySem.W.plainOver K C = true)
    (sa : PySem.W.findIn K (.ref C) "__setattr__" = some (some (.builtin "object.__setattr__")))
    (mk : PySem.W.makesIn K C = true)
    (kc : PySem.W.keepIn K (.ref C) = true)
    (nL : PySem.W.findIn K (.ref C) "_length" = some none)
    (nM : PySem.W.findIn K (.ref C) "_marks" = some none)
    (nS : PySem.W.findIn K (.ref C) "_strict" = some none)
    (kt : PySem.W.kitOne K (.ref C) (.ref C) = some true)
    (ca : PySem.W.findIn K (.ref C) "__class__" = some (some (.builtin "object.__class__")))
    (cn : PySem.W.specialIn K (.builtin "object.__class__") "__get__" = some (some (.builtin "getset_descriptor.__get__")))
    (ct : PySem.W.takesIn K (.builtin "object.__class__") = some true)
    (cm : PySem.W.mroIn K C (.type "object") = some true)
    (en : PySem.W.findIn K (.ref C) "__ne__" = some (some (.builtin "object.__ne__")))
    : ∃ fd : FuncData, (∀ (s : Shared) (v : Value), BindsTo s fd ⟨[v], []⟩ [("script", v)]) ∧ ∀ base : Heap, K.In base → base.Ns mainGlobals mg → FnG l.prog w K mg base 10 fa fd ["script"] (spLaw K) := by
  have e := hfa.symm.trans (PySem.W.mg_of X G aLW)
  cases e
  have T : Bl mg := ⟨PySem.W.mg_none_of X G n_int, PySem.W.mg_none_of X G n_bool, PySem.W.mg_none_of X G n_list, PySem.W.mg_none_of X G n_tuple, PySem.W.mg_none_of X G n_range, PySem.W.mg_none_of X G n_len, PySem.W.mg_none_of X G n_abs, PySem.W.mg_none_of X G n_all, PySem.W.mg_none_of X G n_isinstance, PySem.W.mg_none_of X G n_zip, PySem.W.mg_none_of X G n_max, PySem.W.mg_none_of X G n_min, PySem.W.mg_none_of X G n_set, PySem.W.mg_none_of X G n_sorted, PySem.W.mg_none_of X G n_dict⟩
  have R : Cl K mg C := ⟨⟨pg, hd, po, sa⟩, nL, nM, nS, PySem.W.mg_of X G aC, kt⟩
  have N : Ci K C := ⟨ca, cn, ct, cm⟩
  have M : Mk K C fx10 := ⟨mk, ax10, ix10, kc⟩
  have hKN : ∀ H : Hp, SqT K H kn kinds3 := fun H => .inr ⟨_, _, _, lKN, rfl, rfl, (by show 3 ≤ sizeLine; decide), .cons ⟨_, rfl⟩ (.cons ⟨_, rfl⟩ (.cons ⟨_, rfl⟩ .nil))⟩
  have Fx0 := fun_mk (st := sJar) lx0 cox0 kx0
  have bx0 := Fx0.binds (ps := ["script", "k"]) fun _ _ _ _ _ _ us hl => match us, hl with | [_, _], _ => rfl
  have gx0 := PySem.W.mg_of X G ax0
  have Fx1 := fun_mk (st := sDip) lx1 cox1 kx1
  have bx1 := Fx1.binds (ps := ["jar", "many"]) fun _ _ _ _ _ _ us hl => match us, hl with | [_, _], _ => rfl
  have gx1 := PySem.W.mg_of X G ax1
  have Fx2 := fun_mk (st := sThree) lx2 cox2 kx2
  have bx2 := Fx2.binds (ps := ["jar", "wide"]) fun _ _ _ _ _ _ us hl => match us, hl with | [_, _], _ => rfl
  have gx2 := PySem.W.mg_of X G ax2
  have Fx3 := fun_mk (st := sSmall) lx3 cox3 kx3
  have bx3 := Fx3.binds (ps := ["jar", "most"]) fun _ _ _ _ _ _ us hl => match us, hl with | [_, _], _ => rfl
  have gx3 := PySem.W.mg_of X G ax3
  have Fx4 := fun_mk (st := sGreat) lx4 cox4 kx4
  have bx4 := Fx4.binds (ps := ["jar", "most"]) fun _ _ _ _ _ _ us hl => match us, hl with | [_, _], _ => rfl
  have gx4 := PySem.W.mg_of X G ax4
  have Fx5 := fun_mk (st := sIsInt) lx5 cox5 kx5
  have bx5 := Fx5.binds (ps := ["thing"]) fun _ _ _ _ _ _ us hl => match us, hl with | [_], _ => rfl
  have gx5 := PySem.W.mg_of X G ax5
  have Fx6 := fun_mk (st := sPlaces) lx6 cox6 kx6
  have bx6 := Fx6.binds (ps := ["thing", "low", "high"]) fun _ _ _ _ _ _ us hl => match us, hl with | [_, _, _], _ => rfl
  have gx6 := PySem.W.mg_of X G ax6
  have Fx7 := fun_mk (st := sAsc) lx7 cox7 kx7
  have bx7 := Fx7.binds (ps := ["thing", "low", "high"]) fun _ _ _ _ _ _ us hl => match us, hl with | [_, _, _], _ => rfl
  have gx7 := PySem.W.mg_of X G ax7
  have Fx8 := fun_mk (st := sMarks) lx8 cox8 kx8
  have bx8 := Fx8.binds (ps := ["thing", "high"]) fun _ _ _ _ _ _ us hl => match us, hl with | [_, _], _ => rfl
  have gx8 := PySem.W.mg_of X G ax8
  have Fx9 := fun_mk (st := sSome) lx9 cox9 kx9
  have bx9 := Fx9.binds (ps := ["thing", "marks"]) fun _ _ _ _ _ _ us hl => match us, hl with | [_, _], _ => rfl
  have gx9 := PySem.W.mg_of X G ax9
  have Fx10 := fun_mk (st := sInit) lx10 cox10 kx10
  have bx10 := Fx10.binds (ps := ["self", "length", "marks", "strict"]) fun _ _ _ _ _ _ us hl => match us, hl with | [_, _, _, _], _ => rfl
  have Fx11 := fun_mk (st := sHeap) lx11 cox11 kx11
  have bx11 := Fx11.binds (ps := ["raw"]) fun _ _ _ _ _ _ us hl => match us, hl with | [_], _ => rfl
  have gx11 := PySem.W.mg_of X G ax11
  have Fx12 := fun_mk (st := sKs) lx12 cox12 kx12
  have bx12 := Fx12.binds (ps := ["jar"]) fun _ _ _ _ _ _ us hl => match us, hl with | [_], _ => rfl
  have gx12 := PySem.W.mg_of X G ax12
  have Fx13 := fun_mk (st := sShift) lx13 cox13 kx13
  have bx13 := Fx13.binds (ps := ["places", "number"]) fun _ _ _ _ _ _ us hl => match us, hl with | [_, _], _ => rfl
  have gx13 := PySem.W.mg_of X G ax13
  have Fx14 := fun_mk (st := sGetL) lx14 cox14 kx14
  have bx14 := Fx14.binds (ps := ["self"]) fun _ _ _ _ _ _ us hl => match us, hl with | [_], _ => rfl
  have Fx15 := fun_mk (st := sGetM) lx15 cox15 kx15
  have bx15 := Fx15.binds (ps := ["self"]) fun _ _ _ _ _ _ us hl => match us, hl with | [_], _ => rfl
  have Fx16 := fun_mk (st := sGetS) lx16 cox16 kx16
  have bx16 := Fx16.binds (ps := ["self"]) fun _ _ _ _ _ _ us hl => match us, hl with | [_], _ => rfl
  have Fx17 := fun_mk (st := sJoin) lx17 cox17 kx17
  have bx17 := Fx17.binds (ps := ["self", "other", "kind"]) fun _ _ _ _ _ _ us hl => match us, hl with | [_, _, _], _ => rfl
  have Fx18 := fun_mk (st := sCPl) lx18 cox18 kx18
  have bx18 := Fx18.binds (ps := ["place", "low", "high"]) fun _ _ _ _ _ _ us hl => match us, hl with | [_, _, _], _ => rfl
  have gx18 := PySem.W.mg_of X G ax18
  have Fx19 := fun_mk (st := sPart) lx19 cox19 kx19
  have bx19 := Fx19.binds (ps := ["self", "begin", "end"]) fun _ _ _ _ _ _ us hl => match us, hl with | [_, _, _], _ => rfl
  have Fx20 := fun_mk (st := sCon) lx20 cox20 kx20
  have bx20 := Fx20.binds (ps := ["self", "place"]) fun _ _ _ _ _ _ us hl => match us, hl with | [_, _], _ => rfl
  have Fx21 := fun_mk (st := sKd) lx21 cox21 kx21
  have bx21 := Fx21.binds (ps := ["made", "place"]) fun _ _ _ _ _ _ us hl => match us, hl with | [_, _], _ => rfl
  have gx21 := PySem.W.mg_of X G ax21
  have Fx22 := fun_mk (st := sEq) lx22 cox22 kx22
  have bx22 := Fx22.binds (ps := ["self", "other"]) fun _ _ _ _ _ _ us hl => match us, hl with | [_, _], _ => rfl
  have Fx23 := fun_mk (st := sPr) lx23 cox23 kx23
  have bx23 := Fx23.binds (ps := ["jar", "made"]) fun _ _ _ _ _ _ us hl => match us, hl with | [_, _], _ => rfl
  have gx23 := PySem.W.mg_of X G ax23
  have Fx24 := fun_mk (st := sRepl) lx24 cox24 kx24
  have bx24 := Fx24.binds (ps := ["begin", "end", "length", "row_length"]) fun _ _ _ _ _ _ us hl => match us, hl with | [_, _, _, _], _ => rfl
  have gx24 := PySem.W.mg_of X G ax24
  have Fx25 := fun_mk (st := sChange) lx25 cox25 kx25
  have bx25 := Fx25.binds (ps := ["thing", "row_length"]) fun _ _ _ _ _ _ us hl => match us, hl with | [_, _], _ => rfl
  have gx25 := PySem.W.mg_of X G ax25
  have Fx26 := fun_mk (st := sReplaced) lx26 cox26 kx26
  have bx26 := Fx26.binds (ps := ["old", "new", "change", "new_length"]) fun _ _ _ _ _ _ us hl => match us, hl with | [_, _, _, _], _ => rfl
  have gx26 := PySem.W.mg_of X G ax26
  have Fx27 := fun_mk (st := sParts) lx27 cox27 kx27
  have bx27 := Fx27.binds (ps := ["row", "change"]) fun _ _ _ _ _ _ us hl => match us, hl with | [_, _], _ => rfl
  have gx27 := PySem.W.mg_of X G ax27
  have Fx28 := fun_mk (st := sChanged) lx28 cox28 kx28
  have bx28 := Fx28.binds (ps := ["self", "change"]) fun _ _ _ _ _ _ us hl => match us, hl with | [_, _], _ => rfl
  have Fx29 := fun_mk (st := sChr) lx29 cox29 kx29
  have bx29 := Fx29.binds (ps := ["jar", "made", "fresh"]) fun _ _ _ _ _ _ us hl => match us, hl with | [_, _, _], _ => rfl
  have gx29 := PySem.W.mg_of X G ax29
  have Fx30 := fun_mk (st := sCI) lx30 cox30 kx30
  have bx30 := Fx30.binds (ps := ["self", "places"]) fun _ _ _ _ _ _ us hl => match us, hl with | [_, _], _ => rfl
  have Fx31 := fun_mk (st := sWith) lx31 cox31 kx31
  have bx31 := Fx31.binds (ps := ["self", "places", "is_strict"]) fun _ _ _ _ _ _ us hl => match us, hl with | [_, _, _], _ => rfl
  have Fx32 := fun_mk (st := sWout) lx32 cox32 kx32
  have bx32 := Fx32.binds (ps := ["self", "places"]) fun _ _ _ _ _ _ us hl => match us, hl with | [_, _], _ => rfl
  have Fx33 := fun_mk (st := sRt) lx33 cox33 kx33
  have bx33 := Fx33.binds (ps := ["jar", "one", "two", "three"]) fun _ _ _ _ _ _ us hl => match us, hl with | [_, _, _, _], _ => rfl
  have gx33 := PySem.W.mg_of X G ax33
  have FLW := fun_mk (st := sL) lLW coLW kLW
  have gLW := PySem.W.mg_of X G aLW
  refine ⟨PySem.W.fnOf "law" "law" (defArgs sL) (defBody sL) (defScope sL) .none kVLW dcLW pmLW anLW cdLW ctLW, fun s v => .of_eq rfl, fun base _ _ => ?_⟩
  have Gx0 := ok_jar (P := l.prog) (w := w) (K := K) (mg := mg) (base := base) Fx0 T
  have Gx1 := ok_dip (P := l.prog) (w := w) (K := K) (mg := mg) (base := base) Fx1 T
  have Gx2 := ok_three (P := l.prog) (w := w) (K := K) (mg := mg) (base := base) Fx2 gx1 kx1 bx1 Gx1
  have Gx3 := ok_small (P := l.prog) (w := w) (K := K) (mg := mg) (base := base) Fx3 T gx1 kx1 bx1 Gx1 gx2 kx2 bx2 Gx2
  have Gx4 := ok_great (P := l.prog) (w := w) (K := K) (mg := mg) (base := base) Fx4 T gx1 kx1 bx1 Gx1 gx2 kx2 bx2 Gx2
  have Gx5 := ok_int (P := l.prog) (w := w) (K := K) (mg := mg) (base := base) Fx5 T
  have Gx6 := ok_places (P := l.prog) (w := w) (K := K) (mg := mg) (base := base) Fx6 T gx5 kx5 bx5 Gx5
  have Gx7 := ok_asc (P := l.prog) (w := w) (K := K) (mg := mg) (base := base) Fx7 T gx6 kx6 bx6 Gx6
  have Gx8 := ok_marks (P := l.prog) (w := w) (K := K) (mg := mg) (base := base) Fx8 T (PySem.W.mg_of X G a_MOST_MARKS) gx7 kx7 bx7 Gx7
  have Gx9 := ok_some (P := l.prog) (w := w) (K := K) (mg := mg) (base := base) Fx9 T gx7 kx7 bx7 Gx7
  have Gx10 := ok_init (P := l.prog) (w := w) (K := K) (mg := mg) (base := base) Fx10 T R gx5 kx5 bx5 Gx5 gx8 kx8 bx8 Gx8 gx9 kx9 bx9 Gx9
  have Gx11 := ok_heap (P := l.prog) (w := w) (K := K) (mg := mg) (base := base) Fx11 R M bx10 Gx10
  have Gx12 := ok_ks (P := l.prog) (w := w) (K := K) (mg := mg) (base := base) Fx12 gx1 kx1 bx1 Gx1
  have Gx13 := ok_shift (P := l.prog) (w := w) (K := K) (mg := mg) (base := base) Fx13
  have Gx14 := ok_getL (P := l.prog) (w := w) (K := K) (mg := mg) (base := base) Fx14 R
  have Gx15 := ok_getM (P := l.prog) (w := w) (K := K) (mg := mg) (base := base) Fx15 T R
  have Gx16 := ok_getS (P := l.prog) (w := w) (K := K) (mg := mg) (base := base) Fx16 T R
  have Gs : Gets l.prog w K mg base C pL fx14 pM fx15 pS fx16 _ _ _ := ⟨⟨apL, gpL, tpL, ⟨restpL, rpL⟩⟩, bx14, Gx14, ⟨apM, gpM, tpM, ⟨restpM, rpM⟩⟩, bx15, Gx15, ⟨apS, gpS, tpS, ⟨restpS, rpS⟩⟩, bx16, Gx16⟩
  have Gx17 := ok_join (P := l.prog) (w := w) (K := K) (mg := mg) (base := base) Fx17 R M Gs (PySem.W.mg_of X G aKN) hKN gx13 kx13 bx13 Gx13 bx10 Gx10
  have Gx18 := ok_pl (P := l.prog) (w := w) (K := K) (mg := mg) (base := base) Fx18 gx5 kx5 bx5 Gx5
  have Gx19 := ok_part (P := l.prog) (w := w) (K := K) (mg := mg) (base := base) Fx19 R M gx18 kx18 bx18 Gx18 bx10 Gx10
  have Gx20 := ok_con (P := l.prog) (w := w) (K := K) (mg := mg) (base := base) Fx20 R gx5 kx5 bx5 Gx5
  have Gx21 := ok_kd (P := l.prog) (w := w) (K := K) (mg := mg) (base := base) Fx21 R Gs ⟨ax20, ix20, kx20⟩ bx20 Gx20
  have Gx22 := ok_eq (P := l.prog) (w := w) (K := K) (mg := mg) (base := base) Fx22 T R N
  have Z : Eqs l.prog w K mg base C fx22 _ := ⟨Gx22, cm, en, ax22, ix22, bx22⟩
  have Gx23 := ok_pr (P := l.prog) (w := w) (K := K) (mg := mg) (base := base) Fx23 T R Gs Z gx1 kx1 bx1 Gx1 ⟨ax19, ix19, kx19⟩ bx19 Gx19 ⟨ax17, ix17, kx17⟩ bx17 Gx17 gx21 kx21 bx21 Gx21
  have Gx24 := ok_repl (P := l.prog) (w := w) (K := K) (mg := mg) (base := base) Fx24 T gx5 kx5 bx5 Gx5
  have Gx25 := ok_change (P := l.prog) (w := w) (K := K) (mg := mg) (base := base) Fx25 T gx24 kx24 bx24 Gx24 gx8 kx8 bx8 Gx8 gx9 kx9 bx9 Gx9
  have Gx26 := ok_replaced (P := l.prog) (w := w) (K := K) (mg := mg) (base := base) Fx26 gx13 kx13 bx13 Gx13
  have Gx27 := ok_parts (P := l.prog) (w := w) (K := K) (mg := mg) (base := base) Fx27 R Gs gx26 kx26 bx26 Gx26
  have Gx28 := ok_changed (P := l.prog) (w := w) (K := K) (mg := mg) (base := base) Fx28 R M gx25 kx25 bx25 Gx25 gx27 kx27 bx27 Gx27 bx10 Gx10
  have Gx29 := ok_chr (P := l.prog) (w := w) (K := K) (mg := mg) (base := base) Fx29 T R Gs Z gx1 kx1 bx1 Gx1 gx12 kx12 bx12 Gx12 ⟨ax19, ix19, kx19⟩ bx19 Gx19 ⟨ax17, ix17, kx17⟩ bx17 Gx17 ⟨ax28, ix28, kx28⟩ bx28 Gx28 gx21 kx21 bx21 Gx21
  have Gx30 := ok_ci (P := l.prog) (w := w) (K := K) (mg := mg) (base := base) Fx30 R gx6 kx6 bx6 Gx6
  have Gx31 := ok_with (P := l.prog) (w := w) (K := K) (mg := mg) (base := base) Fx31 T R M ⟨ax30, ix30, kx30⟩ bx30 Gx30 bx10 Gx10
  have Gx32 := ok_wout (P := l.prog) (w := w) (K := K) (mg := mg) (base := base) Fx32 T R M ⟨ax30, ix30, kx30⟩ bx30 Gx30 bx10 Gx10
  have Gx33 := ok_rt (P := l.prog) (w := w) (K := K) (mg := mg) (base := base) Fx33 T R Gs Z gx1 kx1 bx1 Gx1 gx12 kx12 bx12 Gx12 ⟨ax17, ix17, kx17⟩ bx17 Gx17 gx23 kx23 bx23 Gx23 gx29 kx29 bx29 Gx29 ⟨ax31, ix31, kx31⟩ bx31 Gx31 ⟨ax32, ix32, kx32⟩ bx32 Gx32
  exact ok_law (P := l.prog) (w := w) (K := K) (mg := mg) (base := base) FLW T R M bx10 Gx10 Gs Z gx0 kx0 bx0 Gx0 gx3 kx3 bx3 Gx3 gx4 kx4 bx4 Gx4 gx11 kx11 bx11 Gx11 gx33 kx33 bx33 Gx33 ⟨ax17, ix17, kx17⟩ bx17 Gx17 ⟨ax19, ix19, kx19⟩ bx19 Gx19
theorem walk_here {l : PySem.W.OpenLaw} {q : Program} {loose : List Str} {XP : (Str → Option Value) → Heap → Prop} {YP : World → Heap → Prop} {d : DefRec} {K : Params → PySem.W.Frag} (hn : l.most = some 63) (hdf : d.params.defaults = [])
    (hY : ∀ (w : World) (h : Heap), YP w h → (K w.params).In h)
    (F : ∀ (w : World) (mg : Str → Option Value) (fa : Addr) (h : Heap), (K w.params).In h → h.Ns mainGlobals mg → mg d.name = some (.ref fa) →
      ∃ fd : FuncData, (∀ (s : Shared) (u : Value), BindsTo s fd ⟨[u], []⟩ [("script", u)]) ∧ ∀ base : Heap, (K w.params).In base → base.Ns mainGlobals mg → FnG l.prog w (K w.params) mg base 10 fa fd ["script"] (spLaw (K w.params))) :
    PySem.W.WalkO q loose XP YP l.row.toRowW d [] (fun f vs => PySem.call f vs) :=
  walkG (n := 63) (k := 10) (x := "script") (sp := fun w => spLaw (K w.params)) hn (by decide) hdf ⟨rfl, by decide, by decide⟩ hY F fun _ _ a ns hl _ hS => ⟨a, ns, rfl, hS, hl, fun _ => rfl⟩
end Cw
open PySem PySem.W PyProof.Rows
set_option maxRecDepth 100000 in
set_option maxHeartbeats 0 in
theorem PySem.Challenge.cw_cutwalks_k07_whole_rows_there_and_back_holds : PySem.Challenge.rw_cutwalks_k07_whole_rows_there_and_back.Holds := by
  w_on; o_law; k_head; (case hw => w_witness2)
  k_fill
  refine Cw.walk_here (l := PySem.Challenge.rw_cutwalks_k07_whole_rows_there_and_back) rfl rfl (fun w h Y => PySem.W.kIn_of Y) ?F
  case F =>
    intro w mg fa h KX G hmg
    refine' Cw.all_mk KX G hmg ?aC ?a_MOST_MARKS ?n_int ?n_bool ?n_list ?n_tuple ?n_range ?n_len ?n_abs ?n_all ?n_isinstance ?n_zip ?n_max ?n_min ?n_set ?n_sorted ?n_dict ?aKN ?lKN ?ax0 ?lx0 ?cox0 ?kx0 ?ax1 ?lx1 ?cox1 ?kx1 ?ax2 ?lx2 ?cox2 ?kx2 ?ax3 ?lx3 ?cox3 ?kx3 ?ax4 ?lx4 ?cox4 ?kx4 ?ax5 ?lx5 ?cox5 ?kx5 ?ax6 ?lx6 ?cox6 ?kx6 ?ax7 ?lx7 ?cox7 ?kx7 ?ax8 ?lx8 ?cox8 ?kx8 ?ax9 ?lx9 ?cox9 ?kx9 ?ax10 ?ix10 ?lx10 ?cox10 ?kx10 ?ax11 ?lx11 ?cox11 ?kx11 ?ax12 ?lx12 ?cox12 ?kx12 ?ax13 ?lx13 ?cox13 ?kx13 ?apL ?gpL ?tpL ?rpL ?lx14 ?cox14 ?kx14 ?apM ?gpM ?tpM ?rpM ?lx15 ?cox15 ?kx15 ?apS ?gpS ?tpS ?rpS ?lx16 ?cox16 ?kx16 ?ax17 ?ix17 ?lx17 ?cox17 ?kx17 ?ax18 ?lx18 ?cox18 ?kx18 ?ax19 ?ix19 ?lx19 ?cox19 ?kx19 ?ax20 ?ix20 ?lx20 ?cox20 ?kx20 ?ax21 ?lx21 ?cox21 ?kx21 ?ax22 ?ix22 ?lx22 ?cox22 ?kx22 ?ax23 ?lx23 ?cox23 ?kx23 ?ax24 ?lx24 ?cox24 ?kx24 ?ax25 ?lx25 ?cox25 ?kx25 ?ax26 ?lx26 ?cox26 ?kx26 ?ax27 ?lx27 ?cox27 ?kx27 ?ax28 ?ix28 ?lx28 ?cox28 ?kx28 ?ax29 ?lx29 ?cox29 ?kx29 ?ax30 ?ix30 ?lx30 ?cox30 ?kx30 ?ax31 ?ix31 ?lx31 ?cox31 ?kx31 ?ax32 ?ix32 ?lx32 ?cox32 ?kx32 ?ax33 ?lx33 ?cox33 ?kx33 ?aLW ?lLW ?coLW ?kLW ?pg ?hd ?po ?sa ?mk ?kc ?nL ?nM ?nS ?kt ?ca ?cn ?ct ?cm ?en
    (case aC => k_is)
    (case a_MOST_MARKS => k_is)
    (case n_int => k_is)
    (case n_bool => k_is)
    (case n_list => k_is)
    (case n_tuple => k_is)
    (case n_range => k_is)
    (case n_len => k_is)
    (case n_abs => k_is)
    (case n_all => k_is)
    (case n_isinstance => k_is)
    (case n_zip => k_is)
    (case n_max => k_is)
    (case n_min => k_is)
    (case n_set => k_is)
    (case n_sorted => k_is)
    (case n_dict => k_is)
    (case aKN => k_is)
    (case lKN => k_is)
    (case ax0 => k_is)
    (case lx0 => k_is)
    (case cox0 => k_is)
    (case kx0 => k_is)
    (case ax1 => k_is)
    (case lx1 => k_is)
    (case cox1 => k_is)
    (case kx1 => k_is)
    (case ax2 => k_is)
    (case lx2 => k_is)
    (case cox2 => k_is)
    (case kx2 => k_is)
    (case ax3 => k_is)
    (case lx3 => k_is)
    (case cox3 => k_is)
    (case kx3 => k_is)
    (case ax4 => k_is)
    (case lx4 => k_is)
    (case cox4 => k_is)
    (case kx4 => k_is)
    (case ax5 => k_is)
    (case lx5 => k_is)
    (case cox5 => k_is)
    (case kx5 => k_is)
    (case ax6 => k_is)
    (case lx6 => k_is)
    (case cox6 => k_is)
    (case kx6 => k_is)
    (case ax7 => k_is)
    (case lx7 => k_is)
    (case cox7 => k_is)
    (case kx7 => k_is)
    (case ax8 => k_is)
    (case lx8 => k_is)
    (case cox8 => k_is)
    (case kx8 => k_is)
    (case ax9 => k_is)
    (case lx9 => k_is)
    (case cox9 => k_is)
    (case kx9 => k_is)
    (case ax10 => k_is)
    (case ix10 => k_is)
    (case lx10 => k_is)
    (case cox10 => k_is)
    (case kx10 => k_is)
    (case ax11 => k_is)
    (case lx11 => k_is)
    (case cox11 => k_is)
    (case kx11 => k_is)
    (case ax12 => k_is)
    (case lx12 => k_is)
    (case cox12 => k_is)
    (case kx12 => k_is)
    (case ax13 => k_is)
    (case lx13 => k_is)
    (case cox13 => k_is)
    (case kx13 => k_is)
    (case apL => k_is)
    (case gpL => first | k_is | kernel_rfl)
    (case tpL => first | k_is | kernel_rfl)
    (case rpL => k_is)
    (case lx14 => k_is)
    (case cox14 => k_is)
    (case kx14 => k_is)
    (case apM => k_is)
    (case gpM => first | k_is | kernel_rfl)
    (case tpM => first | k_is | kernel_rfl)
    (case rpM => k_is)
    (case lx15 => k_is)
    (case cox15 => k_is)
    (case kx15 => k_is)
    (case apS => k_is)
    (case gpS => first | k_is | kernel_rfl)
    (case tpS => first | k_is | kernel_rfl)
    (case rpS => k_is)
    (case lx16 => k_is)
    (case cox16 => k_is)
    (case kx16 => k_is)
    (case ax17 => k_is)
    (case ix17 => k_is)
    (case lx17 => k_is)
    (case cox17 => k_is)
    (case kx17 => k_is)
    (case ax18 => k_is)
    (case lx18 => k_is)
    (case cox18 => k_is)
    (case kx18 => k_is)
    (case ax19 => k_is)
    (case ix19 => k_is)
    (case lx19 => k_is)
    (case cox19 => k_is)
    (case kx19 => k_is)
    (case ax20 => k_is)
    (case ix20 => k_is)
    (case lx20 => k_is)
    (case cox20 => k_is)
    (case kx20 => k_is)
    (case ax21 => k_is)
    (case lx21 => k_is)
    (case cox21 => k_is)
    (case kx21 => k_is)
    (case ax22 => k_is)
    (case ix22 => k_is)
    (case lx22 => k_is)
    (case cox22 => k_is)
    (case kx22 => k_is)
    (case ax23 => k_is)
    (case lx23 => k_is)
    (case cox23 => k_is)
    (case kx23 => k_is)
    (case ax24 => k_is)
    (case lx24 => k_is)
    (case cox24 => k_is)
    (case kx24 => k_is)
    (case ax25 => k_is)
    (case lx25 => k_is)
    (case cox25 => k_is)
    (case kx25 => k_is)
    (case ax26 => k_is)
    (case lx26 => k_is)
    (case cox26 => k_is)
    (case kx26 => k_is)
    (case ax27 => k_is)
    (case lx27 => k_is)
    (case cox27 => k_is)
    (case kx27 => k_is)
    (case ax28 => k_is)
    (case ix28 => k_is)
    (case lx28 => k_is)
    (case cox28 => k_is)
    (case kx28 => k_is)
    (case ax29 => k_is)
    (case lx29 => k_is)
    (case cox29 => k_is)
    (case kx29 => k_is)
    (case ax30 => k_is)
    (case ix30 => k_is)
    (case lx30 => k_is)
    (case cox30 => k_is)
    (case kx30 => k_is)
    (case ax31 => k_is)
    (case ix31 => k_is)
    (case lx31 => k_is)
    (case cox31 => k_is)
    (case kx31 => k_is)
    (case ax32 => k_is)
    (case ix32 => k_is)
    (case lx32 => k_is)
    (case cox32 => k_is)
    (case kx32 => k_is)
    (case ax33 => k_is)
    (case lx33 => k_is)
    (case cox33 => k_is)
    (case kx33 => k_is)
    (case aLW => k_is)
    (case lLW => k_is)
    (case coLW => k_is)
    (case kLW => k_is)
    (case pg => k_is)
    (case hd => k_is)
    (case po => k_is)
    (case sa => k_is)
    (case mk => k_is)
    (case kc => k_is)
    (case nL => k_is)
    (case nM => k_is)
    (case nS => k_is)
    (case kt => first | k_is | kernel_rfl)
    (case ca => first | k_is | kernel_rfl)
    (case cn => first | k_is | kernel_rfl)
    (case ct => first | k_is | kernel_rfl)
    (case cm => first | k_is | kernel_rfl)
    (case en => first | k_is | kernel_rfl)
#print axioms PySem.Challenge.cw_cutwalks_k07_whole_rows_there_and_back_holds
