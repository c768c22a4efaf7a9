import PyProof.Rows.All
import Wide.All
import OpenK.AllK
import Wide.FinOn
import HandS.ForMost
import HandS.Strs
import HandS.SetFor
import HandS.SortKw
import KE.DataMinMax
import HandS.OwnEq
import PyProof.InstNe
import HandS.IsInst
import HandS.Walk
import HandS.Exc
import PySem.Challenge.RW_cutwalks_k11_settings_by_trying
import HandS.Property
import HandS.WideBits
import HandS.Flt
import PyProof.MaxThree
import PyProof.SeqI3
import HandS.Style
import HandS.Words
import PyProof.ReprRoads
import HandS.Deep
import HandS.RaiseMore
import HandS.TupSets
import HandS.SortInts
import HandS.Flow
import HandS.Conv
set_option Elab.async false
set_option maxRecDepth 100000
set_option maxHeartbeats 8000000
namespace Cw
open PySem PySem.Spec PyProof.Rows L2
/-! ## set(xs) of a list of nts -/
section
variable {P : Program} {w : World} {A : Around} {E : Value → Shared → Prop} {s : Shared}
abbrev newS (w : World) : Obj := { cls := .type "set", dict := none, data := .set #[] 0 (.fresh 0 0 (!w.params.followText "set-order")) }
theorem set_list {l : Addr} {its : Array Value} (ns : List Int) {Q : Value → Shared → Prop} (hand : A.handled = none) (isl : s.heap.IsList l its) (nts : IntsAre its.toList ns) (room : ns.length + 1 < scanBound)
    (q : ∀ (g' : Heap) (tk c : Nat), SetR w g' s.heap.objs.size (fun j => decide (j ∈ ns)) c → c ≤ ns.length → (∀ b o, s.heap.get? b = some o → g'.get? b = some o) → Q (.ref s.heap.objs.size) { s with heap := g', toks := tk }) :
    wpAny (model P w) A (call (.type "set") [.ref l]) Q E s := by
  have len : its.size = ns.length := by rw [← IntsAre.length nts, Array.length_toList]
  obtain ⟨c, tl, hmro⟩ := F.called_set.mro; have hmade := F.called_set.made; have hsub := F.called_set.sub
  refine wpAny_call (codeAny_of_tree ?_); show wpAny _ _ (callAny (.type "set") _) _ _ _
  refine wpAny_pure ⟨Code.quiet_builtin _ (by decide +kernel), codeAny_builtin F.entry_type_call ?_⟩; rw [Around.under_plain (weight_type_call_type "set" [.ref l] []) rfl]
  have h1 := F.called_set.notType; have h2 := F.called_set.canCreate; have hct := F.typeCall_set_1 (.ref l)
  repeat (any_goals (first | assumption | wp_step))
  refine codeAny_mono (code_set_led1 (.ref l) (E := E) (Q₁ := fun ob t₁ => ob = .ref s.heap.objs.size ∧ t₁ = { s with heap := s.heap.push (newS w) }) ⟨rfl, rfl⟩) fun r t₁ hr => ?_
  cases r with
  | error e => exact hr
  | ok fl =>
    cases fl with
    | ret ob =>
      obtain ⟨rfl, rfl⟩ := hr
      have at0 : (s.heap.push (newS w)).get? s.heap.objs.size = some (newS w) := Heap.get?_push_size _ rfl
      have ty0 : Shared.TypeIs { s with heap := s.heap.push (newS w) } (.ref s.heap.objs.size) "set" := ⟨_, at0, rfl⟩
      have hli := F.called_set.init.lookup; have hbi := F.called_set.init.bind (.ref s.heap.objs.size)
      repeat (any_goals (first | assumption | wp_step))
      refine codeAny_mono (codeAny_call_builtin (R := wants (fun r t₂ => r = .none ∧ ∃ g' tk c, t₂ = { s with heap := g', toks := tk } ∧ SetR w g' s.heap.objs.size (fun j => decide (j ∈ ns)) c ∧ c ≤ ns.length ∧ (∀ b o, s.heap.get? b = some o → g'.get? b = some o)) E)
        F.called_set.init.plain F.entry_set_init (check_set_init_1 ty0 ?_)) fun r₂ t₂ hr₂ => ?_
      · obtain ⟨ol, lo, lc, nl, ld⟩ := isl
        obtain ⟨oc, odi, oda, osl⟩ := ol
        simp only at lc ld; subst lc; subst ld
        have lo' : (s.heap.push (newS w)).get? l = some { cls := .type "list", dict := odi, data := .seq its nl, slots := osl } := Heap.get?_push_of_some _ lo
        have u1 := F.sub_list_set; have u2 := F.sub_list_frozenset
        have u3 : (Value.type "list" == Value.type "dict") = false := by decide
        have il : (s.heap.push (newS w)).IsList l its := ⟨_, lo', rfl, nl, rfl⟩
        unfold Builtin.«set.__init__» noKeywords Builtin.Frozenset.updateFrom
        generalize hPI : pyIter = PI; wp_walk; subst hPI
        refine wpAny_pyIter_list il ?_; refine wpAny_bind (wpAny_runValue ?_)
        have lt : l < s.heap.objs.size := Heap.lt_size lo
        have hand3 : A.in1.in1.in1.handled = none := by simp [hand]
        have ne1 : l ≠ (s.heap.push (newS w)).objs.size := by rw [Heap.size_push]; exact Nat.ne_of_lt (Nat.lt_succ_of_lt lt)
        have nin : s.heap.objs.size ∉ [(s.heap.push (newS w)).objs.size, l] := by
          rw [Heap.size_push]
          simp only [List.mem_cons, List.mem_singleton, List.not_mem_nil, or_false, not_or]
          exact ⟨Nat.ne_of_lt (Nat.lt_succ_self _), Nat.ne_of_gt lt⟩
        have val : ∀ (i : Nat) (v : Value), its[i]? = some v → ∃ k t, ns[i]? = some k ∧ v = .int k t := fun i v hv => by
          have hi : i < ns.length := by rw [← len]; exact (Array.getElem?_eq_some_iff.mp hv).1
          obtain ⟨t, e⟩ := PyProof.Rows.IntsAre.int_at nts i v (by rw [Array.getElem?_toList]; exact hv)
          exact ⟨ns[i], t, List.getElem?_eq_getElem hi, by rw [e, List.getD_eq_getElem?_getD, List.getElem?_eq_getElem hi] <;> rfl⟩
        refine set_update_ints ((Walks.list hand3 _ l ne1 its).toS) s.heap.objs.size nin ns len room val (its.size - 0) 0 _ (by omega) (Nat.zero_le _) ⟨⟨_, Heap.get?_push_size _ rfl, rfl, rfl⟩, (il.push _)⟩ ?z0 ?zR
        case z0 => exact ⟨0, Nat.le_refl 0, setR_new_at (Heap.get?_push_of_some _ at0)⟩
        case zR =>
          intro t' c' hm hc' hS'
          obtain ⟨g', g2, d', tk', os'⟩ := t'
          have eg : g2 = s.gens := hm.gens; have ed : d' = s.drawn := hm.drawn; have eo : os' = s.os := hm.os
          subst eg; subst ed; subst eo
          show wpAny _ _ _ _ _ _
          refine wpAny_pure ?_; show wpAny _ _ (ret Value.none) _ _ _
          rw [len] at hc'
          refine wpAny_pure ⟨rfl, g', tk', c', rfl, hS', hc', fun b o e => ?_⟩
          have b0 : b < s.heap.objs.size := Heap.lt_size e
          have b2 : b ≠ (s.heap.push (newS w)).objs.size := by rw [Heap.size_push]; exact Nat.ne_of_lt (Nat.lt_succ_of_lt b0)
          exact hm.heap b o (by simp only [List.mem_cons, List.mem_singleton, List.not_mem_nil, or_false, not_or]; exact ⟨Nat.ne_of_lt b0, b2⟩) (Heap.get?_push_of_some _ (Heap.get?_push_of_some _ e))
      · cases r₂ with
        | error e => exact hr₂
        | ok fl₂ =>
          cases fl₂ with
          | ret r =>
            obtain ⟨rfl, g', tk, c', rfl, hS', hc', hk'⟩ := hr₂
            repeat (any_goals (first | assumption | wp_step))
            exact q _ _ _ hS' hc' hk'
          | _ => exact hr₂.elim
    | _ => exact hr.elim
end
section
variable {P : Program} {w : World} {A : Around} {E : Value → Shared → Prop} {s : Shared}
theorem entry_sub : entryFor table "set.__sub__" = some Builtin.«frozenset.__sub__» := entryFor_alias (id' := "frozenset.__sub__") (by kernel_rfl) rfl (by decide +kernel) (by kernel_rfl)
theorem sub_form (a b : Value) : Builtin.«frozenset.__sub__» ⟨[a, b], []⟩ = (do
    let p ← Builtin.Frozenset.slot1 "__sub__" ⟨[a, b], []⟩
    if !(← (Builtin.Frozenset.isAnySet p.1 <&&> Builtin.Frozenset.isAnySet p.2)) then
      rule "frozenset.__sub__.declined"
      ret .notImplemented
    else ret (← Builtin.Frozenset.difference "frozenset.__sub__" (← Builtin.Frozenset.addrOf p.1) p.2)) := by
  rfl
variable {a b : Addr} {S T : Int → Bool} {n m : Nat}
theorem isSet_at {s : Shared} {Q : Bool → Shared → Prop} {a : Addr} (ty : s.TypeIs (.ref a) "set") (q : Q true s) : wpAny (model P w) A (Builtin.Frozenset.isAnySet (.ref a)) Q E s := by
  unfold Builtin.Frozenset.isAnySet isInstance
  have z := sub_set_self
  wp_walk
  exact q
/-- what is walked: all of the set's members -/
def Mem (xs : Array (Int × Value)) (S : Int → Bool) : Prop := ∀ e ∈ xs.toList, GoodE e ∧ S (keyOf e) = true
section
variable {o : Obj} {es : Array (Int × Value)} {ep : Nat} {t : SetTable}
theorem walk_at (ho : s.heap.get? a = some o) (hd : o.data = .set es ep t) (hf : t.fits es.size = true) (hl : w.params.followText "set-order" = true ∨ t.led = true) (hp : w.params.followText "set-order" = true ∨ (!t.plain && decide (es.size > 1)) = false)
    {Q : Array (Int × Value) → Shared → Prop} (q : ∀ xs, (∀ e ∈ xs.toList, e ∈ es.toList) → Q xs s) : wpAny (model P w) A (setWalk a) Q E s := by
  unfold setWalk
  refine wpAny_bind (wpAny_setState_of ho hd hf ?_)
  dsimp only
  refine wpAny_bind (wpAny_byText ?_)
  by_cases c : w.params.followText "set-order" = true
  · refine wp_if_pos c ?_
    refine wpAny_bind (wpAny_askSetting (wpAny_pure (q _ fun e he => ?_)))
    exact (pick_perm _ es).mem_iff.mp he
  · refine wp_if_neg c ?_
    have p1 := hp.resolve_left c
    have p2 := hl.resolve_left c
    try refine wpAny_bind (wpAny_pure ?_)
    refine wp_if_neg (by show ¬ ((!t.plain && decide (es.size > 1)) = true); rw [p1]; exact Bool.false_ne_true) ?_
    try refine wpAny_bind (wpAny_pure ?_)
    refine wpAny_bind (wpAny_of_eq (a := ()) ?_ (wpAny_pure (q es fun _ h => h)))
    show (if (!t.led && decide (es.size > 1)) = true then unsupported "set:maker-not-led" else pure ()) = pure ()
    rw [p2]
    rfl
end
theorem forIn_keep {α β : Type} {M : Model} {f : α → β → Sem (ForInStep β)} {b : β} (I : Shared → Prop) : ∀ (l : List α) {s : Shared} {Q : β → Shared → Prop},
    (∀ x ∈ l, ∀ (s : Shared) (Q' : ForInStep β → Shared → Prop), I s → (∀ s', I s' → Q' (.yield b) s') → wpAny M A (f x b) Q' E s) → I s → (∀ s', I s' → Q b s') → wpAny M A (forIn l b f) Q E s
  | [], s, Q, _, i, q => by
    rw [List.forIn_nil]
    exact wpAny_pure (q s i)
  | x :: l, s, Q, h, i, q => by
    rw [List.forIn_cons]
    exact wpAny_bind (h x (List.mem_cons_self ..) s _ i fun s' i' => forIn_keep I l (fun y hy => h y (List.mem_cons_of_mem _ hy)) i' q)
theorem forIn_keepA {α β : Type} {M : Model} {f : α → β → Sem (ForInStep β)} {b : β} (I : Shared → Prop) (l : Array α) {s : Shared} {Q : β → Shared → Prop}
    (h : ∀ x ∈ l.toList, ∀ (s : Shared) (Q' : ForInStep β → Shared → Prop), I s → (∀ s', I s' → Q' (.yield b) s') → wpAny M A (f x b) Q' E s) (i : I s) (q : ∀ s', I s' → Q b s') : wpAny M A (forIn l b f) Q E s := by
  rw [← Array.forIn_toList]
  exact forIn_keep I l.toList h i q
theorem quiet_at : ∀ (l : List Addr) {s : Shared} {Q : Bool → Shared → Prop}, (∀ c ∈ l, ∃ S n, SetR w s.heap c S n) → Q true s → wpAny (model P w) A (setsQuiet l) Q E s := by
  intro l s Q h q
  unfold setsQuiet
  refine wpAny_bind (forIn_keep (fun s' => s' = s) l (fun c hc s' Q' hs k => ?_) rfl fun s' hs => ?_)
  · subst hs
    obtain ⟨S, n, o, es, ep, t, ho, hx, hd, g, nd, hm, hb, hf, _⟩ := h c hc
    refine wpAny_bind (wpAny_setEntries_of ho hd hf ?_)
    refine wpAny_bind (forIn_keepA (fun s'' => s'' = s') es (fun e he s'' Q'' hs k' => ?_) rfl fun s'' hs => ?_)
    · subst hs
      obtain ⟨i, tk, h1, h2⟩ := g e he
      obtain ⟨e1, e2⟩ := e
      dsimp only at h1
      subst h1
      exact wpAny_pure (k' _ rfl)
    · subst hs
      exact wpAny_pure (k _ rfl)
  · subst hs
    exact wpAny_pure q
/-- the set at a walked while the empty set at r is filled -/
theorem unseen_at {r : Addr} (R : SetR w s.heap a S n) (Rr : SetR w s.heap r (fun _ => false) 0) {l : List Addr} (hall : ∀ c ∈ a :: l, ∃ S n, SetR w s.heap c S n) {Q : Array (Int × Value) → Shared → Prop}
    (q : ∀ xs h', Mem xs S → (∀ c o, c ≠ r → s.heap.get? c = some o → h'.get? c = some o) → SetR w h' r (fun _ => false) 0 → Q xs { s with heap := h' }) : wpAny (model P w) A (setWalkUnseen a l (some r)) Q E s := by
  obtain ⟨o, es, ep, t, ho, hx, hd, g, nd, hm, hb, hf, hn, hr, hl⟩ := R
  have mem : ∀ xs : Array (Int × Value), (∀ e ∈ xs.toList, e ∈ es.toList) → Mem xs S := fun xs h e he => ⟨g e (h e he), (hm _).mpr (List.mem_map_of_mem (h e he))⟩
  unfold setWalkUnseen
  refine wpAny_bind (wpAny_setState_of ho hd hf ?_)
  dsimp only
  refine wpAny_bind (wpAny_byText ?_)
  by_cases c : (w.params.followText "set-order" || t.led && t.plain || decide (es.size ≤ 1)) = true
  · refine wp_if_pos c ?_
    refine walk_at ho hd hf hl ?_ fun xs h => ?_
    · simp only [Bool.or_eq_true, Bool.and_eq_true, decide_eq_true_eq] at c
      rcases c with (c | c) | c
      · exact .inl c
      · exact .inr (by rw [c.2]; rfl)
      · exact .inr (by rw [decide_eq_false (by omega), Bool.and_false])
    · exact q xs s.heap (mem xs h) (fun _ _ _ e => e) Rr
  · refine wp_if_neg c ?_
    try refine wpAny_bind (wpAny_pure ?_)
    refine wpAny_bind (quiet_at (a :: l) hall ?_)
    refine wp_if_neg (by decide) ?_
    try refine wpAny_bind (wpAny_pure ?_)
    refine wpAny_bind (wpAny_rule ?_)
    obtain ⟨o2, es2, ep2, t2, ho2, hx2, hd2, g2, nd2, hm2, hb2, hf2, hn2, hr2, hl2⟩ := Rr
    try dsimp only
    refine wpAny_bind (wpAny_setState_of ho2 hd2 hf2 ?_)
    dsimp only
    have nb : w.params.followText "set-order" = false := by
      cases z : w.params.followText "set-order" with
      | false => rfl
      | true => rw [z] at c; simp at c
    have l1 : t.led = true := hl.resolve_left (by rw [nb]; exact Bool.false_ne_true)
    have l2 : t2.led = true := hl2.resolve_left (by rw [nb]; exact Bool.false_ne_true)
    by_cases c2 : (t2.led && !t.led || t2.plain && !t.plain) = true
    · refine wp_if_pos c2 ?_
      refine wpAny_bind (wpAny_storeSet_of ho2 hd2 ?_ (fits_of_scanBound hb2))
      refine wpAny_pure (q es _ (mem es fun _ h => h) (fun y o' hy e => by rw [Heap.get?_update_other _ _ (Ne.symm hy)]; exact e) ?_)
      exact ⟨_, es2, _, _, store_at ho2 hd2, hx2, rfl, g2, nd2, hm2, hb2, by exact hf2, hn2, hr2, .inr (by rw [l1, l2]; rfl)⟩
    · refine wp_if_neg c2 ?_
      try refine wpAny_bind (wpAny_pure ?_)
      exact wpAny_pure (q es s.heap (mem es fun _ h => h) (fun _ _ _ e => e) ⟨o2, es2, ep2, t2, ho2, hx2, hd2, g2, nd2, hm2, hb2, hf2, hn2, hr2, hl2⟩)
theorem sub_none (R1 : SetR w s.heap a S n) (R2 : SetR w s.heap b T m) (sub : ∀ k, S k = true → T k = true) (le : n ≤ m) {Q : Value → Shared → Prop}
    (q : ∀ h', (∀ c o, s.heap.get? c = some o → h'.get? c = some o) → SetR w h' s.heap.objs.size (fun _ => false) 0 → Q (.ref s.heap.objs.size) { s with heap := h' }) : wpAny (model P w) A (binaryOp .Sub (.ref a) (.ref b)) Q E s := by
  have ta : s.TypeIs (.ref a) "set" := (R1.setOf (P := P)).typeIs
  have tb : s.TypeIs (.ref b) "set" := (R2.setOf (P := P)).typeIs
  refine wpAny_binaryOp_same (T := "set") ta tb F.fills_set_sub F.slot_set_sub ?_
  refine wpAny_call_entry F.slot_set_sub ta entry_sub ?_ (F.args_set_sub_2 _ _)
  rw [sub_form]
  unfold Builtin.Frozenset.slot1 slotArgs
  refine wpAny_bind (wpAny_bind (wpAny_of_eq (a := (Value.ref a, [Value.ref b])) rfl (wpAny_pure ?_)))
  dsimp only
  refine wpAny_bind (m := _ <&&> _) ?_
  unfold andM
  refine wpAny_bind (isSet_at ta ?_)
  show wpAny _ _ (Builtin.Frozenset.isAnySet (.ref b)) _ _ _
  refine isSet_at tb (wp_if_neg (by decide) ?_)
  refine wpAny_bind (wpAny_pure (wpAny_bind ?_))
  obtain ⟨o, es, ep, t, ho, hx, hd, g, nd, hm, hb, hf, hn, hr, hl⟩ := id R1
  obtain ⟨o2, es2, ep2, t2, ho2, hx2, hd2, g2, nd2, hm2, hb2, hf2, hn2, hr2, hl2⟩ := id R2
  unfold Builtin.Frozenset.difference
  dsimp only
  refine wpAny_bind (isSet_at tb ?_)
  refine wp_if_neg (by decide) ?_
  try refine wpAny_bind (m := Builtin.Frozenset.addrOf (.ref b)) (wpAny_pure ?_)
  refine wp_if_neg (by simp) ?_
  refine wp_if_pos rfl ?_
  unfold Builtin.Frozenset.sizeOf
  refine wpAny_bind (wpAny_bind (wpAny_setEntries_of ho2 hd2 hf2 (wpAny_pure ?_)))
  refine wpAny_bind (wpAny_bind (wpAny_setEntries_of ho hd hf (wpAny_pure ?_)))
  refine wp_if_neg (by rw [hn, hn2]; omega) ?_
  unfold Builtin.Frozenset.baseOf isInstance
  have z := sub_set_self
  obtain ⟨hp, gg, dr, tk, os⟩ := s
  wp_walk
  dsimp only at ho ho2 q R1 R2
  refine wpAny_askSetting (wpAny_pure ?_)
  simp only [newObj, if_true]
  refine wpAny_bind (wpAny_alloc (wpAny_pure ?_))
  dsimp only
  have k1 : ∀ c o, hp.get? c = some o → (hp.push (newS w)).get? c = some o := fun c o e => Heap.get?_push_of_some _ e
  have fr := setR_fresh (h := hp) w
  have na : a ≠ hp.objs.size := Nat.ne_of_lt (Heap.lt_size ho)
  have nb : b ≠ hp.objs.size := Nat.ne_of_lt (Heap.lt_size ho2)
  refine wpAny_bind (m := Builtin.Frozenset.addrOf (.ref hp.objs.size)) (wpAny_pure ?_)
  refine wpAny_bind (wpAny_setEpoch_of (k1 _ _ ho) hd hf ?_)
  refine wpAny_bind (wpAny_holding (wpAny_bind ?_))
  refine unseen_at (R1.at fun o e => k1 _ _ e) fr (fun c hc => ?_) fun xs h' hxs k2 R' => ?_
  · rcases List.mem_cons.mp hc with rfl | hc
    · exact ⟨_, _, R1.at fun o e => k1 _ _ e⟩
    rcases List.mem_cons.mp hc with rfl | hc
    · exact ⟨_, _, R2.at fun o e => k1 _ _ e⟩
    rcases List.mem_cons.mp hc with rfl | hc
    · exact ⟨_, _, fr⟩
    · cases hc
  · have k3 : ∀ c o, hp.get? c = some o → h'.get? c = some o := fun c o e => k2 c o (Nat.ne_of_lt (Heap.lt_size e)) (k1 c o e)
    refine wpAny_bind (forIn_keepA (fun s' => s' = ⟨h', gg, dr, tk, os⟩) xs (fun e he s' Q' hs kk => ?_) rfl fun s' hs => ?_)
    · subst hs
      obtain ⟨⟨i, ti, h1, h2⟩, h3⟩ := hxs e he
      obtain ⟨e1, e2⟩ := e
      dsimp only at h1 h2
      subst h1 h2
      refine wpAny_bind (wpAny_holding (wpAny_bind ?_))
      refine wpAny_setFind_of (knd := intKind P w) (k := i) (intKind_is P w i ti) rfl ((R2.at fun o e => k3 _ _ e).setOf (P := P)) fun r hr => ?_
      refine wpAny_bind (wpAny_pure ?_)
      have hs : r.isSome = true := by rw [hr]; exact sub i h3
      refine wp_if_neg (by rw [hs]; decide) ?_
      refine wpAny_pure ?_
      unfold Builtin.Frozenset.unchanged
      refine wpAny_bind (wpAny_bind (wpAny_setEpoch_of (k3 _ _ ho) hd hf ?_))
      refine wp_if_neg (by simp) (wpAny_pure (wpAny_pure (kk _ rfl)))
    · subst hs
      refine wpAny_pure (wpAny_pure (wpAny_pure ⟨_, rfl, (fun z => nomatch z), q h' k3 R'⟩))
end
end Cw
namespace Cw
open PySem PySem.Spec PyProof.Rows L2
theorem nodup_len : ∀ {l m : List Int}, l.Nodup → (∀ x ∈ l, x ∈ m) → l.length ≤ m.length
  | [], m, _, _ => Nat.zero_le _
  | x :: l, m, nd, h => by
    obtain ⟨nx, nd'⟩ := List.nodup_cons.mp nd
    have hx : x ∈ m := h x (List.mem_cons_self ..)
    have z := nodup_len (l := l) (m := m.erase x) nd' fun y hy => by
      have ne : y ≠ x := fun e => nx (by rw [← e]; exact hy)
      exact (List.mem_erase_of_ne ne).mpr (h y (List.mem_cons_of_mem _ hy))
    rw [List.length_erase_of_mem hx] at z
    have p : 0 < m.length := List.length_pos_of_mem hx
    rw [List.length_cons]
    omega
section
variable {X : Cx}
theorem setR_le {w : World} {h : Heap} {a b : Addr} {S T : Int → Bool} {n m : Nat} (R1 : SetR w h a S n) (R2 : SetR w h b T m) (sub : ∀ k, S k = true → T k = true) : n ≤ m := by
  obtain ⟨o, es, ep, t, ho, hx, hd, g, nd, hm, hb, hf, hn, _⟩ := R1
  obtain ⟨o2, es2, ep2, t2, ho2, hx2, hd2, g2, nd2, hm2, hb2, hf2, hn2, _⟩ := R2
  have z := nodup_len (l := es.toList.map keyOf) (m := es2.toList.map keyOf) nd fun x hx => (hm2 x).mp (sub x ((hm x).mpr hx))
  rw [List.length_map, List.length_map, Array.length_toList, Array.length_toList, hn, hn2] at z
  exact z
/-- set(xs) -/
def rSetOf (X : Cx) : List V → Hp → VK → Prop := fun xs H Q => ∃ (l : Addr) (ns : List Int), xs = [.ref l] ∧ SqL X.K H l (ns.map V.int) ∧ ns.length ≤ 4000 ∧ ∀ p c, c ≤ ns.length → H p = none → Q (.ref p) (upd H p (SetO X.w p (fun j => decide (j ∈ ns)) c))
theorem cr_setOf (hc : X.calm = true) : CallR X (.type "set") (rSetOf X) := by
  intro pins s σ H vs us Q I r h
  obtain ⟨l, ns, rfl, hs, hl, q⟩ := h
  obtain ⟨its, rv, pl, _⟩ := I.list hs
  rw [Vals.ref1 r]
  refine set_list (its := its.toArray) ns (I.ok.hd hc) pl.isList rv.ints (by show ns.length + 1 < 4096; omega) fun g' tk c R hc' k => ?_
  exact ⟨.ref s.heap.objs.size, _, I.laid (t' := tk) k (Nat.le_refl _) (setO_new R), rfl, q _ c hc' (I.hok.fresh (Nat.le_refl _))⟩
/-- a - b, all of a's being b's: a new empty set -/
def rSubN (w : World) : R2 := fun x y H Q => ∃ (a b : Addr) (S T : Int → Bool) (n m : Nat), x = .ref a ∧ y = .ref b ∧ H a = some (SetO w a S n) ∧ H b = some (SetO w b T m) ∧ (∀ k, S k = true → T k = true) ∧ ∀ p, H p = none → Q (.ref p) (upd H p (SetO w p (fun _ => false) 0))
theorem op_subN : OpR X (binaryOp .Sub) (rSubN X.w) := by
  intro pins s σ H x y v u Q I rx ry h
  obtain ⟨a, b, S, T, n, m, rfl, rfl, ha, hb, sub, q⟩ := h
  cases rx
  cases ry
  have R1 := setO_get I ha
  have R2 := setO_get I hb
  refine sub_none R1 R2 sub (setR_le R1 R2 sub) fun h' k R => ?_
  exact ⟨.ref s.heap.objs.size, _, I.laid (t' := s.toks) k (Nat.le_refl _) (setO_new R), rfl, q _ (I.hok.fresh (Nat.le_refl _))⟩
/-- len(s) -/
theorem cr_lenS : CallR X (.builtin "len") (fun xs H Q => ∃ (a : Addr) (S : Int → Bool) (n : Nat), xs = [.ref a] ∧ H a = some (SetO X.w a S n) ∧ Q (.int n) H) := by
  intro pins s σ H vs us Q I r h
  obtain ⟨a, S, n, rfl, ha, q⟩ := h
  rw [Vals.ref1 r]
  obtain ⟨o, es, ep, t, ho, hx, hd, g, nd, hm, hb, hf, hn, _⟩ := setO_get I ha
  have e : scanBound = 4096 := rfl
  refine call_len_set ho hx hd hf (by rw [e] at hb; omega) ?_
  rw [hn]
  exact ⟨.int n, H, I.tok _, ⟨_, rfl⟩, q⟩
/-- max(xs, default=k) -/
def rMaxD (K : PySem.W.Frag) : List V → List V → Hp → VK → Prop := fun xs zs H Q => ∃ (a : Addr) (ns : List Int) (k : Int), xs = [.ref a] ∧ SqL K H a (ns.map V.int) ∧ zs = [.int k] ∧ ∀ M, (ns = [] → M = k) → (∀ y ∈ ns, y ≤ M) → Q (.int M) H
theorem fold_max (n : Int) : ∀ (ns : List Int), n ≤ ns.foldl max n ∧ ∀ y ∈ ns, y ≤ ns.foldl max n := by
  intro ns
  induction ns generalizing n with
  | nil => exact ⟨Int.le_refl _, fun _ h => nomatch h⟩
  | cons k r ih =>
    rw [List.foldl_cons]
    obtain ⟨h1, h2⟩ := ih (max n k)
    refine ⟨Int.le_trans (Int.le_max_left _ _) h1, fun y hy => ?_⟩
    rcases List.mem_cons.mp hy with rfl | hy
    · exact Int.le_trans (Int.le_max_right _ _) h1
    · exact h2 y hy
theorem alike_ints (ns : List Int) : PySem.W.AlikeAll (ns.map PyData.int) := by
  constructor
  · intro x hx y hy
    obtain ⟨i, _, rfl⟩ := List.mem_map.mp hx
    obtain ⟨j, _, rfl⟩ := List.mem_map.mp hy
    rfl
  · intro x hx
    obtain ⟨i, _, rfl⟩ := List.mem_map.mp hx
    exact fun z => nomatch z
theorem cr_maxD (hc : X.calm = true) (hu : X.A.units + 3 < cLine) : CallRK X (.builtin "max") ["default"] (rMaxD X.K) := by
  intro pins s σ H xs zs us ws Q I r rz h
  obtain ⟨a, ns, k, rfl, hs, rfl, q⟩ := h
  obtain ⟨its, rv, pl, _⟩ := I.list hs
  rw [Vals.ref1 r]
  obtain ⟨u, rfl, tk0, rfl⟩ := vals1 rz
  have dpi : ∀ ns : List Int, DpAll X.K H (ns.map V.int) (ns.map PyData.int) := fun ns => by
    induction ns with
    | nil => exact .nil
    | cons n r ih => exact .cons (.int n) ih
  have dpt : ∀ ns : List Int, PyData.depthAll (ns.map PyData.int) ≤ 1 := fun ns => by
    induction ns with
    | nil => exact Nat.zero_le _
    | cons n r ih =>
      rw [List.map_cons]
      unfold PyData.depthAll PyData.depth
      omega
  obtain ⟨as, hr⟩ := Dp.readsAll I _ _ _ (dpi ns) rv
  have hd := dpt ns
  refine PySem.W.max_list_default (vs := its.toArray) (I.ok.hd hc) pl.isList (by rw [List.toList_toArray]; exact hr) (alike_ints ns) (by omega) (fun e h' tk k' => ?_) (fun y ys i v h' tk bs e _ rd k' => ?_)
  · exact ⟨.int k, H, I.kept k', ⟨_, rfl⟩, q k (fun _ => rfl) fun y hy => by rw [List.map_eq_nil_iff.mp e] at hy; cases hy⟩
  · cases ns with
    | nil => cases e
    | cons n r =>
      rw [List.map_cons] at e
      injection e with e1 e2
      subst e1 e2
      rw [PySem.W.maxD_ints] at rd
      cases rd with
      | int i t =>
        obtain ⟨f1, f2⟩ := fold_max n r
        refine ⟨.int (r.foldl max n), H, I.kept k', ⟨t, rfl⟩, q _ (fun z => nomatch z) fun y hy => ?_⟩
        rcases List.mem_cons.mp hy with rfl | hy
        · exact f1
        · exact f2 y hy
end
end Cw
namespace Cw
open PySem PySem.Spec PyProof.Rows PySem.SeqAt L2
/-! ## != by an own __eq__ -/
section
variable {M : Model} {prog : Program} {w : World} {A : Around} {E : Value → Shared → Prop} {s : Shared} {K : PySem.W.Frag} {x y f C : Addr} {ox oy : Obj} {od oe : Option Obj}
theorem objNe_entry (X : K.In s.heap) (I : PySem.W.InstAt s.heap x ox C od) (hs : PySem.W.findIn K (.ref C) "__eq__" = some (some (.ref f))) (hf : PySem.W.isFn K (.ref f) = true) (hu : A.units < cLine) {Q : Fin → Shared → Prop}
    (hcall : wpAny (model prog w) A (call (.ref f) [.ref x, .ref y]) (fun v s' => ∃ b, v = .bool b ∧ Q (.done (.ret (.bool (!b)))) s') E s) :
    wpAny (model prog w) A (Builtin.«object.__ne__» ⟨[.ref x, .ref y], []⟩) Q E s := by
  unfold Builtin.«object.__ne__»
  repeat (first
    | with_reducible refine wpAny_cRoomFor hu ?_
    | (refine wpAny_bind (m := callSpecialIfBound? (.ref x) (Str.ofString "__eq__") [.ref y])
        (PySem.W.ifBound_K X I hs hf (wpAny_mono hcall (fun r s' hr => by
          obtain ⟨b, rfl, hq⟩ := hr
          repeat (first | exact hq | exact wpAny_pure hq | exact wpAny_truthy_bool hq | (refine wpAny_bind (m := truthy (.bool _)) (wpAny_truthy_bool ?_)) | wp_step)) fun _ _ e => e)))
    | wp_step)
theorem ifBound_objNe {args : List Value} {Q : Option Value → Shared → Prop} (X : K.In s.heap) (I : PySem.W.InstAt s.heap x ox C od) (hs : PySem.W.findIn K (.ref C) "__ne__" = some (some (.builtin "object.__ne__")))
    (h : wpAny M A (call (.builtin "object.__ne__") (.ref x :: args)) (fun v => Q (some v)) E s) : wpAny M A (callSpecialIfBound? (.ref x) "__ne__" args) Q E s := by
  simp only [callSpecialIfBound?, bindSpecialIfBound?]
  refine wpAny_holding (wpAny_bind (wpAny_bind (wpAny_bind (I.type.here ((PySem.W.looks_findIn X hs).here ?_)))))
  refine wpAny_bind (wpAny_askSetting (wpAny_ite ?_))
  have fin : wpAny M A (call (.builtin "object.__ne__") ([.ref x] ++ args) >>= fun v => pure (some v)) Q E s := wpAny_bind (wpAny_mono h (fun v s' h' => wpAny_pure h') fun _ _ h' => h')
  split
  · exact wpAny_bind (wpAny_of_eq (F.cmp_object.ne.bind _) (wpAny_pure (by exact fin)))
  · exact wpAny_tryCatch (wpAny_bind (wpAny_of_eq (F.cmp_object.ne.bind _) (wpAny_pure (by exact fin))))
theorem rc_ne (hu : A.units + 1 < cLine) (X : K.In s.heap) (I : PySem.W.InstAt s.heap x ox C od) (J : PySem.W.InstAt s.heap y oy C oe) (hm : PySem.W.mroIn K C (.type "object") = some true) (hn : PySem.W.findIn K (.ref C) "__ne__" = some (some (.builtin "object.__ne__")))
    (hs : PySem.W.findIn K (.ref C) "__eq__" = some (some (.ref f))) (hf : PySem.W.isFn K (.ref f) = true) {Q : Value → Shared → Prop}
    (hcall : wpAny (model prog w) A.in1 (call (.ref f) [.ref x, .ref y]) (fun v s' => ∃ b, v = .bool b ∧ Q (.bool (!b)) s') E s) :
    wpAny (model prog w) A (richCompare .NotEq (.ref x) (.ref y)) Q E s := by
  have one : wpAny (model prog w) A (tryCompare (.ref x) "__ne__" (.ref y)) (fun r s' => ∃ b, r = some (.bool b) ∧ Q (.bool b) s') E s := by
    unfold tryCompare
    refine wpAny_bind (ifBound_objNe X I hn (wpAny_call (codeAny_call_builtin F.cmp_object.ne.plain F.cmpEntry_ne (PySem.W.check_slot F.cmpKind_ne F.cmpSplit_ne (I.type.andThen (PySem.W.looks_mroIn X hm)) (F.cmpArgs_ne _ _)
      (objNe_entry (A := A.in1) X I hs hf (by exact hu) (wpAny_mono hcall (fun v s' hv => ?_) fun _ _ e => e))))))
    obtain ⟨b, rfl, hq⟩ := hv
    first | exact ⟨b, rfl, wpAny_pure ⟨_, rfl, hq⟩⟩ | exact ⟨b, rfl, wpAny_pure (wpAny_pure ⟨_, rfl, hq⟩)⟩
  unfold richCompare
  simp only [oneThing_ref]
  refine wpAny_holding (wpAny_bind (wpAny_cRoomFor (Nat.lt_of_succ_lt hu) ?_))
  rw [cmpInfo_NotEq]
  dsimp only
  refine wpAny_bind (I.type.here (wpAny_bind (J.type.here ?_)))
  rw [show (Value.ref C != Value.ref C) = false from by simp]
  simp only [Bool.false_eq_true, if_false]
  refine wpAny_bind (wpAny_pure ?_)
  simp only [Bool.false_eq_true, if_false]
  refine wpAny_bind (wpAny_mono one (fun v s' hv => ?_) fun _ _ e => e)
  obtain ⟨b, rfl, hq⟩ := hv
  first | exact wpAny_pure hq | exact wpAny_pure (wpAny_pure hq)
end
/-- x != y, equal by the own == -/
def rNeG (D : Eqv) : R2 := fun x y H Q => D x y H ∧ ∀ H', Ext H H' → Q (.bl false) H'
section
variable {X : Cx} {n : Nat}
theorem op_neG {CX : CXT} {C f : Addr} {fd : FuncData} {ps : List Str} {R : Addr → Addr → Hp → Prop} {E : XK} (F : FnOk X.prog X.w X.K X.mg X.base CX n f fd ps (spEq R))
    (hm : PySem.W.mroIn X.K C (.type "object") = some true) (hn : PySem.W.findIn X.K (.ref C) "__ne__" = some (some (.builtin "object.__ne__")))
    (hs : PySem.W.findIn X.K (.ref C) "__eq__" = some (some (.ref f))) (hf : PySem.W.isFn X.K (.ref f) = true) (hb : Binds X.K fd ps []) (hx : Passes CX X E) (hr : Room (n + 1) X.A) : OpR X (compareOp .NotEq) (rNeG (DIns C R)) := by
  intro pins s σ H x y u v Q I rx ry hq
  obtain ⟨⟨a, b, dx, dy, fs, gs, rfl, rfl, ha, hb', hR⟩, q⟩ := hq
  cases rx
  cases ry
  obtain ⟨mA, J, _⟩ := ins_get I.hok ha
  obtain ⟨mB, J', _⟩ := ins_get I.hok hb'
  obtain ⟨od, J, _⟩ := J.look
  obtain ⟨od', J', _⟩ := J'.look
  show wpAny (model X.prog X.w) X.A (richCompare .NotEq (.ref a) (.ref b)) (EP X pins σ Q) X.xe s
  refine rc_ne (hr.mono (Nat.succ_le_succ (Nat.zero_le n)) |>.in1.units0) I.kIn J J' hm hn hs hf ?_
  have hsp : spEq R [.ref a, .ref b] H (fun v H' => v = .bl true ∧ Ext H H') E := ⟨a, b, rfl, hR, fun H' e => ⟨rfl, e⟩⟩
  have hl := F.len _ _ _ _ hsp
  have r2 : Vals [V.ref a, V.ref b] [Value.ref a, Value.ref b] := .cons rfl (.cons rfl .nil)
  have e0 : Env0 X.prog X.w X.K X.mg X.base X.A.in1 X.stack s H := I.env0.in1
  refine wpAny_call (codeAny_mono (F.run X.A.in1 X.stack s H ⟨[.ref a, .ref b], []⟩ [.ref a, .ref b] [.ref a, .ref b] _ E hr.in1 e0 (by
    have := hb s [.ref a, .ref b] I.kIn (by simpa using hl)
    simpa using this) r2 hsp) fun r s' hq => ?_)
  cases r with
  | error e => exact hx pins σ H s e s' I hq
  | ok fl =>
    cases fl with
    | ret w =>
      obtain ⟨z, H', I', rz, ez, ex⟩ := I.after hq
      subst ez
      cases rz
      exact ⟨true, rfl, .bl false, H', I', rfl, q H' ex⟩
    | next => exact False.elim hq
    | brk => exact False.elim hq
    | cont => exact False.elim hq
end
end Cw
namespace Cw
open PySem L2
def top (i : Nat) : Stmt := PySem.Challenge.pw_cutwalks_k11_settings_by_trying.main.body.getD i (.Pass ⟨0, 0, 0, 0⟩)
abbrev sIsInt : Stmt := top 7
abbrev sPlaces : Stmt := top 8
abbrev sAsc : Stmt := top 9
abbrev sMarks : Stmt := top 10
abbrev sSome : Stmt := top 11
abbrev sChange : Stmt := top 0
abbrev sRepl : Stmt := top 0
abbrev sRow : Stmt := top 21
theorem ifT {c : Bool} {A B : Prop} (h : c = true) (x : A) : if c = true then A else B := by
  rw [if_pos h]
  exact x
theorem ifF {c : Bool} {A B : Prop} (h : c = false) (x : B) : if c = true then A else B := by
  rw [h, if_neg Bool.false_ne_true]
  exact x
theorem same_new {H H1 : Hp} {p : Addr} {o : HO} (s : Same H H1) (h : H1 p = none) : Same H (upd H1 p o) := fun b u e => by
  rw [upd_ne (ne_of_none (s b u e) h)]
  exact s b u e
/-- what stands at D is replaced, D being new since H -/
theorem same_put {H H1 : Hp} {p : Addr} {o : HO} (s : Same H H1) (h : H p = none) : Same H (upd H1 p o) := fun b u e => by
  rw [upd_ne (ne_of_none e h)]
  exact s b u e
theorem all_true (n : Nat) : (List.replicate n true).all id = true := by
  induction n with
  | zero => rfl
  | succ n ih => rw [List.replicate_succ, List.all_cons, ih]; rfl
abbrev Asc (ns : List Int) : Prop := ns.Pairwise (· < ·)
/-- a list of ints stands at a -/
abbrev IL (H : Hp) (a : Addr) (ns : List Int) : Prop := H a = some (.lst (ns.map V.int))
theorem il_at {ns : List Int} {i : Nat} {x : V} (h : (ns.map V.int)[i]? = some x) : ∃ z, x = V.int z ∧ ns[i]? = some z := by
  rw [List.getElem?_map] at h
  cases e : ns[i]? with
  | none => rw [e] at h; cases h
  | some z => rw [e] at h; exact ⟨z, (Option.some.inj h).symm, rfl⟩
/-- what the names of the built-ins hold -/
structure Bl (mg : Str → Option Value) : Prop where
  int : mg "int" = none
  bool : mg "bool" = none
  list : mg "list" = none
  tuple : mg "tuple" = none
  range : mg "range" = none
  len : mg "len" = none
  abs : mg "abs" = none
  all : mg "all" = none
  isi : mg "isinstance" = none
  zip : mg "zip" = none
  max : mg "max" = none
  min : mg "min" = none
  set : mg "set" = none
  sorted : mg "sorted" = none
  dict : mg "dict" = none
def spOne : Sp := fun vs H Q _ => ∃ i : Int, vs = [.int i] ∧ Q (.bl true) H
/-- places from low to high -/
def spPlaces : Sp := fun vs H Q _ => ∃ (a : Addr) (ns : List Int) (lo hi : Int), vs = [.ref a, .int lo, .int hi] ∧ IL H a ns ∧ ns.length ≤ 1000 ∧ (∀ x ∈ ns, lo ≤ x ∧ x ≤ hi) ∧ ∀ H', Same H H' → Q (.bl true) H'
def spAsc : Sp := fun vs H Q _ => ∃ (a : Addr) (ns : List Int) (lo hi : Int), vs = [.ref a, .int lo, .int hi] ∧ IL H a ns ∧ ns.length ≤ 1000 ∧ (∀ x ∈ ns, lo ≤ x ∧ x ≤ hi) ∧ Asc ns ∧ ∀ H', Same H H' → Q (.bl true) H'
def spMarks : Sp := fun vs H Q _ => ∃ (a : Addr) (ns : List Int) (hi : Int), vs = [.ref a, .int hi] ∧ IL H a ns ∧ ns.length ≤ 400 ∧ (∀ x ∈ ns, 1 ≤ x ∧ x ≤ hi) ∧ Asc ns ∧ ∀ H', Same H H' → Q (.bl true) H'
def spSome : Sp := fun vs H Q _ => ∃ (a b : Addr) (ns ms : List Int), vs = [.ref a, .ref b] ∧ IL H a ns ∧ IL H b ms ∧ ns.length ≤ 400 ∧ ms.length ≤ 400 ∧ Asc ns ∧ (∀ x ∈ ns, 1 ≤ x) ∧ (∀ x ∈ ns, x ∈ ms) ∧ ∀ H', Same H H' → Q (.bl true) H'
section
variable {P : Program} {w : World} {K : PySem.W.Frag} {mg : Str → Option Value} {base : Heap}
theorem scI : FnScope ["thing"] ["thing"] (defScope sIsInt) := ⟨rfl, rfl, rfl, by decide +kernel, rfl, by decide +kernel, by decide +kernel⟩
theorem ok_int {f : Addr} {fd : FuncData} (F : Fun K "is_integer" "is_integer" sIsInt f fd) (T : Bl mg) : FnOk P w K mg base CX0 1 f fd ["thing"] spOne := by
  refine F.ok scI (fun vs H Q E h => ?_) (fun cdv A outer s H vs Q E hr h => ?_)
  · obtain ⟨i, rfl, _⟩ := h
    rfl
  · obtain ⟨i, rfl, k⟩ := h
    refine ⟨_, pss_one (ps_ret (pe_and (pe_callB call_isi (by rfl) T.isi (by decide +kernel) (pa_cons (pv 0) (pa_cons (pe_bltn (by rfl) T.int (by decide +kernel) (v := V.ty "int") rfl) pa_nil)))
      (pe_one (pe_not (pe_callB call_isi (by rfl) T.isi (by decide +kernel) (pa_cons (pv 0) (pa_cons (pe_bltn (by rfl) T.bool (by decide +kernel) (v := V.ty "bool") rfl) pa_nil))))))), ?_⟩
    refine ⟨_, rfl, _, _, _, _, true, rfl, ClsV.ty _, .base (.int i), kit_ty (by decide +kernel), _, rfl, ?_⟩
    refine ifT rfl ?_
    refine ⟨_, rfl, _, _, _, _, false, rfl, ClsV.ty _, .base (.int i), kit_ty (by decide +kernel), _, rfl, ?_⟩
    exact k
theorem scP : FnScope ["thing", "low", "high", "place"] ["thing", "low", "high"] (defScope sPlaces) := ⟨rfl, rfl, rfl, by decide +kernel, rfl, by decide +kernel, by decide +kernel⟩
theorem ok_places {f fI : Addr} {fd fdI : FuncData} (F : Fun K "are_places" "are_places" sPlaces f fd) (T : Bl mg) (gI : mg "is_integer" = some (.ref fI)) (kI : PySem.W.keepIn K (.ref fI) = true) (bI : Binds K fdI ["thing"] []) (GI : FnOk P w K mg base CX0 1 fI fdI ["thing"] spOne) :
    FnOk P w K mg base CX0 2 f fd ["thing", "low", "high"] spPlaces := by
  refine F.ok scP (fun vs H Q E h => ?_) (fun cdv A outer s H vs Q E hr h => ?_)
  · obtain ⟨a, ns, lo, hi, rfl, _⟩ := h
    rfl
  · obtain ⟨a, ns, lo, hi, rfl, hS, hl, hb, k⟩ := h
    refine ⟨_, pss_cons (ps_if (pt_not (pt_val (pe_callB call_isi (by rfl) T.isi (by decide +kernel) (pa_cons (pv 0) (pa_cons (pe_bltn (by rfl) T.list (by decide +kernel) (v := V.ty "list") rfl) pa_nil))))) (pss_one (ps_ret pe_bl)) pss_nil)
      (pss_one (ps_ret (pe_callB (cr_all rfl) (by rfl) T.all (by decide +kernel) (pa_cons (pe_lc (own := [("place", 3)]) (g := gName 3) (tt := tYes) rfl scP.nd
        (pi_list (pv 0)) (blkOk_by (own := [("place", 3)]) (N := ["thing", "low", "high", "place"]) (sc := defScope sPlaces) (by decide +kernel)) (fun _ _ _ _ _ => pg_name (i := 3) scP.nd rfl (Or.inl rfl)) (fun _ _ _ _ _ => pts_nil)
        (fun _ _ _ _ _ => pe_and (pe_call GI hr rfl gI kI bI .nil pass0 (pa_cons (pv 3) pa_nil)) (pe_one (pe_chain op_le op_le (pv 1) (pv 3) (pv 2))))) pa_nil)))), ?_⟩
    refine ⟨_, rfl, _, _, _, _, true, rfl, ClsV.ty _, .base (.lst hS), kit_ty (by decide +kernel), _, rfl, ?_⟩
    refine ifF rfl ?_
    refine ⟨_, rfl, a, rfl, ⟨_, SqL.of hS⟩, fun D hD => ?_⟩
    refine lc_list (K := K) (a := a) (xs := ns.map V.int) (fun i H' => Same H H' ∧ H' D = some (.lst (List.replicate i (V.bl true)))) ⟨same_new (Same.refl H) hD, upd_same⟩ (fun i H' _ q => SqL.of (q.1 _ _ hS)) ?_ ?_
    · rintro i x H' hx ⟨s1, hD'⟩
      obtain ⟨z, rfl, hz⟩ := il_at hx
      have hil : i < ns.length := (List.getElem?_eq_some_iff.mp hz).1
      obtain ⟨b1, b2⟩ := hb z (List.mem_of_getElem? hz)
      refine ⟨rfl, ?_⟩
      unfold tYes
      refine iteT ?_
      refine ⟨_, rfl, _, rfl, _, rfl, ?_⟩
      refine ifT rfl ?_
      refine ⟨_, rfl, _, rfl, _, _, rfl, rfl, _, rfl, ?_⟩
      refine ifT (by simp [b1]) ?_
      refine ⟨_, rfl, _, _, rfl, rfl, ?_⟩
      refine ⟨_, hD', by rw [List.length_replicate]; exact small1000 (by omega), same_put s1 hD, ?_⟩
      rw [upd_same, List.replicate_succ']
      simp [b2]
    · rintro H' ⟨s1, hD'⟩
      refine ⟨D, List.replicate ns.length true, rfl, SqL.of (by rw [hD', List.map_replicate, List.length_map]), ?_⟩
      rw [all_true]
      exact k _ s1
end
end Cw
namespace Cw
open PySem L2
theorem cut_one (xs : List V) : cutV xs (some 1) none = xs.drop 1 := by
  unfold cutV
  have e1 : HT.sIx xs.length 0 (some 1) = min 1 xs.length := HT.sIx_nat xs.length 0 1
  rw [e1, HT.sIx_none]
  cases xs with
  | nil => rfl
  | cons x r =>
    have e2 : min 1 (x :: r).length = 1 := by
      rw [List.length_cons]
      omega
    rw [e2, List.drop_succ_cons, List.drop_zero, List.length_cons, Nat.add_sub_cancel]
    exact List.take_length
section
variable {P : Program} {w : World} {K : PySem.W.Frag} {mg : Str → Option Value} {base : Heap}
abbrev NA : List Str := ["thing", "low", "high", "before", "place"]
theorem scA : FnScope NA ["thing", "low", "high"] (defScope sAsc) := ⟨rfl, rfl, rfl, by decide +kernel, rfl, by decide +kernel, by decide +kernel⟩
theorem ok_asc {f fP : Addr} {fd fdP : FuncData} (F : Fun K "are_ascending" "are_ascending" sAsc f fd) (T : Bl mg) (gP : mg "are_places" = some (.ref fP)) (kP : PySem.W.keepIn K (.ref fP) = true) (bP : Binds K fdP ["thing", "low", "high"] []) (GP : FnOk P w K mg base CX0 2 fP fdP ["thing", "low", "high"] spPlaces) :
    FnOk P w K mg base CX0 3 f fd ["thing", "low", "high"] spAsc := by
  refine F.ok scA (fun vs H Q E h => ?_) (fun cdv A outer s H vs Q E hr h => ?_)
  · obtain ⟨a, ns, lo, hi, rfl, _⟩ := h
    rfl
  · obtain ⟨a, ns, lo, hi, rfl, hS, hl, hb, ha, k⟩ := h
    refine ⟨_, pss_cons (ps_if (pt_not (pt_val (pe_call GP hr rfl gP kP bP .nil pass0 (pa_cons (pv 0) (pa_cons (pv 1) (pa_cons (pv 2) pa_nil)))))) (pss_one (ps_ret pe_bl)) pss_nil)
      (pss_one (ps_ret (pe_callB (cr_all rfl) (by rfl) T.all (by decide +kernel) (pa_cons (pe_lc (own := [("before", 3), ("place", 4)]) (g := gTup K 2 (gCons (gName 3) (gCons (gName 4) gNil))) (tt := tYes) rfl scA.nd
        (pi_zip (by rfl) T.zip (pa_cons (pv 0) (pa_cons (pe_slice sl_list (pv 0) (po_some pe_int) po_none) pa_nil))) (blkOk_by (own := [("before", 3), ("place", 4)]) (N := NA) (sc := defScope sAsc) (by decide +kernel))
        (fun _ _ _ _ _ => pg_tup rfl (pgs_cons (pg_name (i := 3) scA.nd rfl (Or.inl rfl)) (pgs_cons (pg_name (i := 4) scA.nd rfl (Or.inl rfl)) pgs_nil))) (fun _ _ _ _ _ => pts_nil)
        (fun _ _ _ _ _ => pe_cmpR op_lt (pv 3) (pv 4) (nomark _))) pa_nil)))), ?_⟩
    refine ⟨_, rfl, _, rfl, _, rfl, a, ns, lo, hi, rfl, hS, hl, hb, fun H1 s1 => ⟨_, rfl, ?_⟩⟩
    refine ifF rfl ?_
    refine ⟨_, rfl, _, rfl, 1, rfl, a, _, rfl, SqL.of (s1 _ _ hS), fun c nc => ?_⟩
    have s2 := same_new (o := .lst (cutV (ns.map V.int) (some 1) none)) s1 nc
    rw [cut_one] at s2
    rw [cut_one]
    refine ⟨a, c, _, _, rfl, SqL.of (s2 _ _ hS), SqL.of upd_same, fun D hD => ?_⟩
    have nc' : H c = none := s1.free nc
    have ncD : c ≠ D := ne_of_none upd_same hD
    have hn : ns.length - 1 = min (ns.map V.int).length ((ns.map V.int).drop 1).length := by
      rw [List.length_drop, List.length_map]
      omega
    refine lc_it (walk_zip hn) (fun i H' => Same H H' ∧ H' c = some (.lst ((ns.map V.int).drop 1)) ∧ H' D = some (.lst (List.replicate i (V.bl true)))) ⟨same_new s2 hD, by rw [upd_ne ncD]; exact upd_same, upd_same⟩ (fun i H' _ q => ⟨SqL.of (q.1 _ _ hS), SqL.of q.2.1⟩) ?_ ?_
    · rintro i x H' H'' hi ⟨s3, hc, hD'⟩ ⟨t, x1, x2, rfl, nt, rfl, e1, e2⟩
      have h1 : i < ns.length := by omega
      have h2 : i + 1 < ns.length := by omega
      have g1 : x1 = .int ns[i] := by
        dsimp only at e1
        rw [List.getElem?_map, List.getElem?_eq_getElem h1] at e1
        exact (Option.some.inj e1).symm
      have g2 : x2 = .int ns[i + 1] := by
        dsimp only at e2
        rw [List.getElem?_drop, List.getElem?_map, Nat.add_comm 1 i, List.getElem?_eq_getElem h2] at e2
        exact (Option.some.inj e2).symm
      subst g1 g2
      have hlt : ns[i] < ns[i + 1] := List.pairwise_iff_getElem.mp ha i (i + 1) h1 h2 (Nat.lt_succ_self i)
      have ntc : c ≠ t := ne_of_none hc nt
      have ntD : D ≠ t := ne_of_none hD' nt
      refine ⟨t, _, rfl, SqT.of upd_same, rfl, _, _, rfl, _, _, rfl, rfl, rfl, ?_⟩
      unfold tYes
      refine iteT ?_
      refine ⟨_, rfl, _, rfl, _, _, rfl, rfl, ?_⟩
      refine ⟨_, (by rw [upd_ne ntD]; exact hD'), by rw [List.length_replicate]; exact small1000 (by omega), same_put (same_new s3 nt) (s2.trans (Same.refl _) |>.free hD), ?_, ?_⟩
      · rw [upd_ne ncD, upd_ne ntc]
        exact hc
      · rw [upd_same, List.replicate_succ']
        simp [hlt]
    · rintro H' ⟨s3, hc, hD'⟩
      refine ⟨D, List.replicate (ns.length - 1) true, rfl, SqL.of (by rw [hD', List.map_replicate]), ?_⟩
      rw [all_true]
      exact k _ s3
theorem scM : FnScope ["thing", "high"] ["thing", "high"] (defScope sMarks) := ⟨rfl, rfl, rfl, by decide +kernel, rfl, by decide +kernel, by decide +kernel⟩
theorem ok_marks {f fA : Addr} {fd fdA : FuncData} {t : Tok} (F : Fun K "are_marks" "are_marks" sMarks f fd) (T : Bl mg) (gN : mg "MOST_MARKS" = some (.int 400 t)) (gA : mg "are_ascending" = some (.ref fA)) (kA : PySem.W.keepIn K (.ref fA) = true) (bA : Binds K fdA ["thing", "low", "high"] []) (GA : FnOk P w K mg base CX0 3 fA fdA ["thing", "low", "high"] spAsc) :
    FnOk P w K mg base CX0 4 f fd ["thing", "high"] spMarks := by
  refine F.ok scM (fun vs H Q E h => ?_) (fun cdv A outer s H vs Q E hr h => ?_)
  · obtain ⟨a, ns, hi, rfl, _⟩ := h
    rfl
  · obtain ⟨a, ns, hi, rfl, hS, hl, hb, ha, k⟩ := h
    refine ⟨_, pss_one (ps_ret (pe_and (pe_call GA hr rfl gA kA bA .nil pass0 (pa_cons (pv 0) (pa_cons pe_int (pa_cons (pv 1) pa_nil))))
      (pe_one (pe_cmpR op_le (pe_callB call_len_seq (by rfl) T.len PySem.boot_len (pa_cons (pv 0) pa_nil)) (pe_glob rfl gN (v := V.int 400) ⟨_, rfl⟩) (nomark _))))), ?_⟩
    refine ⟨_, rfl, _, rfl, a, ns, 1, hi, rfl, hS, by omega, hb, ha, fun H1 s1 => ⟨_, rfl, ?_⟩⟩
    refine ifT rfl ?_
    refine ⟨_, rfl, a, _, rfl, .inl (SqL.of (s1 _ _ hS)), _, _, rfl, rfl, ?_⟩
    have e : decide (((ns.map V.int).length : Int) ≤ 400) = true := by
      rw [List.length_map]
      exact decide_eq_true (by omega)
    have z := k _ s1
    rw [← e] at z
    exact z
theorem scSo : FnScope ["thing", "marks"] ["thing", "marks"] (defScope sSome) := ⟨rfl, rfl, rfl, by decide +kernel, rfl, by decide +kernel, by decide +kernel⟩
theorem ok_some {f fA : Addr} {fd fdA : FuncData} (F : Fun K "are_some_of" "are_some_of" sSome f fd) (T : Bl mg) (gA : mg "are_ascending" = some (.ref fA)) (kA : PySem.W.keepIn K (.ref fA) = true) (bA : Binds K fdA ["thing", "low", "high"] []) (GA : FnOk P w K mg base CX0 3 fA fdA ["thing", "low", "high"] spAsc) :
    FnOk P w K mg base CX0 4 f fd ["thing", "marks"] spSome := by
  refine F.ok scSo (fun vs H Q E h => ?_) (fun cdv A outer s H vs Q E hr h => ?_)
  · obtain ⟨a, b, ns, ms, rfl, _⟩ := h
    rfl
  · obtain ⟨a, b, ns, ms, rfl, hS, hM, hl, hm, ha, h1, hsub, k⟩ := h
    have hu := hr.units
    refine ⟨_, pss_cons (ps_if (pt_not (pt_val (pe_call GA hr rfl gA kA bA .nil pass0 (pa_cons (pv 0) (pa_cons pe_int (pa_cons (pe_callBK (cr_maxD rfl (Nat.lt_of_le_of_lt (Nat.add_le_add_left (by decide : 3 ≤ 64) _) hu)) (by rfl) T.max (by decide +kernel) (pa_cons (pv 1) pa_nil) (pk_cons pe_int pk_nil)) pa_nil)))))) (pss_one (ps_ret pe_bl)) pss_nil)
      (pss_one (ps_ret (pe_cmpR op_eq (pe_callB cr_lenS (by rfl) T.len PySem.boot_len (pa_cons (pe_op op_subN (pe_callTy (cr_setOf rfl) (by rfl) T.set (by decide +kernel) (pa_cons (pv 0) pa_nil)) (pe_callTy (cr_setOf rfl) (by rfl) T.set (by decide +kernel) (pa_cons (pv 1) pa_nil))) pa_nil)) pe_int (nomark _)))), ?_⟩
    refine ⟨_, rfl, _, rfl, b, ms, 0, rfl, SqL.of hM, rfl, fun M _ hM2 => ?_⟩
    refine ⟨a, ns, 0, M, rfl, hS, by omega, fun x hx => ⟨Int.le_trans (by decide) (h1 x hx), hM2 x (hsub x hx)⟩, ha, fun H1 s1 => ⟨_, rfl, ?_⟩⟩
    refine ifF rfl ?_
    refine ⟨_, rfl, a, ns, rfl, SqL.of (s1 _ _ hS), by omega, fun p c _ hp => ?_⟩
    have s2 := same_new (o := SetO w p (fun j => decide (j ∈ ns)) c) s1 hp
    refine ⟨_, rfl, b, ms, rfl, SqL.of (s2 _ _ hM), by omega, fun p2 c2 _ hp2 => ?_⟩
    have s3 := same_new (o := SetO w p2 (fun j => decide (j ∈ ms)) c2) s2 hp2
    have n12 : p ≠ p2 := ne_of_none upd_same hp2
    refine ⟨p, p2, _, _, _, _, rfl, rfl, by rw [upd_ne n12]; exact upd_same, upd_same, fun j hj => decide_eq_true (hsub j (of_decide_eq_true hj)), fun p3 hp3 => ?_⟩
    refine ⟨p3, _, 0, rfl, upd_same, rfl, ?_⟩
    have e : decide (V.int ((0 : Nat) : Int) = V.int 0) = true := by simp
    have z := k _ (same_new (o := SetO w p3 (fun _ => false) 0) s3 hp3)
    rw [← e] at z
    exact z
end
end Cw
namespace Cw
open PySem L2
abbrev sInit : Stmt := inClass sRow 0
abbrev sGetM : Stmt := inClass sRow 2
abbrev sEq : Stmt := inClass sRow 6
abbrev sChanged : Stmt := inClass sRow 11
theorem k12 : ¬ (("_length" : Str) = "_marks") := by decide +kernel
theorem k13 : ¬ (("_length" : Str) = "_strict") := by decide +kernel
theorem k23 : ¬ (("_marks" : Str) = "_strict") := by decide +kernel
def flds (n : Int) (l1 l2 : Addr) : List (Str × V) := putF "_strict" (.ref l2) (putF "_marks" (.ref l1) (putF "_length" (.int n) []))
theorem flds_eq (n : Int) (l1 l2 : Addr) : flds n l1 l2 = ([("_length", V.int n), ("_marks", V.ref l1), ("_strict", V.ref l2)] : List (Str × V)) := by
  unfold flds
  rw [show putF "_length" (V.int n) [] = ([("_length", V.int n)] : List (Str × V)) from rfl]
  rw [show putF "_marks" (V.ref l1) ([("_length", V.int n)] : List (Str × V)) = (if ("_length" : Str) = "_marks" then ([("_length", V.ref l1)] : List (Str × V)) else ("_length", V.int n) :: putF "_marks" (V.ref l1) []) from rfl, if_neg k12]
  rw [show putF "_marks" (V.ref l1) [] = ([("_marks", V.ref l1)] : List (Str × V)) from rfl]
  rw [show putF "_strict" (V.ref l2) ([("_length", V.int n), ("_marks", V.ref l1)] : List (Str × V)) = (if ("_length" : Str) = "_strict" then ([("_length", V.ref l2), ("_marks", V.ref l1)] : List (Str × V)) else ("_length", V.int n) :: (if ("_marks" : Str) = "_strict" then ([("_marks", V.ref l2)] : List (Str × V)) else ("_marks", V.ref l1) :: putF "_strict" (V.ref l2) [])) from rfl, if_neg k13, if_neg k23]
  rfl
theorem fl_L (n : Int) (l1 l2 : Addr) : (flds n l1 l2).lookup ("_length" : Str) = some (.int n) := by
  unfold flds
  rw [lookup_putF, if_neg k13, lookup_putF, if_neg k12, lookup_putF, if_pos rfl]
theorem fl_M (n : Int) (l1 l2 : Addr) : (flds n l1 l2).lookup ("_marks" : Str) = some (.ref l1) := by
  unfold flds
  rw [lookup_putF, if_neg k23, lookup_putF, if_pos rfl]
theorem fl_S (n : Int) (l1 l2 : Addr) : (flds n l1 l2).lookup ("_strict" : Str) = some (.ref l2) := by
  unfold flds
  rw [lookup_putF, if_pos rfl]
theorem fl_no (n : Int) (l1 l2 : Addr) {m : Str} (h1 : ¬ m = "_length") (h2 : ¬ m = "_marks") (h3 : ¬ m = "_strict") : (flds n l1 l2).lookup m = none := by
  unfold flds
  rw [lookup_putF, if_neg h3, lookup_putF, if_neg h2, lookup_putF, if_neg h1]
  rfl
/-- what a row is -/
structure Good (n : Int) (ms ss : List Int) : Prop where
  pos : 1 ≤ n
  len : ms.length ≤ 400
  rng : ∀ x ∈ ms, 1 ≤ x ∧ x ≤ n - 1
  asc : Asc ms
  asc2 : Asc ss
  sub : ∀ x ∈ ss, x ∈ ms
theorem Good.len2 {n : Int} {ms ss : List Int} (g : Good n ms ss) : ss.length ≤ 400 :=
  Nat.le_trans (nodup_len (g.asc2.imp fun h e => by omega) g.sub) g.len
/-- a row stands at p -/
def RowAt (C : Addr) (H : Hp) (p : Addr) (n : Int) (ms ss : List Int) : Prop := ∃ dx l1 l2, H p = some (.ins C dx (flds n l1 l2)) ∧ IL H l1 ms ∧ IL H l2 ss
theorem RowAt.same {C : Addr} {H H' : Hp} {p : Addr} {n : Int} {ms ss : List Int} (r : RowAt C H p n ms ss) (s : Same H H') : RowAt C H' p n ms ss := by
  obtain ⟨dx, l1, l2, a, b, c⟩ := r
  exact ⟨dx, l1, l2, s _ _ a, s _ _ b, s _ _ c⟩
/-- a row has been made at p, its lists are new since H -/
def RowNew (C : Addr) (H H' : Hp) (p : Addr) (n : Int) (ms ss : List Int) : Prop := ∃ dx l1 l2, H' p = some (.ins C dx (flds n l1 l2)) ∧ IL H' l1 ms ∧ IL H' l2 ss ∧ H l1 = none ∧ H l2 = none
theorem RowNew.at {C : Addr} {H H' : Hp} {p : Addr} {n : Int} {ms ss : List Int} (r : RowNew C H H' p n ms ss) : RowAt C H' p n ms ss := by
  obtain ⟨dx, l1, l2, a, b, c, _⟩ := r
  exact ⟨dx, l1, l2, a, b, c⟩
theorem none_of {H H' : Hp} {l : Addr} (k : ∀ c o, H c = some o → ∃ o', H' c = some o') (h : H' l = none) : H l = none := by
  cases e : H l with
  | none => rfl
  | some o =>
    obtain ⟨o', z⟩ := k _ _ e
    rw [h] at z
    cases z
theorem RowNew.mono {C : Addr} {H0 H H' : Hp} {p : Addr} {n : Int} {ms ss : List Int} (r : RowNew C H H' p n ms ss) (k : ∀ c o, H0 c = some o → ∃ o', H c = some o') : RowNew C H0 H' p n ms ss := by
  obtain ⟨dx, l1, l2, a, b, c, d, e⟩ := r
  exact ⟨dx, l1, l2, a, b, c, none_of k d, none_of k e⟩
structure Cl (K : PySem.W.Frag) (mg : Str → Option Value) (C : Addr) : Prop where
  cl : Cls K C
  nL : NoAttr K C "_length"
  nM : NoAttr K C "_marks"
  nS : NoAttr K C "_strict"
  mgR : mg "Row" = some (.ref C)
  kit : PySem.W.kitOne K (.ref C) (.ref C) = some true
/-- Row(n, marks, strict): from the new instance on -/
def spInit (C : Addr) : Sp := fun vs H Q _ => ∃ (x dx a b : Addr) (n : Int) (ms ss : List Int), vs = [.ref x, .int n, .ref a, .ref b] ∧ H x = some (.ins C dx []) ∧ IL H a ms ∧ IL H b ss ∧ Good n ms ss ∧
  ∀ H', RowNew C H H' x n ms ss → (∀ c o, H c = some o → c ≠ x → H' c = some o) → Q .non H'
section
variable {P : Program} {w : World} {K : PySem.W.Frag} {mg : Str → Option Value} {base : Heap}
abbrev NI : List Str := ["self", "length", "marks", "strict"]
theorem scIn : FnScope NI NI (defScope sInit) := ⟨rfl, rfl, rfl, by decide +kernel, rfl, by decide +kernel, by decide +kernel⟩
theorem ok_init {f C fI fM fS : Addr} {fd fdI fdM fdS : FuncData} (F : Fun K "__init__" "Row.__init__" sInit f fd) (T : Bl mg) (R : Cl K mg C)
    (gI : mg "is_integer" = some (.ref fI)) (kI : PySem.W.keepIn K (.ref fI) = true) (bI : Binds K fdI ["thing"] []) (GI : FnOk P w K mg base CX0 1 fI fdI ["thing"] spOne)
    (gM : mg "are_marks" = some (.ref fM)) (kM : PySem.W.keepIn K (.ref fM) = true) (bM : Binds K fdM ["thing", "high"] []) (GM : FnOk P w K mg base CX0 4 fM fdM ["thing", "high"] spMarks)
    (gS : mg "are_some_of" = some (.ref fS)) (kS : PySem.W.keepIn K (.ref fS) = true) (bS : Binds K fdS ["thing", "marks"] []) (GS : FnOk P w K mg base CX0 4 fS fdS ["thing", "marks"] spSome) :
    FnOk P w K mg base CX0 5 f fd NI (spInit C) := by
  refine F.ok scIn (fun vs H Q E h => ?_) (fun cdv A outer s H vs Q E hr h => ?_)
  · obtain ⟨x, dx, a, b, n, ms, ss, rfl, _⟩ := h
    rfl
  · obtain ⟨x, dx, a, b, n, ms, ss, rfl, hx, hM, hS, G, k⟩ := h
    have hr1 : Room 1 (A.deeper (PyProof.Rows.envOfC "Row.__init__" (defScope sInit) s.heap.objs.size f cdv)) := hr.mono (by decide)
    refine ⟨_, pss_cons (ps_if (PW.pt (pw_or (pt_not (pt_val (pe_call GI hr1 rfl gI kI bI .nil pass0 (pa_cons (pv 1) pa_nil)))) (pw_or1 (pt_cmpR op_lt (pv 1) pe_int (nomark _))))) pss_never pss_nil)
      (pss_cons (ps_if (pt_not (pt_val (pe_call GM hr rfl gM kM bM .nil pass0 (pa_cons (pv 2) (pa_cons (pe_op op_sub (pv 1) pe_int) pa_nil))))) pss_never pss_nil)
      (pss_cons (ps_if (pt_not (pt_val (pe_call GS hr rfl gS kS bS .nil pass0 (pa_cons (pv 3) (pa_cons (pv 2) pa_nil))))) pss_never pss_nil)
      (pss_cons (ps_fld (pv 0) (pv 1) rfl)
      (pss_cons (ps_fld (pv 0) (pe_callTy call_list_of (by rfl) T.list (by decide +kernel) (pa_cons (pv 2) pa_nil)) rfl)
      (pss_one (ps_fld (pv 0) (pe_callTy call_list_of (by rfl) T.list (by decide +kernel) (pa_cons (pv 3) pa_nil)) rfl)))))), ?_⟩
    have hp := G.pos
    refine ⟨_, rfl, n, rfl, _, rfl, ?_⟩
    refine ifF rfl ?_
    refine ⟨_, rfl, _, _, rfl, rfl, _, rfl, ?_⟩
    refine ifF (decide_eq_false (by omega)) ?_
    refine ⟨_, rfl, _, rfl, _, _, rfl, rfl, a, ms, n - 1, rfl, hM, G.len, G.rng, G.asc, fun H1 s1 => ⟨_, rfl, ?_⟩⟩
    refine ifF rfl ?_
    refine ⟨_, rfl, _, rfl, b, a, ss, ms, rfl, s1 _ _ hS, s1 _ _ hM, G.len2, G.len, G.asc2, (fun y hy => (G.rng y (G.sub y hy)).1), G.sub, fun H2 s2 => ⟨_, rfl, ?_⟩⟩
    refine ifF rfl ?_
    have s12 := s1.trans s2
    refine ⟨_, rfl, _, rfl, x, C, dx, _, rfl, s12 _ _ hx, R.cl, R.nL, (by show 0 < 1000; decide), ?_⟩
    have na : a ≠ x := ne_of hM hx (by intro z; cases z)
    have nb : b ≠ x := ne_of hS hx (by intro z; cases z)
    have hM3 : ∀ o, IL (upd H2 x o) a ms := fun o => by
      show upd H2 x o a = _
      rw [upd_ne na]
      exact s12 _ _ hM
    have hS3 : ∀ o, IL (upd H2 x o) b ss := fun o => by
      show upd H2 x o b = _
      rw [upd_ne nb]
      exact s12 _ _ hS
    refine ⟨_, rfl, a, _, rfl, .inl (SqL.of (hM3 _)), fun l1 h1 => ?_⟩
    have nx1 : x ≠ l1 := ne_of_none upd_same h1
    have nb1 : b ≠ l1 := ne_of_none (hS3 _) h1
    refine ⟨_, rfl, x, C, dx, _, rfl, (by rw [upd_ne nx1]; exact upd_same), R.cl, R.nM, (by show 1 < 1000; decide), ?_⟩
    refine ⟨_, rfl, b, ss.map V.int, rfl, .inl (SqL.of (by rw [upd_ne nb, upd_ne nb1]; exact hS3 _)), fun l2 h2 => ?_⟩
    have nx2 : x ≠ l2 := ne_of_none upd_same h2
    have n12 : l1 ≠ l2 := ne_of_none (show _ = some (HO.lst (ms.map V.int)) by rw [upd_ne (Ne.symm nx1)]; exact upd_same) h2
    refine ⟨_, rfl, x, C, dx, _, rfl, (by rw [upd_ne nx2]; exact upd_same), R.cl, R.nS, (by show 2 < 1000; decide), ?_⟩
    have up : ∀ (H : Hp) (x : Addr) (o' : HO) (c : Addr) (o : HO), H c = some o → ∃ o'', upd H x o' c = some o'' := fun H x o' c o e => by
      by_cases z : c = x
      · exact ⟨o', by rw [z]; exact upd_same⟩
      · exact ⟨o, by rw [upd_ne z]; exact e⟩
    have f1 : H l1 = none := none_of (fun c o e => up _ _ _ _ _ (s12 _ _ e)) h1
    have f2 : H l2 = none := none_of (fun c o e => by
      obtain ⟨o1, e1⟩ := up H2 x (.ins C dx (putF "_length" (V.int n) [])) _ _ (s12 _ _ e)
      obtain ⟨o2, e2⟩ := up _ l1 (.lst (ms.map V.int)) _ _ e1
      exact up _ _ _ _ _ e2) h2
    refine k _ ⟨dx, l1, l2, upd_same, ?_, ?_, f1, f2⟩ ?_
    · show upd _ _ _ l1 = _
      rw [upd_ne (Ne.symm nx1), upd_ne n12, upd_ne (Ne.symm nx1)]
      exact upd_same
    · show upd _ _ _ l2 = _
      rw [upd_ne (Ne.symm nx2)]
      exact upd_same
    · intro c o ec nc
      have e3 : ∀ o', upd H2 x o' c = some o := fun o' => by
        rw [upd_ne nc]
        exact s12 _ _ ec
      have e4 := e3 (.ins C dx (putF "_length" (V.int n) []))
      have ne1 : c ≠ l1 := ne_of_none e4 h1
      rw [upd_ne nc]
      have e5 : upd (upd (upd H2 x (.ins C dx (putF "_length" (V.int n) []))) l1 (.lst (ms.map V.int))) x (.ins C dx (putF "_marks" (V.ref l1) (putF "_length" (V.int n) []))) c = some o := by
        rw [upd_ne nc, upd_ne ne1]
        exact e4
      rw [upd_ne (ne_of_none e5 h2)]
      exact e5
end
end Cw
namespace Cw
open PySem PySem.Spec PyProof.Rows L2
theorem dps_ints {K : PySem.W.Frag} {H : Hp} : ∀ ns : List Int, DpAll K H (ns.map V.int) (ns.map PyData.int)
  | [] => .nil
  | n :: r => .cons (.int n) (dps_ints r)
theorem dp_il {K : PySem.W.Frag} {H : Hp} {a : Addr} {ns : List Int} (h : IL H a ns) : Dp K H (.ref a) (.list (ns.map PyData.int)) := .lst (SqL.of h) (dps_ints ns)
theorem depth_ints : ∀ ns : List Int, PyData.depthAll (ns.map PyData.int) ≤ 1 := fun ns => by
  induction ns with
  | nil => exact Nat.zero_le _
  | cons n r ih =>
    rw [List.map_cons]
    unfold PyData.depthAll PyData.depth
    omega
theorem lay_ints : ∀ ns : List Int, PyData.canLayAll0 (ns.map PyData.int) = true := fun ns => by
  induction ns with
  | nil => rfl
  | cons n r ih =>
    rw [List.map_cons]
    unfold PyData.canLayAll0 PyData.canLay0
    rw [ih]
    rfl
theorem shape_il (ns : List Int) : SeqAt.shaped (.list (ns.map PyData.int)) = true := by
  have h1 : PyData.canLay0 (.list (ns.map PyData.int)) = true := by
    unfold PyData.canLay0
    exact lay_ints ns
  have h2 : PyData.depth (.list (ns.map PyData.int)) ≤ 64 := by
    have z := depth_ints ns
    unfold PyData.depth
    omega
  unfold SeqAt.shaped
  rw [h1, decide_eq_true h2]
  rfl
theorem eqv_il (ns : List Int) : PyData.eqv (.list (ns.map PyData.int)) (.list (ns.map PyData.int)) = true := SeqAt.eqv_refl _ (SeqAt.canLay_of_shaped (shape_il ns))
section
variable {X : Cx} {a b c d : Expr} {ta tb tc td : TE} {pos : Pos}
/-- a op1 b op2 c op3 d -/
def tChain3 (r1 r2 r3 : R2) (ta tb tc td : TE) : TE := fun σ H Q => ta σ H fun x H1 => tb σ H1 fun y H2 => r1 x y H2 fun z H3 => ∃ k, z = .bl k ∧
  (if k = true then tc σ H3 fun u H4 => r2 y u H4 fun z2 H5 => ∃ k2, z2 = .bl k2 ∧ (if k2 = true then td σ H5 fun v H6 => r3 u v H6 Q else Q (.bl false) H5) else Q (.bl false) H3)
theorem pt_chain3 {o1 o2 o3 : CmpOp} {r1 r2 r3 : R2} (h1 : OpR X (compareOp o1) r1) (h2 : OpR X (compareOp o2) r2) (h3 : OpR X (compareOp o3) r3) (ha : PE X a ta) (hb : PE X b tb) (hc : PE X c tc) (hd : PE X d td)
    (hm : lastMarks [o1, o2, o3] [b, c, d] = false := by with_unfolding_all rfl) : PT X (.Compare a [o1, o2, o3] [b, c, d] pos) (tTest (tChain3 r1 r2 r3 ta tb tc td)) := by
  refine ⟨fun pins s σ H Q I h => ?_⟩
  refine isTrue_chain (thn (ha.run pins s σ H _ I h) fun v s1 ⟨x, H1, I1, e1, q1⟩ => test_link (thn (hb.run pins s1 σ H1 _ I1 q1) fun u s2 ⟨y, H2, I2, e2, q2⟩ =>
    thn (h1 pins s2 σ H2 x y v u _ I2 e1 e2 q2) fun d1 s3 ⟨z, H3, I3, e3, k, e, q3⟩ => ?_)) hm
  subst e
  cases e3
  refine wpAny_truthy_bool ?_
  cases k with
  | false =>
    obtain ⟨k', e', q'⟩ := q3
    cases e'
    exact ite_ff ⟨H3, I3, q'⟩
  | true =>
    refine ite_tt (test_link (thn (hc.run pins s3 σ H3 _ I3 q3) fun w' s4 ⟨z', H4, I4, e4, q4⟩ => thn (h2 pins s4 σ H4 y z' u w' _ I4 e2 e4 q4) fun d' s5 ⟨z2, H5, I5, e5, k2, f2, q5⟩ => ?_))
    subst f2
    cases e5
    refine wpAny_truthy_bool ?_
    cases k2 with
    | false =>
      obtain ⟨k', e', q'⟩ := q5
      cases e'
      exact ite_ff ⟨H5, I5, q'⟩
    | true =>
      refine ite_tt (test_last (thn (hd.run pins s5 σ H5 _ I5 q5) fun w2 s6 ⟨y2, H6, I6, e6, q6⟩ => thn (h3 pins s6 σ H6 z' y2 w' w2 _ I6 e4 e6 q6) fun d2 s7 ⟨y3, H7, I7, e7, k3, f3, q7⟩ => ?_))
      subst f3
      cases e7
      exact wpAny_truthy_bool ⟨H7, I7, q7⟩
end
/-- two rows alike -/
def Alike (C : Addr) : Addr → Addr → Hp → Prop := fun a b H => ∃ n ms ss, RowAt C H a n ms ss ∧ RowAt C H b n ms ss
/-- what a row's .marks promises -/
def spGetM (C : Addr) : Sp := fun vs H Q _ => ∃ (a : Addr) (n : Int) (ms ss : List Int), vs = [.ref a] ∧ RowAt C H a n ms ss ∧ ∀ p H', Same H H' → H p = none → IL H' p ms → Q (.ref p) H'
/-- what isinstance asks of the class -/
structure Ci (K : PySem.W.Frag) (C : Addr) : Prop where
  ha : PySem.W.findIn K (.ref C) "__class__" = some (some (.builtin "object.__class__"))
  hn : PySem.W.specialIn K (.builtin "object.__class__") "__get__" = some (some (.builtin "getset_descriptor.__get__"))
  ht : PySem.W.takesIn K (.builtin "object.__class__") = some true
  hm : PySem.W.mroIn K C (.type "object") = some true
section
variable {P : Program} {w : World} {K : PySem.W.Frag} {mg : Str → Option Value} {base : Heap}
theorem scG : FnScope ["self"] ["self"] (defScope sGetM) := ⟨rfl, rfl, rfl, by decide +kernel, rfl, by decide +kernel, by decide +kernel⟩
theorem ok_getM {f C : Addr} {fd : FuncData} (F : Fun K "marks" "Row.marks" sGetM f fd) (T : Bl mg) (R : Cl K mg C) : FnOk P w K mg base CX0 1 f fd ["self"] (spGetM C) := by
  refine F.ok scG (fun vs H Q E h => ?_) (fun cdv A outer s H vs Q E hr h => ?_)
  · obtain ⟨a, n, ms, ss, rfl, _⟩ := h
    rfl
  · obtain ⟨a, n, ms, ss, rfl, ⟨dx, l1, l2, ho, h1, h2⟩, k⟩ := h
    refine ⟨_, pss_one (ps_ret (pe_callTy call_list_of (by rfl) T.list (by decide +kernel) (pa_cons (pe_fld (pv 0) rfl) pa_nil))), ?_⟩
    refine ⟨_, rfl, a, C, dx, _, _, rfl, ho, R.cl, R.nM, fl_M _ _ _, l1, _, rfl, .inl (SqL.of h1), fun p hp => ?_⟩
    exact k p _ (same_new (Same.refl H) hp) hp upd_same
theorem scE : FnScope ["self", "other"] ["self", "other"] (defScope sEq) := ⟨rfl, rfl, rfl, by decide +kernel, rfl, by decide +kernel, by decide +kernel⟩
theorem ok_eq {f C : Addr} {fd : FuncData} (F : Fun K "__eq__" "Row.__eq__" sEq f fd) (T : Bl mg) (R : Cl K mg C) (N : Ci K C) : FnOk P w K mg base CX0 1 f fd ["self", "other"] (spEq (Alike C)) := by
  refine F.ok scE (fun vs H Q E h => ?_) (fun cdv A outer s H vs Q E hr h => ?_)
  · obtain ⟨a, b, rfl, _⟩ := h
    rfl
  · obtain ⟨a, b, rfl, ⟨n, ms, ss, ⟨dx, l1, l2, ho, h1, h2⟩, ⟨dy, m1, m2, hp, g1, g2⟩⟩, k⟩ := h
    refine ⟨_, pss_cons (ps_if (pt_not (pt_val (pe_callB call_isi (by rfl) T.isi (by decide +kernel) (pa_cons (pv 1) (pa_cons (pe_glob (by rfl) R.mgR (v := V.ref C) rfl) pa_nil))))) (pss_one (ps_ret pe_bl)) pss_nil)
      (pss_cons (ps_if (pt_cmpR op_ne (pe_fld (pv 0) rfl) (pe_fld (pv 1) rfl) (nomark _)) (pss_one (ps_ret pe_bl)) pss_nil)
      (pss_one (ps_ret (pe_and (pe_cmpR (op_eqD hr.units) (pe_fld (pv 0) rfl) (pe_fld (pv 1) rfl) (nomark _)) (pe_one (pe_cmpR (op_eqD hr.units) (pe_fld (pv 0) rfl) (pe_fld (pv 1) rfl) (nomark _))))))), ?_⟩
    refine ⟨_, rfl, _, _, _, _, true, rfl, ClsV.own _, .base (.ins hp R.cl N.ha N.hn N.ht N.hm), R.kit, _, rfl, ?_⟩
    refine ifF rfl ?_
    refine ⟨_, rfl, a, C, dx, _, _, rfl, ho, R.cl, R.nL, fl_L _ _ _, _, rfl, b, C, dy, _, _, rfl, hp, R.cl, R.nL, fl_L _ _ _, rfl, _, rfl, ?_⟩
    refine ifF (by simp) ?_
    refine ⟨_, rfl, a, C, dx, _, _, rfl, ho, R.cl, R.nM, fl_M _ _ _, _, rfl, b, C, dy, _, _, rfl, hp, R.cl, R.nM, fl_M _ _ _, _, _, dp_il h1, dp_il g1, shape_il _, shape_il _, _, rfl, ?_⟩
    refine ifT (eqv_il ms) ?_
    refine ⟨_, rfl, a, C, dx, _, _, rfl, ho, R.cl, R.nS, fl_S _ _ _, _, rfl, b, C, dy, _, _, rfl, hp, R.cl, R.nS, fl_S _ _ _, _, _, dp_il h2, dp_il g2, shape_il _, shape_il _, ?_⟩
    have z := k H Ext.rfl'
    rw [← eqv_il ss] at z
    exact z
end
end Cw
namespace Cw
open PySem L2
theorem same_ins {H H1 H' : Hp} {x dx C : Addr} (s : Same H H1) (nx : H1 x = none) (nd : H1 dx = none) (k : ∀ c o, upd (upd H1 dx (.own x)) x (.ins C dx []) c = some o → c ≠ x → H' c = some o) : Same H H' := fun c o e => by
  have z := s _ _ e
  refine k c o ?_ (ne_of_none z nx)
  rw [upd_ne (ne_of_none z nx), upd_ne (ne_of_none z nd)]
  exact z
theorem ints_app {ns : List Int} {z : Int} : ns.map V.int ++ [V.int z] = (ns ++ [z]).map V.int := by rw [List.map_append]; rfl
abbrev sJar : Stmt := top 23
abbrev sDip : Stmt := top 24
abbrev sThree : Stmt := top 25
abbrev sSmall : Stmt := top 26
abbrev sGreat : Stmt := top 0
def But (H H' : Hp) (b : Addr) : Prop := ∀ a o, H a = some o → a ≠ b → H' a = some o
theorem But.refl (H : Hp) (b : Addr) : But H H b := fun _ _ e _ => e
theorem But.trans {H H1 H2 : Hp} {b : Addr} (x : But H H1 b) (y : But H1 H2 b) : But H H2 b := fun a o e n => y a o (x a o e n) n
theorem But.of {H H1 : Hp} {b : Addr} (x : Same H H1) : But H H1 b := fun a o e _ => x a o e
theorem But.upd {H H1 : Hp} {b : Addr} {o : HO} (x : But H H1 b) : But H (upd H1 b o) b := fun a u e n => by
  rw [upd_ne n]
  exact x a u e n
theorem But.put {H H1 : Hp} {b p : Addr} {o : HO} (x : But H H1 b) (h : H p = none) : But H (L2.upd H1 p o) b := fun a u e n => by
  rw [upd_ne (ne_of_none e h)]
  exact x a u e n
theorem But.new {H H1 : Hp} {b p : Addr} {o : HO} (x : But H H1 b) (h : H1 p = none) : But H (L2.upd H1 p o) b := fun a u e n => by
  rw [upd_ne (ne_of_none (x a u e n) h)]
  exact x a u e n
def CPowW (i j : Int) : Prop := 0 ≤ j ∧ ((Builtin.Int.intBits i : Nat) : Int) * j ≤ 2 ^ 27
theorem op_powW {X : Cx} : OpR X (binaryOp .Pow) (rI CPowW fun i j => .int (i ^ j.toNat)) := opI fun _ _ _ _ _ _ _ hc q => PyProof.Rows.pow_int hc.1 hc.2 q
theorem cube_ok {i : Int} (h0 : 0 ≤ i) (h1 : i < 2 ^ 250) : CPowW i 3 := by
  have z : Builtin.Int.intBits i ≤ 250 := PyProof.Rows.intBits_le (k := 250) (by
    have e : ((2 ^ 250 : Nat) : Int) = 2 ^ 250 := by norm_cast
    omega)
  refine ⟨by decide, ?_⟩
  have e : (2 : Int) ^ 27 = 134217728 := by decide
  omega
/-- the draws: what is left of the cell, the stirred number, the turns; k more draws are surely allowed -/
def JarAt (H : Hp) (a : Addr) (k : Nat) : Prop := ∃ r m n : Int, H a = some (.lst [.int r, .int m, .int n]) ∧ 0 ≤ m ∧ m < 2 ^ 200 ∧ 0 ≤ n ∧ n + k ≤ 5000
theorem JarAt.mono {H : Hp} {a : Addr} {k j : Nat} (h : JarAt H a k) (l : j ≤ k) : JarAt H a j := by
  obtain ⟨r, m, n, e, h0, h1, h2, h3⟩ := h
  exact ⟨r, m, n, e, h0, h1, h2, by omega⟩
theorem JarAt.same {H H' : Hp} {a : Addr} {k : Nat} (h : JarAt H a k) (s : Same H H') : JarAt H' a k := by
  obtain ⟨r, m, n, e, q⟩ := h
  exact ⟨r, m, n, s _ _ e, q⟩
theorem JarAt.put {H : Hp} {a p : Addr} {o : HO} {k : Nat} (h : JarAt H a k) (n : a ≠ p) : JarAt (upd H p o) a k := by
  obtain ⟨r, m, i, e, q⟩ := h
  exact ⟨r, m, i, by rw [upd_ne n]; exact e, q⟩
theorem JarAt.ne {H : Hp} {a p : Addr} {k : Nat} (h : JarAt H a k) (n : H p = none) : a ≠ p := by
  obtain ⟨r, m, i, e, q⟩ := h
  exact ne_of_none e n
theorem JarAt.no {H : Hp} {a p : Addr} {o : HO} {k : Nat} (h : JarAt H a k) (e : H p = some o) (z : ∀ r m n : Int, o ≠ .lst [.int r, .int m, .int n]) : p ≠ a := fun x => by
  obtain ⟨r, m, i, f, q⟩ := h
  rw [x, f] at e
  exact z r m i (Option.some.inj e).symm
theorem pos47 : (0 : Int) < 10 ^ Int.toNat 47 + 91 := by decide +kernel
theorem pos46 : (0 : Int) < 10 ^ Int.toNat 46 + 79 := by decide +kernel
def spDip : Sp := fun vs H Q _ => ∃ (a : Addr) (k : Nat) (w : Int), vs = [.ref a, .int w] ∧ JarAt H a (k + 1) ∧ 0 < w ∧ w < 2 ^ 120 ∧ ∀ (v : Int) (H' : Hp), 0 ≤ v → v < w → JarAt H' a k → But H H' a → Q (.int v) H'
/-- the script's jar -/
def spJar (K : PySem.W.Frag) : Sp := fun vs H Q _ => ∃ (a : Addr) (ns : List Int) (i : Nat), vs = [.ref a, .int i] ∧ SqL K H a (ns.map V.int) ∧ i ≤ ns.length ∧ ns.length ≤ 63 ∧ ∀ p H', Same H H' → H p = none → JarAt H' p 5000 → Q (.ref p) H'
section
variable {P : Program} {w : World} {K : PySem.W.Frag} {mg : Str → Option Value} {base : Heap}
theorem scD : FnScope ["jar", "many", "digit", "mixed"] ["jar", "many"] (defScope sDip) := ⟨rfl, rfl, rfl, by decide +kernel, rfl, by decide +kernel, by decide +kernel⟩
theorem ok_dip {f : Addr} {fd : FuncData} (F : Fun K "_law_dip" "_law_dip" sDip f fd) (T : Bl mg) : FnOk P w K mg base CX0 1 f fd ["jar", "many"] spDip := by
  refine F.ok scD (fun vs H Q E h => ?_) (fun cdv A outer s H vs Q E hr h => ?_)
  · obtain ⟨a, k, w, rfl, _⟩ := h
    rfl
  · obtain ⟨a, k, w, rfl, ⟨r, m, n, hj, m0, m1, n0, n1⟩, w0, w1, q⟩ := h
    have wn : w.natAbs < 2 ^ 120 := by
      have e : ((2 ^ 120 : Nat) : Int) = 2 ^ 120 := by norm_cast
      omega
    have dv : ∀ i, CDivW i w := fun i => wide_div w0 wn (by decide) (by decide)
    refine ⟨_, pss_cons (ps_if (pt_cmpR op_gt (pe_ix ix_list (pv 0) pe_int (fun _ _ => rfl)) pe_int (nomark _))
        (pss_cons (ps_set (i := 2) scD.nd rfl (Or.inl rfl) (pe_op op_mod (pe_callTy call_int1 (by rfl) T.int (by decide +kernel) (pa_cons (pe_ix ix_list (pv 0) pe_int (fun _ _ => rfl)) pa_nil)) (pv 1)))
        (pss_cons (ps_asg (pe_op op_fdivW (pe_ix ix_list (pv 0) pe_int (fun _ _ => rfl)) (pv 1)) (pg_sub (pv 0) pe_int L2.set_list))
        (pss_one (ps_ret (pv 2))))) pss_nil)
      (pss_cons (ps_asg (pe_op op_add (pe_ix ix_list (pv 0) pe_int (fun _ _ => rfl)) pe_int) (pg_sub (pv 0) pe_int L2.set_list))
      (pss_cons (ps_set (i := 3) scD.nd rfl (Or.inl rfl) (pe_op op_mod (pe_callTy call_int1 (by rfl) T.int (by decide +kernel) (pa_cons (pe_op op_powW (pe_op op_add (pe_ix ix_list (pv 0) pe_int (fun _ _ => rfl)) (pe_op op_mul pe_int (pe_ix ix_list (pv 0) pe_int (fun _ _ => rfl)))) pe_int) pa_nil)) (pe_op op_add (pe_op op_pow pe_int pe_int) pe_int)))
      (pss_cons (ps_set (i := 3) scD.nd rfl (Or.inl rfl) (pe_op op_mod (pe_callTy call_int1 (by rfl) T.int (by decide +kernel) (pa_cons (pe_op op_powW (pe_op op_add (pv 3) (pe_op op_mul pe_int (pe_ix ix_list (pv 0) pe_int (fun _ _ => rfl)))) pe_int) pa_nil)) (pe_op op_add (pe_op op_pow pe_int pe_int) pe_int)))
      (pss_one (ps_ret (pe_op op_mod (pe_callTy call_int1 (by rfl) T.int (by decide +kernel) (pa_cons (pe_op op_fdivW (pv 3) pe_int) pa_nil)) (pv 1))))))), ?_⟩
    refine ⟨_, rfl, a, _, 0, _, rfl, rfl, SqL.of hj, rfl, _, _, rfl, rfl, _, rfl, ?_⟩
    by_cases hr0 : r > 0
    · refine ifT (decide_eq_true hr0) ?_
      refine ⟨_, rfl, a, _, 0, _, rfl, rfl, SqL.of hj, rfl, .inl ⟨_, rfl, _, rfl, _, _, rfl, rfl, w0, ?_⟩⟩
      refine ⟨_, rfl, a, _, 0, _, rfl, rfl, SqL.of hj, rfl, _, rfl, _, _, rfl, rfl, dv _, _, rfl, a, _, 0, 0, rfl, rfl, hj, rfl, ?_⟩
      refine ⟨_, rfl, ?_⟩
      exact q _ _ (Int.emod_nonneg _ (by omega)) (Int.emod_lt_of_pos _ w0) ⟨_, m, n, upd_same, m0, m1, n0, by omega⟩ (But.refl H a).upd
    · refine ifF (decide_eq_false hr0) ?_
      refine ⟨_, rfl, a, _, 2, _, rfl, rfl, SqL.of hj, rfl, _, _, rfl, rfl, _, rfl, a, _, 2, 2, rfl, rfl, hj, rfl, ?_⟩
      have hj2 : upd H a (.lst [.int r, .int m, .int (n + 1)]) a = some (.lst [.int r, .int m, .int (n + 1)]) := upd_same
      refine ⟨_, rfl, a, _, 1, _, rfl, rfl, SqL.of hj2, rfl, _, rfl, a, _, 2, _, rfl, rfl, SqL.of hj2, rfl, _, _, rfl, rfl, .inl ⟨by decide, by decide⟩, _, _, rfl, rfl, ?_⟩
      have e200 : (2 : Int) ^ 200 + 60000049 * 5001 < 2 ^ 250 := by decide +kernel
      refine ⟨_, _, rfl, rfl, cube_ok (by omega) (by omega), .inl ⟨_, rfl, _, _, rfl, rfl, ⟨by decide, by decide, by decide⟩, _, _, rfl, rfl, _, _, rfl, rfl, pos47, ?_⟩⟩
      generalize hx : ((m + 60000049 * (n + 1)) ^ Int.toNat 3) % (10 ^ Int.toNat 47 + 91) = x
      have x0 : 0 ≤ x := by
        rw [← hx]
        exact Int.emod_nonneg _ (by decide +kernel)
      have x1 : x < 10 ^ Int.toNat 47 + 91 := by
        rw [← hx]
        exact Int.emod_lt_of_pos _ (by decide +kernel)
      have e47 : (10 : Int) ^ Int.toNat 47 + 91 + 35000021 * 5001 < 2 ^ 250 := by decide +kernel
      refine ⟨_, rfl, _, rfl, a, _, 2, _, rfl, rfl, SqL.of hj2, rfl, _, _, rfl, rfl, .inl ⟨by decide, by decide⟩, _, _, rfl, rfl, _, _, rfl, rfl, cube_ok (by omega) (by omega), .inl ⟨_, rfl, _, _, rfl, rfl, ⟨by decide, by decide, by decide⟩, _, _, rfl, rfl, _, _, rfl, rfl, pos46, ?_⟩⟩
      refine ⟨_, rfl, _, _, rfl, rfl, wide_div (b := 31) (by decide) (by decide) (by decide) (by decide), .inl ⟨_, rfl, _, rfl, _, _, rfl, rfl, w0, ?_⟩⟩
      exact q _ _ (Int.emod_nonneg _ (by omega)) (Int.emod_lt_of_pos _ w0) ⟨r, m, n + 1, upd_same, m0, m1, by omega, by omega⟩ (But.refl H a).upd
end
end Cw
namespace Cw
open PySem L2
theorem at_of2 {α : Type} {xs : List α} {z : Int} {j : Nat} {v : α} (e : z = (j : Int)) (h : xs[j]? = some v) : atI xs z = some v := by
  rw [e]
  exact atI_nat h
theorem at_lt {α : Type} {xs : List α} {z : Int} (h0 : 0 ≤ z) (h1 : z < xs.length) : ∃ v, atI xs z = some v ∧ v ∈ xs := by
  have hz : z.toNat < xs.length := by omega
  have hj : z = ((z.toNat : Nat) : Int) := by omega
  exact ⟨xs[z.toNat], at_of2 hj (List.getElem?_eq_getElem hz), List.getElem_mem hz⟩
/-- one of three ints -/
theorem at3 {z x y u : Int} (h0 : 0 ≤ z) (h1 : z < 3) : ∃ v, atI [V.int x, V.int y, V.int u] z = some (V.int v) ∧ (v = x ∨ v = y ∨ v = u) := by
  obtain ⟨v, e, m⟩ := at_lt (xs := [V.int x, V.int y, V.int u]) h0 (by simpa using h1)
  simp only [List.mem_cons, List.not_mem_nil, or_false] at m
  rcases m with rfl | rfl | rfl
  · exact ⟨x, e, .inl rfl⟩
  · exact ⟨y, e, .inr (.inl rfl)⟩
  · exact ⟨u, e, .inr (.inr rfl)⟩
def spThree : Sp := fun vs H Q _ => ∃ (a : Addr) (k : Nat) (w : Int), vs = [.ref a, .int w] ∧ JarAt H a (k + 7) ∧ 0 < w ∧ w < 2 ^ 120 ∧
  ∀ (p : Addr) (H' : Hp) (l n g : Int), 1 ≤ l → l ≤ w → l ≤ n → n ≤ 2 * w + 3 → n ≤ g → g ≤ 3 * w + 6 → JarAt H' a k → But H H' a → H' p = some (.tup [.int l, .int n, .int g]) → H p = none → Q (.ref p) H'
theorem pos43 : (0 : Int) < 10 ^ Int.toNat 43 + 57 := by decide +kernel
section
variable {P : Program} {w : World} {K : PySem.W.Frag} {mg : Str → Option Value} {base : Heap}
theorem scJ : FnScope ["script", "k", "cell_here"] ["script", "k"] (defScope sJar) := ⟨rfl, rfl, rfl, by decide +kernel, rfl, by decide +kernel, by decide +kernel⟩
theorem ok_jar {f : Addr} {fd : FuncData} (F : Fun K "_law_jar" "_law_jar" sJar f fd) (T : Bl mg) : FnOk P w K mg base CX0 1 f fd ["script", "k"] (spJar K) := by
  refine F.ok scJ (fun vs H Q E h => ?_) (fun cdv A outer s H vs Q E hr h => ?_)
  · obtain ⟨a, ns, i, rfl, _⟩ := h
    rfl
  · obtain ⟨a, ns, i, rfl, hS, hi, hl, q⟩ := h
    refine ⟨_, pss_cons (ps_set (i := 2) scJ.nd rfl (Or.inl rfl) (pe_ifExp (pt_cmpR op_lt (pv 1) (pe_callB call_len_seq (by rfl) T.len PySem.boot_len (pa_cons (pv 0) pa_nil)) (nomark _))
        (pe_callB call_abs (by rfl) T.abs (by decide +kernel) (pa_cons (pe_ix ix_list (pv 0) (pv 1) (fun _ _ => rfl)) pa_nil)) pe_int))
      (pss_one (ps_ret (pe_lst (pa_cons (pe_callB (call_max2 rfl) (by rfl) T.max (by decide +kernel) (pa_cons pe_int (pa_cons (pe_op op_sub (pv 2) (pe_op op_pow pe_int pe_int)) pa_nil)))
        (pa_cons (pe_op op_add (pe_op op_mul (pe_op op_mod (pe_callTy call_int1 (by rfl) T.int (by decide +kernel) (pa_cons (pv 2) pa_nil)) (pe_op op_add (pe_op op_pow pe_int pe_int) pe_int)) pe_int) (pe_op op_mul pe_int (pv 1)))
        (pa_cons pe_int pa_nil)))))), ?_⟩
    have main : ∀ c : Int, 0 ≤ (c % (10 ^ Int.toNat 43 + 57)) * 101 + 70001 * (i : Int) ∧ (c % (10 ^ Int.toNat 43 + 57)) * 101 + 70001 * (i : Int) < 2 ^ 200 := fun c => by
      have x0 := Int.emod_nonneg c (b := 10 ^ Int.toNat 43 + 57) (by decide +kernel)
      have x1 := Int.emod_lt_of_pos c pos43
      have e : ((10 : Int) ^ Int.toNat 43 + 57) * 101 + 70001 * 64 < 2 ^ 200 := by decide +kernel
      omega
    refine ⟨_, rfl, _, rfl, a, _, rfl, .inl hS, _, _, rfl, rfl, _, rfl, ?_⟩
    by_cases hi2 : i < ns.length
    · refine ifT (decide_eq_true (by rw [List.length_map]; omega)) ?_
      have e1 : (ns.map V.int)[i]? = some (V.int ns[i]) := by
        rw [List.getElem?_map, List.getElem?_eq_getElem hi2]
        rfl
      refine ⟨_, rfl, _, rfl, a, _, _, _, rfl, rfl, hS, at_of2 (j := i) rfl e1, _, rfl, ?_⟩
      generalize (if ns[i] < 0 then -ns[i] else ns[i]) = c
      refine ⟨_, rfl, _, _, rfl, rfl, ⟨by decide, by decide, by decide⟩, _, _, rfl, rfl, _, _, rfl, ?_⟩
      refine ⟨_, rfl, .inl ⟨_, rfl, _, _, rfl, rfl, ⟨by decide, by decide, by decide⟩, _, _, rfl, rfl, _, _, rfl, rfl, pos43, _, _, rfl, rfl, .inr ⟨by decide, by decide⟩, _, rfl, _, _, rfl, rfl, .inl ⟨by decide, by decide⟩, _, _, rfl, rfl, ?_⟩⟩
      refine ⟨(by show 3 ≤ sizeLine; decide), fun p hp => ?_⟩
      exact q p _ (same_new (Same.refl H) hp) hp ⟨_, _, 0, upd_same, (main c).1, (main c).2, by decide, by decide⟩
    · refine ifF (decide_eq_false (by rw [List.length_map]; omega)) ?_
      refine ⟨_, rfl, _, _, rfl, rfl, ⟨by decide, by decide, by decide⟩, _, _, rfl, rfl, _, _, rfl, ?_⟩
      refine ⟨_, rfl, .inl ⟨_, rfl, _, _, rfl, rfl, ⟨by decide, by decide, by decide⟩, _, _, rfl, rfl, _, _, rfl, rfl, pos43, _, _, rfl, rfl, .inr ⟨by decide, by decide⟩, _, rfl, _, _, rfl, rfl, .inl ⟨by decide, by decide⟩, _, _, rfl, rfl, ?_⟩⟩
      refine ⟨(by show 3 ≤ sizeLine; decide), fun p hp => ?_⟩
      exact q p _ (same_new (Same.refl H) hp) hp ⟨_, _, 0, upd_same, (main 0).1, (main 0).2, by decide, by decide⟩
theorem scT : FnScope ["jar", "wide", "least", "normal"] ["jar", "wide"] (defScope sThree) := ⟨rfl, rfl, rfl, by decide +kernel, rfl, by decide +kernel, by decide +kernel⟩
theorem ok_three {f fD : Addr} {fd fdD : FuncData} (F : Fun K "_law_three" "_law_three" sThree f fd) (gD : mg "_law_dip" = some (.ref fD)) (kD : PySem.W.keepIn K (.ref fD) = true) (bD : Binds K fdD ["jar", "many"] []) (GD : FnOk P w K mg base CX0 1 fD fdD ["jar", "many"] spDip) :
    FnOk P w K mg base CX0 2 f fd ["jar", "wide"] spThree := by
  refine F.ok scT (fun vs H Q E h => ?_) (fun cdv A outer s H vs Q E hr h => ?_)
  · obtain ⟨a, k, w, rfl, _⟩ := h
    rfl
  · obtain ⟨a, k, w, rfl, J, w0, w1, q⟩ := h
    refine ⟨_, pss_cons (ps_set (i := 2) scT.nd rfl (Or.inl rfl) (pe_op op_add pe_int (pe_call GD hr rfl gD kD bD .nil pass0 (pa_cons (pv 0) (pa_cons (pv 1) pa_nil)))))
      (pss_cons (ps_set (i := 3) scT.nd rfl (Or.inl rfl) (pe_op op_add (pv 2) (pe_ix ix_list (pe_lst (pa_cons pe_int (pa_cons (pe_call GD hr rfl gD kD bD .nil pass0 (pa_cons (pv 0) (pa_cons (pv 1) pa_nil))) (pa_cons (pe_call GD hr rfl gD kD bD .nil pass0 (pa_cons (pv 0) (pa_cons pe_int pa_nil))) pa_nil))))
        (pe_call GD hr rfl gD kD bD .nil pass0 (pa_cons (pv 0) (pa_cons pe_int pa_nil))) (fun _ _ => rfl))))
      (pss_one (ps_ret (pe_tup (pa_cons (pv 2) (pa_cons (pv 3) (pa_cons (pe_op op_add (pv 3) (pe_ix ix_list (pe_lst (pa_cons pe_int (pa_cons (pe_call GD hr rfl gD kD bD .nil pass0 (pa_cons (pv 0) (pa_cons (pv 1) pa_nil))) (pa_cons (pe_op op_add pe_int (pe_call GD hr rfl gD kD bD .nil pass0 (pa_cons (pv 0) (pa_cons pe_int pa_nil)))) pa_nil))))
        (pe_call GD hr rfl gD kD bD .nil pass0 (pa_cons (pv 0) (pa_cons pe_int pa_nil))) (fun _ _ => rfl))) pa_nil))))))), ?_⟩
    have t3 : (0 : Int) < 3 ∧ (3 : Int) < 2 ^ 120 := ⟨by decide, by decide⟩
    refine ⟨_, rfl, _, rfl, a, k + 6, w, rfl, J, w0, w1, fun v1 H1 a1 b1 J1 B1 => ⟨_, _, rfl, rfl, ?_⟩⟩
    refine ⟨_, rfl, _, rfl, _, rfl, a, k + 5, w, rfl, J1, w0, w1, fun v2 H2 a2 b2 J2 B2 => ?_⟩
    refine ⟨_, rfl, a, k + 4, 3, rfl, J2, t3.1, t3.2, fun v3 H3 a3 b3 J3 B3 => ⟨(by show 3 ≤ sizeLine; decide), fun p hp => ?_⟩⟩
    have np : a ≠ p := J3.ne hp
    have Bp := ((B1.trans B2).trans B3).new (o := .lst [.int 0, .int v2, .int v3]) hp
    refine ⟨_, rfl, a, k + 3, 3, rfl, J3.put np, t3.1, t3.2, fun v4 H4 a4 b4 J4 B4 => ?_⟩
    obtain ⟨i1, e1, c1⟩ := at3 (x := 0) (y := v2) (u := v3) a4 b4
    refine ⟨p, _, _, _, rfl, rfl, SqL.of (B4 _ _ upd_same np.symm), e1, _, _, rfl, rfl, ?_⟩
    refine ⟨_, rfl, _, rfl, _, rfl, _, rfl, _, rfl, a, k + 2, w, rfl, J4, w0, w1, fun v5 H5 a5 b5 J5 B5 => ?_⟩
    refine ⟨_, rfl, a, k + 1, 3, rfl, J5, t3.1, t3.2, fun v6 H6 a6 b6 J6 B6 => ⟨_, _, rfl, rfl, (by show 3 ≤ sizeLine; decide), fun p2 hp2 => ?_⟩⟩
    have np2 : a ≠ p2 := J6.ne hp2
    have Bq := (((Bp.trans B4).trans B5).trans B6).new (o := .lst [.int 0, .int v5, .int (1 + v6)]) hp2
    refine ⟨_, rfl, a, k, 3, rfl, J6.put np2, t3.1, t3.2, fun v7 H7 a7 b7 J7 B7 => ?_⟩
    obtain ⟨i2, e2, c2⟩ := at3 (x := 0) (y := v5) (u := 1 + v6) a7 b7
    refine ⟨p2, _, _, _, rfl, rfl, SqL.of (B7 _ _ upd_same np2.symm), e2, _, _, rfl, rfl, (by show 3 ≤ sizeLine; decide), fun p3 hp3 => ?_⟩
    have Bz := (Bq.trans B7).new (o := .tup [.int (1 + v1), .int (1 + v1 + i1), .int (1 + v1 + i1 + i2)]) hp3
    have hH : H p3 = none := by
      cases e : H p3 with
      | none => rfl
      | some o =>
        have n : p3 ≠ a := fun x => by
          have z := J7.ne hp3
          exact z x.symm
        have z := (Bq.trans B7) _ _ e n
        rw [hp3] at z
        cases z
    refine q p3 _ (1 + v1) (1 + v1 + i1) (1 + v1 + i1 + i2) (by omega) (by omega) (by omega) (by omega) (by omega) (by omega) (J7.put (J7.ne hp3)) Bz upd_same hH
end
end Cw
namespace Cw
open PySem L2
abbrev sHeap : Stmt := top 27
/-! ## raw rows: a length, pairs of a place and a kind, three numbers -/
abbrev PrAt (H : Hp) : List Addr → List (Int × Int) → Prop := Paired (fun t (p : Int × Int) => H t = some (.tup [.int p.1, .int p.2]))
theorem PrAt.imp {H H' : Hp} : ∀ {ts : List Addr} {ps : List (Int × Int)}, PrAt H ts ps → (∀ t (p : Int × Int), H t = some (.tup [.int p.1, .int p.2]) → H' t = some (.tup [.int p.1, .int p.2])) → PrAt H' ts ps
  | _, _, .nil, _ => .nil
  | _, _, .cons h r, k => .cons (k _ _ h) (PrAt.imp r k)
theorem PrAt.app {H : Hp} : ∀ {ts us : List Addr} {ps qs : List (Int × Int)}, PrAt H ts ps → PrAt H us qs → PrAt H (ts ++ us) (ps ++ qs)
  | _, _, _, _, .nil, h => h
  | _, _, _, _, .cons a r, h => .cons a (PrAt.app r h)
theorem PrAt.len {H : Hp} : ∀ {ts : List Addr} {ps : List (Int × Int)}, PrAt H ts ps → ts.length = ps.length
  | _, _, .nil => rfl
  | _, _, .cons _ r => by rw [List.length_cons, List.length_cons, PrAt.len r]
theorem PrAt.get {H : Hp} : ∀ {ts : List Addr} {ps : List (Int × Int)} {i : Nat} {v : V}, PrAt H ts ps → (ts.map V.ref)[i]? = some v → ∃ t p, v = .ref t ∧ ps[i]? = some p ∧ H t = some (.tup [.int p.1, .int p.2])
  | _, _, 0, v, .cons (a := t) (b := p) a _, e => ⟨t, p, (Option.some.inj e).symm, rfl, a⟩
  | _, _, i + 1, v, .cons _ r, e => by
    obtain ⟨t, p, h1, h2, h3⟩ := PrAt.get (i := i) r e
    exact ⟨t, p, h1, h2, h3⟩
  | _, _, _, _, .nil, e => by simp at e
def RawAt (H : Hp) (p : Addr) (n : Int) (prs : List (Int × Int)) : Prop := ∃ l t ts, H p = some (.tup [.int n, .ref l, .ref t]) ∧ H l = some (.lst (ts.map V.ref)) ∧ PrAt H ts prs
theorem RawAt.imp {H H' : Hp} {p : Addr} {n : Int} {prs : List (Int × Int)} (r : RawAt H p n prs) (k : ∀ c o, H c = some o → (∀ r m n : Int, o ≠ .lst [.int r, .int m, .int n]) → H' c = some o) : RawAt H' p n prs := by
  obtain ⟨l, t, ts, h1, h2, h3⟩ := r
  refine ⟨l, t, ts, k _ _ h1 (fun _ _ _ z => nomatch z), k _ _ h2 (fun r m n z => ?_), h3.imp fun t p h => k _ _ h (fun _ _ _ z => nomatch z)⟩
  injection z with z
  cases ts with
  | nil => cases z
  | cons t ts => cases z
theorem RawAt.same {H H' : Hp} {p : Addr} {n : Int} {prs : List (Int × Int)} (r : RawAt H p n prs) (s : Same H H') : RawAt H' p n prs := r.imp fun c o e _ => s c o e
theorem RawAt.but {H H' : Hp} {p a : Addr} {k : Nat} {n : Int} {prs : List (Int × Int)} (r : RawAt H p n prs) (J : JarAt H a k) (s : But H H' a) : RawAt H' p n prs := r.imp fun c o e z => s c o e (J.no e z)
structure GoodP (n : Int) (prs : List (Int × Int)) : Prop where
  pos : 1 ≤ n
  len : prs.length ≤ 400
  rng : ∀ q ∈ prs, 1 ≤ q.1 ∧ q.1 ≤ n - 1 ∧ (q.2 = 1 ∨ q.2 = 2)
  asc : Asc (prs.map (·.1))
abbrev marksOf (prs : List (Int × Int)) : List Int := prs.map (·.1)
abbrev strictOf (prs : List (Int × Int)) : List Int := (prs.filter fun q => decide (q.2 = 2)).map (·.1)
theorem GoodP.good {n : Int} {prs : List (Int × Int)} (g : GoodP n prs) : Good n (marksOf prs) (strictOf prs) := by
  refine ⟨g.pos, by rw [List.length_map]; have := g.len; omega, fun x hx => ?_, g.asc, ?_, fun x hx => ?_⟩
  · obtain ⟨q, hq, rfl⟩ := List.mem_map.mp hx
    have := g.rng q hq
    exact ⟨this.1, this.2.1⟩
  · have z : List.Sublist (strictOf prs) (marksOf prs) := (List.filter_sublist).map _
    exact g.asc.sublist z
  · obtain ⟨q, hq, rfl⟩ := List.mem_map.mp hx
    exact List.mem_map.mpr ⟨q, (List.mem_filter.mp hq).1, rfl⟩
def spHeap (C : Addr) : Sp := fun vs H Q _ => ∃ (p : Addr) (n : Int) (prs : List (Int × Int)), vs = [.ref p] ∧ RawAt H p n prs ∧ GoodP n prs ∧ ∀ q H', Same H H' → RowNew C H H' q n (marksOf prs) (strictOf prs) → Q (.ref q) H'
theorem ref_at {ts : List Addr} {i : Nat} {x : V} (h : (ts.map V.ref)[i]? = some x) : i < ts.length := by
  have := (List.getElem?_eq_some_iff.mp h).1
  rwa [List.length_map] at this
theorem take_map2 {ps : List (Int × Int)} {i : Nat} {z : Int × Int} (h : ps[i]? = some z) : marksOf (ps.take (i + 1)) = marksOf (ps.take i) ++ [z.1] := by
  rw [List.take_add_one, h, marksOf, List.map_append]
  rfl
theorem take_fil2 {ps : List (Int × Int)} {i : Nat} {z : Int × Int} (h : ps[i]? = some z) : strictOf (ps.take (i + 1)) = strictOf (ps.take i) ++ (if z.2 = 2 then [z.1] else []) := by
  rw [List.take_add_one, h, strictOf, List.filter_append, List.map_append]
  congr 1
  show List.map _ (List.filter _ [z]) = _
  rw [List.filter_cons]
  by_cases c : z.2 = 2 <;> simp [c]
section
variable {P : Program} {w : World} {K : PySem.W.Frag} {mg : Str → Option Value} {base : Heap}
abbrev NH : List Str := ["raw", "spot", "kind"]
theorem scH : FnScope NH ["raw"] (defScope sHeap) := ⟨rfl, rfl, rfl, by decide +kernel, rfl, by decide +kernel, by decide +kernel⟩
theorem ok_heap {f C fI : Addr} {fd fdI : FuncData} (F : Fun K "_law_heap" "_law_heap" sHeap f fd) (R : Cl K mg C) (M : Mk K C fI) (bI : Binds K fdI NI []) (GI : FnOk P w K mg base CX0 5 fI fdI NI (spInit C)) :
    FnOk P w K mg base CX0 7 f fd ["raw"] (spHeap C) := by
  refine F.ok scH (fun vs H Q E h => ?_) (fun cdv A outer s H vs Q E hr h => ?_)
  · obtain ⟨p, n, prs, rfl, _⟩ := h
    rfl
  · obtain ⟨p, n, prs, rfl, ⟨l, t, ts, h1, h2, h3⟩, G, q⟩ := h
    refine ⟨_, pss_one (ps_ret (pe_make M GI hr rfl R.mgR bI .nil pass0 (pa_cons (pe_ix ix_tup (pv 0) pe_int (fun _ _ => rfl))
      (pa_cons (pe_lc (own := [("spot", 1), ("kind", 2)]) (g := gTup K 2 (gCons (gName 1) (gCons (gName 2) gNil))) (tt := tYes) rfl scH.nd (pi_list (pe_ix ix_tup (pv 0) pe_int (fun _ _ => rfl))) (blkOk_by (own := [("spot", 1), ("kind", 2)]) (N := NH) (sc := defScope sHeap) (by decide +kernel))
          (fun _ _ _ _ _ => pg_tup rfl (pgs_cons (pg_name (i := 1) scH.nd rfl (Or.inl rfl)) (pgs_cons (pg_name (i := 2) scH.nd rfl (Or.inl rfl)) pgs_nil))) (fun _ _ _ _ _ => pts_nil) (fun _ _ _ _ _ => pv 1))
      (pa_cons (pe_lc (own := [("spot", 1), ("kind", 2)]) (g := gTup K 2 (gCons (gName 1) (gCons (gName 2) gNil))) rfl scH.nd (pi_list (pe_ix ix_tup (pv 0) pe_int (fun _ _ => rfl))) (blkOk_by (own := [("spot", 1), ("kind", 2)]) (N := NH) (sc := defScope sHeap) (by decide +kernel))
          (fun _ _ _ _ _ => pg_tup rfl (pgs_cons (pg_name (i := 1) scH.nd rfl (Or.inl rfl)) (pgs_cons (pg_name (i := 2) scH.nd rfl (Or.inl rfl)) pgs_nil))) (fun _ _ _ _ _ => pts_one (pt_cmpR op_eq (pv 2) pe_int (nomark _))) (fun _ _ _ _ _ => pv 1)) pa_nil))))), ?_⟩
    have hl := G.len
    have lt := h3.len
    refine ⟨_, rfl, p, _, _, _, rfl, rfl, SqT.of h1, at_of2 (j := 0) rfl rfl, ?_⟩
    refine ⟨_, rfl, p, _, _, _, rfl, rfl, SqT.of h1, at_of2 (j := 1) rfl rfl, l, rfl, ⟨_, SqL.of h2⟩, fun D hD => ?_⟩
    refine lc_list (K := K) (a := l) (xs := ts.map V.ref) (fun i H' => Same H H' ∧ IL H' D (marksOf (prs.take i))) ⟨same_new (Same.refl H) hD, upd_same⟩ (fun i H' _ z => SqL.of (z.1 _ _ h2)) ?_ ?_
    · rintro i x H' hx ⟨s1, hD'⟩
      obtain ⟨u, z, rfl, hz, hu⟩ := h3.get hx
      have hil := ref_at hx
      refine ⟨u, _, rfl, SqT.of (s1 _ _ hu), rfl, _, _, rfl, _, _, rfl, rfl, rfl, ?_⟩
      unfold tYes
      refine iteT ?_
      refine ⟨_, rfl, _, hD', by rw [List.length_map, List.length_map, List.length_take]; exact small1000 (by omega), same_put s1 hD, ?_⟩
      show upd _ _ _ D = _
      rw [upd_same, ints_app, take_map2 hz]
    · rintro H1 ⟨s1, hD'⟩
      rw [List.length_map, lt, List.take_length] at hD'
      refine ⟨_, rfl, p, _, _, _, rfl, rfl, SqT.of (s1 _ _ h1), at_of2 (j := 1) rfl rfl, l, rfl, ⟨_, SqL.of (s1 _ _ h2)⟩, fun D2 hD2 => ?_⟩
      have nDD : D ≠ D2 := ne_of_none hD' hD2
      refine lc_list (K := K) (a := l) (xs := ts.map V.ref) (fun i H' => Same H1 H' ∧ IL H' D2 (strictOf (prs.take i))) ⟨same_new (Same.refl H1) hD2, upd_same⟩ (fun i H' _ z => SqL.of (z.1 _ _ (s1 _ _ h2))) ?_ ?_
      · rintro i x H' hx ⟨s2, hE⟩
        obtain ⟨u, z, rfl, hz, hu⟩ := h3.get hx
        have hil := ref_at hx
        have tf := take_fil2 hz
        refine ⟨u, _, rfl, SqT.of (s2 _ _ (s1 _ _ hu)), rfl, _, _, rfl, _, _, rfl, rfl, rfl, ?_⟩
        refine ⟨_, rfl, rfl, _, rfl, ?_⟩
        by_cases c : z.2 = 2
        · refine ifT (by simp [c]) ?_
          refine ⟨_, rfl, _, hE, ?_, same_put s2 hD2, ?_⟩
          · have z1 := List.length_filter_le (fun q : Int × Int => decide (q.2 = 2)) (prs.take i)
            rw [List.length_take] at z1
            rw [List.length_map, List.length_map]
            exact small1000 (by omega)
          · show upd _ _ _ D2 = _
            rw [upd_same, ints_app, tf, if_pos c]
        · refine ifF (by simp [c]) ?_
          refine ⟨s2, ?_⟩
          show H' D2 = _
          rw [hE, tf, if_neg c, List.append_nil]
      · rintro H2 ⟨s2, hE⟩
        rw [List.length_map, lt, List.take_length] at hE
        refine fun x dx nx nd ne => ?_
        have s3 : Same H2 (upd (upd H2 dx (.own x)) x (.ins C dx [])) := same_new (same_new (Same.refl H2) nd) (by rw [upd_ne (Ne.symm ne)]; exact nx)
        refine ⟨x, dx, D, D2, n, _, _, rfl, upd_same, s3 _ _ (s2 _ _ hD'), s3 _ _ hE, G.good, fun H5 row kp => ⟨rfl, ?_⟩⟩
        exact q x H5 (same_ins (s1.trans s2) nx nd kp) (row.mono fun c o e => ⟨o, s3 _ _ (s2 _ _ (s1 _ _ e))⟩)
end
end Cw
namespace Cw
open PySem L2
/-! ## min of four whole numbers -/
theorem min4_args (vs : List Value) (h : vs.length = 4) : argsOk "min" ⟨vs, []⟩ := by
  match vs, h with
  | [p, q, r, s], _ => unfold argsOk; kernel_rfl
section
variable {P : Program} {w : World} {A : Around} {E : Value → Shared → Prop} {s : Shared}
/-- min of four values whose tuple is walked -/
theorem min4_walked {vs : List Value} (h4 : vs.length = 4) {Q : Value → Shared → Prop}
    (go : wpAny (model P w) A.in1 (pyIter (.ref s.heap.objs.size)) (fun it s1 => ∃ J fs ws k Pv Sv less, it = .ref J ∧ Walks P w A.in1 J fs ws k Pv Sv ∧ Sv 0 s1.heap ∧ (∀ d ∈ fs, d < s1.heap.objs.size) ∧ 0 < k ∧ CmpOf P w A.in1 .Lt Pv less ∧
      ∀ v h1 t1, Pv (argBest less (k - 1)) v → (∀ d o, d ∉ ws → s1.heap.get? d = some o → h1.get? d = some o) → Q v { s1 with heap := h1, toks := t1 }) E
      { s with heap := s.heap.push { cls := .type "tuple", data := .seq vs.toArray } }) :
    wpAny (model P w) A (call (.builtin "min") vs) Q E s := by
  match vs, h4 with
  | [p, q, r, u], _ =>
    refine call_function_tree F.kind_min F.plain_min F.entry_min (min4_args [p, q, r, u] rfl) (wpAny_bind (wpAny_of_eq (a := [none, none]) rfl (wpAny_bind (wpAny_newObj_type (wpAny_bind (wpAny_mono go (fun it s1 g => ?_) fun _ _ e => e))))))
    obtain ⟨J, fs, ws, k, Pv, Sv, less, e, wk, st, fr, k0, cmp, out⟩ := g
    subst e
    have new : s1.heap.objs.size ∉ fs := fun m => absurd (fr _ m) (Nat.lt_irrefl _)
    have nm : (toString "min" ++ toString ".loop" : String) = "min.loop" := by decide
    refine wpAny_bind (wpAny_newObj_type ?_)
    rw [nm]
    refine wpAny_pure ⟨plainId_quiet F.plain_min_loop _, codeAny_min_loop_first wk less cmp s1.heap.objs.size new k0 (wk.frame _ _ _ st fun d _ o e => Heap.get?_push_of_some _ e) (Heap.get?_push_size _ rfl) fun v h1 t1 pv keep =>
      out v h1 t1 pv fun d o nd e => keep d o nd (Nat.ne_of_lt (Heap.lt_size e)) (Heap.get?_push_of_some _ e)⟩
theorem min4_ints {a b c d : Int} {t u x y : Tok} {Q : Value → Shared → Prop} (nh : A.handled = none)
    (out : ∀ m r h1 t1, (∀ z o, s.heap.get? z = some o → h1.get? z = some o) → (m = a ∨ m = b ∨ m = c ∨ m = d) → m ≤ a → m ≤ b → m ≤ c → m ≤ d → Q (.int m r) { s with heap := h1, toks := t1 }) :
    wpAny (model P w) A (call (.builtin "min") [.int a t, .int b u, .int c x, .int d y]) Q E s := by
  obtain ⟨xs, hxs⟩ : ∃ xs : Array (Int × Tok), xs = #[(a, t), (b, u), (c, x), (d, y)] := ⟨_, rfl⟩
  have items : intItems xs = #[.int a t, .int b u, .int c x, .int d y] := by rw [hxs]; simp [intItems]
  have tup : (s.heap.push { cls := .type "tuple", data := .seq #[.int a t, .int b u, .int c x, .int d y] }).IsTuple s.heap.objs.size (intItems xs) := ⟨_, Heap.get?_push_size _ rfl, rfl, 0, by rw [items]⟩
  have size1 : (s.heap.push { cls := .type "tuple", data := .seq #[.int a t, .int b u, .int c x, .int d y] }).objs.size = s.heap.objs.size + 1 := Heap.size_push ..
  have four : (intItems xs).size = 4 := by rw [items]; rfl
  have lt0 : s.heap.objs.size < s.heap.objs.size + 1 := Nat.lt_succ_self _
  refine min4_walked (vs := [.int a t, .int b u, .int c x, .int d y]) rfl (wpAny_pyIter_tuple tup ⟨_, [_, s.heap.objs.size], [_], _, _, _, _, rfl, Walks.tuple (A := A.in1) nh _ s.heap.objs.size (by rw [size1]; exact Nat.ne_of_lt lt0) (intItems xs),
    ⟨⟨_, Heap.get?_push_size _ rfl, rfl, rfl⟩, tup.push _⟩, fun z hz => ?_, by rw [four]; decide, CmpOf.ints_lt (numAt xs) (fun _ _ => intItems_at), fun v h1 t1 pv keep => ?_⟩)
  · show z < ((s.heap.push _).push _).objs.size
    rw [Heap.size_push, size1]
    simp only [List.mem_cons, List.not_mem_nil, or_false] at hz
    rcases hz with rfl | rfl
    · rw [size1]; exact Nat.lt_succ_self _
    · exact Nat.lt_succ_of_lt lt0
  have kept : ∀ z o, s.heap.get? z = some o → h1.get? z = some o := fun z o e => keep z o (fun m => by
    have l := Heap.lt_size e
    rw [List.mem_singleton.mp m, size1] at l
    exact Nat.lt_irrefl _ (Nat.lt_of_succ_lt l)) (Heap.get?_push_of_some _ (Heap.get?_push_of_some _ e))
  have pv3 : (intItems xs)[argBest (fun i j => decide (numAt xs i < numAt xs j)) 3]? = some v := by
    have e3 : (intItems xs).size - 1 = 3 := by rw [four]
    rw [← e3]
    exact pv
  obtain ⟨j3, least⟩ := argBest_lt (numAt xs) 3
  obtain ⟨r, rfl⟩ := intItems_at pv3
  have at0 : numAt xs 0 = a := by rw [hxs]; rfl
  have at1 : numAt xs 1 = b := by rw [hxs]; rfl
  have at2 : numAt xs 2 = c := by rw [hxs]; rfl
  have at3 : numAt xs 3 = d := by rw [hxs]; rfl
  refine out _ r h1 t1 kept ?_ (at0 ▸ least 0 (by decide)) (at1 ▸ least 1 (by decide)) (at2 ▸ least 2 (by decide)) (at3 ▸ least 3 (by decide))
  generalize argBest (fun i j => decide (numAt xs i < numAt xs j)) 3 = j at j3 ⊢
  match j, j3 with
  | 0, _ => exact .inl at0
  | 1, _ => exact .inr (.inl at1)
  | 2, _ => exact .inr (.inr (.inl at2))
  | 3, _ => exact .inr (.inr (.inr at3))
  | j + 4, h => omega
end
theorem vals4 {x y z u : V} {us : List Value} (r : Vals [x, y, z, u] us) : ∃ a b c d, us = [a, b, c, d] ∧ RelV x a ∧ RelV y b ∧ RelV z c ∧ RelV u d := by
  cases r with
  | cons r1 r2 =>
    obtain ⟨b, c, d, rfl, r3, r4, r5⟩ := vals3 r2
    exact ⟨_, b, c, d, rfl, r1, r3, r4, r5⟩
theorem call_min4 {X : Cx} (hc : X.calm = true) : CallR X (.builtin "min") (fun xs H Q => ∃ a b c d, xs = [.int a, .int b, .int c, .int d] ∧ ∀ m, (m = a ∨ m = b ∨ m = c ∨ m = d) → m ≤ a → m ≤ b → m ≤ c → m ≤ d → Q (.int m) H) := by
  intro pins s σ H xs us Q I r h
  obtain ⟨a, b, c, d, rfl, q⟩ := h
  obtain ⟨u1, u2, u3, u4, rfl, ⟨t, rfl⟩, ⟨t2, rfl⟩, ⟨t3, rfl⟩, ⟨t4, rfl⟩⟩ := vals4 r
  exact min4_ints (I.ok.hd hc) fun m r h2 tk k e1 l1 l2 l3 l4 => ⟨.int m, H, I.kept k, ⟨_, rfl⟩, q m e1 l1 l2 l3 l4⟩
end Cw
namespace Cw
open PySem L2
abbrev sCSet : Stmt := top 0
abbrev sCPl : Stmt := top 0
abbrev sCSz : Stmt := top 0
abbrev sCLen : Stmt := top 0
abbrev sNext : Stmt := top 0
abbrev sWalk : Stmt := top 0
abbrev sWithin : Stmt := top 0
abbrev sCWk : Stmt := top 0
abbrev sStep : Stmt := top 0
abbrev sCuts : Stmt := top 0
abbrev sFM : Stmt := top 0
abbrev sCB : Stmt := top 14
abbrev sMeet : Stmt := top 0
/-! ## how many are before -/
def cb (ns : List Int) (z : Int) : Nat := (ns.filter fun x => decide (x < z)).length
def fm (ns : List Int) (z e : Int) : Int := (ns[cb ns z]?).getD e
theorem cb_le {ns : List Int} {z : Int} : cb ns z ≤ ns.length := List.length_filter_le _ _
theorem cb_at {ns : List Int} {z : Int} {k : Nat} (hk : k ≤ ns.length) (h1 : ∀ i, i < k → ∀ x, ns[i]? = some x → x < z) (h2 : ∀ i, k ≤ i → ∀ x, ns[i]? = some x → z ≤ x) : cb ns z = k := by
  have e : ns = ns.take k ++ ns.drop k := (List.take_append_drop k ns).symm
  unfold cb
  rw [e, List.filter_append, List.length_append]
  have a1 : (ns.take k).filter (fun x => decide (x < z)) = ns.take k := List.filter_eq_self.mpr fun x hx => by
    obtain ⟨i, hi, rfl⟩ := List.mem_iff_getElem.mp hx
    rw [List.length_take] at hi
    refine decide_eq_true (h1 i (by omega) _ ?_)
    rw [List.getElem_take]
    exact List.getElem?_eq_getElem (by omega)
  have a2 : (ns.drop k).filter (fun x => decide (x < z)) = [] := List.filter_eq_nil_iff.mpr fun x hx => by
    obtain ⟨i, hi, rfl⟩ := List.mem_iff_getElem.mp hx
    rw [List.length_drop] at hi
    have := h2 (k + i) (by omega) (ns.drop k)[i] (by rw [List.getElem_drop]; exact List.getElem?_eq_getElem (by omega))
    simp only [decide_eq_true_eq]
    omega
  rw [a1, a2, List.length_take]
  simp
  omega
theorem asc_ix {ns : List Int} (h : Asc ns) {i j : Nat} {x y : Int} (hij : i < j) (hx : ns[i]? = some x) (hy : ns[j]? = some y) : x < y := by
  obtain ⟨li, rfl⟩ := List.getElem?_eq_some_iff.mp hx
  obtain ⟨lj, rfl⟩ := List.getElem?_eq_some_iff.mp hy
  exact List.pairwise_iff_getElem.mp h i j li lj hij
/-- what stands on both sides of the number of those before -/
theorem cb_split {ns : List Int} (h : Asc ns) (z : Int) : (∀ i, i < cb ns z → ∀ x, ns[i]? = some x → x < z) ∧ (∀ i, cb ns z ≤ i → ∀ x, ns[i]? = some x → z ≤ x) := by
  induction ns with
  | nil => exact ⟨fun i _ x e => by simp at e, fun i _ x e => by simp at e⟩
  | cons a r ih =>
    obtain ⟨ha, hr⟩ := List.pairwise_cons.mp h
    obtain ⟨i1, i2⟩ := ih hr
    by_cases c : a < z
    · have e : cb (a :: r) z = cb r z + 1 := by
        unfold cb
        rw [List.filter_cons, if_pos (decide_eq_true c)]
        rfl
      rw [e]
      refine ⟨fun i hi x hx => ?_, fun i hi x hx => ?_⟩
      · cases i with
        | zero => cases hx; exact c
        | succ i => exact i1 i (by omega) x hx
      · cases i with
        | zero => omega
        | succ i => exact i2 i (by omega) x hx
    · have e : cb (a :: r) z = 0 := by
        unfold cb
        rw [List.filter_eq_nil_iff.mpr fun x hx => ?_]
        · rfl
        · rcases List.mem_cons.mp hx with rfl | hx
          · simpa using c
          · have := ha x hx
            simp only [decide_eq_true_eq]
            omega
      rw [e]
      refine ⟨fun i hi => by omega, fun i _ x hx => ?_⟩
      cases i with
      | zero => cases hx; omega
      | succ i =>
        have := ha x (List.mem_of_getElem? hx)
        omega
theorem fm_or {ns : List Int} (h : Asc ns) (z e : Int) : (fm ns z e ∈ ns ∧ z ≤ fm ns z e) ∨ (fm ns z e = e ∧ ∀ x ∈ ns, x < z) := by
  obtain ⟨h1, h2⟩ := cb_split h z
  unfold fm
  by_cases c : cb ns z < ns.length
  · have hg := List.getElem?_eq_getElem c
    rw [hg]
    exact .inl ⟨List.getElem_mem c, h2 _ (Nat.le_refl _) _ hg⟩
  · rw [List.getElem?_eq_none (by omega)]
    refine .inr ⟨rfl, fun x hx => ?_⟩
    obtain ⟨i, hi, rfl⟩ := List.mem_iff_getElem.mp hx
    exact h1 i (by omega) _ (List.getElem?_eq_getElem hi)
theorem fm_le {ns : List Int} (h : Asc ns) {z e x : Int} (hx : x ∈ ns) (hz : z ≤ x) : fm ns z e ≤ x := by
  obtain ⟨h1, h2⟩ := cb_split h z
  obtain ⟨i, hi, rfl⟩ := List.mem_iff_getElem.mp hx
  have hg := List.getElem?_eq_getElem hi
  have c : cb ns z ≤ i := by
    by_cases c : i < cb ns z
    · have := h1 i c _ hg
      omega
    · omega
  unfold fm
  by_cases d : cb ns z = i
  · rw [d, hg]
    exact Int.le_refl _
  · have l : cb ns z < ns.length := by omega
    rw [List.getElem?_eq_getElem l]
    have := asc_ix h (by omega : cb ns z < i) (List.getElem?_eq_getElem l) hg
    show ns[cb ns z] ≤ ns[i]
    omega
theorem fm_top {ns : List Int} (h : Asc ns) {z e : Int} (k : ∀ x ∈ ns, x ≤ e) : fm ns z e ≤ e := by
  rcases fm_or h z e with ⟨m, _⟩ | ⟨m, _⟩
  · exact k _ m
  · omega
theorem fm_mono {ns : List Int} (h : Asc ns) {z y e : Int} (k : ∀ x ∈ ns, x ≤ e) (hz : z ≤ y) : fm ns z e ≤ fm ns y e := by
  rcases fm_or h y e with ⟨m, l⟩ | ⟨m, _⟩
  · exact fm_le h m (by omega)
  · rw [m]
    exact fm_top h k
def spCB : Sp := fun vs H Q _ => ∃ (a : Addr) (ns : List Int) (z : Int), vs = [.ref a, .int z] ∧ IL H a ns ∧ ns.length ≤ 1000 ∧ Asc ns ∧ Q (.int (cb ns z)) H
def spFM : Sp := fun vs H Q _ => ∃ (a : Addr) (ns : List Int) (z e : Int), vs = [.ref a, .int z, .int e] ∧ IL H a ns ∧ ns.length ≤ 1000 ∧ Asc ns ∧ Q (.int (fm ns z e)) H
def muCB : St → Hp → Nat := fun σ _ => match σ with | [_, _, some (.int lo), some (.int hi), _] => (hi - lo).toNat | _ => 0
section
variable {P : Program} {w : World} {K : PySem.W.Frag} {mg : Str → Option Value} {base : Heap}
abbrev NCB : List Str := ["places", "place", "low", "high", "middle"]
theorem scCB : FnScope NCB ["places", "place"] (defScope sCB) := ⟨rfl, rfl, rfl, by decide +kernel, rfl, by decide +kernel, by decide +kernel⟩
theorem ok_cb {f : Addr} {fd : FuncData} (F : Fun K "count_before" "count_before" sCB f fd) (T : Bl mg) : FnOk P w K mg base CX0 1 f fd ["places", "place"] spCB := by
  refine F.ok scCB (fun vs H Q E h => ?_) (fun cdv A outer s H vs Q E hr h => ?_)
  · obtain ⟨a, ns, z, rfl, _⟩ := h
    rfl
  · obtain ⟨a, ns, z, rfl, hS, hl, ha, q⟩ := h
    refine ⟨_, pss_cons (ps_set (i := 2) scCB.nd rfl (Or.inl rfl) pe_int)
      (pss_cons (ps_set (i := 3) scCB.nd rfl (Or.inl rfl) (pe_callB call_len_seq (by rfl) T.len PySem.boot_len (pa_cons (pv 0) pa_nil)))
      (pss_cons (ps_while PassesOwn.never (pt_cmpR op_lt (pv 2) (pv 3) (nomark _))
        (pss_cons (ps_set (i := 4) scCB.nd rfl (Or.inl rfl) (pe_op op_fdiv (pe_op op_add (pv 2) (pv 3)) pe_int))
        (pss_one (ps_if (pt_cmpR op_lt (pe_ix (r := rIxL K) ix_list (pv 0) (pv 4) (fun _ _ => rfl)) (pv 1) (nomark _))
          (pss_one (ps_set (i := 2) scCB.nd rfl (Or.inl rfl) (pe_op op_add (pv 4) pe_int)))
          (pss_one (ps_set (i := 3) scCB.nd rfl (Or.inl rfl) (pv 4)))))))
      (pss_one (ps_ret (pv 2))))), ?_⟩
    refine ⟨_, rfl, a, _, rfl, .inl (SqL.of hS), ?_⟩
    rw [List.length_map]
    refine while_by (fun σ H' => ∃ (lo hi : Nat) (v : Option V), σ = [some (.ref a), some (.int z), some (.int lo), some (.int hi), v] ∧ H' = H ∧ lo ≤ hi ∧ hi ≤ ns.length ∧ (∀ i, i < lo → ∀ x, ns[i]? = some x → x < z) ∧ (∀ i, hi ≤ i → ∀ x, ns[i]? = some x → z ≤ x))
      muCB ⟨0, ns.length, none, rfl, rfl, Nat.zero_le _, Nat.le_refl _, fun i hi => absurd hi (Nat.not_lt_zero _), fun i hi x e => by rw [List.getElem?_eq_none hi] at e; cases e⟩ ?_
      (fun σ H Q Q' hQ h => by obtain ⟨x, e1, y, e2, i, j, e3, e4, k, e5, q⟩ := h; exact ⟨x, e1, y, e2, i, j, e3, e4, k, e5, hQ _ _ q⟩)
    rintro σ H' ⟨lo, hi, v, rfl, rfl, l1, l2, h1, h2⟩
    refine ⟨_, rfl, _, rfl, _, _, rfl, rfl, _, rfl, ?_⟩
    by_cases c : (lo : Int) < hi
    · refine ifT (decide_eq_true c) ?_
      refine ⟨_, rfl, _, rfl, _, _, rfl, rfl, _, _, rfl, rfl, ⟨by decide, by decide⟩, ?_⟩
      dsimp only
      obtain ⟨m, hm⟩ : ∃ m : Nat, ((lo : Int) + hi) / 2 = m := ⟨(lo + hi) / 2, by omega⟩
      have m1 : lo ≤ m := by omega
      have m2 : m < hi := by omega
      rw [hm]
      have ml : m < ns.length := by omega
      have hg := List.getElem?_eq_getElem ml
      refine ⟨_, rfl, _, rfl, a, _, _, V.int ns[m], rfl, rfl, SqL.of hS, at_of2 (j := m) rfl (by rw [List.getElem?_map, hg]; rfl), _, rfl, _, _, rfl, rfl, _, rfl, ?_⟩
      by_cases d : ns[m] < z
      · refine ifT (decide_eq_true d) ?_
        refine ⟨_, rfl, _, _, rfl, rfl, ⟨m + 1, hi, _, rfl, rfl, by omega, l2, fun i hi' x hx => ?_, h2⟩, ?_⟩
        · by_cases e : i = m
          · subst e
            rw [hg] at hx
            cases hx
            exact d
          · have := asc_ix ha (by omega : i < m) hx hg
            omega
        · show ((hi : Int) - ((m : Int) + 1)).toNat < ((hi : Int) - lo).toNat
          omega
      · refine ifF (decide_eq_false d) ?_
        refine ⟨_, rfl, ⟨lo, m, _, rfl, rfl, by omega, by omega, h1, fun i hi' x hx => ?_⟩, ?_⟩
        · by_cases e : i = m
          · subst e
            rw [hg] at hx
            cases hx
            omega
          · have := asc_ix ha (by omega : m < i) hg hx
            omega
        · show ((m : Int) - lo).toNat < ((hi : Int) - lo).toNat
          omega
    · refine ifF (decide_eq_false c) ?_
      refine ⟨_, rfl, ?_⟩
      have e : lo = hi := by omega
      subst e
      rw [← cb_at l2 h1 h2] at *
      exact q
abbrev NFM : List Str := ["marks", "place", "end", "at"]
end
end Cw
namespace Cw
open PySem L2
abbrev sGetL : Stmt := inClass sRow 1
abbrev sGetS : Stmt := inClass sRow 3
def spGetL (C : Addr) : Sp := fun vs H Q _ => ∃ (a : Addr) (n : Int) (ms ss : List Int), vs = [.ref a] ∧ RowAt C H a n ms ss ∧ Q (.int n) H
def spGetS (C : Addr) : Sp := fun vs H Q _ => ∃ (a : Addr) (n : Int) (ms ss : List Int), vs = [.ref a] ∧ RowAt C H a n ms ss ∧ ∀ p H', Same H H' → H p = none → IL H' p ss → Q (.ref p) H'
/-! ## the next cut -/
def nx (n : Int) (ms ss : List Int) (l m g p : Int) : Int := min (min (fm ss (p + l) n) (fm ms (p + m) n)) (min (p + g) n)
/-- settings -/
structure SetOk (l m g : Int) : Prop where
  l1 : 1 ≤ l
  lm : l ≤ m
  mg : m ≤ g
/-- what a step does -/
structure Stp (F : Int → Int) (n l : Int) : Prop where
  l1 : 1 ≤ l
  le : ∀ p, F p ≤ n
  ge : ∀ p, p + l ≤ F p ∨ F p = n
  mono : ∀ p q, p ≤ q → F p ≤ F q
theorem Stp.gt {F : Int → Int} {n l p : Int} (S : Stp F n l) (h : p < n) : p < F p := by
  have := S.ge p
  have := S.l1
  omega
theorem nx_stp {n l m g : Int} {ms ss : List Int} (G : Good n ms ss) (S : SetOk l m g) : Stp (nx n ms ss l m g) n l := by
  have k1 : ∀ x ∈ ms, x ≤ n := fun x hx => by have := G.rng x hx; omega
  have k2 : ∀ x ∈ ss, x ≤ n := fun x hx => k1 x (G.sub x hx)
  have s1 := S.l1
  have s2 := S.lm
  have s3 := S.mg
  refine ⟨s1, fun p => ?_, fun p => ?_, fun p q h => ?_⟩
  · unfold nx
    omega
  · have a := fm_or G.asc2 (p + l) n
    have b := fm_or G.asc (p + m) n
    unfold nx
    omega
  · have a := fm_mono G.asc2 k2 (z := p + l) (y := q + l) (by omega)
    have b := fm_mono G.asc k1 (z := p + m) (y := q + m) (by omega)
    unfold nx
    omega
/-! ## walks -/
def kc (F : Int → Int) (n s : Int) : Nat → Int
  | 0 => s
  | k + 1 => if kc F n s k < n then F (kc F n s k) else kc F n s k
def wl (F : Int → Int) (n s : Int) (m : Nat) : List Int := (List.range (m + 1)).map (kc F n s)
theorem wl_succ {F : Int → Int} {n s : Int} {m : Nat} : wl F n s (m + 1) = wl F n s m ++ [kc F n s (m + 1)] := by
  unfold wl
  rw [List.range_succ, List.map_append]
  rfl
theorem wl_len {F : Int → Int} {n s : Int} {m : Nat} : (wl F n s m).length = m + 1 := by
  unfold wl
  rw [List.length_map, List.length_range]
theorem kc_le {F : Int → Int} {n l s : Int} (S : Stp F n l) (h : s ≤ n) : ∀ k, kc F n s k ≤ n
  | 0 => h
  | k + 1 => by
    have i := kc_le S h k
    unfold kc
    by_cases c : kc F n s k < n
    · rw [if_pos c]
      exact S.le _
    · rw [if_neg c]
      exact i
theorem kc_ge {F : Int → Int} {n l s : Int} (S : Stp F n l) : ∀ k : Nat, kc F n s k < n → s + k * l ≤ kc F n s k
  | 0, _ => by
    show s + ((0 : Nat) : Int) * l ≤ s
    simp
  | k + 1, h => by
    by_cases c : kc F n s k < n
    · have e : kc F n s (k + 1) = F (kc F n s k) := if_pos c
      have i := kc_ge S k c
      have z := S.ge (kc F n s k)
      rw [e] at h ⊢
      have w : ((k + 1 : Nat) : Int) * l = k * l + l := by
        rw [Int.natCast_add, Int.add_mul]
        simp
      rw [w]
      omega
    · have e : kc F n s (k + 1) = kc F n s k := if_neg c
      omega
theorem kc_few {F : Int → Int} {n l s : Int} (S : Stp F n l) (h0 : 0 ≤ s) (b : n ≤ 200 * l) {k : Nat} (h : kc F n s k < n) : k < 200 := by
  have z := kc_ge S k h
  have l1 := S.l1
  by_cases c : k < 200
  · exact c
  · have w : (200 : Int) * l ≤ k * l := Int.mul_le_mul_of_nonneg_right (by omega) (by omega)
    omega
theorem kc_at {F : Int → Int} {n s : Int} {k : Nat} (h : kc F n s k < n) : kc F n s (k + 1) = F (kc F n s k) := if_pos h
theorem kc_end {F : Int → Int} {n s : Int} {m : Nat} (h : ¬ kc F n s m < n) : ∀ j, kc F n s (m + j) = kc F n s m
  | 0 => rfl
  | j + 1 => by
    have i := kc_end h j
    show (if kc F n s (m + j) < n then F (kc F n s (m + j)) else kc F n s (m + j)) = _
    rw [i, if_neg h]
/-- how many cuts a walk has -/
structure WkOk (F : Int → Int) (n s : Int) (m : Nat) : Prop where
  few : m ≤ 200
  fin : kc F n s m = n
  bef : ∀ i, i < m → kc F n s i < n
def spStep (C : Addr) : Sp := fun vs H Q _ => ∃ (r t : Addr) (n l m g p : Int) (ms ss : List Int), vs = [.ref r, .ref t, .int p] ∧ RowAt C H r n ms ss ∧ H t = some (.tup [.int l, .int m, .int g]) ∧ Good n ms ss ∧ ∀ H', Same H H' → Q (.int (nx n ms ss l m g p)) H'
def spCuts (C : Addr) : Sp := fun vs H Q _ => ∃ (r t : Addr) (n l m g p : Int) (ms ss : List Int), vs = [.ref r, .ref t, .int p] ∧ RowAt C H r n ms ss ∧ H t = some (.tup [.int l, .int m, .int g]) ∧ Good n ms ss ∧ SetOk l m g ∧ n ≤ 200 * l ∧ 0 ≤ p ∧ p ≤ n ∧
  ∀ q H' k, Same H H' → H q = none → WkOk (nx n ms ss l m g) n p k → IL H' q (wl (nx n ms ss l m g) n p k) → Q (.ref q) H'
/-- the getters -/
structure Gets (P : Program) (w : World) (K : PySem.W.Frag) (mg : Str → Option Value) (base : Heap) (C pL fL pM fM pS fS : Addr) (dL dM dS : FuncData) : Prop where
  hL : PropOf K C "length" pL fL
  bL : Binds K dL ["self"] []
  GL : FnOk P w K mg base CX0 1 fL dL ["self"] (spGetL C)
  hM : PropOf K C "marks" pM fM
  bM : Binds K dM ["self"] []
  GM : FnOk P w K mg base CX0 1 fM dM ["self"] (spGetM C)
  hS : PropOf K C "strict" pS fS
  bS : Binds K dS ["self"] []
  GS : FnOk P w K mg base CX0 1 fS dS ["self"] (spGetS C)
section
variable {P : Program} {w : World} {K : PySem.W.Frag} {mg : Str → Option Value} {base : Heap}
theorem scGL : FnScope ["self"] ["self"] (defScope sGetL) := ⟨rfl, rfl, rfl, by decide +kernel, rfl, by decide +kernel, by decide +kernel⟩
theorem ok_getL {f C : Addr} {fd : FuncData} (F : Fun K "length" "Row.length" sGetL f fd) (R : Cl K mg C) : FnOk P w K mg base CX0 1 f fd ["self"] (spGetL C) := by
  refine F.ok scGL (fun vs H Q E h => ?_) (fun cdv A outer s H vs Q E hr h => ?_)
  · obtain ⟨a, n, ms, ss, rfl, _⟩ := h
    rfl
  · obtain ⟨a, n, ms, ss, rfl, ⟨dx, l1, l2, ho, h1, h2⟩, k⟩ := h
    refine ⟨_, pss_one (ps_ret (pe_fld (pv 0) rfl)), ?_⟩
    exact ⟨_, rfl, a, C, dx, _, _, rfl, ho, R.cl, R.nL, fl_L _ _ _, k⟩
theorem scGS : FnScope ["self"] ["self"] (defScope sGetS) := ⟨rfl, rfl, rfl, by decide +kernel, rfl, by decide +kernel, by decide +kernel⟩
theorem ok_getS {f C : Addr} {fd : FuncData} (F : Fun K "strict" "Row.strict" sGetS f fd) (T : Bl mg) (R : Cl K mg C) : FnOk P w K mg base CX0 1 f fd ["self"] (spGetS C) := by
  refine F.ok scGS (fun vs H Q E h => ?_) (fun cdv A outer s H vs Q E hr h => ?_)
  · obtain ⟨a, n, ms, ss, rfl, _⟩ := h
    rfl
  · obtain ⟨a, n, ms, ss, rfl, ⟨dx, l1, l2, ho, h1, h2⟩, k⟩ := h
    refine ⟨_, pss_one (ps_ret (pe_callTy call_list_of (by rfl) T.list (by decide +kernel) (pa_cons (pe_fld (pv 0) rfl) pa_nil))), ?_⟩
    refine ⟨_, rfl, a, C, dx, _, _, rfl, ho, R.cl, R.nS, fl_S _ _ _, l2, _, rfl, .inl (SqL.of h2), fun p hp => ?_⟩
    exact k p _ (same_new (Same.refl H) hp) hp upd_same
abbrev NSt : List Str := ["row", "settings", "place", "least", "normal", "greatest", "strict", "either"]
end
end Cw
namespace Cw
open PySem L2
def spCSet : Sp := fun vs H Q _ => ∃ (t : Addr) (l m g : Int), vs = [.ref t] ∧ H t = some (.tup [.int l, .int m, .int g]) ∧ SetOk l m g ∧ ∀ H', Same H H' → Q .non H'
def spPl : Sp := fun vs H Q _ => ∃ p lo hi : Int, vs = [.int p, .int lo, .int hi] ∧ lo ≤ p ∧ p ≤ hi ∧ Q .non H
def spSz (C : Addr) : Sp := fun vs H Q _ => ∃ (r t : Addr) (n l m g : Int) (ms ss : List Int), vs = [.ref r, .ref t] ∧ RowAt C H r n ms ss ∧ H t = some (.tup [.int l, .int m, .int g]) ∧ n ≤ 200 * l ∧ Q .non H
def spLen : Sp := fun vs H Q _ => ∃ (t : Addr) (n l m g : Int), vs = [.int n, .ref t] ∧ H t = some (.tup [.int l, .int m, .int g]) ∧ n ≤ 200 * l ∧ Q .non H
def lastZ : List V → Int
  | [.int z] => z
  | _ :: x :: r => lastZ (x :: r)
  | _ => 0
theorem lastZ_app (z : Int) : ∀ xs : List V, lastZ (xs ++ [.int z]) = z
  | [] => rfl
  | [x] => by cases x <;> rfl
  | x :: y :: r => by
    have i := lastZ_app z (y :: r)
    show lastZ (x :: y :: (r ++ [V.int z])) = z
    cases x <;> exact i
def muCu (n : Int) (D : Addr) : St → Hp → Nat := fun _ H => (n - (match H D with | some (.lst xs) => lastZ xs | _ => 0)).toNat
theorem muCu_at {n z : Int} {D : Addr} {H : Hp} {σ : St} {xs : List V} (h : H D = some (.lst (xs ++ [.int z]))) : muCu n D σ H = (n - z).toNat := by
  unfold muCu
  rw [h]
  show (n - lastZ (xs ++ [V.int z])).toNat = _
  rw [lastZ_app]
section
variable {P : Program} {w : World} {K : PySem.W.Frag} {mg : Str → Option Value} {base : Heap}
abbrev NCS : List Str := ["settings", "least", "normal", "greatest", "number"]
abbrev NCu : List Str := ["row", "settings", "start", "cuts"]
end
end Cw
namespace Cw
open PySem L2
theorem kc_lt {F : Int → Int} {n l s : Int} {m : Nat} (S : Stp F n l) (w : WkOk F n s m) {i j : Nat} (hij : i < j) (hj : j ≤ m) : kc F n s i < kc F n s j := by
  induction j with
  | zero => omega
  | succ j ih =>
    have c := w.bef j (by omega)
    have e := S.gt c
    rw [kc_at c]
    by_cases d : i = j
    · rw [d]
      exact e
    · have := ih (by omega) (by omega)
      omega
theorem wl_asc {F : Int → Int} {n l s : Int} {m : Nat} (S : Stp F n l) (w : WkOk F n s m) : Asc (wl F n s m) := by
  unfold wl
  refine List.pairwise_map.mpr ?_
  refine (List.pairwise_lt_range (n := m + 1)).imp_of_mem fun {i j} hi hj hij => ?_
  rw [List.mem_range] at hj
  exact kc_lt S w hij (by omega)
theorem kc_mem {F : Int → Int} {n s : Int} {m : Nat} {x : Int} : x ∈ wl F n s m ↔ ∃ i, i ≤ m ∧ kc F n s i = x := by
  unfold wl
  rw [List.mem_map]
  constructor
  · rintro ⟨i, hi, rfl⟩
    exact ⟨i, by rw [List.mem_range] at hi; omega, rfl⟩
  · rintro ⟨i, hi, rfl⟩
    exact ⟨i, by rw [List.mem_range]; omega, rfl⟩
/-- all that the calls of a row with settings want -/
structure RwS (C : Addr) (H : Hp) (r t : Addr) (n l m g : Int) (ms ss : List Int) : Prop where
  row : RowAt C H r n ms ss
  tup : H t = some (.tup [.int l, .int m, .int g])
  good : Good n ms ss
  set : SetOk l m g
  big : n ≤ 200 * l
theorem RwS.same {C : Addr} {H H' : Hp} {r t : Addr} {n l m g : Int} {ms ss : List Int} (R : RwS C H r t n l m g ms ss) (s : Same H H') : RwS C H' r t n l m g ms ss := ⟨R.row.same s, s _ _ R.tup, R.good, R.set, R.big⟩
def spCW (C : Addr) : Sp := fun vs H Q _ => ∃ (r t c : Addr) (n l m g : Int) (ms ss ps : List Int), vs = [.ref r, .ref t, .ref c] ∧ RwS C H r t n l m g ms ss ∧ IL H c ps ∧ ps.length ≤ 1000 ∧ (∀ i, i < ps.length → (0 :: ps).getD i 0 ≤ ps.getD i 0 ∧ ps.getD i 0 ≤ n) ∧ ∀ H', Same H H' → Q .non H'
def spNext (C : Addr) : Sp := fun vs H Q _ => ∃ (r t : Addr) (n l m g p : Int) (ms ss : List Int), vs = [.ref r, .ref t, .int p] ∧ RwS C H r t n l m g ms ss ∧ 0 ≤ p ∧ p < n ∧ ∀ H', Same H H' → Q (.int (nx n ms ss l m g p)) H'
def spWalk (C : Addr) : Sp := fun vs H Q _ => ∃ (r t : Addr) (n l m g p : Int) (ms ss : List Int), vs = [.ref r, .ref t, .int p] ∧ RwS C H r t n l m g ms ss ∧ 0 ≤ p ∧ p ≤ n ∧
  ∀ q H' k, Same H H' → H q = none → WkOk (nx n ms ss l m g) n p k → IL H' q (wl (nx n ms ss l m g) n p k) → Q (.ref q) H'
def spWithin (C : Addr) : Sp := fun vs H Q _ => ∃ (r t : Addr) (n l m g p lo hi : Int) (ms ss : List Int), vs = [.ref r, .ref t, .int p, .int lo, .int hi] ∧ RwS C H r t n l m g ms ss ∧ 0 ≤ p ∧ p ≤ lo ∧ lo ≤ hi ∧ hi ≤ n ∧
  ∀ H' k, Same H H' → WkOk (nx n ms ss l m g) n p k → Q (.int ((cb (wl (nx n ms ss l m g) n p k) hi : Nat) - (cb (wl (nx n ms ss l m g) n p k) lo : Nat) : Int)) H'
section
variable {P : Program} {w : World} {K : PySem.W.Frag} {mg : Str → Option Value} {base : Heap}
abbrev NCW : List Str := ["row", "settings", "places", "low", "place"]
abbrev NWi : List Str := ["row", "settings", "start", "low", "high", "cuts"]
end
end Cw
namespace Cw
open PySem L2
theorem kc_up {F : Int → Int} {n l s : Int} (S : Stp F n l) {i : Nat} : ∀ j : Nat, kc F n s i ≤ kc F n s (i + j)
  | 0 => Int.le_refl _
  | j + 1 => by
    have h := kc_up S (i := i) (s := s) j
    by_cases c : kc F n s (i + j) < n
    · have e := S.gt c
      have k : kc F n s (i + (j + 1)) = F (kc F n s (i + j)) := kc_at c
      omega
    · have k : kc F n s (i + (j + 1)) = kc F n s (i + j) := if_neg c
      omega
theorem kc_wk {F : Int → Int} {n l s : Int} (S : Stp F n l) {i j : Nat} (h : i ≤ j) : kc F n s i ≤ kc F n s j := by
  have := kc_up S (s := s) (i := i) (j - i)
  rw [Nat.add_sub_cancel' h] at this
  exact this
structure Met (F : Int → Int) (n a b : Int) (i j : Nat) (x y : Int) : Prop where
  ex : kc F n a i = x
  ey : kc F n b j = y
  na : ∀ i', i' < i → ∀ j', kc F n a i' ≠ kc F n b j'
  nb : ∀ j', j' < j → ∀ i', kc F n b j' ≠ kc F n a i'
  pa : 0 < i → kc F n a (i - 1) < y
  pb : 0 < j → kc F n b (j - 1) < x
theorem Met.swap {F : Int → Int} {n a b : Int} {i j : Nat} {x y : Int} (M : Met F n a b i j x y) : Met F n b a j i y x := ⟨M.ey, M.ex, M.nb, M.na, M.pb, M.pa⟩
theorem Met.start {F : Int → Int} {n a b : Int} : Met F n a b 0 0 a b := ⟨rfl, rfl, fun _ h => absurd h (Nat.not_lt_zero _), fun _ h => absurd h (Nat.not_lt_zero _), fun h => absurd h (Nat.lt_irrefl _), fun h => absurd h (Nat.lt_irrefl _)⟩
theorem Met.next {F : Int → Int} {n l a b : Int} {i j : Nat} {x y : Int} (S : Stp F n l) (M : Met F n a b i j x y) (h : x < y) (hy : y ≤ n) : Met F n a b (i + 1) j (F x) y := by
  have c : kc F n a i < n := by rw [M.ex]; omega
  have e := S.gt c
  rw [M.ex] at e
  refine ⟨by rw [kc_at c, M.ex], M.ey, fun i' hi' j' z => ?_, M.nb, fun _ => by rw [Nat.add_sub_cancel, M.ex]; exact h, fun hj => by have := M.pb hj; omega⟩
  by_cases d : i' = i
  · rw [d, M.ex] at z
    by_cases f : j' < j
    · have w := kc_wk S (s := b) (show j' ≤ j - 1 by omega)
      have := M.pb (by omega)
      omega
    · have w := kc_wk S (s := b) (show j ≤ j' by omega)
      rw [M.ey] at w
      omega
  · exact M.na i' (by omega) j' z
/-- where two walks meet -/
def Mt (F : Int → Int) (n a b v : Int) : Prop := ∃ i j, kc F n a i = v ∧ kc F n b j = v ∧ (∀ i', i' < i → ∀ j', kc F n a i' ≠ kc F n b j') ∧ (∀ j', j' < j → ∀ i', kc F n b j' ≠ kc F n a i')
def spMeet (C : Addr) : Sp := fun vs H Q _ => ∃ (r t : Addr) (n l m g a b : Int) (ms ss : List Int), vs = [.ref r, .ref t, .int a, .int b] ∧ RwS C H r t n l m g ms ss ∧ 0 ≤ a ∧ a ≤ n ∧ 0 ≤ b ∧ b ≤ n ∧ ∀ H' v, Same H H' → Mt (nx n ms ss l m g) n a b v → Q (.int v) H'
def muMe (n : Int) : St → Hp → Nat := fun σ _ => match σ with | [_, _, some (.int x), some (.int y)] => (n - x).toNat + (n - y).toNat | _ => 0
section
variable {P : Program} {w : World} {K : PySem.W.Frag} {mg : Str → Option Value} {base : Heap}
abbrev NMe : List Str := ["row", "settings", "first", "second"]
end
end Cw
namespace Cw
open PySem L2
theorem take_fil {ns : List Int} {i : Nat} {z : Int} (h : ns[i]? = some z) (p : Int → Bool) : (ns.take (i + 1)).filter p = (ns.take i).filter p ++ (if p z = true then [z] else []) := by
  rw [List.take_add_one, h, List.filter_append]
  congr 1
  show List.filter p [z] = _
  rw [List.filter_cons]
  rfl
/-- a raw row with its three numbers -/
def RawS (H : Hp) (p : Addr) (n : Int) (prs : List (Int × Int)) (l m g : Int) : Prop := ∃ lp t ts, H p = some (.tup [.int n, .ref lp, .ref t]) ∧ H lp = some (.lst (ts.map V.ref)) ∧ PrAt H ts prs ∧ H t = some (.tup [.int l, .int m, .int g])
theorem RawS.raw {H : Hp} {p : Addr} {n : Int} {prs : List (Int × Int)} {l m g : Int} (r : RawS H p n prs l m g) : RawAt H p n prs := by
  obtain ⟨lp, t, ts, h1, h2, h3, _⟩ := r
  exact ⟨lp, t, ts, h1, h2, h3⟩
theorem RawS.but {H H' : Hp} {p a : Addr} {k : Nat} {n : Int} {prs : List (Int × Int)} {l m g : Int} (r : RawS H p n prs l m g) (J : JarAt H a k) (s : But H H' a) : RawS H' p n prs l m g := by
  obtain ⟨lp, t, ts, h1, h2, h3, h4⟩ := r
  refine ⟨lp, t, ts, s _ _ h1 (J.no h1 fun _ _ _ z => nomatch z), s _ _ h2 (J.no h2 fun r m n z => ?_), h3.imp fun t p h => s _ _ h (J.no h fun _ _ _ z => nomatch z), s _ _ h4 (J.no h4 fun _ _ _ z => nomatch z)⟩
  injection z with z
  cases ts with
  | nil => cases z
  | cons t ts => cases z
def spSmall : Sp := fun vs H Q _ => ∃ (a : Addr) (k : Nat) (mo : Int), vs = [.ref a, .int mo] ∧ 1 ≤ mo ∧ mo ≤ 40 ∧ JarAt H a (k + 60) ∧ ∀ (p : Addr) (H' : Hp) (n l m g : Int) (prs : List (Int × Int)), n ≤ mo → GoodP n prs → prs.length ≤ 39 → RawS H' p n prs l m g → SetOk l m g → n ≤ 200 * l → g ≤ 40 → JarAt H' a k → But H H' a → Q (.ref p) H'
theorem asc_snoc {ms : List Int} {z : Int} (h : Asc ms) (k : ∀ x ∈ ms, x < z) : Asc (ms ++ [z]) := by
  rw [Asc, List.pairwise_append]
  refine ⟨h, List.pairwise_singleton _ _, fun x hx y hy => ?_⟩
  rw [List.mem_singleton.mp hy]
  exact k x hx
/-- what the loop has found: the pairs, all below the place i -/
structure Found (i : Int) (prs : List (Int × Int)) : Prop where
  rng : ∀ q ∈ prs, 1 ≤ q.1 ∧ q.1 < i ∧ (q.2 = 1 ∨ q.2 = 2)
  asc : Asc (prs.map (·.1))
theorem Found.nil (i : Int) : Found i [] := ⟨fun _ h => (nomatch h), List.Pairwise.nil⟩
theorem Found.up {i : Int} {prs : List (Int × Int)} (h : Found i prs) : Found (i + 1) prs := by
  refine ⟨fun q hq => ?_, h.asc⟩
  have := h.rng q hq
  omega
theorem Found.snoc {i : Int} {prs : List (Int × Int)} {z : Int} (h : Found i prs) (h0 : 1 ≤ i) (hz : z = 1 ∨ z = 2) : Found (i + 1) (prs ++ [(i, z)]) := by
  refine ⟨fun q hq => ?_, ?_⟩
  · rcases List.mem_append.mp hq with hq | hq
    · have := h.rng q hq
      omega
    · rw [List.mem_singleton.mp hq]
      refine ⟨h0, ?_, hz⟩
      show i < i + 1
      omega
  · rw [List.map_append]
    refine asc_snoc h.asc fun x hx => ?_
    obtain ⟨q, hq, rfl⟩ := List.mem_map.mp hx
    exact (h.rng q hq).2.1
section
variable {P : Program} {w : World} {K : PySem.W.Frag} {mg : Str → Option Value} {base : Heap}
abbrev NSm : List Str := ["jar", "most", "length", "way", "found", "spot", "kind"]
theorem scSm : FnScope NSm ["jar", "most"] (defScope sSmall) := ⟨rfl, rfl, rfl, by decide +kernel, rfl, by decide +kernel, by decide +kernel⟩
theorem ok_small {f fD fT : Addr} {fd fdD fdT : FuncData} (F : Fun K "_law_small" "_law_small" sSmall f fd) (T : Bl mg)
    (gD : mg "_law_dip" = some (.ref fD)) (kD : PySem.W.keepIn K (.ref fD) = true) (bD : Binds K fdD ["jar", "many"] []) (GD : FnOk P w K mg base CX0 1 fD fdD ["jar", "many"] spDip)
    (gT : mg "_law_three" = some (.ref fT)) (kT : PySem.W.keepIn K (.ref fT) = true) (bT : Binds K fdT ["jar", "wide"] []) (GT : FnOk P w K mg base CX0 2 fT fdT ["jar", "wide"] spThree) :
    FnOk P w K mg base CX0 3 f fd ["jar", "most"] spSmall := by
  refine F.ok scSm (fun vs H Q E h => ?_) (fun cdv A outer s H vs Q E hr h => ?_)
  · obtain ⟨a, k, mo, rfl, _⟩ := h
    rfl
  · obtain ⟨a, k, mo, rfl, mo1, mo2, J, q⟩ := h
    have hr1 : Room 1 (A.deeper (PyProof.Rows.envOfC "_law_small" (defScope sSmall) s.heap.objs.size f cdv)) := hr.mono (by decide)
    refine ⟨_, pss_cons (ps_par3 (i := 2) (j := 3) (l := 4) rfl scSm.nd rfl rfl rfl (by decide) (by decide) (by decide) rfl rfl rfl (pa_cons (pe_op op_add pe_int (pe_call GD hr1 rfl gD kD bD .nil pass0 (pa_cons (pv 0) (pa_cons (pv 1) pa_nil)))) (pa_cons (pe_call GD hr1 rfl gD kD bD .nil pass0 (pa_cons (pv 0) (pa_cons pe_int pa_nil))) (pa_cons (pe_lst pa_nil) pa_nil))) (by rfl))
      (pss_cons (ps_for PassesOwn.never rfl (pi_range2 (by rfl) T.range (pa_cons pe_int (pa_cons (pv 2) pa_nil))) (pg_name (i := 5) scSm.nd rfl (Or.inl rfl))
        (pss_cons (ps_set (i := 6) scSm.nd rfl (Or.inl rfl) (pe_ifExp (pt_cmpR op_eq (pv 3) pe_int (nomark _)) (pe_op op_add pe_int (pe_call GD hr1 rfl gD kD bD .nil pass0 (pa_cons (pv 0) (pa_cons pe_int pa_nil))))
            (pe_callB (call_max2 rfl) (by rfl) T.max (by decide +kernel) (pa_cons pe_int (pa_cons (pe_op op_sub (pe_call GD hr1 rfl gD kD bD .nil pass0 (pa_cons (pv 0) (pa_cons pe_int pa_nil))) pe_int) pa_nil)))))
        (pss_one (ps_if (PW.pt (pw_and (pt_cmpR op_gt (pv 6) pe_int (nomark _)) (pw_and1 (pt_cmpR op_ne (pv 3) pe_int (nomark _)))))
          (pss_one (ps_expr (pe_bm PySem.F.plainAttrs_list PySem.F.slot_list_append PySem.F.type_list_append mt_append (pv 4) (pa_cons (pe_tup (pa_cons (pv 5) (pa_cons (pv 6) pa_nil))) pa_nil)))) pss_nil))))
      (pss_one (ps_ret (pe_tup (pa_cons (pv 2) (pa_cons (pv 4) (pa_cons (pe_call GT hr rfl gT kT bT .nil pass0 (pa_cons (pv 0) (pa_cons pe_int pa_nil))) pa_nil))))))), ?_⟩
    refine ⟨_, rfl, _, rfl, a, k + 59, mo, rfl, J, by omega, by omega, fun v1 H1 a1 b1 J1 B1 => ⟨_, _, rfl, rfl, ?_⟩⟩
    refine ⟨_, rfl, a, k + 58, 5, rfl, J1, by decide, by decide, fun v2 H2 a2 b2 J2 B2 => ⟨Nat.zero_le _, fun l hl => ⟨_, _, _, rfl, ?_⟩⟩⟩
    have nla : a ≠ l := J2.ne hl
    have nl : H l = none := none_of (fun c o e => by
      by_cases z : c = a
      · obtain ⟨r, m, n, e', _⟩ := J2
        exact ⟨_, by rw [z]; exact e'⟩
      · exact ⟨o, (B1.trans B2) _ _ e z⟩) hl
    refine ⟨_, rfl, _, _, rfl, ⟨by decide, by decide, by omega, by omega⟩, for_range (lo := 1) (n := (1 + v1 - 1).toNat) (fun i σ H' => ∃ (v5 v6 : Option V) (ts : List Addr) (prs : List (Int × Int)),
        σ = [some (.ref a), some (.int mo), some (.int (1 + v1)), some (.int v2), some (.ref l), v5, v6] ∧ JarAt H' a (k + 7 + (50 - i)) ∧ But H H' a ∧ H' l = some (.lst (ts.map V.ref)) ∧ PrAt H' ts prs ∧ Found (1 + i) prs ∧ prs.length ≤ i)
      ⟨none, none, [], [], rfl, (J2.put nla).mono (by omega), (B1.trans B2).new hl, upd_same, .nil, Found.nil _, Nat.le_refl _⟩ ?_ ?_⟩
    · rintro i σ H' hi ⟨v5, v6, ts, prs, rfl, J', B', hL, hP, hF, hlen⟩
      have Jd : JarAt H' a (k + 7 + (50 - (i + 1)) + 1) := J'.mono (by omega)
      refine ⟨_, rfl, rfl, _, rfl, ?_⟩
      refine ite2 (fun hv => ?ga) (fun hv => ?gb)
      case' ga =>
        refine ⟨_, rfl, a, _, 2, rfl, Jd, by decide, by decide, fun v3 H3 a3 b3 J3 B3 => ⟨_, _, rfl, rfl, ?_⟩⟩
        have z0 : 0 ≤ 1 + v3 := by omega
        have z2 : 1 + v3 ≤ 2 := by omega
        dsimp only
        generalize 1 + v3 = z at z0 z2 ⊢
      case' gb =>
        refine ⟨_, rfl, a, _, 5, rfl, Jd, by decide, by decide, fun v3 H3 a3 b3 J3 B3 => ⟨_, _, rfl, rfl, _, _, rfl, ?_⟩⟩
        have z0 : 0 ≤ (if v3 - 2 > 0 then v3 - 2 else 0) := by split <;> omega
        have z2 : (if v3 - 2 > 0 then v3 - 2 else 0) ≤ 2 := by split <;> omega
        dsimp only
        generalize (if v3 - 2 > 0 then v3 - 2 else 0) = z at z0 z2 ⊢
      all_goals
        have hL3 : H3 l = some (.lst (ts.map V.ref)) := B3 _ _ hL nla.symm
        have hP3 : PrAt H3 ts prs := hP.imp fun t p h => B3 _ _ h (J'.no h (fun _ _ _ y => nomatch y))
        have stay : ∃ (v5 v6 : Option V) (ts : List Addr) (prs : List (Int × Int)), [some (V.ref a), some (V.int mo), some (V.int (1 + v1)), some (V.int v2), some (V.ref l), some (V.int (1 + (i : Int))), some (V.int z)] = [some (V.ref a), some (V.int mo), some (V.int (1 + v1)), some (V.int v2), some (V.ref l), v5, v6] ∧ JarAt H3 a (k + 7 + (50 - (i + 1))) ∧ But H H3 a ∧ H3 l = some (.lst (ts.map V.ref)) ∧ PrAt H3 ts prs ∧ Found (1 + ((i + 1 : Nat) : Int)) prs ∧ prs.length ≤ i + 1 :=
          ⟨_, _, ts, prs, rfl, J3, B'.trans B3, hL3, hP3, by have := hF.up; rwa [show (1 : Int) + ((i + 1 : Nat) : Int) = 1 + i + 1 by omega], by omega⟩
        refine ⟨_, rfl, _, _, rfl, rfl, _, rfl, ?_⟩
        by_cases c1 : z > 0
        · refine ifT (decide_eq_true c1) ?_
          refine ⟨_, rfl, rfl, _, rfl, ?_⟩
          by_cases c2 : v2 = 1
          · refine ifF (by simp [c2]) ?_
            exact stay
          · refine ifT (by simp [c2]) ?_
            refine ⟨_, rfl, .inl ⟨rfl, _, SqL.of hL3⟩, _, rfl, _, rfl, (by show 2 ≤ sizeLine; decide), fun t ht => ?_⟩
            have nlt : l ≠ t := ne_of_none hL3 ht
            have hts := hP3.len
            refine ⟨l, _, _, rfl, rfl, by rw [upd_ne nlt]; exact hL3, by rw [List.length_map]; exact small1000 (by omega), ?_⟩
            refine ⟨_, _, ts ++ [t], prs ++ [(1 + (i : Int), z)], rfl, ((J3.put (J3.ne ht)).put nla), ?_, ?_, ?_, ?_, ?_⟩
            · exact ((B'.trans B3).new ht).put nl
            · rw [upd_same, List.map_append]
              rfl
            · refine PrAt.app (hP3.imp fun u p h => ?_) (.cons ?_ .nil)
              · rw [upd_ne (ne_of h hL3 (by intro y; cases y)), upd_ne (ne_of_none h ht)]
                exact h
              · rw [upd_ne (Ne.symm nlt)]
                exact upd_same
            · have := hF.snoc (z := z) (by omega) (by omega)
              rwa [show (1 : Int) + ((i + 1 : Nat) : Int) = 1 + i + 1 by omega]
            · rw [List.length_append]
              exact Nat.succ_le_succ hlen
        · refine ifF (decide_eq_false c1) ?_
          refine ifF rfl ?_
          exact stay
    · rintro σ H' ⟨v5, v6, ts, prs, rfl, J', B', hL, hP, hF, hlen⟩
      have hlen' : prs.length ≤ 39 := by omega
      refine ⟨_, rfl, _, rfl, _, rfl, a, k, 4, rfl, J'.mono (by omega), by decide, by decide, fun p H3 x y g x1 x2 y1 y2 g1 g2 J3 B3 hp _ => ⟨(by show 3 ≤ sizeLine; decide), fun r hr' => ?_⟩⟩
      have s3 : Same H3 (upd H3 r (.tup [.int (1 + v1), .ref l, .ref p])) := same_new (Same.refl H3) hr'
      refine q r _ (1 + v1) x y g prs (by omega) ⟨by omega, by omega, fun w hw => ?_, hF.asc⟩ hlen' ⟨l, p, ts, upd_same, s3 _ _ (B3 _ _ hL nla.symm), hP.imp fun t w h => s3 _ _ (B3 _ _ h (J'.no h (fun _ _ _ y => nomatch y))), s3 _ _ hp⟩ ⟨x1, y1, g1⟩ (by omega) (by omega) (J3.put (J3.ne hr')) ((B'.trans B3).new hr')
      have z := hF.rng w hw
      exact ⟨z.1, by omega, z.2.2⟩
end
end Cw
namespace Cw
open PySem L2
/-! ## walks beside one another -/
theorem kc_add {F : Int → Int} {n s : Int} {i : Nat} : ∀ k : Nat, kc F n s (i + k) = kc F n (kc F n s i) k
  | 0 => rfl
  | k + 1 => by
    have h := kc_add (F := F) (n := n) (s := s) (i := i) k
    show (if kc F n s (i + k) < n then F (kc F n s (i + k)) else kc F n s (i + k)) = (if kc F n (kc F n s i) k < n then F (kc F n (kc F n s i) k) else kc F n (kc F n s i) k)
    rw [h]
theorem WkOk.from {F : Int → Int} {n s : Int} {m i : Nat} (w : WkOk F n s m) (h : i ≤ m) : WkOk F n (kc F n s i) (m - i) := by
  refine ⟨by have := w.few; omega, ?_, fun k hk => ?_⟩
  · rw [← kc_add, Nat.add_sub_cancel' h]
    exact w.fin
  · rw [← kc_add]
    exact w.bef _ (by omega)
theorem WkOk.one {F : Int → Int} {n s : Int} {m k : Nat} (w : WkOk F n s m) (u : WkOk F n s k) : m = k := by
  rcases Nat.lt_trichotomy m k with h | h | h
  · have := u.bef _ h
    have := w.fin
    omega
  · exact h
  · have := w.bef _ h
    have := u.fin
    omega
theorem WkOk.later {F : Int → Int} {n s : Int} {m k : Nat} (w : WkOk F n s m) (h : m ≤ k) : kc F n s k = n := by
  have z := kc_end (F := F) (n := n) (s := s) (m := m) (by rw [w.fin]; omega) (k - m)
  rw [Nat.add_sub_cancel' h, w.fin] at z
  exact z
theorem fil_ge {F : Int → Int} {n l a v : Int} {m i : Nat} (S : Stp F n l) (w : WkOk F n a m) (hi : i ≤ m) (hv : kc F n a i = v) : (wl F n a m).filter (fun c => decide (c ≥ v)) = wl F n v (m - i) := by
  have e : m + 1 = i + (m - i + 1) := by omega
  unfold wl
  rw [e, List.range_add, List.map_append, List.filter_append, List.map_map]
  have z1 : ((List.range i).map (kc F n a)).filter (fun c => decide (c ≥ v)) = [] := List.filter_eq_nil_iff.mpr fun x hx => by
    obtain ⟨k, hk, rfl⟩ := List.mem_map.mp hx
    rw [List.mem_range] at hk
    have := kc_lt S w hk hi
    simp only [decide_eq_true_eq]
    omega
  have z2 : ((List.range (m - i + 1)).map (kc F n a ∘ (i + ·))).filter (fun c => decide (c ≥ v)) = (List.range (m - i + 1)).map (kc F n a ∘ (i + ·)) := List.filter_eq_self.mpr fun x hx => by
    obtain ⟨k, hk, rfl⟩ := List.mem_map.mp hx
    have := kc_wk S (s := a) (show i ≤ i + k by omega)
    refine decide_eq_true ?_
    show kc F n a (i + k) ≥ v
    omega
  rw [z1, z2, List.nil_append]
  refine List.map_congr_left fun k _ => ?_
  show kc F n a (i + k) = kc F n v k
  rw [kc_add, hv]
theorem mt_same {F : Int → Int} {n l a b v : Int} {m k : Nat} (S : Stp F n l) (M : Mt F n a b v) (w : WkOk F n a m) (u : WkOk F n b k) : (wl F n a m).filter (fun c => decide (c ≥ v)) = (wl F n b k).filter (fun c => decide (c ≥ v)) := by
  obtain ⟨i, j, e1, e2, na, nb⟩ := M
  have hi : i ≤ m := by
    by_cases c : i ≤ m
    · exact c
    · exact absurd (w.fin.trans u.fin.symm) (na m (by omega) k)
  have hj : j ≤ k := by
    by_cases c : j ≤ k
    · exact c
    · exact absurd (u.fin.trans w.fin.symm) (nb k (by omega) m)
  have w' := w.from hi
  have u' := u.from hj
  rw [e1] at w'
  rw [e2] at u'
  rw [fil_ge S w hi e1, fil_ge S u hj e2, w'.one u']
theorem mt_none {F : Int → Int} {n l a b v : Int} {m k : Nat} (S : Stp F n l) (M : Mt F n a b v) : (wl F n a m).filter (fun c => decide (c < v) && decide (c ∈ wl F n b k)) = [] := by
  obtain ⟨i, j, e1, e2, na, nb⟩ := M
  refine List.filter_eq_nil_iff.mpr fun x hx => ?_
  obtain ⟨i', _, rfl⟩ := kc_mem.mp hx
  simp only [Bool.and_eq_true, decide_eq_true_eq]
  rintro ⟨h1, h2⟩
  obtain ⟨j', _, e⟩ := kc_mem.mp h2
  by_cases c : i' < i
  · exact na i' c j' e.symm
  · have := kc_wk S (s := a) (show i ≤ i' by omega)
    omega
theorem turns {F : Int → Int} {n l a b : Int} (S : Stp F n l) (ab : a ≤ b) (bn : b ≤ n) (bF : b ≤ kc F n a 1) : ∀ k, kc F n a k ≤ kc F n b k ∧ kc F n b k ≤ kc F n a (k + 1)
  | 0 => ⟨ab, bF⟩
  | k + 1 => by
    obtain ⟨h1, h2⟩ := turns S ab bn bF k
    have st : ∀ p q, p ≤ q → q ≤ n → (if p < n then F p else p) ≤ (if q < n then F q else q) := fun p q h hq => by
      by_cases c : q < n
      · rw [if_pos c, if_pos (by omega)]
        exact S.mono _ _ h
      · rw [if_neg c]
        by_cases d : p < n
        · rw [if_pos d]
          have := S.le p
          omega
        · rw [if_neg d]
          exact h
    exact ⟨st _ _ h1 (kc_le S bn k), st _ _ h2 (kc_le S (by omega) (k + 1))⟩
/-- the number of cuts before z is the first index that is not -/
theorem cb_wl {F : Int → Int} {n l s z : Int} {m : Nat} (S : Stp F n l) (w : WkOk F n s m) (hz : z ≤ n) : z ≤ kc F n s (cb (wl F n s m) z) ∧ (∀ i, i < cb (wl F n s m) z → kc F n s i < z) ∧ cb (wl F n s m) z ≤ m := by
  obtain ⟨h1, h2⟩ := cb_split (wl_asc S w) z
  have g : ∀ i, i ≤ m → (wl F n s m)[i]? = some (kc F n s i) := fun i hi => by
    unfold wl
    rw [List.getElem?_map, List.getElem?_range (by omega)]
    rfl
  have c : cb (wl F n s m) z ≤ m := by
    by_cases c : cb (wl F n s m) z ≤ m
    · exact c
    · have := h1 m (by omega) _ (g m (Nat.le_refl _))
      have := w.fin
      omega
  exact ⟨h2 _ (Nat.le_refl _) _ (g _ c), fun i hi => h1 i hi _ (g i (by omega)), c⟩
theorem last_up {F : Int → Int} {n a b : Int} (ab : a ≤ b) : ∀ m, (∃ i, kc F n a i ≤ b ∧ b ≤ kc F n a (i + 1)) ∨ kc F n a m ≤ b
  | 0 => .inr ab
  | m + 1 => by
    rcases last_up ab m with h | h
    · exact .inl h
    · by_cases c : kc F n a (m + 1) ≤ b
      · exact .inr c
      · exact .inl ⟨m, h, by omega⟩
/-- how the numbers of cuts before a place differ, behind both starts -/
theorem cb_near {F : Int → Int} {n l a b : Int} {m k : Nat} (S : Stp F n l) (w : WkOk F n a m) (u : WkOk F n b k) (ab : a ≤ b) (bn : b < n) :
    ∃ i, ∀ z, b ≤ z → z ≤ n → i + cb (wl F n b k) z ≤ cb (wl F n a m) z ∧ cb (wl F n a m) z ≤ i + cb (wl F n b k) z + 1 := by
  obtain ⟨i, h1, h2⟩ : ∃ i, kc F n a i ≤ b ∧ b ≤ kc F n a (i + 1) := by
    rcases last_up (F := F) (n := n) ab m with h | h
    · exact h
    · have := w.fin
      omega
  refine ⟨i, fun z bz zn => ?_⟩
  have tn := turns S h1 (by omega) (by rw [← kc_add]; exact h2)
  obtain ⟨a1, a2, a3⟩ := cb_wl S w zn
  obtain ⟨b1, b2, b3⟩ := cb_wl S u zn
  generalize cb (wl F n a m) z = A at a1 a2 a3 ⊢
  generalize cb (wl F n b k) z = B at b1 b2 b3 ⊢
  constructor
  · by_cases c : i ≤ A
    · have t := (tn (A - i)).1
      rw [← kc_add, Nat.add_sub_cancel' c] at t
      by_cases d : A - i < B
      · have := b2 _ d
        omega
      · omega
    · exfalso
      have e1 := kc_wk S (s := a) (show A ≤ i by omega)
      have c1 : kc F n a A < n := by omega
      have e2 := S.gt c1
      rw [← kc_at c1] at e2
      have e3 := kc_wk S (s := a) (show A + 1 ≤ i by omega)
      omega
  · by_cases d : i + B + 1 < A
    · have t := (tn B).2
      have e := kc_add (F := F) (n := n) (s := a) (i := i) (B + 1)
      rw [← e] at t
      have := a2 (i + (B + 1)) (by omega)
      omega
    · omega
end Cw
namespace Cw
open PySem PySem.Spec PyProof.Rows L2
/-! ## defs of which it is known that no list's text is being made around them -/
structure FnG (P : Program) (w : World) (K : PySem.W.Frag) (mg : Str → Option Value) (base : Heap) (k : Nat) (f : Addr) (fd : FuncData) (ps : List Str) (sp : Sp) : Prop where
  len : ∀ vs H Q E, sp vs H Q E → vs.length = ps.length
  run : ∀ (A : Around) (outer : List Env) (s : Shared) (H : Hp) (args : Args) (us : List Value) (vs : List V) (Q : VK) (E : XK), Room k A → A.guards = some [] → Env0 P w K mg base A outer s H → BindsTo s fd args (ps.zip us) → Vals vs us → sp vs H Q E →
    codeAny (model P w) A (.call (.ref f) args) (CR CX0 outer P w H s Q E) s
theorem FnG.of {P : Program} {w : World} {K : PySem.W.Frag} {mg : Str → Option Value} {base : Heap} {k : Nat} {f : Addr} {fd : FuncData} {ps : List Str} {sp : Sp} (F : FnOk P w K mg base CX0 k f fd ps sp) : FnG P w K mg base k f fd ps sp :=
  ⟨F.len, fun A outer s H args us vs Q E hr _ => F.run A outer s H args us vs Q E hr⟩
section
variable {P : Program} {w : World} {K : PySem.W.Frag} {mg : Str → Option Value} {base : Heap}
theorem okG {x qual : Str} {st : Stmt} {f : Addr} {fd : FuncData} {N ps : List Str} {k : Nat} {sp : Sp} (F : Fun K x qual st f fd) (S : FnScope N ps (defScope st)) (len : ∀ vs H Q E, sp vs H Q E → vs.length = ps.length)
    (body : ∀ (cdv : Value) (A : Around) (outer : List Env) (s : Shared) (H : Hp) (vs : List V) (Q : VK) (E : XK), Room k (A.deeper (envOfC qual (defScope st) s.heap.objs.size f cdv)) → A.guards = some [] → sp vs H Q E →
      ∃ t, PSs (cxOf CX0 P w K mg base N qual (defScope st) f cdv A outer s H E).nox (defBody st) t ∧ t { nx := fun _ H' => Q .non H', rt := Q } (start N vs) H) : FnG P w K mg base (k + 1) f fd ps sp := by
  obtain ⟨oc, od, kV, doc, pm, an, cdv, ct, osl, rfl, look, hcd⟩ := F.ex
  refine ⟨len, fun A outer s H args us vs Q E room gu env bind rel prom => ?_⟩
  have here : K.In s.heap := env.mod.kin.keeps fun b o e => (env.bs b o e).1
  have free : s.heap.NoLimit := env.mod.nolimit.keeps fun b o e => (env.bs b o e).1
  have kinds : ∀ y ∈ ps.zip us, (defScope st).names.lookup y.1 = some .local ∨ ((defScope st).names.lookup y.1 = some .cell ∧ ((cellsFrom (s.heap.objs.size + 1) (defScope st).names []).lookup y.1).isSome = true) := fun y hy =>
    (S.par y.1 (List.of_mem_zip (show (y.1, y.2) ∈ ps.zip us from hy)).1).imp id fun z => ⟨z, PySem.W.cellsFrom_some _ _ _ (.inl z)⟩
  refine codeAny_call_function room.depth (here _ _ look) rfl S.co S.gen rfl (PySem.W.codeRec_of here hcd) (bind _ _ _ _ (wpAny_newFunctionEnv_cells S.kind kinds fun e he s1 ic => ?_))
  subst he
  obtain ⟨t, ht, hq⟩ := body cdv A outer s H vs Q E (room.deeper _) gu prom
  refine ⟨free.keeps ic.toInCall.keep, codeAny_func (wpAny_mono (ht.nox.run [] s1 (start N vs) H _ (inv_start S room.hd env (len _ _ _ _ prom) rel ic) hq) (fun fl s2 z => ?_) fun _ _ z => z)⟩
  cases fl with
  | ret u =>
    obtain ⟨v, _, H2, J, rv, qq⟩ := z
    exact ⟨v, H2, J.os, J.bare, J.base, J.hok, rv, qq⟩
  | next =>
    obtain ⟨_, H2, J, qq⟩ := z
    exact ⟨V.non, H2, J.os, J.bare, J.base, J.hok, rfl, qq⟩
  | brk =>
    obtain ⟨_, _, _, qq⟩ := z
    exact qq.elim
  | cont =>
    obtain ⟨_, _, _, qq⟩ := z
    exact qq.elim
end
section
variable {X : Cx} {k : Nat} {f : Addr} {fd : FuncData} {ps : List Str} {sp : Sp} {x : Str} {p pos : Pos} {e : Expr} {es : List Expr} {t : TA}
/-- a call of such a def where no list's text is being made -/
theorem pe_callG (F : FnG X.prog X.w X.K X.mg X.base k f fd ps sp) (room : Room k X.A) (gu : X.A.guards = some []) (gl : Gl X x) (hm : X.mg x = some (.ref f)) (kp : PySem.W.keepIn X.K (.ref f) = true) (bi : Binds X.K fd ps [])
    (ha : PA X (e :: es) t) (hdb : (x == ("__debug__" : Str)) = false := by decide) (he : starEach (e :: es) X.env = (false, eval e X.env) :: starEach es X.env := by rfl) (hpl : (backTo pos (starEach es X.env)).any (·.1) = false := by rfl) :
    PE X (.Call (.Name x p) (e :: es) [] pos) (tCall sp [] E0 t) := by
  refine ⟨fun pins s σ H Q I h => wpAny_Call_Name_kw (ld_glob I gl hm (PySem.W.callWith_K (h₀ := X.base) I.ok.mod.kin kp (thn (ha.run pos pins s σ H _ I h) fun us s1 ⟨vs, H1, I1, r, q⟩ => ⟨I1.kIn, ?_⟩) he hpl) hdb)⟩
  have q' : sp vs H1 Q E0 := by
    have z : sp (vs ++ []) H1 Q E0 := q
    rw [List.append_nil] at z
    exact z
  have many : us.length = ps.length := by rw [← r.length]; exact F.len _ _ _ _ q'
  refine wpAny_call (codeAny_mono (F.run X.A X.stack s1 H1 ⟨us, []⟩ us vs Q E0 room gu I1.env0 (by have z := bi s1 us I1.kIn (by rw [List.append_nil]; exact many); rw [List.append_nil] at z; exact z) r q') fun res s2 z => ?_)
  cases res with
  | error er => exact z.elim
  | ok fl =>
    cases fl with
    | ret u => exact I1.after z
    | next => exact z.elim
    | brk => exact z.elim
    | cont => exact z.elim
/-- repr of data: none of its lists is being shown around here -/
def rReprD (K : PySem.W.Frag) : List V → Hp → VK → Prop := fun xs H Q => ∃ a d, xs = [V.ref a] ∧ Dp K H (.ref a) d ∧ d.showable = true ∧ d.hasDict = false ∧ d.depth ≤ 60 ∧ d.shown.length ≤ sizeLine ∧ Q (.str d.shown) H
theorem call_reprD (gu : X.A.guards = some []) (hu : X.A.units + 64 < cLine) : CallR X (.builtin "repr") (rReprD X.K) := by
  intro pins s σ H xs us Q I r h
  obtain ⟨a, d, rfl, hd, sh, nd, dp, sz, q⟩ := h
  obtain ⟨u, rfl, rx⟩ := vals1 r
  obtain rfl : u = Value.ref a := rx
  obtain ⟨as, rd⟩ := Dp.reads I d (.ref a) (.ref a) hd rfl
  exact repr_of_reads' rd sh (fun z => by rw [nd] at z; cases z) gu (by omega) (fun _ _ e => e) (fun h' u tk keep => ⟨.str d.shown, H, I.kept keep, ⟨_, rfl⟩, q⟩) sz
end
end Cw
namespace Cw
open PySem PySem.Spec PyProof.Rows L2
/-- the law's call, its def being one of FnG; H tracks at most the script -/
theorem startG {P : Program} {w : World} {K : PySem.W.Frag} {mg mb : Str → Option Value} {k : Nat} {fa a : Addr} {fd : FuncData} {x : Str} {sp : Sp} {s1 : Shared} {vs : List Value} {ns : List Int}
    (kin : K.In s1.heap) (glob : s1.heap.Ns mainGlobals mg) (bns : s1.heap.Ns builtinsNs mb) (boot : ∀ y : Str, y ≠ "__name__" → mb y = bootBuiltins y) (lim : s1.heap.NoLimit) (gens : s1.gens = #[])
    (scr : s1.heap.get? a = some { cls := .type "list", data := .seq vs.toArray }) (room : Room k callerA)
    (F : ∀ base : Heap, K.In base → base.Ns mainGlobals mg → FnG P w K mg base k fa fd [x] sp) (bind : ∀ (s : Shared) (u : Value), BindsTo s fd ⟨[u], []⟩ [(x, u)])
    (H : Hp) (only : Only H) (prom : sp [.ref a] H (fun v _ => v = .bl true) E0) (hok : HOk P w H s1.heap) (at_ : ∀ b, H b ≠ none → b = a) (off : H a ≠ none → K.lookup a = none) :
    codeAny (model P w) callerA (.call (.ref fa) ⟨[.ref a], []⟩) (fun r s' => r = .ok (.ret (.bool true)) ∧ OldK s1.heap s'.heap ∧ s'.os = s1.os ∧ AllBare s'.gens) s1 := by
  have none_at : ∀ {b : Addr}, b ≠ a → H b = none := fun {b} nb => by
    cases z : H b with
    | none => rfl
    | some o => exact absurd (at_ b (by rw [z]; exact fun y => nomatch y)) nb
  have dicts : ∀ {b : Addr} {m : Str → Option Value}, s1.heap.Ns b m → (hidT s1.heap H).Ns b m := fun {b m} ⟨o, es, ep, e, d, r⟩ => by
    refine ⟨o, es, ep, hidT_get e (none_at fun z => ?_), d, r⟩
    rw [z, scr] at e
    cases e
    exact nomatch (show Data.seq vs.toArray _ = Data.dict es ep from d)
  have kin2 : K.In (hidT s1.heap H) := fun b o e => by
    refine hidT_get (kin b o e) ?_
    by_cases nb : b = a
    · subst nb
      cases z : H b with
      | none => rfl
      | some y =>
        rw [off (by rw [z]; exact fun y => nomatch y)] at e
        cases e
    · exact none_at nb
  obtain ⟨mc, lm1, lm2⟩ := lim
  have e0 : Env0 P w K mg (hidT s1.heap H) callerA [] s1 H := ⟨rfl, ⟨kin2, dicts glob, ⟨mb, dicts bns, boot⟩, ⟨mc, dicts lm1, lm2⟩⟩, fun _ _ e => of_hidT e, Nat.le_of_eq (hidT_size _ _), trivial, fun b hb => (List.not_mem_nil hb).elim, hok, .of_eq gens⟩
  refine codeAny_mono ((F _ kin2 (dicts glob)).run callerA [] s1 H ⟨[.ref a], []⟩ [.ref a] [.ref a] _ E0 room rfl e0 (bind s1 (.ref a)) (.cons rfl .nil) prom) fun res s2 z => ?_
  cases res with
  | error er => exact z.elim
  | ok fl =>
    cases fl with
    | next => exact z.elim
    | brk => exact z.elim
    | cont => exact z.elim
    | ret u =>
      obtain ⟨v, H2, os, bare, un, hok2, rel, q⟩ := z
      have qv : v = .bl true := q
      subst qv
      obtain rfl : u = Value.bool true := rel
      refine ⟨rfl, OldK.of_keep fun b o e => ?_, os, bare⟩
      rcases only b with nb | ⟨ob, xs, fz⟩
      · exact un.keep b o e nb (fun y => (List.not_mem_nil y).elim) (fun y => (List.not_mem_nil y).elim)
      · obtain ⟨h1, _⟩ := hok b _ fz
        obtain ⟨h2, _⟩ := hok2 b _ (un.frzs b ob _ fz)
        rw [e] at h1
        cases h1
        exact h2
theorem callG {P : Program} {w : World} {K : PySem.W.Frag} {mg mb : Str → Option Value} {k : Nat} {fa a : Addr} {fd : FuncData} {x : Str} {sp : Sp} {s1 : Shared} {vs : List Value} {ns : List Int}
    (kin : K.In s1.heap) (glob : s1.heap.Ns mainGlobals mg) (bns : s1.heap.Ns builtinsNs mb) (boot : ∀ y : Str, y ≠ "__name__" → mb y = bootBuiltins y) (lim : s1.heap.NoLimit) (gens : s1.gens = #[])
    (scr : s1.heap.get? a = some { cls := .type "list", data := .seq vs.toArray }) (nts : IntsAre vs ns) (few : ns.length ≤ sizeLine) (room : Room k callerA)
    (F : ∀ base : Heap, K.In base → base.Ns mainGlobals mg → FnG P w K mg base k fa fd [x] sp) (bind : ∀ (s : Shared) (u : Value), BindsTo s fd ⟨[u], []⟩ [(x, u)])
    (prom : ∀ H : Hp, Only H → SqL K H a (ns.map V.int) → sp [.ref a] H (fun v _ => v = .bl true) E0) :
    codeAny (model P w) callerA (.call (.ref fa) ⟨[.ref a], []⟩) (fun r s' => r = .ok (.ret (.bool true)) ∧ OldK s1.heap s'.heap ∧ s'.os = s1.os ∧ AllBare s'.gens) s1 := by
  have rel := vals_ints nts
  have many : vs.length = ns.length := nts.length
  cases hk : K.lookup a with
  | some o =>
    have e := kin a o hk
    rw [scr] at e
    cases e
    have on : Only fun _ => none := fun _ => .inl rfl
    exact startG (ns := ns) kin glob bns boot lim gens scr room F bind (fun _ => none) on (prom _ on (.inr ⟨_, vs.toArray, _, hk, rfl, rfl, rfl, by rw [List.size_toArray, many]; exact few, by simpa using rel⟩)) (fun _ _ z => nomatch z) (fun _ z => (z rfl).elim) fun z => (z rfl).elim
  | none =>
    obtain ⟨H, hH⟩ : ∃ H : Hp, H = fun b => if b = a then some (.frz { cls := .type "list", data := .seq vs.toArray } (.lst (ns.map V.int))) else none := ⟨_, rfl⟩
    have atA : H a = some (.frz { cls := .type "list", data := .seq vs.toArray } (.lst (ns.map V.int))) := by rw [hH]; exact if_pos rfl
    have els : ∀ b, b ≠ a → H b = none := fun b nb => by rw [hH]; exact if_neg nb
    have on : Only H := fun b => by
      by_cases nb : b = a
      · exact .inr ⟨_, _, by rw [nb]; exact atA⟩
      · exact .inl (els b nb)
    refine startG (ns := ns) kin glob bns boot lim gens scr room F bind H on (prom H on (.inl (.inr ⟨_, atA⟩))) (fun b u z => ?_) (fun b z => ?_) fun _ => hk
    · by_cases nb : b = a
      · subst nb
        rw [atA] at z
        cases z
        exact ⟨scr, by rw [List.length_map]; exact few, vs, _, rel, scr⟩
      · rw [els b nb] at z
        cases z
    · by_cases nb : b = a
      · exact nb
      · exact (z (els b nb)).elim
/-- the walk of a law whose def is one of FnG -/
theorem walkG {l : PySem.W.OpenLaw} {n k : Nat} {q : Program} {loose : List Str} {XP : (Str → Option Value) → Heap → Prop} {YP : World → Heap → Prop} {d : DefRec} {K : Params → PySem.W.Frag} {sp : World → Sp} {x : Str}
    (most : l.most = some n) (n2 : n ≤ sizeLine) (dfl : d.params.defaults = []) (room : Room k callerA) (hY : ∀ (w : World) (h : Heap), YP w h → (K w.params).In h)
    (F : ∀ (w : World) (mg : Str → Option Value) (fa : Addr) (h : Heap), (K w.params).In h → h.Ns mainGlobals mg → mg d.name = some (.ref fa) →
      ∃ fd : FuncData, (∀ (s : Shared) (u : Value), BindsTo s fd ⟨[u], []⟩ [(x, u)]) ∧ ∀ base : Heap, (K w.params).In base → base.Ns mainGlobals mg → FnG l.prog w (K w.params) mg base k fa fd [x] (sp w))
    (prom : ∀ (w : World) (H : Hp) (a : Addr) (ns : List Int), ns.length ≤ n → Only H → SqL (K w.params) H a (ns.map V.int) → sp w [.ref a] H (fun v _ => v = .bl true) E0) :
    PySem.W.WalkO q loose XP YP l.row.toRowW d [] (fun f vs => PySem.call f vs) := by
  refine Att.attach_call most dfl fun w s0 s1 mg mb fa o pm cd doc a vs ns G Y ho hd hcd hmg scr nts few gens => ?_
  have kin := hY w _ Y
  obtain ⟨fd, bi, FF⟩ := F w mg fa _ kin G.T.g hmg
  exact callG kin G.T.g G.T.b G.T.builtins G.T.nolimit gens scr nts (Nat.le_trans few n2) room FF bi fun H on hs => prom w H a ns few on hs
end Cw
namespace Cw
open PySem L2
def RowOff (C : Addr) (H : Hp) (a p : Addr) (n : Int) (ms ss : List Int) : Prop := ∃ dx l1 l2, H p = some (.ins C dx (flds n l1 l2)) ∧ IL H l1 ms ∧ IL H l2 ss ∧ l1 ≠ a ∧ l2 ≠ a
theorem RowNew.off {C : Addr} {H H' : Hp} {p a : Addr} {k : Nat} {n : Int} {ms ss : List Int} (r : RowNew C H H' p n ms ss) (J : JarAt H a k) : RowOff C H' a p n ms ss := by
  obtain ⟨dx, l1, l2, h1, h2, h3, n1, n2⟩ := r
  exact ⟨dx, l1, l2, h1, h2, h3, (J.ne n1).symm, (J.ne n2).symm⟩
theorem RowOff.at {C : Addr} {H : Hp} {p a : Addr} {n : Int} {ms ss : List Int} (r : RowOff C H a p n ms ss) : RowAt C H p n ms ss := by
  obtain ⟨dx, l1, l2, h1, h2, h3, _⟩ := r
  exact ⟨dx, l1, l2, h1, h2, h3⟩
theorem RowOff.but {C : Addr} {H H' : Hp} {p a : Addr} {k : Nat} {n : Int} {ms ss : List Int} (r : RowOff C H a p n ms ss) (J : JarAt H a k) (B : But H H' a) : RowOff C H' a p n ms ss := by
  obtain ⟨dx, l1, l2, h1, h2, h3, n1, n2⟩ := r
  exact ⟨dx, l1, l2, B _ _ h1 (J.no h1 fun _ _ _ z => nomatch z), B _ _ h2 n1, B _ _ h3 n2, n1, n2⟩
/-- a row and settings that stay while the jar is drawn from -/
structure RwO (C : Addr) (H : Hp) (a r t : Addr) (n l m g : Int) (ms ss : List Int) : Prop where
  row : RowOff C H a r n ms ss
  tup : H t = some (.tup [.int l, .int m, .int g])
  good : Good n ms ss
  set : SetOk l m g
  big : n ≤ 200 * l
theorem RwO.rws {C : Addr} {H : Hp} {a r t : Addr} {n l m g : Int} {ms ss : List Int} (R : RwO C H a r t n l m g ms ss) : RwS C H r t n l m g ms ss := ⟨R.row.at, R.tup, R.good, R.set, R.big⟩
theorem RwO.but {C : Addr} {H H' : Hp} {a r t : Addr} {k : Nat} {n l m g : Int} {ms ss : List Int} (R : RwO C H a r t n l m g ms ss) (J : JarAt H a k) (B : But H H' a) : RwO C H' a r t n l m g ms ss :=
  ⟨R.row.but J B, B _ _ R.tup (J.no R.tup fun _ _ _ z => nomatch z), R.good, R.set, R.big⟩
theorem inV_il {z : Int} {ns : List Int} : inV (.int z) (ns.map V.int) = decide (z ∈ ns) := by
  unfold inV
  induction ns with
  | nil => rfl
  | cons a r ih =>
    rw [List.map_cons, List.any_cons, ih]
    have e : eqV (.int a) (.int z) = decide (a = z) := by
      by_cases c : a = z
      · subst c; simp [eqV]
      · simp [eqV, c]
    rw [e]
    by_cases c : a = z
    · subst c; simp
    · have c' : ¬ z = a := fun h => c h.symm
      simp [c, c']
theorem flat_il {ns : List Int} : (ns.map V.int).all flatV = true := by
  rw [List.all_map]
  exact List.all_eq_true.mpr fun _ _ => rfl
theorem nx_reach {n l m g p : Int} {ms ss : List Int} : nx n ms ss l m g p ≤ p + g := by
  unfold nx
  omega
/-- a comprehension that takes some whole numbers of a list -/
theorem lc_fil {K : PySem.W.Frag} {a D : Addr} {ns : List Int} {g : TG} {tt : TT} {te : TE} {vs : List Nat} {σ : St} {H1 : Hp} {Qd : Hp → Prop} (f : Int → Bool)
    (ha : IL H1 a ns) (hD : H1 D = none) (few : ns.length ≤ 999)
    (step : ∀ (z : Int) (H : Hp) (A : V → Hp → Prop) (B : Hp → Prop), Same H1 H → (f z = true → A (.int z) H) → (f z = false → B H) →
      g (.int z) (wipe σ vs) H fun σ2 H2 => wipe σ2 vs = wipe σ vs ∧ tt σ2 H2 fun b H3 => if b = true then te σ2 H3 fun y H4 => A y H4 else B H3)
    (fin : ∀ (H : Hp), Same H1 H → IL H D (ns.filter f) → Qd H) :
    ∃ W : Nat → Nat → Hp → Prop, (∃ m, W 0 m (upd H1 D (HO.lst []))) ∧ ∀ (i m : Nat) (H : Hp), W i m H → (Itl K a).stop i H ∧ Qd H ∨ (Itl K a).go i H ∧ ∃ Nx : Hp → Prop, (∀ H', Nx H' → ∃ m', m' < m ∧ W (i + 1) m' H') ∧
      ∀ (x : V) (H' : Hp), (Itl K a).yld i H x H' → g x (wipe σ vs) H' fun σ2 H2 => wipe σ2 vs = wipe σ vs ∧ tt σ2 H2 fun b H3 => if b = true then te σ2 H3 fun y H4 => ∃ acc, H4 D = some (HO.lst acc) ∧ acc.length < sizeLine ∧ Nx (upd H4 D (HO.lst (acc ++ [y]))) else Nx H3 := by
  refine lc_list (K := K) (a := a) (xs := ns.map V.int) (fun i H' => Same H1 H' ∧ IL H' D ((ns.take i).filter f)) ⟨same_new (Same.refl H1) hD, upd_same⟩ (fun i H' _ z => SqL.of (z.1 _ _ ha)) ?_ ?_
  · rintro i x H' hx ⟨s1, hE⟩
    obtain ⟨z, rfl, hz⟩ := il_at hx
    have hil := (List.getElem?_eq_some_iff.mp hz).1
    have tk := take_fil hz f
    have ln : ((ns.take i).filter f).length ≤ 999 := by
      have z1 := List.length_filter_le f (ns.take i)
      rw [List.length_take] at z1
      omega
    refine step z H' _ _ s1 (fun c => ?_) (fun c => ?_)
    · refine ⟨_, hE, by rw [List.length_map]; exact small1000 (by omega), same_put s1 hD, ?_⟩
      show upd _ _ _ D = _
      rw [upd_same, ints_app, tk, if_pos c]
    · refine ⟨s1, ?_⟩
      show H' D = _
      rw [hE, tk, if_neg (by rw [c]; exact Bool.false_ne_true), List.append_nil]
  · rintro H ⟨s1, hE⟩
    rw [List.length_map, List.take_length] at hE
    exact fin H s1 hE
theorem near_at {ks : List Int} {z : Int} (h0 : 0 ≤ z) (h1 : z < (ks.map V.int).length) : ∃ v, atI (ks.map V.int) z = some (V.int v) ∧ v ∈ ks := by
  obtain ⟨v, e, m⟩ := at_lt h0 h1
  obtain ⟨y, hy, rfl⟩ := List.mem_map.mp m
  exact ⟨y, e, hy⟩
theorem refs_no {ts : List Addr} : ∀ r m n : Int, HO.lst (ts.map V.ref) ≠ .lst [.int r, .int m, .int n] := fun r m n z => by
  injection z with z
  cases ts with
  | nil => cases z
  | cons t ts => cases z
theorem same_but {H0 H1 H' : Hp} {p : Addr} (s : Same H0 H1) (n : H0 p = none) (b : But H1 H' p) : Same H0 H' := fun c o e => b c o (s c o e) (ne_of_none e n)
/-- what is said of == of rows -/
structure Eqs (P : Program) (w : World) (K : PySem.W.Frag) (mg : Str → Option Value) (base : Heap) (C fE : Addr) (fdE : FuncData) : Prop where
  ok : FnOk P w K mg base CX0 1 fE fdE ["self", "other"] (spEq (Alike C))
  hm : PySem.W.mroIn K C (.type "object") = some true
  hn : PySem.W.findIn K (.ref C) "__ne__" = some (some (.builtin "object.__ne__"))
  hs : PySem.W.findIn K (.ref C) "__eq__" = some (some (.ref fE))
  hf : PySem.W.isFn K (.ref fE) = true
  hb : Binds K fdE ["self", "other"] []
theorem alike_ins {C : Addr} {H : Hp} {a b : Addr} {n : Int} {ms ss : List Int} (r : RowAt C H a n ms ss) (q : RowAt C H b n ms ss) : DIns C (Alike C) (.ref a) (.ref b) H := by
  obtain ⟨dx, l1, l2, h1, h2, h3⟩ := id r
  obtain ⟨dy, m1, m2, g1, g2, g3⟩ := id q
  exact ⟨a, b, dx, dy, _, _, rfl, rfl, h1, g1, n, ms, ss, r, q⟩
end Cw
namespace Cw
open PySem L2
abbrev sSlow : Stmt := top 28
/-! ## the next cut, place by place -/
def Srv (prs : List (Int × Int)) (p m z : Int) : Prop := (z, 2) ∈ prs ∨ ((z, 1) ∈ prs ∧ z ≥ p + m)
theorem mem_marks {prs : List (Int × Int)} {n x : Int} (G : GoodP n prs) : x ∈ marksOf prs ↔ (x, 1) ∈ prs ∨ (x, 2) ∈ prs := by
  constructor
  · intro h
    obtain ⟨q, hq, rfl⟩ := List.mem_map.mp h
    obtain ⟨q1, q2⟩ := q
    rcases (G.rng _ hq).2.2 with e | e
    · exact .inl (by rw [show q2 = 1 from e] at hq; exact hq)
    · exact .inr (by rw [show q2 = 2 from e] at hq; exact hq)
  · rintro (h | h) <;> exact List.mem_map.mpr ⟨_, h, rfl⟩
theorem mem_strict {prs : List (Int × Int)} {x : Int} : x ∈ strictOf prs ↔ (x, 2) ∈ prs := by
  constructor
  · intro h
    obtain ⟨q, hq, rfl⟩ := List.mem_map.mp h
    obtain ⟨h1, h2⟩ := List.mem_filter.mp hq
    obtain ⟨q1, q2⟩ := q
    have e : q2 = 2 := of_decide_eq_true h2
    rw [e] at h1
    exact h1
  · intro h
    exact List.mem_map.mpr ⟨_, List.mem_filter.mpr ⟨h, decide_eq_true rfl⟩, rfl⟩
theorem nx_found {n l m g p z : Int} {prs : List (Int × Int)} (G : GoodP n prs) (S : SetOk l m g) (h1 : p + l ≤ z) (h2 : z < p + g) (h3 : z < n) (h : Srv prs p m z) (no : ∀ y, p + l ≤ y → y < z → ¬ Srv prs p m y) : nx n (marksOf prs) (strictOf prs) l m g p = z := by
  have l1 := S.l1
  have lm := S.lm
  have Gd := G.good
  have a : z ≤ fm (strictOf prs) (p + l) n := by
    rcases fm_or Gd.asc2 (p + l) n with ⟨k1, k2⟩ | ⟨k1, _⟩
    · by_cases c : fm (strictOf prs) (p + l) n < z
      · exact absurd (.inl (mem_strict.mp k1)) (no _ k2 c)
      · omega
    · omega
  have b : z ≤ fm (marksOf prs) (p + m) n := by
    rcases fm_or Gd.asc (p + m) n with ⟨k1, k2⟩ | ⟨k1, _⟩
    · by_cases c : fm (marksOf prs) (p + m) n < z
      · rcases (mem_marks G).mp k1 with k | k
        · exact absurd (.inr ⟨k, k2⟩) (no _ (by omega) c)
        · exact absurd (.inl k) (no _ (by omega) c)
      · omega
    · omega
  have c : fm (strictOf prs) (p + l) n ≤ z ∨ fm (marksOf prs) (p + m) n ≤ z := by
    rcases h with h | ⟨h, hz⟩
    · exact .inl (fm_le Gd.asc2 (mem_strict.mpr h) h1)
    · exact .inr (fm_le Gd.asc ((mem_marks G).mpr (.inl h)) hz)
  unfold nx
  omega
theorem nx_none {n l m g p : Int} {prs : List (Int × Int)} (G : GoodP n prs) (S : SetOk l m g) (no : ∀ y, p + l ≤ y → y < p + g → y < n → ¬ Srv prs p m y) : nx n (marksOf prs) (strictOf prs) l m g p = min (p + g) n := by
  have l1 := S.l1
  have lm := S.lm
  have Gd := G.good
  have a : min (p + g) n ≤ fm (strictOf prs) (p + l) n := by
    rcases fm_or Gd.asc2 (p + l) n with ⟨k1, k2⟩ | ⟨k1, _⟩
    · by_cases c : fm (strictOf prs) (p + l) n < min (p + g) n
      · exact absurd (.inl (mem_strict.mp k1)) (no _ k2 (by omega) (by omega))
      · omega
    · omega
  have b : min (p + g) n ≤ fm (marksOf prs) (p + m) n := by
    rcases fm_or Gd.asc (p + m) n with ⟨k1, k2⟩ | ⟨k1, _⟩
    · by_cases c : fm (marksOf prs) (p + m) n < min (p + g) n
      · rcases (mem_marks G).mp k1 with k | k
        · exact absurd (.inr ⟨k, k2⟩) (no _ (by omega) (by omega) (by omega))
        · exact absurd (.inl k) (no _ (by omega) (by omega) (by omega))
      · omega
    · omega
  unfold nx
  omega
/-! ## pairs as data -/
abbrev dP (q : Int × Int) : PyData := .tuple [.int q.1, .int q.2]
theorem dp_pair {K : PySem.W.Frag} {H : Hp} {t : Addr} {q : Int × Int} (h : H t = some (.tup [.int q.1, .int q.2])) : Dp K H (.ref t) (dP q) := .tup (SqT.of h) (.cons (.int _) (.cons (.int _) .nil))
theorem dps_pairs {K : PySem.W.Frag} {H : Hp} : ∀ {ts : List Addr} {ps : List (Int × Int)}, PrAt H ts ps → DpAll K H (ts.map V.ref) (ps.map dP)
  | _, _, .nil => .nil
  | _, _, .cons h r => .cons (dp_pair h) (dps_pairs r)
theorem lay_pairs : ∀ ps : List (Int × Int), PyData.canLayAll0 (ps.map dP) = true := fun ps => by
  induction ps with
  | nil => rfl
  | cons q r ih =>
    rw [List.map_cons]
    unfold PyData.canLayAll0
    rw [ih]
    rfl
theorem depth_pairs : ∀ ps : List (Int × Int), PyData.depthAll (ps.map dP) ≤ 3 := fun ps => by
  induction ps with
  | nil => exact Nat.zero_le _
  | cons q r ih =>
    rw [List.map_cons]
    unfold PyData.depthAll
    have e : PyData.depth (dP q) ≤ 3 := by
      have z : PyData.depth (dP q) = PyData.depth (.tuple [.int 0, .int 0]) := rfl
      rw [z]
      decide +kernel
    omega
theorem shape_pairs (ps : List (Int × Int)) : SeqAt.shaped (.list (ps.map dP)) = true := by
  have h1 : PyData.canLay0 (.list (ps.map dP)) = true := by
    unfold PyData.canLay0
    exact lay_pairs ps
  have h2 : PyData.depth (.list (ps.map dP)) ≤ 64 := by
    have z := depth_pairs ps
    unfold PyData.depth
    omega
  unfold SeqAt.shaped
  rw [h1, decide_eq_true h2]
  rfl
theorem shape_pair (q : Int × Int) : SeqAt.shaped (dP q) = true := by
  have z : SeqAt.shaped (dP q) = SeqAt.shaped (.tuple [.int 0, .int 0]) := rfl
  rw [z]
  decide +kernel
theorem any_pairs {q : Int × Int} {ps : List (Int × Int)} : ((ps.map dP).any fun z => PyData.eqv z (dP q)) = decide (q ∈ ps) := by
  induction ps with
  | nil => rfl
  | cons y r ih =>
    rw [List.map_cons, List.any_cons, ih]
    have e : PyData.eqv (dP y) (dP q) = decide (y = q) := by
      obtain ⟨y1, y2⟩ := y
      obtain ⟨q1, q2⟩ := q
      simp only [dP, PyData.eqv, PyData.eqvAll]
      by_cases c1 : y1 = q1 <;> by_cases c2 : y2 = q2 <;> simp [c1, c2]
    rw [e]
    by_cases c : y = q
    · subst c; simp
    · have c' : ¬ q = y := fun h => c h.symm
      simp [c, c']
def spSlow : Sp := fun vs H Q _ => ∃ (p : Addr) (n l m g z : Int) (prs : List (Int × Int)), vs = [.ref p, .int z] ∧ RawS H p n prs l m g ∧ GoodP n prs ∧ SetOk l m g ∧ -1000000 ≤ z ∧ z ≤ 1000000 ∧ n ≤ 1000 ∧ g ≤ 1000000 ∧
  ∀ H', Same H H' → Q (.int (nx n (marksOf prs) (strictOf prs) l m g z)) H'
section
variable {P : Program} {w : World} {K : PySem.W.Frag} {mg : Str → Option Value} {base : Heap}
abbrev NSl : List Str := ["raw", "spot", "length", "marked", "three", "goal"]
theorem scSl : FnScope NSl ["raw", "spot"] (defScope sSlow) := ⟨rfl, rfl, rfl, by decide +kernel, rfl, by decide +kernel, by decide +kernel⟩
theorem ok_slow {f : Addr} {fd : FuncData} (F : Fun K "_law_slow" "_law_slow" sSlow f fd) (T : Bl mg) : FnOk P w K mg base CX0 1 f fd ["raw", "spot"] spSlow := by
  refine F.ok scSl (fun vs H Q E h => ?_) (fun cdv A outer s H vs Q E hr h => ?_)
  · obtain ⟨p, n, l, m, g, z, prs, rfl, _⟩ := h
    rfl
  · obtain ⟨p, n, l, m, g, z, prs, rfl, ⟨lp, t, ts, hp, hl, hpr, ht⟩, G, S, z0, z1, n1, g1, q⟩ := h
    have hu : A.units + 3 + 65 < cLine := by have := hr.un; show _ < cLine; exact Nat.lt_of_le_of_lt (by show A.units + 3 + 65 ≤ A.units + 3 + 16 * 0 + 200; omega) this
    refine ⟨_, pss_cons (ps_asg (pv 0) (pg_tup (by rfl) (pgs_cons (pg_name (i := 2) scSl.nd rfl (Or.inl rfl)) (pgs_cons (pg_name (i := 3) scSl.nd rfl (Or.inl rfl)) (pgs_cons (pg_name (i := 4) scSl.nd rfl (Or.inl rfl)) pgs_nil)))))
      (pss_cons (ps_for PassesOwn.never rfl (pi_range2 (by rfl) T.range (pa_cons (pe_op op_add (pv 1) (pe_ix ix_tup (pv 4) pe_int (fun _ _ => rfl))) (pa_cons (pe_callB (call_min2 rfl) (by rfl) T.min (by decide +kernel) (pa_cons (pe_op op_add (pv 1) (pe_ix ix_tup (pv 4) pe_int (fun _ _ => rfl))) (pa_cons (pv 2) pa_nil))) pa_nil))) (pg_name (i := 5) scSl.nd rfl (Or.inl rfl))
        (pss_one (ps_if (PW.pt (pw_or (pt_cmpR (op_inD hu) (pe_tup (pa_cons (pv 5) (pa_cons pe_int pa_nil))) (pv 3) (by rfl))
            (pw_or1 (PW.pt (pw_and (pt_cmpR (op_inD hu) (pe_tup (pa_cons (pv 5) (pa_cons pe_int pa_nil))) (pv 3) (by rfl)) (pw_and1 (pt_cmpR op_ge (pv 5) (pe_op op_add (pv 1) (pe_ix ix_tup (pv 4) pe_int (fun _ _ => rfl))) (nomark _))))))))
          (pss_one (ps_ret (pv 5))) pss_nil)))
      (pss_one (ps_ret (pe_callB (call_min2 rfl) (by rfl) T.min (by decide +kernel) (pa_cons (pe_op op_add (pv 1) (pe_ix ix_tup (pv 4) pe_int (fun _ _ => rfl))) (pa_cons (pv 2) pa_nil)))))), ?_⟩
    have l1 := S.l1
    have lm := S.lm
    have mg' := S.mg
    have n0 := G.pos
    refine ⟨_, rfl, p, _, rfl, SqT.of hp, rfl, ?_⟩
    refine ⟨_, _, rfl, _, _, rfl, _, _, rfl, rfl, ?_⟩
    try dsimp only [L2.start, List.set, List.map, List.append, List.replicate, List.length]
    refine ⟨_, rfl, _, rfl, t, _, _, _, rfl, rfl, SqT.of ht, at_of2 (j := 0) rfl rfl, _, _, rfl, rfl, ?_⟩
    refine ⟨_, rfl, _, rfl, t, _, _, _, rfl, rfl, SqT.of ht, at_of2 (j := 2) rfl rfl, _, _, rfl, rfl, ?_⟩
    refine ⟨_, rfl, _, _, rfl, _, _, rfl, ⟨by omega, by omega, by split <;> omega, by split <;> omega⟩, ?_⟩
    refine for_range (fun i σ H' => ∃ v5 : Option V, σ = [some (.ref p), some (.int z), some (.int n), some (.ref lp), some (.ref t), v5] ∧ Same H H' ∧ ∀ y, z + l ≤ y → y < z + l + i → ¬ Srv prs z m y) ⟨none, rfl, Same.refl H, fun y a b => by omega⟩ ?_ ?_
    · rintro i σ H' hi ⟨v5, rfl, s1, no⟩
      have hil : z + l + i < z + g ∧ z + l + i < n := by
        revert hi
        split <;> omega
      have dl : ∀ H2, Same H H2 → Dp K H2 (.ref lp) (.list (prs.map dP)) := fun H2 s2 => .lst (SqL.of (s2 _ _ hl)) (dps_pairs (hpr.imp fun t p h => s2 _ _ h))
      have nosucc : ¬ Srv prs z m (z + l + i) → ∀ y, z + l ≤ y → y < z + l + ((i + 1 : Nat) : Int) → ¬ Srv prs z m y := fun h y a b => by
        by_cases c : y = z + l + i
        · rw [c]; exact h
        · exact no y a (by omega)
      have fin : ∀ H2, Same H H2 → Srv prs z m (z + l + i) → Q (.int (z + l + i)) H2 := fun H2 s2 h => by
        have w := q H2 s2
        rw [nx_found G S (by omega) hil.1 hil.2 h no] at w
        exact w
      refine ⟨_, rfl, (by show 2 ≤ sizeLine; decide), fun u hu1 => ?_⟩
      have s2 := same_new (o := .tup [.int (z + l + i), .int 2]) s1 hu1
      have hu2 : upd H' u (.tup [.int (z + l + i), .int 2]) u = some (.tup [.int (z + l + i), .int 2]) := upd_same
      generalize upd H' u (.tup [.int (z + l + i), .int 2]) = H2 at s2 hu2 ⊢
      refine ⟨_, rfl, dP (z + l + i, 2), prs.map dP, dp_pair (q := (z + l + i, 2)) hu2, dl _ s2, shape_pair _, shape_pairs _, _, rfl, ?_⟩
      rw [any_pairs]
      refine ite2 (fun hv => ?_) (fun hv => ?_)
      · refine ifT rfl ?_
        exact ⟨_, rfl, fin _ s2 (.inl (of_decide_eq_true hv))⟩
      · refine ⟨_, rfl, (by show 2 ≤ sizeLine; decide), fun u hu1 => ?_⟩
        have s3 := same_new (o := .tup [.int (z + l + i), .int 1]) s2 hu1
        have hu2 : upd H2 u (.tup [.int (z + l + i), .int 1]) u = some (.tup [.int (z + l + i), .int 1]) := upd_same
        generalize upd H2 u (.tup [.int (z + l + i), .int 1]) = H3 at s3 hu2 ⊢
        refine ⟨_, rfl, dP (z + l + i, 1), prs.map dP, dp_pair (q := (z + l + i, 1)) hu2, dl _ s3, shape_pair _, shape_pairs _, _, rfl, ?_⟩
        rw [any_pairs]
        refine ite2 (fun hw => ?_) (fun hw => ?_)
        · refine ⟨_, rfl, _, rfl, _, rfl, t, _, _, _, rfl, rfl, SqT.of (s3 _ _ ht), at_of2 (j := 1) rfl rfl, _, _, rfl, rfl, ?_⟩
          refine ⟨_, _, rfl, rfl, _, rfl, ?_⟩
          refine ite2 (fun hx => ?_) (fun hx => ?_)
          · exact ⟨_, rfl, fin _ s3 (.inr ⟨of_decide_eq_true hw, of_decide_eq_true hx⟩)⟩
          · refine ⟨_, rfl, s3, nosucc fun h => ?_⟩
            rcases h with h | ⟨h1, h2⟩
            · exact hv (decide_eq_true h)
            · exact hx (decide_eq_true h2)
        · refine ifF rfl ?_
          refine ⟨_, rfl, s3, nosucc fun h => ?_⟩
          rcases h with h | ⟨h1, h2⟩
          · exact hv (decide_eq_true h)
          · exact hw (decide_eq_true h1)
    · rintro σ H' ⟨v5, rfl, s1, no⟩
      have e := nx_none G S (p := z) fun y a b c => no y a (by
        split <;> omega)
      refine ⟨_, rfl, _, rfl, t, _, _, _, rfl, rfl, SqT.of (s1 _ _ ht), at_of2 (j := 2) rfl rfl, _, _, rfl, rfl, ?_⟩
      refine ⟨_, rfl, _, _, rfl, ?_⟩
      have w := q H' s1
      rw [e, show min (z + g) n = if n < z + g then n else z + g by split <;> omega] at w
      exact w
end
end Cw
namespace Cw
open PySem L2
theorem log_wide {i : Int} (h0 : 0 ≤ i) (h1 : i ≤ 1000000000000000000000000000000000) : i.natAbs.log2 < 1920 := by
  by_cases c : i.natAbs = 0
  · rw [c]; decide
  · have z : i.natAbs.log2 < 120 := (Nat.log2_lt c).mpr (by
      have e : (2 : Nat) ^ 120 = 1329227995784915872903807060280344576 := by decide +kernel
      rw [e]; omega)
    omega
theorem shown_wide {i : Int} (h0 : 0 ≤ i) (h1 : i ≤ 1000000000000000000000000000000000) : (PyData.shown (.int i)).length ≤ 1921 := by
  have e := int_text_length_le (k := 1920) (by decide) (log_wide h0 h1)
  simp only [PyData.shown]
  rw [PySem.ofString_length]
  exact e
def Wide (ns : List Int) : Prop := ns.length ≤ 900 ∧ ∀ x ∈ ns, 0 ≤ x ∧ x ≤ 1000000000000000000000000000000000
theorem all_show : ∀ {ns : List Int}, (∀ x ∈ ns, 0 ≤ x ∧ x ≤ 1000000000000000000000000000000000) → PyData.showableAll (ns.map PyData.int) = true ∧ PyData.hasDictAll (ns.map PyData.int) = false ∧ PyData.depthAll (ns.map PyData.int) ≤ 2 ∧
    ((PyData.shownAll (ns.map PyData.int)).map (·.length)).sum ≤ 1921 * ns.length ∧ (PyData.shownAll (ns.map PyData.int)).length = ns.length
  | [], _ => ⟨rfl, rfl, Nat.zero_le _, Nat.zero_le _, rfl⟩
  | x :: r, h => by
    obtain ⟨i1, i2, i3, i4, i5⟩ := all_show (ns := r) fun y hy => h y (List.mem_cons_of_mem _ hy)
    obtain ⟨x0, x1⟩ := h x (List.mem_cons_self ..)
    have sx := shown_wide x0 x1
    simp only [List.map_cons, PyData.showableAll, PyData.showable, PyData.hasDictAll, PyData.hasDict, PyData.depthAll, PyData.depth, PyData.shownAll, List.sum_cons, List.length_cons, i1, i2, i5, decide_eq_true (log_wide x0 x1)]
    refine ⟨rfl, rfl, by omega, ?_, trivial⟩
    omega
def Txt (K : PySem.W.Frag) (H : Hp) (p : Addr) (d : PyData) : Prop := Dp K H (.ref p) d ∧ d.showable = true ∧ d.hasDict = false ∧ d.depth ≤ 60 ∧ d.shown.length ≤ sizeLine
theorem txt_il {K : PySem.W.Frag} {H : Hp} {p : Addr} {ns : List Int} (h : IL H p ns) (wm : Wide ns) : Txt K H p (.list (ns.map PyData.int)) := by
  obtain ⟨a1, a2, a3, a4, a5⟩ := all_show wm.2
  refine ⟨dp_il h, ?_, ?_, ?_, ?_⟩
  · simp only [PyData.showable, a1]
  · simp only [PyData.hasDict, a2]
  · simp only [PyData.depth]
    omega
  · have zm := listText_len_le (PyData.shownAll (ns.map PyData.int))
    simp only [PyData.shown]
    have w1 := wm.1
    rw [sizeLine_eq]
    omega
/-! ## the least cut from a place on; how many lie between two places -/
theorem RawS.same {H H' : Hp} {p : Addr} {n : Int} {prs : List (Int × Int)} {l m g : Int} (r : RawS H p n prs l m g) (s : Same H H') : RawS H' p n prs l m g := by
  obtain ⟨lp, t, ts, h1, h2, h3, h4⟩ := r
  exact ⟨lp, t, ts, s _ _ h1, s _ _ h2, h3.imp fun _ _ h => s _ _ h, s _ _ h4⟩
abbrev sOthers : Stmt := top 0
def spOthers : Sp := fun vs H Q _ => ∃ (a p : Addr) (k : Nat) (n l m g : Int) (prs : List (Int × Int)), vs = [.ref a, .ref p] ∧ JarAt H a (k + 1 + 1 + 1) ∧ RawS H p n prs l m g ∧ SetOk l m g ∧ g ≤ 40 ∧
  ∀ (q : Addr) (H' : Hp) (us : List Addr), H' q = some (.lst (us.map V.ref)) → us.length = 4 → q ≠ a → (∀ u ∈ us, ∃ l' m' g' : Int, SetOk l' m' g' ∧ g' ≤ 1000 ∧ RawS H' u n prs l' m' g') → JarAt H' a k → But H H' a → Q (.ref q) H'
section
variable {P : Program} {w : World} {K : PySem.W.Frag} {mg : Str → Option Value} {base : Heap}
abbrev NOs : List Str := ["jar", "raw", "least", "normal", "greatest", "some", "three"]
end
end Cw
namespace Cw
open PySem PySem.Spec PyProof.Rows L2
/-! ## x -> 5 x + 1 meets all numbers below a power of two -/
def ff : Nat → Nat → Nat
  | 0, i => i
  | n + 1, i => 5 * ff n i + 1
theorem ff_add (a i : Nat) : ∀ b, ff (a + b) i = ff b (ff a i)
  | 0 => rfl
  | b + 1 => by
    show 5 * ff (a + b) i + 1 = 5 * ff b (ff a i) + 1
    rw [ff_add a i b]
theorem ff_two (k : Nat) : ∃ u v : Nat, ∀ i, ff (2 ^ k) i = (1 + 4 * 2 ^ k * u) * i + 2 ^ k * (1 + 2 * v) := by
  induction k with
  | zero => exact ⟨1, 0, fun i => by show 5 * i + 1 = _; omega⟩
  | succ k ih =>
    obtain ⟨u, v, h⟩ := ih
    generalize hK : 2 ^ k = K at h
    refine ⟨u + 2 * K * u * u, v + K * u * (1 + 2 * v), fun i => ?_⟩
    have e : 2 ^ (k + 1) = K + K := by rw [Nat.pow_succ, hK]; omega
    rw [e, ff_add, h, h]
    grind
theorem ff_half (k i : Nat) : ∃ c, ff (2 ^ k) i = i + 2 ^ k + 2 ^ (k + 1) * c := by
  obtain ⟨u, v, h⟩ := ff_two k
  refine ⟨2 * u * i + v, ?_⟩
  rw [h, Nat.pow_succ]
  generalize 2 ^ k = K
  grind
/-- each residue comes -/
theorem ff_all : ∀ (k i j : Nat), j < 2 ^ k → ∃ n, n < 2 ^ k ∧ ff n i % 2 ^ k = j
  | 0, i, j, h => ⟨0, by decide, by
    have : j < 1 := h
    show i % 1 = j
    omega⟩
  | k + 1, i, j, h => by
    obtain ⟨n, hn, e⟩ := ff_all k i (j % 2 ^ k) (Nat.mod_lt _ (Nat.pow_pos (by decide)))
    obtain ⟨c, hc⟩ := ff_half k (ff n i)
    have e1 : 2 ^ (k + 1) = 2 * 2 ^ k := by rw [Nat.pow_succ]; omega
    rw [e1] at h hc ⊢
    have pos : 0 < 2 ^ k := Nat.pow_pos (by decide)
    generalize 2 ^ k = K at *
    generalize hx : ff n i = x at *
    have d1 := Nat.div_add_mod x (2 * K)
    have m1 := Nat.mod_lt x (show 0 < 2 * K by omega)
    have key : x % (2 * K) % K = j % K := by rw [Nat.mod_mul_left_mod]; exact e
    by_cases q : x % (2 * K) = j
    · exact ⟨n, by omega, by rw [hx]; exact q⟩
    · refine ⟨n + K, by omega, ?_⟩
      rw [ff_add, hx, hc]
      have z : x + K + 2 * K * c = (x % (2 * K) + K) + 2 * K * (x / (2 * K) + c) := by
        rw [Nat.mul_add]
        omega
      rw [z, Nat.add_mul_mod_self_left]
      generalize x % (2 * K) = y at *
      have dy : y % K = if y < K then y else y - K := by
        split
        · exact Nat.mod_eq_of_lt (by assumption)
        · rw [Nat.mod_eq_sub_mod (by omega), Nat.mod_eq_of_lt (by omega)]
      have dj : j % K = if j < K then j else j - K := by
        split
        · exact Nat.mod_eq_of_lt (by assumption)
        · rw [Nat.mod_eq_sub_mod (by omega), Nat.mod_eq_of_lt (by omega)]
      rw [dy, dj] at key
      by_cases a : y < K
      · rw [if_pos a] at key
        have b : ¬ j < K := fun b => by rw [if_pos b] at key; exact q key
        rw [if_neg b] at key
        rw [Nat.mod_eq_of_lt (by omega)]
        omega
      · rw [if_neg a] at key
        have b : j < K := by
          by_cases b : j < K
          · exact b
          · rw [if_neg b] at key
            omega
        rw [if_pos b] at key
        rw [Nat.mod_eq_sub_mod (by omega), Nat.mod_eq_of_lt (by omega)]
        omega
/-- a mask of a set's table -/
def MaskG (m : Nat) : Prop := ∃ k, m + 1 = 2 ^ k
theorem lcgI_ff (m i : Nat) : ∀ n, 0 < n → lcgI m i n = ff n i % (m + 1)
  | 0, h => absurd h (Nat.lt_irrefl _)
  | 1, _ => by
    show (i * 5 + 1) % (m + 1) = (5 * i + 1) % (m + 1)
    rw [Nat.mul_comm]
  | n + 2, _ => by
    have ih := lcgI_ff m i (n + 1) (Nat.succ_pos _)
    show (lcgI m i (n + 1) * 5 + 1) % (m + 1) = (5 * ff (n + 1) i + 1) % (m + 1)
    rw [ih, Nat.mul_comm, Nat.add_mod, Nat.mul_mod, Nat.mod_mod, ← Nat.mul_mod, ← Nat.add_mod]
theorem lcgI_any {m i j : Nat} (G : MaskG m) (hi : i ≤ m) (hj : j ≤ m) : ∃ n, n ≤ m ∧ lcgI m i n = j := by
  obtain ⟨k, e⟩ := G
  obtain ⟨n, hn, h⟩ := ff_all k i j (by omega)
  refine ⟨n, by omega, ?_⟩
  cases n with
  | zero =>
    have : i % 2 ^ k = j := h
    rw [Nat.mod_eq_of_lt (by omega)] at this
    exact this
  | succ n => rw [lcgI_ff m i _ (Nat.succ_pos _), e, h]
end Cw
namespace Cw
open PySem PySem.Spec PyProof.Rows L2
/-! ## a table is laid for any mask -/
theorem runs_meet {m j : Nat} (G : MaskG m) (h : Int) (hj : j ≤ m) : ∃ n, n ≤ m + 12 ∧ runI m (SetTable.bits h) n = j := by
  obtain ⟨k, hk, e⟩ := lcgI_any G (runI_le m (SetTable.bits h) 12) hj
  refine ⟨12 + k, by omega, ?_⟩
  rw [runI_tail (bits_lt h) k, e]
/-- one more hash finds its slot -/
theorem free_got {m j : Nat} (G : MaskG m) (owner : Array (Option Nat)) (h : Int) (hj : j ≤ m) (hf : oAt owner j = none) :
    ∃ i, i ≤ m ∧ oAt owner i = none ∧ SetTable.layClean.free m owner (SetTable.turns m) (SetTable.bits h % (m + 1)) (SetTable.bits h) = some i := by
  obtain ⟨n, hn, e⟩ := runs_meet G h hj
  let P : Nat → Prop := fun k => oAt owner (nth m (runAt m (SetTable.bits h % (m + 1)) (SetTable.bits h)) k).j = none
  have at_n : P (off m (SetTable.bits h % (m + 1)) (SetTable.bits h) n) := by
    show oAt owner (nth m (runAt m _ _) (off m _ _ n)).j = none
    rw [nth_off, itL_run]
    show oAt owner (runI m (SetTable.bits h) n) = none
    rw [e]
    exact hf
  obtain ⟨k, h1, h2, h3⟩ := st_least (p := P) _ at_n
  refine ⟨_, ?_, h2, free_spec m owner (SetTable.turns m) n _ _ k (by unfold SetTable.turns; omega) h1 (fun i hi => ?_) ?_⟩
  · have i0 : SetTable.bits h % (m + 1) ≤ m := Nat.le_of_lt_succ (Nat.mod_lt _ (Nat.succ_pos _))
    have r0 := runEnd_bd i0
    have z := nth_in (m := m) k (runAt m (SetTable.bits h % (m + 1)) (SetTable.bits h)) (show SetTable.bits h % (m + 1) + (SetTable.runEnd m (SetTable.bits h % (m + 1)) - SetTable.bits h % (m + 1)) ≤ m by omega)
    omega
  · have q := h3 i hi
    cases z : oAt owner (nth m (runAt m (SetTable.bits h % (m + 1)) (SetTable.bits h)) i).j with
    | none => exact absurd z q
    | some _ => rfl
  · have q : oAt owner (nth m (runAt m (SetTable.bits h % (m + 1)) (SetTable.bits h)) k).j = none := h2
    rw [q]
    rfl
/-- the first c hashes have their slots -/
structure Ow (m c : Nat) (u : Array (Option Nat)) : Prop where
  sz : u.size = m + 1
  has : ∀ k, k < c → ∃ j, j ≤ m ∧ oAt u j = some k
  occ : ∃ ps : List Nat, ps.length = c ∧ ∀ j, j ≤ m → oAt u j ≠ none → j ∈ ps
theorem ow_one {m c : Nat} {u : Array (Option Nat)} (G : MaskG m) (O : Ow m c u) (few : c ≤ m) (h : Int) :
    ∃ i, SetTable.layClean.free m u (SetTable.turns m) (SetTable.bits h % (m + 1)) (SetTable.bits h) = some i ∧ Ow m (c + 1) (u.setIfInBounds i (some c)) := by
  obtain ⟨ps, pl, pm⟩ := O.occ
  obtain ⟨j, j1, j2⟩ := st_missing ps (m + 1) (by omega)
  have fj : oAt u j = none := by
    cases z : oAt u j with
    | none => rfl
    | some k => exact absurd (pm j (by omega) (by rw [z]; exact Option.some_ne_none k)) j2
  obtain ⟨i, im, fi, e⟩ := free_got G u h (by omega) fj
  have ib : i < u.size := by rw [O.sz]; omega
  have other : ∀ {x : Nat}, x ≠ i → oAt (u.setIfInBounds i (some c)) x = oAt u x := fun {x} hx => oAt_set_ne _ hx
  refine ⟨i, e, by rw [Array.size_setIfInBounds]; exact O.sz, fun k hk => ?_, i :: ps, by rw [List.length_cons, pl], fun x hx hne => ?_⟩
  · rcases Nat.lt_or_ge k c with q | q
    · obtain ⟨x, x1, x2⟩ := O.has k q
      refine ⟨x, x1, (other fun z => ?_).trans x2⟩
      rw [z, fi] at x2
      cases x2
    · have : k = c := by omega
      exact ⟨i, im, by rw [this]; exact oAt_set_self _ ib⟩
  · by_cases q : x = i
    · rw [q]
      exact List.mem_cons_self ..
    · rw [other q] at hne
      exact List.mem_cons_of_mem _ (pm x hx hne)
theorem ow_fold {m : Nat} (G : MaskG m) : ∀ (rest : List Int) (c : Nat) (u : Array (Option Nat)), Ow m c u → c + rest.length ≤ m + 1 →
    ∃ v, rest.foldl (stepF m) (some (u, c)) = some (v, c + rest.length) ∧ Ow m (c + rest.length) v
  | [], c, u, O, _ => ⟨u, rfl, O⟩
  | h :: rest, c, u, O, few => by
    rw [List.length_cons] at few
    obtain ⟨i, e, O2⟩ := ow_one G O (by omega) h
    obtain ⟨v, f, O3⟩ := ow_fold G rest (c + 1) _ O2 (by omega)
    have z : c + 1 + rest.length = c + (h :: rest).length := by rw [List.length_cons]; omega
    rw [z] at f O3
    exact ⟨v, by rw [List.foldl_cons, stepF_some e]; exact f, O3⟩
theorem clean_got {m : Nat} (G : MaskG m) {hs : Array Int} (few : hs.size ≤ m + 1) : ∃ u, SetTable.layClean m hs = some u ∧ Ow m hs.size u := by
  have O0 : Ow m 0 (Array.replicate (m + 1) none) := ⟨by simp, fun k hk => absurd hk (Nat.not_lt_zero _), [], rfl, fun j hj e => absurd (oAt_init hj) e⟩
  have hl : hs.toList.length = hs.size := Array.length_toList
  obtain ⟨u, f, O⟩ := ow_fold G hs.toList 0 _ O0 (by omega)
  rw [Nat.zero_add, hl] at O
  refine ⟨u, ?_, O⟩
  rw [layClean_eq, f]
  rfl
theorem laid_got {m : Nat} (G : MaskG m) (fi mo : Nat) (ld pl : Bool) {hs : Array Int} (few : hs.size ≤ m) :
    ∃ t order, SetTable.laid m fi mo ld pl hs = some (t, order) ∧ order.toList.Perm (List.range hs.size) ∧ t.fits hs.size = true ∧ Ris t.place.toList ∧ t.led = ld ∧ t.plain = pl := by
  obtain ⟨u, e, O⟩ := clean_got G (hs := hs) (by omega)
  have rl := ris_live (fun j => u.getD j none) (List.range (m + 1)) (by unfold Ris; exact List.pairwise_lt_range)
  have r1 : Ris ((liveOf m u).map (·.1)) := rl.1
  have nd : ((liveOf m u).map (·.1)).Nodup := List.Pairwise.imp (fun h => Nat.ne_of_lt h) r1
  have inn : ∀ k, k < hs.size → k ∈ (liveOf m u).map (·.2) := fun k hk => by
    obtain ⟨j, j1, j2⟩ := O.has k hk
    exact List.mem_map.mpr ⟨(j, k), (mem_live O.sz).mpr ⟨j1, j2⟩, rfl⟩
  have up : (liveOf m u).length ≤ hs.size := by
    obtain ⟨ps, p1, p2⟩ := O.occ
    have z := nat_nodup_len _ ps nd fun x hx => by
      obtain ⟨⟨a, b⟩, hab, rfl⟩ := List.mem_map.mp hx
      obtain ⟨h1, h2⟩ := (mem_live O.sz).mp hab
      exact p2 a h1 (by rw [h2]; exact Option.some_ne_none b)
    rw [List.length_map, p1] at z
    exact z
  have dn : hs.size ≤ (liveOf m u).length := by
    have z := nat_nodup_len (List.range hs.size) _ List.nodup_range fun x hx => inn x (List.mem_range.mp hx)
    rw [List.length_range, List.length_map] at z
    exact z
  refine ⟨{ mask := m, place := ((liveOf m u).map (·.1)).toArray, dummies := #[], finger := fi, led := ld, moves := mo, plain := pl }, ((liveOf m u).map (·.2)).toArray, ?_, ?_, ?_, ?_, rfl, rfl⟩
  · show (SetTable.layClean m hs).bind _ = _
    rw [e]
    rfl
  · rw [List.toList_toArray]
    exact perm_range _ _ (by rw [List.length_map]; omega) inn
  · unfold SetTable.fits SetTable.fill
    dsimp only
    rw [List.size_toArray, List.length_map]
    simp only [Bool.and_eq_true, beq_iff_eq, decide_eq_true_eq]
    exact ⟨by omega, by show (liveOf m u).length + 0 ≤ m; omega⟩
  · exact r1
theorem pick_range {α : Type} : ∀ l : List α, (List.range l.length).filterMap (fun i => l[i]?) = l
  | [] => rfl
  | x :: r => by
    rw [List.length_cons, List.range_succ_eq_map, List.filterMap_cons_some (f := fun i => (x :: r)[i]?) (a := 0) (b := x) rfl, List.filterMap_map]
    show x :: (List.range r.length).filterMap (fun i => r[i]?) = _
    rw [pick_range r]
theorem order_perm {α : Type} (es : Array α) {order : Array Nat} (h : order.toList.Perm (List.range es.size)) : (order.filterMap (es[·]?)).toList.Perm es.toList := by
  rw [Array.toList_filterMap]
  have e : (fun i => es[i]?) = fun i : Nat => es.toList[i]? := funext fun i => Array.getElem?_toList.symm
  rw [e]
  refine (h.filterMap _).trans ?_
  rw [← Array.length_toList, pick_range]
theorem above_go : ∀ (f size n : Nat), (∃ k, size = 2 ^ k) → n < size * 2 ^ f → (∃ k, SetTable.sizeAbove.go n f size = 2 ^ k) ∧ n < SetTable.sizeAbove.go n f size ∧ (SetTable.sizeAbove.go n f size ≤ size ∨ SetTable.sizeAbove.go n f size ≤ 2 * n)
  | 0, size, n, h, l => ⟨h, by rw [Nat.pow_zero, Nat.mul_one] at l; exact l, .inl (Nat.le_refl _)⟩
  | f + 1, size, n, h, l => by
    obtain ⟨k, rfl⟩ := h
    show (∃ k', (if 2 ^ k ≤ n then SetTable.sizeAbove.go n f (2 ^ k * 2) else 2 ^ k) = 2 ^ k') ∧ n < (if 2 ^ k ≤ n then SetTable.sizeAbove.go n f (2 ^ k * 2) else 2 ^ k) ∧ ((if 2 ^ k ≤ n then SetTable.sizeAbove.go n f (2 ^ k * 2) else 2 ^ k) ≤ 2 ^ k ∨ (if 2 ^ k ≤ n then SetTable.sizeAbove.go n f (2 ^ k * 2) else 2 ^ k) ≤ 2 * n)
    by_cases c : 2 ^ k ≤ n
    · rw [if_pos c]
      obtain ⟨h1, h2, h3⟩ := above_go f (2 ^ k * 2) n ⟨k + 1, by rw [Nat.pow_succ]⟩ (by rw [Nat.pow_succ] at l; rw [Nat.mul_assoc, Nat.mul_comm 2]; exact l)
      exact ⟨h1, h2, .inr (by omega)⟩
    · rw [if_neg c]
      exact ⟨⟨k, rfl⟩, by omega, .inl (Nat.le_refl _)⟩
/-- the new size is a power of two, above what is wanted, and not far above -/
theorem above_ok {n : Nat} (h : n < 100000) : MaskG (SetTable.sizeAbove n - 1) ∧ n < SetTable.sizeAbove n ∧ SetTable.sizeAbove n ≤ 8 + 2 * n := by
  obtain ⟨⟨k, e⟩, h2, h3⟩ := above_go 64 8 n ⟨3, rfl⟩ (Nat.lt_of_lt_of_le h (by decide))
  have e0 : SetTable.sizeAbove n = SetTable.sizeAbove.go n 64 8 := rfl
  rw [e0]
  refine ⟨⟨k, by omega⟩, h2, by omega⟩
end Cw
namespace Cw
open PySem PySem.Spec PyProof.Rows L2
section
variable {P : Program} {w : World} {A : Around} {E : Value → Shared → Prop} {s : Shared} {a b : Addr} {S T : Int → Bool} {n m : Nat}
/-- more of a laid table -/
theorem laid_more {m : Nat} {fi mo : Nat} {ld pl : Bool} {hs : Array Int} {t : SetTable} {order : Array Nat} (e : SetTable.laid m fi mo ld pl hs = some (t, order)) : t.mask = m ∧ t.dummies = #[] := by
  have e2 : (SetTable.layClean m hs).bind (fun u => some (({ mask := m, place := ((liveOf m u).map (·.1)).toArray, dummies := #[], finger := fi, led := ld, moves := mo, plain := pl } : SetTable), ((liveOf m u).map (·.2)).toArray)) = some (t, order) := e
  cases z : SetTable.layClean m hs with
  | none => rw [z] at e2; cases e2
  | some u =>
    rw [z] at e2
    injection e2 with e3
    injection e3 with e4 e5
    rw [← e4]
    exact ⟨rfl, rfl⟩
/-- laid anew with more room -/
theorem relay_got {wanted : Nat} (R : SetR w s.heap a S n) (hw : wanted < 100000) (few : n < SetTable.sizeAbove wanted) {Q : Unit → Shared → Prop}
    (q : ∀ h' o es ep t, Heap.SameBut a s.heap h' → SetR w h' a S n → h'.get? a = some o → o.data = .set es ep t → MaskG t.mask → t.mask = SetTable.sizeAbove wanted - 1 → t.dummies = #[] → Q () { s with heap := h' }) : wpAny (model P w) A (setRelay a wanted) Q E s := by
  obtain ⟨o, es, ep, t, ho, hx, hd, g, nd, hm, hb, hf, hn, hr, hl⟩ := R
  obtain ⟨G, h1, h2⟩ := above_ok hw
  have hs0 : (es.map (·.1)).size = es.size := Array.size_map ..
  obtain ⟨t', order, e, p, f, r, l1, l2⟩ := laid_got G t.finger (t.movedTo (SetTable.sizeAbove wanted - 1)) t.led t.plain (hs := es.map (·.1)) (by omega)
  obtain ⟨m1, m2⟩ := laid_more e
  rw [hs0] at p f
  have pm := order_perm es p
  have sz : (order.filterMap (es[·]?)).size = es.size := by rw [← Array.length_toList, pm.length_eq, Array.length_toList]
  have er : t.relaid (es.map (·.1)) wanted = some (t', order) := e
  rw [setRelay_eq]
  refine wpAny_bind (wpAny_setState_of ho hd hf ?_)
  dsimp only
  refine wp_if_neg (by rw [sizeLine_eq]; omega) ?_
  try refine wpAny_bind (wpAny_pure ?_)
  rw [er]
  dsimp only
  refine wpAny_bind ?_
  refine wp_if_neg (by rw [sz]; simp) ?_
  try refine wpAny_bind (wpAny_pure ?_)
  refine wpAny_pure ?_
  dsimp only
  refine wpAny_storeSet_of ho hd ?_ (fits_of_scanBound (by rw [sz]; exact hb))
  refine q _ _ _ _ _ (Heap.SameBut.update ..) ⟨_, _, _, _, store_at ho hd, ⟨hx.1, hx.2.1, hx.2.2⟩, rfl, fun e he => g e (pm.mem_iff.mp he), (pm.map keyOf).nodup_iff.mpr nd, fun k => (hm k).trans (pm.map keyOf).mem_iff.symm, by rw [sz]; exact hb, by rw [sz]; exact f, by rw [sz]; exact hn, r, hl.imp id fun z => by rw [l1]; exact z⟩ (store_at ho hd) rfl (by rw [m1]; exact G) m1 m2
/-- all of the set's members are walked -/
def MemAll (xs : Array (Int × Value)) (S : Int → Bool) (n : Nat) : Prop := (∀ e ∈ xs.toList, GoodE e) ∧ (∀ k, S k = true ↔ k ∈ xs.toList.map keyOf) ∧ xs.size = n
theorem walk_all {o : Obj} {es : Array (Int × Value)} {ep : Nat} {t : SetTable} (ho : s.heap.get? a = some o) (hd : o.data = .set es ep t) (hf : t.fits es.size = true) (hl : w.params.followText "set-order" = true ∨ t.led = true) (hp : w.params.followText "set-order" = true ∨ (!t.plain && decide (es.size > 1)) = false)
    {Q : Array (Int × Value) → Shared → Prop} (q : ∀ xs : Array (Int × Value), xs.toList.Perm es.toList → Q xs s) : wpAny (model P w) A (setWalk a) Q E s := by
  unfold setWalk
  refine wpAny_bind (wpAny_setState_of ho hd hf ?_)
  dsimp only
  refine wpAny_bind (wpAny_byText ?_)
  by_cases c : w.params.followText "set-order" = true
  · refine wp_if_pos c ?_
    exact wpAny_bind (wpAny_askSetting (wpAny_pure (q _ (pick_perm _ es))))
  · have p1 := hp.resolve_left c
    have p2 := hl.resolve_left c
    refine wp_if_neg c ?_
    try refine wpAny_bind (wpAny_pure ?_)
    refine wp_if_neg (by show ¬ ((!t.plain && decide (es.size > 1)) = true); rw [p1]; exact Bool.false_ne_true) ?_
    try refine wpAny_bind (wpAny_pure ?_)
    refine wpAny_bind (wpAny_of_eq (a := ()) ?_ (wpAny_pure (q es (List.Perm.refl _))))
    show (if (!t.led && decide (es.size > 1)) = true then unsupported "set:maker-not-led" else pure ()) = pure ()
    rw [p2]
    rfl
/-- the set at a walked while the set at r is filled -/
theorem unseen_all {r : Addr} {U : Int → Bool} {c : Nat} (R : SetR w s.heap a S n) (Rr : SetR w s.heap r U c) {l : List Addr} (hall : ∀ c ∈ a :: l, ∃ S n, SetR w s.heap c S n) {Q : Array (Int × Value) → Shared → Prop}
    (q : ∀ xs h', MemAll xs S n → Heap.SameBut r s.heap h' → SetR w h' r U c → Q xs { s with heap := h' }) : wpAny (model P w) A (setWalkUnseen a l (some r)) Q E s := by
  obtain ⟨o, es, ep, t, ho, hx, hd, g, nd, hm, hb, hf, hn, hr, hl⟩ := R
  have mem : ∀ xs : Array (Int × Value), xs.toList.Perm es.toList → MemAll xs S n := fun xs h => ⟨fun e he => g e (h.mem_iff.mp he), fun k => (hm k).trans (h.map keyOf).mem_iff.symm, by rw [← Array.length_toList, h.length_eq, Array.length_toList, hn]⟩
  unfold setWalkUnseen
  refine wpAny_bind (wpAny_setState_of ho hd hf ?_)
  dsimp only
  refine wpAny_bind (wpAny_byText ?_)
  by_cases c : (w.params.followText "set-order" || t.led && t.plain || decide (es.size ≤ 1)) = true
  · refine wp_if_pos c ?_
    refine walk_all ho hd hf hl ?_ fun xs h => q xs s.heap (mem xs h) (Heap.SameBut.refl _ _) Rr
    simp only [Bool.or_eq_true, Bool.and_eq_true, decide_eq_true_eq] at c
    rcases c with (c | c) | c
    · exact .inl c
    · exact .inr (by rw [c.2]; rfl)
    · exact .inr (by rw [decide_eq_false (by omega), Bool.and_false])
  · refine wp_if_neg c ?_
    try refine wpAny_bind (wpAny_pure ?_)
    refine wpAny_bind (quiet_at (a :: l) hall ?_)
    refine wp_if_neg (by decide) ?_
    try refine wpAny_bind (wpAny_pure ?_)
    refine wpAny_bind (wpAny_rule ?_)
    obtain ⟨o2, es2, ep2, t2, ho2, hx2, hd2, g2, nd2, hm2, hb2, hf2, hn2, hr2, hl2⟩ := Rr
    try dsimp only
    refine wpAny_bind (wpAny_setState_of ho2 hd2 hf2 ?_)
    dsimp only
    have nb : w.params.followText "set-order" = false := by
      cases z : w.params.followText "set-order" with
      | false => rfl
      | true => rw [z] at c; simp at c
    have l1 : t.led = true := hl.resolve_left (by rw [nb]; exact Bool.false_ne_true)
    have l2 : t2.led = true := hl2.resolve_left (by rw [nb]; exact Bool.false_ne_true)
    by_cases c2 : (t2.led && !t.led || t2.plain && !t.plain) = true
    · refine wp_if_pos c2 ?_
      refine wpAny_bind (wpAny_storeSet_of ho2 hd2 ?_ (fits_of_scanBound hb2))
      refine wpAny_pure (q es _ (mem es (List.Perm.refl _)) (Heap.SameBut.update ..) ?_)
      exact ⟨_, es2, _, _, store_at ho2 hd2, ⟨hx2.1, hx2.2.1, hx2.2.2⟩, rfl, g2, nd2, hm2, hb2, by exact hf2, hn2, hr2, .inr (by rw [l1, l2]; rfl)⟩
    · refine wp_if_neg c2 ?_
      try refine wpAny_bind (wpAny_pure ?_)
      exact wpAny_pure (q es s.heap (mem es (List.Perm.refl _)) (Heap.SameBut.refl _ _) ⟨o2, es2, ep2, t2, ho2, hx2, hd2, g2, nd2, hm2, hb2, hf2, hn2, hr2, hl2⟩)
end
end Cw
namespace Cw
open PySem PySem.Spec PyProof.Rows L2
theorem merge_eq (s o : Addr) (each : Sem Unit) : setMerge s o each = (do
    if s == o then return
    let (eo, epoch, to) ← setState o
    if eo.isEmpty then return
    (do if let some wanted := (← setState s).2.2.roomFor eo.size then setRelay s wanted)
    let (_, _, ts) ← setState s
    match ts.road to with
    | .slotForSlot => storeSet s eo { to with finger := ts.finger, led := ts.led && to.led, moves := ts.moves, plain := ts.plain && to.plain }
    | .clean =>
      let (es, t) ← (do
        let some (t, order) := SetTable.laid ts.mask ts.finger ts.moves (ts.led && to.led) (ts.plain && to.plain) (eo.map (·.1)) | unsupported "internal:set-table-without-room"
        let es' := order.filterMap (eo[·]?)
        if es'.size != eo.size then unsupported "internal:set-table-lost-an-element"
        pure (es', t) : Sem (Array (Int × Value) × SetTable))
      storeSet s es t
    | .oneByOne =>
      for (h, x) in ← setWalkUnseen o [s] (some s) do
        let _ ← holding [x] (setAddHashed s x h)
        each
        if (← setState o).2.1 != epoch then unsupported "set.changed-during-merge") := by rfl
section
variable {P : Program} {w : World} {A : Around} {E : Value → Shared → Prop} {s : Shared} {a b : Addr} {S T : Int → Bool} {n m : Nat}
/-- the empty new set -/
def Fresh (w : World) (h : Heap) (r : Addr) : Prop := ∃ o ep ld, h.get? r = some o ∧ o.ExactSet ∧ o.data = .set #[] ep (.fresh 0 0 ld) ∧ (w.params.followText "set-order" = true ∨ ld = true)
theorem Fresh.setR {h : Heap} {r : Addr} (f : Fresh w h r) : SetR w h r (fun _ => false) 0 := by
  obtain ⟨o, ep, ld, ho, hx, hd, hl⟩ := f
  exact ⟨o, #[], ep, _, ho, hx, hd, (fun e he => by simp at he), (by simp), (fun k => by simp), (by decide), rfl, rfl, List.Pairwise.nil, hl⟩
/-- all of b's members into a new set -/
theorem merge_fresh {r : Addr} {each : Sem Unit} (f : Fresh w s.heap r) (R : SetR w s.heap b T m) (ne : r ≠ b) {Q : Unit → Shared → Prop}
    (q : ∀ h', Heap.SameBut r s.heap h' → SetR w h' r T m → (m = 0 → Fresh w h' r) → Q () { s with heap := h' }) : wpAny (model P w) A (setMerge r b each) Q E s := by
  have Rr := f.setR
  obtain ⟨o, es, ep, t, ho, hx, hd, g, nd, hm, hb, hf, hn, hr, hl⟩ := id R
  rw [merge_eq]
  refine wp_if_neg (by simp [ne]) ?_
  try refine wpAny_bind (wpAny_pure ?_)
  refine wpAny_bind (wpAny_setState_of ho hd hf ?_)
  dsimp only
  by_cases c0 : es = #[]
  · have m0 : m = 0 := by rw [← hn, c0]; rfl
    refine wp_if_pos (by rw [c0]; rfl) (wpAny_pure ?_)
    refine q s.heap (Heap.SameBut.refl _ _) ?_ fun _ => f
    have e : T = fun _ => false := funext fun k => by
      cases z : T k with
      | false => rfl
      | true =>
        have := (hm k).mp z
        rw [c0] at this
        simp at this
    rw [e, m0]
    exact Rr
  · have pos : 0 < es.size := Array.size_pos_iff.mpr c0
    refine wp_if_neg (by simp [c0]) ?_
    try refine wpAny_bind (wpAny_pure ?_)
    obtain ⟨o1, ep1, ld, ho1, hx1, hd1, hl1⟩ := f
    have hb' : es.size < 4096 := hb
    -- the last part, for any table without members
    have last : ∀ (h1 : Heap) (o2 : Obj) (e2 : Nat) (t2 : SetTable), Heap.SameBut r s.heap h1 → h1.get? r = some o2 → o2.ExactSet → o2.data = .set #[] e2 t2 → t2.dummies = #[] → t2.fits 0 = true → MaskG t2.mask → es.size ≤ t2.mask → (w.params.followText "set-order" = true ∨ t2.led = true) →
        wpAny (model P w) A (do
          let (_, _, ts) ← setState r
          match ts.road t with
          | .slotForSlot => storeSet r es { t with finger := ts.finger, led := ts.led && t.led, moves := ts.moves, plain := ts.plain && t.plain }
          | .clean =>
            let (es, t) ← (do
              let some (t, order) := SetTable.laid ts.mask ts.finger ts.moves (ts.led && t.led) (ts.plain && t.plain) (es.map (·.1)) | unsupported "internal:set-table-without-room"
              let es' := order.filterMap (es[·]?)
              if es'.size != es.size then unsupported "internal:set-table-lost-an-element"
              pure (es', t) : Sem (Array (Int × Value) × SetTable))
            storeSet r es t
          | .oneByOne =>
            for (h, x) in ← setWalkUnseen b [r] (some r) do
              let _ ← holding [x] (setAddHashed r x h)
              each
              if (← setState b).2.1 != ep then unsupported "set.changed-during-merge") Q E { s with heap := h1 } := by
      intro h1 o2 e2 t2 sb ho2 hx2 hd2 dm2 f2 G2 few2 l2
      refine wpAny_bind (wpAny_setState_of ho2 hd2 f2 ?_)
      dsimp only
      have p0 : t2.place.size = 0 := by
        unfold SetTable.fits at f2
        simp only [Bool.and_eq_true, beq_iff_eq] at f2
        exact f2.1
      have fill0 : t2.fill = 0 := by
        unfold SetTable.fill
        rw [p0, dm2]
        rfl
      have led2 : w.params.followText "set-order" = true ∨ (t2.led && t.led) = true := by
        rcases l2 with x | x
        · exact .inl x
        · rcases hl with y | y
          · exact .inl y
          · exact .inr (by rw [x, y]; rfl)
      have m0 : m ≠ 0 := by omega
      unfold SetTable.road
      rw [fill0, if_neg (by decide)]
      by_cases c1 : (t2.mask == t.mask && t.dummies.isEmpty) = true
      · rw [if_pos c1]
        dsimp only
        refine wpAny_storeSet_of ho2 hd2 ?_ (fits_of_scanBound hb)
        exact q _ (sb.trans (Heap.SameBut.update ..)) ⟨_, _, _, _, store_at ho2 hd2, ⟨hx2.1, hx2.2.1, hx2.2.2⟩, rfl, g, nd, hm, hb, hf, hn, hr, led2⟩ fun z => absurd z m0
      · rw [if_neg c1]
        dsimp only
        have hs0 : (es.map (·.1)).size = es.size := Array.size_map ..
        obtain ⟨t', order, e, p, f', r', k1, k2⟩ := laid_got G2 t2.finger t2.moves (t2.led && t.led) (t2.plain && t.plain) (hs := es.map (·.1)) (by omega)
        rw [hs0] at p f'
        have pm := order_perm es p
        have sz : (order.filterMap (es[·]?)).size = es.size := by rw [← Array.length_toList, pm.length_eq, Array.length_toList]
        rw [e]
        dsimp only
        refine wpAny_bind ?_
        refine wp_if_neg (by rw [sz]; simp) ?_
        try refine wpAny_bind (wpAny_pure ?_)
        refine wpAny_pure ?_
        dsimp only
        refine wpAny_storeSet_of ho2 hd2 ?_ (fits_of_scanBound (by rw [sz]; exact hb))
        exact q _ (sb.trans (Heap.SameBut.update ..)) ⟨_, _, _, _, store_at ho2 hd2, ⟨hx2.1, hx2.2.1, hx2.2.2⟩, rfl, fun e he => g e (pm.mem_iff.mp he), (pm.map keyOf).nodup_iff.mpr nd, fun k => (hm k).trans (pm.map keyOf).mem_iff.symm, by rw [sz]; exact hb, by rw [sz]; exact f', by rw [sz]; exact hn, r', by rw [k1]; exact led2⟩ fun z => absurd z m0
    refine wpAny_bind ?_
    refine wpAny_bind (wpAny_setState_of ho1 hd1 rfl ?_)
    dsimp only
    unfold SetTable.roomFor
    by_cases c2 : ((SetTable.fresh 0 0 ld).fill + es.size) * 5 ≥ (SetTable.fresh 0 0 ld).mask * 3
    · rw [if_pos c2]
      dsimp only
      have wn : ((SetTable.fresh 0 0 ld).place.size + es.size) * 2 = es.size * 2 := by
        show (0 + es.size) * 2 = _
        rw [Nat.zero_add]
      rw [wn]
      obtain ⟨G3, k3, k4⟩ := above_ok (n := es.size * 2) (by omega)
      refine relay_got Rr (by omega) (by omega) fun h' o2 es2 e2 t2 sb R2 ho2 hd2 G2 mk dm => ?_
      obtain ⟨o3, es3, ep3, t3, ho3, hx3, hd3, g3, nd3, hm3, hb3, hf3, hn3, hr3, hl3⟩ := R2
      rw [ho2] at ho3
      cases ho3
      rw [hd2] at hd3
      cases hd3
      have e0 : es2 = #[] := Array.size_eq_zero_iff.mp hn3
      subst e0
      exact last h' o2 e2 t2 sb ho2 hx3 hd2 dm hf3 G2 (by rw [mk]; omega) hl3
    · rw [if_neg c2]
      dsimp only
      refine wpAny_pure ?_
      have c3 : ¬ ((0 + es.size) * 5 ≥ 7 * 3) := c2
      exact last s.heap o1 ep1 _ (Heap.SameBut.refl _ _) ho1 hx1 hd1 rfl rfl ⟨3, rfl⟩ (by show es.size ≤ 7; omega) hl1
theorem forIn_upto {α β : Type} {M : Model} {f : α → β → Sem (ForInStep β)} {b : β} (I : List α → Shared → Prop) : ∀ (l done : List α) {s : Shared} {Q : β → Shared → Prop},
    (∀ (d : List α) (x : α) (r : List α), d ++ x :: r = done ++ l → ∀ (s : Shared) (Q' : ForInStep β → Shared → Prop), I d s → (∀ s', I (d ++ [x]) s' → Q' (.yield b) s') → wpAny M A (f x b) Q' E s) → I done s → (∀ s', I (done ++ l) s' → Q b s') → wpAny M A (forIn l b f) Q E s
  | [], done, s, Q, _, i, q => by
    rw [List.forIn_nil]
    rw [List.append_nil] at q
    exact wpAny_pure (q s i)
  | x :: l, done, s, Q, h, i, q => by
    rw [List.forIn_cons]
    have e : (done ++ [x]) ++ l = done ++ x :: l := by rw [List.append_assoc]; rfl
    refine wpAny_bind (h done x l rfl s _ i fun s' i' => ?_)
    refine forIn_upto I l (done ++ [x]) (fun d y r z => h d y r (z.trans e)) i' ?_
    rw [e]
    exact q
/-- all of b's members, one by one, into a set that isn't empty -/
theorem merge_more {each : Sem Unit} (R : SetR w s.heap a S n) (R2 : SetR w s.heap b T m) (ne : a ≠ b) (pos : 0 < n) (room : n + m + 1 < scanBound)
    (he : ∀ (h' : Heap) (Q' : Unit → Shared → Prop), (∀ o, s.heap.get? b = some o → h'.get? b = some o) → Q' () { s with heap := h' } → wpAny (model P w) A each Q' E { s with heap := h' }) {Q : Unit → Shared → Prop}
    (q : ∀ h' c, Heap.SameBut a s.heap h' → SetR w h' a (fun j => S j || T j) c → c ≤ n + m → Q () { s with heap := h' }) : wpAny (model P w) A (setMerge a b each) Q E s := by
  obtain ⟨o, es, ep, t, ho, hx, hd, g, nd, hm, hb, hf, hn, hr, hl⟩ := id R2
  rw [merge_eq]
  refine wp_if_neg (by simp [ne]) ?_
  try refine wpAny_bind (wpAny_pure ?_)
  refine wpAny_bind (wpAny_setState_of ho hd hf ?_)
  dsimp only
  by_cases c0 : es = #[]
  · refine wp_if_pos (by rw [c0]; rfl) (wpAny_pure ?_)
    refine q s.heap n (Heap.SameBut.refl _ _) (R.congr fun k => ?_) (Nat.le_add_right _ _)
    have z : T k = false := by
      cases z : T k with
      | false => rfl
      | true =>
        have := (hm k).mp z
        rw [c0] at this
        simp at this
    rw [z, Bool.or_false]
  · refine wp_if_neg (by simp [c0]) ?_
    try refine wpAny_bind (wpAny_pure ?_)
    have rm : n + m + 1 < 4096 := room
    have last : ∀ h1 : Heap, Heap.SameBut a s.heap h1 → SetR w h1 a S n →
        wpAny (model P w) A (do
          let (_, _, ts) ← setState a
          match ts.road t with
          | .slotForSlot => storeSet a es { t with finger := ts.finger, led := ts.led && t.led, moves := ts.moves, plain := ts.plain && t.plain }
          | .clean =>
            let (es, t) ← (do
              let some (t, order) := SetTable.laid ts.mask ts.finger ts.moves (ts.led && t.led) (ts.plain && t.plain) (es.map (·.1)) | unsupported "internal:set-table-without-room"
              let es' := order.filterMap (es[·]?)
              if es'.size != es.size then unsupported "internal:set-table-lost-an-element"
              pure (es', t) : Sem (Array (Int × Value) × SetTable))
            storeSet a es t
          | .oneByOne =>
            for (h, x) in ← setWalkUnseen b [a] (some a) do
              let _ ← holding [x] (setAddHashed a x h)
              each
              if (← setState b).2.1 != ep then unsupported "set.changed-during-merge") Q E { s with heap := h1 } := by
      intro h1 sb R1
      obtain ⟨o1, es1, ep1, t1, ho1, hx1, hd1, g1, nd1, hm1, hb1, hf1, hn1, hr1, hl1⟩ := id R1
      refine wpAny_bind (wpAny_setState_of ho1 hd1 hf1 ?_)
      dsimp only
      have fill1 : t1.fill ≠ 0 := by
        have z := hf1
        unfold SetTable.fits at z
        simp only [Bool.and_eq_true, beq_iff_eq] at z
        unfold SetTable.fill
        omega
      unfold SetTable.road
      rw [if_pos (by simp [fill1])]
      dsimp only
      have ob : ∀ {h : Heap}, Heap.SameBut a s.heap h → ∀ o, s.heap.get? b = some o → h.get? b = some o := fun {h} k o e => by rw [k.2 b (Ne.symm ne)]; exact e
      refine wpAny_bind (unseen_all (R2.at (ob sb)) R1 (fun c hc => ?_) fun xs h2 M sb2 R3 => ?_)
      · rcases List.mem_cons.mp hc with rfl | hc
        · exact ⟨_, _, R2.at (ob sb)⟩
        rcases List.mem_cons.mp hc with rfl | hc
        · exact ⟨_, _, R1⟩
        · cases hc
      · obtain ⟨M1, M2, M3⟩ := M
        rw [← Array.forIn_toList]
        have len : xs.toList.length = m := by rw [Array.length_toList]; exact M3
        refine wpAny_bind (forIn_upto (fun d s' => ∃ h' c, s' = { s with heap := h' } ∧ Heap.SameBut a s.heap h' ∧ SetR w h' a (fun j => S j || decide (j ∈ d.map keyOf)) c ∧ c ≤ n + d.length) xs.toList [] (fun d x r e s' Q' i k => ?_)
          ⟨h2, n, rfl, sb.trans sb2, R3.congr fun j => by simp, Nat.le_add_right _ _⟩ fun s' i => ?_)
        · obtain ⟨h', c, rfl, sb', Rc, cl⟩ := i
          have hxm : x ∈ xs.toList := by
            rw [List.nil_append] at e
            rw [← e]
            simp
          have dl : d.length + 1 ≤ m := by
            have := congrArg List.length e
            simp at this
            omega
          obtain ⟨i, tk, e1, e2⟩ := M1 x hxm
          obtain ⟨x1, x2⟩ := x
          dsimp only at e1 e2
          subst e1 e2
          have kk : keyOf (hashInt i, Value.int i tk) = i := rfl
          dsimp only
          refine wpAny_bind (wpAny_holding (setR_add_hashed Rc (by show c + 1 < 4096; omega) fun h3 sb3 R4 => ?_))
          have sb4 := sb'.trans sb3
          refine wpAny_bind (he h3 _ (ob sb4) ?_)
          refine wpAny_bind (wpAny_setState_of (ob sb4 _ ho) hd hf ?_)
          refine wp_if_neg (by simp) ?_
          try refine wpAny_bind (wpAny_pure ?_)
          refine wpAny_pure (k _ ⟨h3, _, rfl, sb4, R4.congr fun j => ?_, ?_⟩)
          · try dsimp only
            rw [Bool.or_assoc]
            congr 1
            rw [List.map_append, Bool.eq_iff_iff, Bool.or_eq_true, decide_eq_true_eq, decide_eq_true_eq, decide_eq_true_eq, List.mem_append, List.map_cons, kk]
            simp
          · try dsimp only
            rw [List.length_append]
            show _ ≤ n + (d.length + 1)
            split <;> omega
        · obtain ⟨h', c, rfl, sb', Rc, cl⟩ := i
          rw [List.nil_append] at Rc cl
          refine wpAny_pure (q h' c sb' (Rc.congr fun j => ?_) (by omega))
          congr 1
          rw [Bool.eq_iff_iff, decide_eq_true_eq]
          exact M2 j
    obtain ⟨o1, es1, ep1, t1, ho1, hx1, hd1, g1, nd1, hm1, hb1, hf1, hn1, hr1, hl1⟩ := id R
    refine wpAny_bind ?_
    refine wpAny_bind (wpAny_setState_of ho1 hd1 hf1 ?_)
    dsimp only
    unfold SetTable.roomFor
    have z : t1.place.size = n := by
      have z := hf1
      unfold SetTable.fits at z
      simp only [Bool.and_eq_true, beq_iff_eq] at z
      omega
    by_cases c2 : (t1.fill + es.size) * 5 ≥ t1.mask * 3
    · rw [if_pos c2]
      dsimp only
      rw [z]
      obtain ⟨G3, k3, k4⟩ := above_ok (n := (n + es.size) * 2) (by omega)
      exact relay_got R (by omega) (by omega) fun h' o2 es2 e2 t2 sb R4 _ _ _ _ _ => last h' sb R4
    · rw [if_neg c2]
      dsimp only
      exact wpAny_pure (last s.heap (Heap.SameBut.refl _ _) R)
end
end Cw
namespace Cw
open PySem PySem.Spec PyProof.Rows L2
section
variable {P : Program} {w : World} {A : Around} {E : Value → Shared → Prop} {s : Shared} {a b : Addr} {S T : Int → Bool} {n m : Nat}
theorem entry_or : entryFor table "set.__or__" = some Builtin.«frozenset.__or__» := entryFor_alias (id' := "frozenset.__or__") (by kernel_rfl) rfl (by decide +kernel) (by kernel_rfl)
theorem or_form (a b : Value) : Builtin.«frozenset.__or__» ⟨[a, b], []⟩ = (do
    let p ← Builtin.Frozenset.slot1 "__or__" ⟨[a, b], []⟩
    if !(← (Builtin.Frozenset.isAnySet p.1 <&&> Builtin.Frozenset.isAnySet p.2)) then
      rule "frozenset.__or__.declined"
      ret .notImplemented
    else do
      let la ← Builtin.Frozenset.addrOf p.1
      let v ← (do
        let result ← Builtin.Frozenset.copyOf la
        if p.2 != .ref la then holding [result] (Builtin.Frozenset.updateFrom "frozenset.__or__" (← Builtin.Frozenset.addrOf result) p.2)
        return result)
      ret v) := by
  rfl
/-- a | b: a new set -/
theorem or_new (R1 : SetR w s.heap a S n) (R2 : SetR w s.heap b T m) (ne : a ≠ b) (room : n + m + 1 < scanBound) {Q : Value → Shared → Prop}
    (q : ∀ h' c, (∀ x o, s.heap.get? x = some o → h'.get? x = some o) → SetR w h' s.heap.objs.size (fun j => S j || T j) c → c ≤ n + m → Q (.ref s.heap.objs.size) { s with heap := h' }) : wpAny (model P w) A (binaryOp .BitOr (.ref a) (.ref b)) Q E s := by
  have ta : s.TypeIs (.ref a) "set" := (R1.setOf (P := P)).typeIs
  have tb : s.TypeIs (.ref b) "set" := (R2.setOf (P := P)).typeIs
  refine wpAny_binaryOp_same (T := "set") ta tb F.fills_set_or F.slot_set_or ?_
  refine wpAny_call_entry F.slot_set_or ta entry_or ?_ (F.args_set_or_2 _ _)
  rw [or_form]
  unfold Builtin.Frozenset.slot1 slotArgs
  refine wpAny_bind (wpAny_bind (wpAny_of_eq (a := (Value.ref a, [Value.ref b])) rfl (wpAny_pure ?_)))
  dsimp only
  refine wpAny_bind (m := _ <&&> _) ?_
  unfold andM
  refine wpAny_bind (isSet_at ta ?_)
  show wpAny _ _ (Builtin.Frozenset.isAnySet (.ref b)) _ _ _
  refine isSet_at tb (wp_if_neg (by decide) ?_)
  try refine wpAny_bind (wpAny_pure ?_)
  refine wpAny_bind ?_
  unfold Builtin.Frozenset.copyOf Builtin.Frozenset.baseOf isInstance
  have z := sub_set_self
  obtain ⟨hp, gg, dr, tk, os⟩ := s
  dsimp only at q R1 R2
  have k1 : ∀ c o, hp.get? c = some o → (hp.push (newS w)).get? c = some o := fun c o e => Heap.get?_push_of_some _ e
  have fr : Fresh w (hp.push (newS w)) hp.objs.size := by
    refine ⟨newS w, 0, _, Heap.get?_push_size _ rfl, ⟨rfl, rfl, rfl⟩, rfl, ?_⟩
    cases w.params.followText "set-order"
    · exact .inr rfl
    · exact .inl rfl
  have na : hp.objs.size ≠ a := Nat.ne_of_gt R1.lt
  have nb : hp.objs.size ≠ b := Nat.ne_of_gt R2.lt
  wp_walk
  refine wpAny_askSetting (wpAny_pure ?_)
  simp only [newObj, if_true]
  refine wpAny_bind (wpAny_alloc (wpAny_pure ?_))
  dsimp only
  refine wpAny_bind (m := Builtin.Frozenset.addrOf (.ref hp.objs.size)) (wpAny_pure ?_)
  refine wpAny_bind (merge_fresh fr (R1.at fun o e => k1 _ _ e) na fun h1 sb1 Rr f1 => ?_)
  have k2 : ∀ c o, c ≠ hp.objs.size → hp.get? c = some o → h1.get? c = some o := fun c o hc e => by
    rw [sb1.2 c hc]
    exact k1 c o e
  have k3 : ∀ c o, hp.get? c = some o → h1.get? c = some o := fun c o e => k2 c o (Nat.ne_of_lt (Heap.lt_size e)) e
  have R3 : SetR w h1 b T m := R2.at fun o e => k3 _ _ e
  refine wpAny_pure ?_
  refine wp_if_pos (by simp [Ne.symm ne]) ?_
  refine wpAny_bind (m := Builtin.Frozenset.addrOf (.ref hp.objs.size)) (wpAny_pure ?_)
  refine wpAny_bind (wpAny_holding ?_)
  unfold Builtin.Frozenset.updateFrom
  refine wpAny_bind (isSet_at (R3.setOf (P := P)).typeIs ?_)
  refine wp_if_pos rfl ?_
  refine wpAny_bind (m := Builtin.Frozenset.addrOf (.ref b)) (wpAny_pure ?_)
  unfold Builtin.Frozenset.merge
  obtain ⟨o, es, ep, t, ho, hx, hd, g, nd, hm, hb, hf, hn, hr, hl⟩ := id R3
  refine wpAny_bind (wpAny_setEpoch_of ho hd hf ?_)
  have fin : ∀ h' c, Heap.SameBut hp.objs.size h1 h' → SetR w h' hp.objs.size (fun j => S j || T j) c → c ≤ n + m → Q (.ref hp.objs.size) ⟨h', gg, dr, tk, os⟩ := fun h' c sb R le =>
    q h' c (fun x o e => by rw [sb.2 x (Nat.ne_of_lt (Heap.lt_size e))]; exact k3 x o e) R le
  have done : ∀ h' c, Heap.SameBut hp.objs.size h1 h' → SetR w h' hp.objs.size (fun j => S j || T j) c → c ≤ n + m →
      wpAny (model P w) A.in1 (pure (Value.ref hp.objs.size)) (fun a s' => wpAny (model P w) A.in1 (ret a) (fun fin s' => ∃ v, fin = Fin.done (Flow.ret v) ∧ v ≠ Value.notImplemented ∧ Q v s') E s') E ⟨h', gg, dr, tk, os⟩ := fun h' c sb R le =>
    wpAny_pure (wpAny_pure ⟨_, rfl, (fun z => nomatch z), fin h' c sb R le⟩)
  by_cases n0 : n = 0
  · refine merge_fresh (f1 n0) R3 nb fun h2 sb2 R4 _ => ?_
    refine done h2 m sb2 (R4.congr fun k => ?_) (Nat.le_add_left _ _)
    obtain ⟨o5, es5, ep5, t5, ho5, hx5, hd5, g5, nd5, hm5, hb5, hf5, hn5, _⟩ := R1
    have e0 : es5 = #[] := Array.size_eq_zero_iff.mp (by omega)
    have z : S k = false := by
      cases z : S k with
      | false => rfl
      | true =>
        have := (hm5 k).mp z
        rw [e0] at this
        simp at this
    rw [z, Bool.false_or]
  · refine merge_more Rr R3 nb (Nat.pos_of_ne_zero n0) room (fun h' Q' kb qq => ?_) fun h2 c sb2 R4 le => done h2 c sb2 R4 le
    unfold Builtin.Frozenset.unchanged
    refine wpAny_bind (wpAny_setEpoch_of (kb _ ho) hd hf ?_)
    refine wp_if_neg (by simp) (wpAny_pure qq)
end
end Cw
namespace Cw
open PySem PySem.Spec PyProof.Rows L2
section
variable {X : Cx}
/-- a | b -/
def rOrN (w : World) : R2 := fun x y H Q => ∃ (a b : Addr) (S T : Int → Bool) (n m : Nat), x = .ref a ∧ y = .ref b ∧ a ≠ b ∧ H a = some (SetO w a S n) ∧ H b = some (SetO w b T m) ∧ n + m ≤ 4000 ∧ ∀ p c, c ≤ n + m → H p = none → Q (.ref p) (upd H p (SetO w p (fun j => S j || T j) c))
theorem op_orN : OpR X (binaryOp .BitOr) (rOrN X.w) := by
  intro pins s σ H x y v u Q I rx ry h
  obtain ⟨a, b, S, T, n, m, rfl, rfl, ne, ha, hb, le, q⟩ := h
  cases rx
  cases ry
  refine or_new (setO_get I ha) (setO_get I hb) ne (by show n + m + 1 < 4096; omega) fun h' c k R lc => ?_
  exact ⟨.ref s.heap.objs.size, _, I.laid (t' := s.toks) k (Nat.le_refl _) (setO_new R), rfl, q _ c lc (I.hok.fresh (Nat.le_refl _))⟩
end
end Cw
namespace Cw
open PySem PySem.Spec PyProof.Rows L2
section
variable {P : Program} {w : World} {A : Around} {E : Value → Shared → Prop} {s : Shared} {a : Addr}
/-- sorted of a set of ints, as many as there are -/
theorem sorted_all {S : Int → Bool} {n : Nat} {Q : Value → Shared → Prop} (R : SetR w s.heap a S n) (calm : A.handled = none)
    (q : ∀ (t : Shared) (p : Addr) (out : Array Value) (c : Nat) (ns : List Int), (∀ x o, s.heap.get? x = some o → t.heap.get? x = some o) → t.gens = s.gens → t.os = s.os → s.heap.objs.size ≤ p →
      t.heap.get? p = some (seqObj "list" out c) → IntsAre out.toList ns → List.Pairwise (· < ·) ns → (∀ k, k ∈ ns ↔ S k = true) → ns.length = n → Q (.ref p) t) :
    wpAny (model P w) A (call (.builtin "sorted") [.ref a]) Q E s := by
  obtain ⟨o, es, ep, t, ho, hx, hd, g, nd, hm, hb, hf, hn, hr, hl⟩ := R
  refine Calls.call_function_entry kind_sorted
    plain_sorted entry_sorted (args_sorted1 _) ?_
  unfold Builtin.«sorted»
  refine wpAny_bind (m := checkCount "sorted" 1 1 _)
    (wpAny_pure ?_)
  refine wpAny_bind (collect_set (A := A.in1) calm ⟨o, ho, hx.1, hd⟩ hf hb hr hl fun u vs old sz ge oss pm => ?_)
  have len : vs.length = n := by
    rw [pm.length_eq, List.length_map, Array.length_toList, hn]
  have iz : IntsAre vs (vs.map Builtin.Re.reRawOf) := ints_of vs fun v hv => by
    obtain ⟨e, he, z⟩ := List.mem_map.mp (pm.mem_iff.mp hv)
    obtain ⟨k, tk, e1, _⟩ := g e he
    exact ⟨k, tk, by rw [← z]; exact e1⟩
  have keys : (vs.map Builtin.Re.reRawOf).Perm (es.toList.map keyOf) := by
    have z := pm.map Builtin.Re.reRawOf
    rw [List.map_map] at z
    exact z
  have nb : n < 4096 := by rw [← hn]; exact hb
  refine wpAny_bind (wpAny_newList ?_ (by rw [len, sizeLine_eq]; omega))
  have at0 : (u.heap.push (seqObj "list" vs.toArray 0)).get? u.heap.objs.size = some (seqObj "list" vs.toArray 0) := Heap.get?_push_size _ rfl
  refine wpAny_bind (wpAny_holding (wpAny_call_entry slot_list_sort ⟨_, at0, rfl⟩ entry_list_sort
    (SrtO.list_sort_ord SrtO.swo_int at0 (by rw [len, sizeLine_eq]; omega) (fun h2 => SrtO.ints_sortable iz h2) fun out h1 h2 => ⟨.none, rfl, ?_⟩) (args_list_sort _)))
  obtain ⟨k1, k2, k3⟩ := SrtO.ints_out iz h1 h2
  obtain ⟨c, hc⟩ := sortedHeap_at (vs := vs) (out := out.toArray) at0
  have perm := k2.trans keys
  refine wpAny_pure ⟨_, rfl, q _ u.heap.objs.size out.toArray c (out.map SrtO.iv) (fun x v e => ?_) ge oss sz hc k1 (lt_of_le_nodup _ k3 (perm.nodup_iff.mpr nd)) (fun k => ?_) ?_⟩
  · have z := old x v e
    have lt := Heap.lt_size z
    show (sortedHeap (u.heap.push (seqObj "list" vs.toArray 0)) u.heap.objs.size vs out.toArray).get? x = some v
    rw [sortedHeap_old (Nat.ne_of_lt lt) (Nat.lt_of_lt_of_le lt (by rw [size_push']; exact Nat.le_succ _))]
    exact Heap.get?_push_of_some _ z
  · rw [perm.mem_iff]
    exact (hm k).symm
  · rw [perm.length_eq, List.length_map, Array.length_toList, hn]
end
section
variable {X : Cx}
/-- sorted(s), s a set of ints -/
def rSortSet (w : World) : List V → Hp → VK → Prop := fun vs H Q => ∃ (a : Addr) (S : Int → Bool) (n : Nat), vs = [V.ref a] ∧ H a = some (SetO w a S n) ∧
  ∀ (ns : List Int) (p : Addr), List.Pairwise (· < ·) ns → (∀ k, k ∈ ns ↔ S k = true) → H p = none → Q (.ref p) (upd H p (.lst (ns.map V.int)))
theorem cr_sortSet (hc : X.calm = true) : CallR X (.builtin "sorted") (rSortSet X.w) := by
  intro pins s σ H vs us Q I r h
  obtain ⟨a, S, n, rfl, ha, q⟩ := h
  have R := setO_get I ha
  rw [Vals.ref1 r]
  obtain ⟨o, es, ep, t, ho, hx, hd, g, nd, hm, hb, hf, hn, hr, hl⟩ := id R
  have nb : n < 4096 := by rw [← hn]; exact hb
  refine sorted_all R (I.ok.hd hc) fun t p out c ns k ge oss sz hg hi hs hm' hl' => ?_
  have few : (ns.map V.int).length ≤ sizeLine := by
    rw [List.length_map, hl', sizeLine_eq]
    omega
  have np : H p = none := I.hok.fresh sz
  obtain ⟨hp2, g2, d2, tk2, os2⟩ := t
  dsimp only at k ge oss hg
  subst ge oss
  refine ⟨.ref p, upd H p (.lst (ns.map V.int)), ?_, rfl, q ns p hs hm' np⟩
  exact I.call (ch := []) (Un.laid k sz np) (I.hok.laid k sz ⟨few, out.toList, c, vals_of_ints hi, hg⟩) I.bare (fun _ z => nomatch z)
end
end Cw
namespace Cw
open PySem L2
def rSetOfW (K : PySem.W.Frag) (w : World) : List V → Hp → VK → Prop := fun xs H Q => ∃ (l : Addr) (ns : List Int), xs = [.ref l] ∧ SqL K H l (ns.map V.int) ∧ ns.length ≤ 4000 ∧ ∀ p c, c ≤ ns.length → H p = none → Q (.ref p) (upd H p (SetO w p (fun j => decide (j ∈ ns)) c))
end Cw
namespace Cw
open PySem L2
abbrev sSW : Stmt := top 29
def spSW : Sp := fun vs H Q _ => ∃ (p : Addr) (n l m g b : Int) (prs : List (Int × Int)), vs = [.ref p, .int b] ∧ RawS H p n prs l m g ∧ GoodP n prs ∧ SetOk l m g ∧ n ≤ 200 * l ∧ n ≤ 1000 ∧ g ≤ 1000 ∧ 0 ≤ b ∧ b ≤ n ∧
  ∀ q H' k, Same H H' → H q = none → WkOk (nx n (marksOf prs) (strictOf prs) l m g) n b k → IL H' q (wl (nx n (marksOf prs) (strictOf prs) l m g) n b k) → Q (.ref q) H'
section
variable {P : Program} {w : World} {K : PySem.W.Frag} {mg : Str → Option Value} {base : Heap}
abbrev NSlw : List Str := ["raw", "begin", "found"]
theorem scSlw : FnScope NSlw ["raw", "begin"] (defScope sSW) := ⟨rfl, rfl, rfl, by decide +kernel, rfl, by decide +kernel, by decide +kernel⟩
theorem ok_sw {f fS : Addr} {fd fdS : FuncData} (F : Fun K "_law_slow_walk" "_law_slow_walk" sSW f fd)
    (gS : mg "_law_slow" = some (.ref fS)) (kS : PySem.W.keepIn K (.ref fS) = true) (bS : Binds K fdS ["raw", "spot"] []) (GS : FnOk P w K mg base CX0 1 fS fdS ["raw", "spot"] spSlow) :
    FnOk P w K mg base CX0 2 f fd ["raw", "begin"] spSW := by
  refine F.ok scSlw (fun vs H Q E h => ?_) (fun cdv A outer s H vs Q E hr h => ?_)
  · obtain ⟨p, n, l, m, g, b, prs, rfl, _⟩ := h
    rfl
  · obtain ⟨r, n, l, m, g, p, prs, rfl, hR, G, S, big, n1, g1, p0, pn, q⟩ := h
    refine ⟨_, pss_cons (ps_set (i := 2) scSlw.nd rfl (Or.inl rfl) (pe_lst (pa_cons (pv 1) pa_nil)))
      (pss_cons (ps_while PassesOwn.never (pt_cmpR op_lt (pe_ix (r := rIxL K) ix_list (pv 2) (pe_un un_neg pe_int) (fun _ _ => rfl)) (pe_ix ix_tup (pv 0) pe_int (fun _ _ => rfl)) (nomark _))
        (pss_one (ps_expr (pe_bm PySem.F.plainAttrs_list PySem.F.slot_list_append PySem.F.type_list_append mt_append (pv 2) (pa_cons (pe_call GS hr rfl gS kS bS .nil pass0 (pa_cons (pv 0) (pa_cons (pe_ix (r := rIxL K) ix_list (pv 2) (pe_un un_neg pe_int) (fun _ _ => rfl)) pa_nil))) pa_nil)))))
      (pss_one (ps_ret (pv 2)))), ?_⟩
    have ST := nx_stp G.good S
    generalize hF : nx n (marksOf prs) (strictOf prs) l m g = W at q ST
    refine ⟨_, rfl, (by show 1 ≤ sizeLine; decide), fun D hD => ?_⟩
    refine while_by (fun σ H' => ∃ k, σ = [some (.ref r), some (.int p), some (.ref D)] ∧ Same H H' ∧ IL H' D (wl W n p k) ∧ (∀ i, i < k → kc W n p i < n))
      (muCu n D) ⟨0, rfl, same_new (Same.refl H) hD, upd_same, fun i hi => absurd hi (Nat.not_lt_zero _)⟩ ?_
      (fun σ H Q Q' hQ h => by repeat' (first | exact hQ _ _ h | (obtain ⟨x, h⟩ := h; refine ⟨x, ?_⟩)))
    rintro σ H' ⟨k, rfl, s1, hI, hb⟩
    obtain ⟨lp, t, ts, hp, hl, hpr, ht⟩ := hR.same s1
    have kle := kc_le ST pn k
    have few : k ≤ 200 := by
      by_cases c : k = 0
      · omega
      · have := kc_few ST p0 big (hb (k - 1) (by omega))
        omega
    obtain ⟨xs, hxs⟩ : ∃ xs, (wl W n p k).map V.int = xs ++ [V.int (kc W n p k)] := by
      unfold wl
      rw [List.range_succ, List.map_append, List.map_append]
      exact ⟨_, rfl⟩
    have at1 : atI ((wl W n p k).map V.int) (-1) = some (V.int (kc W n p k)) := by
      rw [hxs]
      exact atI_last _ _
    refine ⟨_, rfl, _, rfl, D, _, _, _, rfl, rfl, SqL.of hI, at1, ?_⟩
    refine ⟨_, rfl, r, _, _, _, rfl, rfl, SqT.of hp, at_of2 (j := 0) rfl rfl, _, _, rfl, rfl, _, rfl, ?_⟩
    by_cases c : kc W n p k < n
    · refine ifT (decide_eq_true c) ?_
      have few2 : k < 200 := kc_few ST p0 big c
      have low : 0 ≤ kc W n p k := by
        have z := kc_ge ST k c
        have l1 := ST.l1
        have y : (0 : Int) ≤ (k : Int) * l := Int.mul_nonneg (by omega) (by omega)
        omega
      refine ⟨_, rfl, .inl ⟨rfl, _, SqL.of hI⟩, ?_⟩
      refine ⟨_, rfl, _, rfl, _, rfl, D, _, _, _, rfl, rfl, SqL.of hI, at1, ?_⟩
      refine ⟨r, n, l, m, g, _, prs, rfl, hR.same s1, G, S, by omega, by omega, by omega, by omega, fun H2 s2 => ?_⟩
      rw [hF]
      have hI2 := s2 _ _ hI
      have mu1 : muCu n D [some (.ref r), some (.int p), some (.ref D)] H' = (n - kc W n p k).toNat := muCu_at (hI.trans (by rw [hxs]))
      refine ⟨D, _, _, rfl, rfl, hI2, by rw [List.length_map, wl_len]; exact small1000 (by omega), ⟨k + 1, rfl, same_put (s1.trans s2) hD, ?_, fun i hi => ?_⟩, ?_⟩
      · show upd _ _ _ D = _
        rw [upd_same, wl_succ, kc_at c, List.map_append]
        rfl
      · by_cases e : i = k
        · rw [e]
          exact c
        · exact hb i (by omega)
      · rw [mu1, muCu_at upd_same]
        have := ST.gt c
        omega
    · refine ifF (decide_eq_false c) ?_
      exact ⟨_, rfl, q D H' k s1 hD ⟨few, by omega, hb⟩ hI⟩
end
end Cw
namespace Cw
open PySem L2
/-! ## comprehensions that give whole numbers -/
theorem lcF {α : Type} {K : PySem.W.Frag} {a D : Addr} {src : List V} {xs : List α} {g : TG} {tt : TT} {te : TE} {vs : List Nat} {σ : St} {H1 : Hp} {Qd : Hp → Prop} (p : α → Bool) (v : α → Int)
    (ha : ∀ H, Same H1 H → SqL K H a src) (hl : src.length = xs.length) (hD : H1 D = none) (few : xs.length ≤ 999)
    (step : ∀ (i : Nat) (x : V) (z : α) (H : Hp) (A : V → Hp → Prop) (B : Hp → Prop), src[i]? = some x → xs[i]? = some z → Same H1 H → (∀ H', p z = true → Same H H' → A (.int (v z)) H') → (∀ H', p z = false → Same H H' → B H') →
      g x (wipe σ vs) H fun σ2 H2 => wipe σ2 vs = wipe σ vs ∧ tt σ2 H2 fun b H3 => if b = true then te σ2 H3 fun y H4 => A y H4 else B H3)
    (fin : ∀ (H : Hp), Same H1 H → IL H D ((xs.filter p).map v) → Qd H) :
    ∃ W : Nat → Nat → Hp → Prop, (∃ m, W 0 m (upd H1 D (HO.lst []))) ∧ ∀ (i m : Nat) (H : Hp), W i m H → (Itl K a).stop i H ∧ Qd H ∨ (Itl K a).go i H ∧ ∃ Nx : Hp → Prop, (∀ H', Nx H' → ∃ m', m' < m ∧ W (i + 1) m' H') ∧
      ∀ (x : V) (H' : Hp), (Itl K a).yld i H x H' → g x (wipe σ vs) H' fun σ2 H2 => wipe σ2 vs = wipe σ vs ∧ tt σ2 H2 fun b H3 => if b = true then te σ2 H3 fun y H4 => ∃ acc, H4 D = some (HO.lst acc) ∧ acc.length < sizeLine ∧ Nx (upd H4 D (HO.lst (acc ++ [y]))) else Nx H3 := by
  refine lc_list (K := K) (a := a) (xs := src) (fun i H' => Same H1 H' ∧ IL H' D (((xs.take i).filter p).map v)) ⟨same_new (Same.refl H1) hD, upd_same⟩ (fun i H' _ z => ha _ z.1) ?_ ?_
  · rintro i x H' hx ⟨s1, hE⟩
    have il : i < xs.length := by rw [← hl]; exact (List.getElem?_eq_some_iff.mp hx).1
    obtain ⟨z, hz⟩ : ∃ z, xs[i]? = some z := ⟨_, List.getElem?_eq_getElem il⟩
    have tk : ((xs.take (i + 1)).filter p).map v = ((xs.take i).filter p).map v ++ (if p z = true then [v z] else []) := by
      rw [List.take_add_one, hz, List.filter_append, List.map_append]
      congr 1
      cases c : p z <;> simp [c]
    have ln : (((xs.take i).filter p).map v).length ≤ 999 := by
      rw [List.length_map]
      refine Nat.le_trans (List.length_filter_le _ _) ?_
      rw [List.length_take]
      omega
    refine step i x z H' _ _ hx hz s1 (fun H2 c s2 => ?_) fun H2 c s2 => ?_
    · refine ⟨_, s2 _ _ hE, by rw [List.length_map]; exact small1000 (by omega), same_put (s1.trans s2) hD, ?_⟩
      show upd _ _ _ D = _
      rw [upd_same, tk, if_pos c, ints_app]
    · refine ⟨s1.trans s2, ?_⟩
      rw [tk, if_neg (by rw [c]; decide), List.append_nil]
      exact s2 _ _ hE
  · rintro H' ⟨s1, hE⟩
    rw [hl, List.take_length] at hE
    exact fin H' s1 hE
theorem lcFt {α : Type} {K : PySem.W.Frag} {a D : Addr} {src : List V} {xs : List α} {g : TG} {tt : TT} {te : TE} {vs : List Nat} {σ : St} {H1 : Hp} {Qd : Hp → Prop} (p : α → Bool) (v : α → Int)
    (ha : ∀ H, Same H1 H → SqT K H a src) (hl : src.length = xs.length) (hD : H1 D = none) (few : xs.length ≤ 999)
    (step : ∀ (i : Nat) (x : V) (z : α) (H : Hp) (A : V → Hp → Prop) (B : Hp → Prop), src[i]? = some x → xs[i]? = some z → Same H1 H → (∀ H', p z = true → Same H H' → A (.int (v z)) H') → (∀ H', p z = false → Same H H' → B H') →
      g x (wipe σ vs) H fun σ2 H2 => wipe σ2 vs = wipe σ vs ∧ tt σ2 H2 fun b H3 => if b = true then te σ2 H3 fun y H4 => A y H4 else B H3)
    (fin : ∀ (H : Hp), Same H1 H → IL H D ((xs.filter p).map v) → Qd H) :
    ∃ W : Nat → Nat → Hp → Prop, (∃ m, W 0 m (upd H1 D (HO.lst []))) ∧ ∀ (i m : Nat) (H : Hp), W i m H → (Itt K a).stop i H ∧ Qd H ∨ (Itt K a).go i H ∧ ∃ Nx : Hp → Prop, (∀ H', Nx H' → ∃ m', m' < m ∧ W (i + 1) m' H') ∧
      ∀ (x : V) (H' : Hp), (Itt K a).yld i H x H' → g x (wipe σ vs) H' fun σ2 H2 => wipe σ2 vs = wipe σ vs ∧ tt σ2 H2 fun b H3 => if b = true then te σ2 H3 fun y H4 => ∃ acc, H4 D = some (HO.lst acc) ∧ acc.length < sizeLine ∧ Nx (upd H4 D (HO.lst (acc ++ [y]))) else Nx H3 := by
  refine lc_tup (K := K) (a := a) (xs := src) (fun i H' => Same H1 H' ∧ IL H' D (((xs.take i).filter p).map v)) ⟨same_new (Same.refl H1) hD, upd_same⟩ (fun i H' _ z => ha _ z.1) ?_ ?_
  · rintro i x H' hx ⟨s1, hE⟩
    have il : i < xs.length := by rw [← hl]; exact (List.getElem?_eq_some_iff.mp hx).1
    obtain ⟨z, hz⟩ : ∃ z, xs[i]? = some z := ⟨_, List.getElem?_eq_getElem il⟩
    have tk : ((xs.take (i + 1)).filter p).map v = ((xs.take i).filter p).map v ++ (if p z = true then [v z] else []) := by
      rw [List.take_add_one, hz, List.filter_append, List.map_append]
      congr 1
      cases c : p z <;> simp [c]
    have ln : (((xs.take i).filter p).map v).length ≤ 999 := by
      rw [List.length_map]
      refine Nat.le_trans (List.length_filter_le _ _) ?_
      rw [List.length_take]
      omega
    refine step i x z H' _ _ hx hz s1 (fun H2 c s2 => ?_) fun H2 c s2 => ?_
    · refine ⟨_, s2 _ _ hE, by rw [List.length_map]; exact small1000 (by omega), same_put (s1.trans s2) hD, ?_⟩
      show upd _ _ _ D = _
      rw [upd_same, tk, if_pos c, ints_app]
    · refine ⟨s1.trans s2, ?_⟩
      rw [tk, if_neg (by rw [c]; decide), List.append_nil]
      exact s2 _ _ hE
  · rintro H' ⟨s1, hE⟩
    rw [hl, List.take_length] at hE
    exact fin H' s1 hE
theorem eqv_nilI {ns : List Int} : PyData.eqv (.list (ns.map PyData.int)) (.list []) = decide (ns = []) := by
  cases ns with
  | nil => rfl
  | cons a r => rfl
/-- the last k of a list -/
theorem cut_last {α : Type} (f : α → V) (xs : List α) (k : Nat) (hk : 0 < k) : ∃ j, cutV (xs.map f) (some (-(k : Int))) none = (xs.drop j).map f ∧ (xs.drop j).length ≤ k := by
  have e : HT.sIx (xs.map f).length 0 (some (-(k : Int))) = ((-(k : Int)) + (((xs.map f).length : Nat) : Int)).toNat := if_pos (by omega)
  refine ⟨HT.sIx (xs.map f).length 0 (some (-(k : Int))), ?_, ?_⟩
  · unfold cutV
    rw [List.map_drop, List.take_of_length_le]
    rw [List.length_drop]
    exact Nat.le_refl _
  · rw [List.length_drop, e, List.length_map]
    omega
theorem PrAt.drop {H : Hp} : ∀ {ts : List Addr} {ps : List (Int × Int)} (j : Nat), PrAt H ts ps → PrAt H (ts.drop j) (ps.drop j)
  | _, _, 0, h => h
  | _, _, _ + 1, .nil => .nil
  | _, _, j + 1, .cons _ r => PrAt.drop j r
end Cw
namespace Cw
open PySem L2
/-! ## next cuts told by what they are -/
structure NxP (n : Int) (ms ss : List Int) (l m g p v : Int) : Prop where
  top : v ≤ n
  far : v ≤ p + g
  st : ∀ x ∈ ss, p + l ≤ x → v ≤ x
  pl : ∀ x ∈ ms, p + m ≤ x → v ≤ x
  is : v = n ∨ v = p + g ∨ (v ∈ ss ∧ p + l ≤ v) ∨ (v ∈ ms ∧ p + m ≤ v)
theorem nx_props {n l m g p : Int} {ms ss : List Int} (G : Good n ms ss) : NxP n ms ss l m g p (nx n ms ss l m g p) := by
  have a := fm_or G.asc2 (p + l) n
  have b := fm_or G.asc (p + m) n
  refine ⟨by unfold nx; omega, by unfold nx; omega, fun x hx h => ?_, fun x hx h => ?_, ?_⟩
  · have := fm_le G.asc2 (e := n) hx h
    unfold nx
    omega
  · have := fm_le G.asc (e := n) hx h
    unfold nx
    omega
  · have d : nx n ms ss l m g p = fm ss (p + l) n ∨ nx n ms ss l m g p = fm ms (p + m) n ∨ nx n ms ss l m g p = p + g ∨ nx n ms ss l m g p = n := by
      unfold nx
      omega
    rcases d with d | d | d | d
    · rcases a with ⟨h, h2⟩ | ⟨h, _⟩
      · exact .inr (.inr (.inl (by rw [d]; exact ⟨h, h2⟩)))
      · exact .inl (d.trans h)
    · rcases b with ⟨h, h2⟩ | ⟨h, _⟩
      · exact .inr (.inr (.inr (by rw [d]; exact ⟨h, h2⟩)))
      · exact .inl (d.trans h)
    · exact .inr (.inl d)
    · exact .inl d
theorem nx_is {n l m g p v : Int} {ms ss : List Int} (G : Good n ms ss) (h : NxP n ms ss l m g p v) : nx n ms ss l m g p = v := by
  have P := nx_props (l := l) (m := m) (g := g) (p := p) G
  have le : v ≤ nx n ms ss l m g p := by
    rcases P.is with d | d | ⟨d, d2⟩ | ⟨d, d2⟩
    · rw [d]; exact h.top
    · rw [d]; exact h.far
    · exact h.st _ d d2
    · exact h.pl _ d d2
  have ge : nx n ms ss l m g p ≤ v := by
    rcases h.is with d | d | ⟨d, d2⟩ | ⟨d, d2⟩
    · rw [d]; exact P.top
    · rw [d]; exact P.far
    · exact P.st _ d d2
    · exact P.pl _ d d2
  omega
end Cw
namespace Cw
open PySem L2
/-! ## bounds of settings that give cuts -/
def mx (x y : Int) : Int := if y > x then y else x
theorem mx_le {x y z : Int} : mx x y ≤ z ↔ x ≤ z ∧ y ≤ z := by
  unfold mx
  split <;> omega
theorem mx_l {x y : Int} : x ≤ mx x y := by
  unfold mx
  split <;> omega
theorem mx_r {x y : Int} : y ≤ mx x y := by
  unfold mx
  split <;> omega
/-- the greatest of some numbers from 1 on -/
structure MaxOf (P : Int → Prop) (m : Int) : Prop where
  is : m = 1 ∨ P m
  one : 1 ≤ m
  up : ∀ x, P x → x ≤ m
theorem MaxOf.nil {P : Int → Prop} (h : ∀ x, ¬ P x) : MaxOf P 1 := ⟨.inl rfl, Int.le_refl _, fun x hx => absurd hx (h x)⟩
theorem MaxOf.iff {P Q : Int → Prop} {m : Int} (h : MaxOf P m) (e : ∀ x, P x ↔ Q x) : MaxOf Q m := ⟨h.is.imp id (e m).mp, h.one, fun x hx => h.up x ((e x).mpr hx)⟩
theorem MaxOf.eq {P : Int → Prop} {m k : Int} (a : MaxOf P m) (b : MaxOf P k) : m = k := by
  have h1 : m ≤ k := by
    rcases a.is with e | e
    · have := b.one
      omega
    · exact b.up _ e
  have h2 : k ≤ m := by
    rcases b.is with e | e
    · have := a.one
      omega
    · exact a.up _ e
  omega
theorem MaxOf.add {P Q : Int → Prop} {m v : Int} (h : MaxOf P m) (hv : 1 ≤ v) (e : ∀ x, Q x ↔ P x ∨ x = v) : MaxOf Q (if v > m then v else m) := by
  have h1 := h.one
  refine ⟨?_, by split <;> omega, fun x hx => ?_⟩
  · split
    · exact .inr ((e v).mpr (.inr rfl))
    · exact h.is.imp id fun z => (e m).mpr (.inl z)
  · rcases (e x).mp hx with z | z
    · have := h.up x z
      split <;> omega
    · split <;> omega
/-- how far the last one between b and e is behind b -/
def LastW (xs : List Int) (b e w : Int) : Prop := (w = 0 ∧ ∀ y ∈ xs, ¬ (b < y ∧ y < e)) ∨ ∃ y ∈ xs, b < y ∧ y < e ∧ w = y - b ∧ ∀ z ∈ xs, b < z → z < e → z ≤ y
theorem MaxOf.last {P Q : Int → Prop} {m b e w : Int} {xs : List Int} (h : MaxOf P m) (l : LastW xs b e w) (hQ : ∀ x, Q x ↔ P x ∨ ∃ y ∈ xs, b < y ∧ y < e ∧ x = y - b + 1) : MaxOf Q (if w + 1 > m then w + 1 else m) := by
  have h1 := h.one
  rcases l with ⟨e0, no⟩ | ⟨y, hy, y1, y2, ew, top⟩
  · rw [if_neg (by omega)]
    refine h.iff fun x => (hQ x).trans ⟨fun z => z.elim id fun ⟨y, hy, a, b, _⟩ => absurd ⟨a, b⟩ (no y hy), .inl⟩ |>.symm
  · refine ⟨?_, by split <;> omega, fun x hx => ?_⟩
    · split
      · exact .inr ((hQ _).mpr (.inr ⟨y, hy, y1, y2, by omega⟩))
      · exact h.is.imp id fun z => (hQ m).mpr (.inl z)
    · rcases (hQ x).mp hx with z | ⟨y', hy', a1, a2, a3⟩
      · have := h.up x z
        split <;> omega
      · have := top y' hy' a1 a2
        split <;> omega
/-- the least of some numbers, or none -/
def MinOf (P : Int → Prop) : Option Int → Prop
  | none => ∀ x, ¬ P x
  | some m => P m ∧ ∀ x, P x → m ≤ x
theorem MinOf.eq {P : Int → Prop} : ∀ {a b : Option Int}, MinOf P a → MinOf P b → a = b
  | none, none, _, _ => rfl
  | none, some _, h, k => absurd k.1 (h _)
  | some _, none, h, k => absurd h.1 (k _)
  | some x, some y, h, k => by
    have := h.2 y k.1
    have := k.2 x h.1
    congr 1
    omega
theorem MinOf.iff {P Q : Int → Prop} : ∀ {o : Option Int}, MinOf P o → (∀ x, P x ↔ Q x) → MinOf Q o
  | none, h, e => fun x hx => h x ((e x).mpr hx)
  | some _, h, e => ⟨(e _).mp h.1, fun x hx => h.2 x ((e x).mpr hx)⟩
/-- the j-th cut -/
abbrev cAt (cuts : List Int) (j : Nat) : Int := cuts.getD j 0
def PL (cuts : List Int) (K : Nat) (xs : List Int) (x : Int) : Prop := ∃ j, j < K ∧ ∃ y ∈ xs, cAt cuts j < y ∧ y < cAt cuts (j + 1) ∧ x = y - cAt cuts j + 1
def PG (cuts : List Int) (K : Nat) (x : Int) : Prop := ∃ j, j < K ∧ x = cAt cuts (j + 1) - cAt cuts j
def PT (cuts : List Int) (K : Nat) (n : Int) (φ : Int → Prop) (x : Int) : Prop := ∃ j, j < K ∧ cAt cuts (j + 1) < n ∧ φ (cAt cuts (j + 1)) ∧ x = cAt cuts (j + 1) - cAt cuts j
theorem PL_succ {cuts : List Int} {K : Nat} {xs : List Int} (x : Int) : PL cuts (K + 1) xs x ↔ PL cuts K xs x ∨ ∃ y ∈ xs, cAt cuts K < y ∧ y < cAt cuts (K + 1) ∧ x = y - cAt cuts K + 1 := by
  constructor
  · rintro ⟨j, hj, h⟩
    by_cases c : j < K
    · exact .inl ⟨j, c, h⟩
    · have : j = K := by omega
      subst this
      exact .inr h
  · rintro (⟨j, hj, h⟩ | h)
    · exact ⟨j, by omega, h⟩
    · exact ⟨K, by omega, h⟩
theorem PG_succ {cuts : List Int} {K : Nat} (x : Int) : PG cuts (K + 1) x ↔ PG cuts K x ∨ x = cAt cuts (K + 1) - cAt cuts K := by
  constructor
  · rintro ⟨j, hj, h⟩
    by_cases c : j < K
    · exact .inl ⟨j, c, h⟩
    · have : j = K := by omega
      subst this
      exact .inr h
  · rintro (⟨j, hj, h⟩ | h)
    · exact ⟨j, by omega, h⟩
    · exact ⟨K, by omega, h⟩
theorem PT_succ {cuts : List Int} {K : Nat} {n : Int} {φ : Int → Prop} (x : Int) : PT cuts (K + 1) n φ x ↔ PT cuts K n φ x ∨ (cAt cuts (K + 1) < n ∧ φ (cAt cuts (K + 1)) ∧ x = cAt cuts (K + 1) - cAt cuts K) := by
  constructor
  · rintro ⟨j, hj, h⟩
    by_cases c : j < K
    · exact .inl ⟨j, c, h⟩
    · have : j = K := by omega
      subst this
      exact .inr h
  · rintro (⟨j, hj, h⟩ | h)
    · exact ⟨j, by omega, h⟩
    · exact ⟨K, by omega, h⟩
/-- a list of cuts -/
structure CutsOk (n : Int) (cuts : List Int) (K : Nat) : Prop where
  len : cuts.length = K + 1
  few : K ≤ 200
  asc : Asc cuts
  rng : ∀ x ∈ cuts, 0 ≤ x ∧ x ≤ n
  last : cAt cuts K = n
theorem CutsOk.mem {n : Int} {cuts : List Int} {K j : Nat} (C : CutsOk n cuts K) (h : j ≤ K) : cAt cuts j ∈ cuts := by
  have hl := C.len
  have e : cAt cuts j = cuts[j]'(by omega) := by
    show cuts.getD j 0 = _
    rw [List.getD_eq_getElem?_getD, List.getElem?_eq_getElem (by omega)]
    rfl
  rw [e]
  exact List.getElem_mem _
theorem CutsOk.at {n : Int} {cuts : List Int} {K j : Nat} (C : CutsOk n cuts K) (h : j ≤ K) : cuts[j]? = some (cAt cuts j) := by
  have hl := C.len
  show _ = some (cuts.getD j 0)
  rw [List.getD_eq_getElem?_getD, List.getElem?_eq_getElem (by omega)]
  rfl
theorem CutsOk.lt {n : Int} {cuts : List Int} {K i j : Nat} (C : CutsOk n cuts K) (h : i < j) (hj : j ≤ K) : cAt cuts i < cAt cuts j := by
  have hl := C.len
  have a := List.pairwise_iff_getElem.mp C.asc i j (by omega) (by omega) h
  have e1 := C.at (j := i) (by omega)
  have e2 := C.at hj
  rw [List.getElem?_eq_getElem (by omega)] at e1 e2
  rw [← Option.some.inj e1, ← Option.some.inj e2]
  exact a
theorem CutsOk.lt_n {n : Int} {cuts : List Int} {K j : Nat} (C : CutsOk n cuts K) (h : j < K) : cAt cuts j < n := by
  rw [← C.last]
  exact C.lt h (Nat.le_refl _)
def plM (ms ss : List Int) : List Int := ms.filter fun x => decide (x ∉ ss)
theorem mem_pl {ms ss : List Int} {x : Int} : x ∈ plM ms ss ↔ x ∈ ms ∧ x ∉ ss := by
  unfold plM
  rw [List.mem_filter, decide_eq_true_iff]
structure Lo (cuts : List Int) (K : Nat) (ms ss : List Int) (L N G : Int) : Prop where
  l : MaxOf (PL cuts K ss) L
  p : MaxOf (PL cuts K (plM ms ss)) N
  g : MaxOf (PG cuts K) G
structure Hi (cuts : List Int) (K : Nat) (n : Int) (ms ss : List Int) (a b c : Option Int) : Prop where
  l : MinOf (PT cuts K n fun e => e ∈ ss) a
  p : MinOf (PT cuts K n fun e => e ∈ ms ∧ e ∉ ss) b
  g : MinOf (PT cuts K n fun e => e ∉ ms) c
/-- whether some settings lie within the bounds -/
def OkS (L N G : Int) (a b c : Option Int) : Prop := (∀ t, a = some t → L ≤ t) ∧ (∀ t, b = some t → mx L N ≤ t) ∧ ∀ t, c = some t → mx (mx L N) G ≤ t
/-- settings within the bounds -/
structure Within (L N G : Int) (a b c : Option Int) (l m g : Int) : Prop where
  l1 : L ≤ l
  n1 : N ≤ m
  g1 : G ≤ g
  l2 : ∀ t, a = some t → l ≤ t
  n2 : ∀ t, b = some t → m ≤ t
  g2 : ∀ t, c = some t → g ≤ t
theorem Within.ok {L N G l m g : Int} {a b c : Option Int} (w : Within L N G a b c l m g) (S : SetOk l m g) : OkS L N G a b c := by
  have h1 := w.l1
  have h2 := w.n1
  have h3 := w.g1
  have s1 := S.lm
  have s2 := S.mg
  refine ⟨fun t e => ?_, fun t e => ?_, fun t e => ?_⟩
  · have := w.l2 t e
    omega
  · have := w.n2 t e
    exact mx_le.mpr ⟨by omega, by omega⟩
  · have := w.g2 t e
    exact mx_le.mpr ⟨mx_le.mpr ⟨by omega, by omega⟩, by omega⟩
theorem steps_of {n l m g L N G : Int} {ms ss cuts : List Int} {a b c : Option Int} {K : Nat} (R : Good n ms ss) (S : SetOk l m g) (C : CutsOk n cuts K) (lo : Lo cuts K ms ss L N G) (hi : Hi cuts K n ms ss a b c) (w : Within L N G a b c l m g) {j : Nat} (hj : j < K) : nx n ms ss l m g (cAt cuts j) = cAt cuts (j + 1) := by
  have lt := C.lt (show j < j + 1 by omega) (show j + 1 ≤ K by omega)
  have rg := C.rng _ (C.mem (show j + 1 ≤ K by omega))
  have w1 := w.l1
  have w2 := w.n1
  have w3 := w.g1
  have s1 := S.lm
  have s2 := S.mg
  have gG := lo.g.up _ ⟨j, hj, rfl⟩
  refine nx_is R ⟨rg.2, by omega, fun x hx h => ?_, fun x hx h => ?_, ?_⟩
  · by_cases d : x < cAt cuts (j + 1)
    · have := lo.l.up _ ⟨j, hj, x, hx, by have := S.l1; omega, d, rfl⟩
      omega
    · omega
  · by_cases d : x < cAt cuts (j + 1)
    · have l1 := S.l1
      by_cases e : x ∈ ss
      · have := lo.l.up _ ⟨j, hj, x, e, by omega, d, rfl⟩
        omega
      · have := lo.p.up _ ⟨j, hj, x, mem_pl.mpr ⟨hx, e⟩, by omega, d, rfl⟩
        omega
    · omega
  · by_cases d : cAt cuts (j + 1) < n
    · by_cases e : cAt cuts (j + 1) ∈ ss
      · cases ea : a with
        | none =>
          have z := hi.l
          rw [ea] at z
          exact absurd ⟨j, hj, d, e, rfl⟩ (z _)
        | some t =>
          have z := hi.l
          rw [ea] at z
          have y := z.2 _ ⟨j, hj, d, e, rfl⟩
          have := w.l2 t ea
          exact .inr (.inr (.inl ⟨e, by omega⟩))
      · by_cases f : cAt cuts (j + 1) ∈ ms
        · cases eb : b with
          | none =>
            have z := hi.p
            rw [eb] at z
            exact absurd ⟨j, hj, d, ⟨f, e⟩, rfl⟩ (z _)
          | some t =>
            have z := hi.p
            rw [eb] at z
            have y := z.2 _ ⟨j, hj, d, ⟨f, e⟩, rfl⟩
            have := w.n2 t eb
            exact .inr (.inr (.inr ⟨f, by omega⟩))
        · cases ec : c with
          | none =>
            have z := hi.g
            rw [ec] at z
            exact absurd ⟨j, hj, d, f, rfl⟩ (z _)
          | some t =>
            have z := hi.g
            rw [ec] at z
            have y := z.2 _ ⟨j, hj, d, f, rfl⟩
            have := w.g2 t ec
            exact .inr (.inl (by omega))
    · exact .inl (by omega)
theorem within_of {n l m g L N G : Int} {ms ss cuts : List Int} {a b c : Option Int} {K : Nat} (R : Good n ms ss) (S : SetOk l m g) (C : CutsOk n cuts K) (lo : Lo cuts K ms ss L N G) (hi : Hi cuts K n ms ss a b c) (st : ∀ j, j < K → nx n ms ss l m g (cAt cuts j) = cAt cuts (j + 1)) : Within L N G a b c l m g := by
  have s1 := S.lm
  have s2 := S.mg
  have l1 := S.l1
  have P : ∀ j, j < K → NxP n ms ss l m g (cAt cuts j) (cAt cuts (j + 1)) := fun j hj => by
    have z := nx_props R (l := l) (m := m) (g := g) (p := cAt cuts j)
    rw [st j hj] at z
    exact z
  refine ⟨?_, ?_, ?_, fun t e => ?_, fun t e => ?_, fun t e => ?_⟩
  · rcases lo.l.is with e | ⟨j, hj, y, hy, y1, y2, e⟩
    · omega
    · have z := (P j hj).st y hy
      omega
  · rcases lo.p.is with e | ⟨j, hj, y, hy, y1, y2, e⟩
    · omega
    · have z := (P j hj).pl y (mem_pl.mp hy).1
      omega
  · rcases lo.g.is with e | ⟨j, hj, e⟩
    · omega
    · have z := (P j hj).far
      omega
  · have z := hi.l
    rw [e] at z
    obtain ⟨⟨j, hj, d, f, ex⟩, _⟩ := z
    rcases (P j hj).is with h | h | h | h <;> omega
  · have z := hi.p
    rw [e] at z
    obtain ⟨⟨j, hj, d, f, ex⟩, _⟩ := z
    rcases (P j hj).is with h | h | h | h
    · omega
    · omega
    · exact absurd h.1 f.2
    · omega
  · have z := hi.g
    rw [e] at z
    obtain ⟨⟨j, hj, d, f, ex⟩, _⟩ := z
    rcases (P j hj).is with h | h | h | h
    · omega
    · omega
    · exact absurd (R.sub _ h.1) f
    · exact absurd h.1 f
theorem chain_wl {F : Int → Int} {n : Int} {cuts : List Int} {K : Nat} (C : CutsOk n cuts K) (st : ∀ j, j < K → F (cAt cuts j) = cAt cuts (j + 1)) : WkOk F n (cAt cuts 0) K ∧ wl F n (cAt cuts 0) K = cuts := by
  have key : ∀ j, j ≤ K → kc F n (cAt cuts 0) j = cAt cuts j := fun j => by
    induction j with
    | zero => exact fun _ => rfl
    | succ j ih =>
      intro h
      have e := ih (by omega)
      have lt : kc F n (cAt cuts 0) j < n := by rw [e]; exact C.lt_n (by omega)
      rw [kc_at lt, e]
      exact st j (by omega)
  refine ⟨⟨C.few, by rw [key K (Nat.le_refl _)]; exact C.last, fun i hi => by rw [key i (by omega)]; exact C.lt_n hi⟩, ?_⟩
  refine List.ext_getElem? fun i => ?_
  unfold wl
  rw [List.getElem?_map]
  by_cases h : i ≤ K
  · rw [List.getElem?_range (by omega), C.at h]
    show some (kc F n (cAt cuts 0) i) = _
    rw [key i h]
  · have hl := C.len
    rw [List.getElem?_eq_none (by rw [List.length_range]; omega), List.getElem?_eq_none (by omega)]
    rfl
theorem wl_cuts {F : Int → Int} {n l s : Int} {k : Nat} (S : Stp F n l) (w : WkOk F n s k) (s0 : 0 ≤ s) (sn : s ≤ n) : CutsOk n (wl F n s k) k := by
  have e : ∀ j, j ≤ k → cAt (wl F n s k) j = kc F n s j := fun j h => by
    show (wl F n s k).getD j 0 = _
    unfold wl
    rw [List.getD_eq_getElem?_getD, List.getElem?_map, List.getElem?_range (by omega)]
    rfl
  have up : ∀ i j, i < j → j ≤ k → kc F n s i < kc F n s j := fun i j h hj => by
    have lt := w.bef i (by omega)
    have a := S.gt lt
    rw [← kc_at lt] at a
    have b := kc_wk S (s := s) (show i + 1 ≤ j by omega)
    omega
  refine ⟨wl_len, w.few, ?_, fun x hx => ?_, by rw [e k (Nat.le_refl _)]; exact w.fin⟩
  · unfold wl
    refine List.pairwise_map.mpr (List.pairwise_lt_range.imp_of_mem fun {i j} hi hj h => up i j h ?_)
    have := List.mem_range.mp hj
    omega
  · obtain ⟨j, _, rfl⟩ := List.mem_map.mp hx
    have a := kc_wk S (s := s) (Nat.zero_le j)
    have b := kc_le S sn j
    have c : kc F n s 0 = s := rfl
    omega
theorem wl_steps {F : Int → Int} {n s : Int} {k : Nat} (w : WkOk F n s k) {j : Nat} (hj : j < k) : F (cAt (wl F n s k) j) = cAt (wl F n s k) (j + 1) := by
  have e : ∀ j, j ≤ k → cAt (wl F n s k) j = kc F n s j := fun j h => by
    show (wl F n s k).getD j 0 = _
    unfold wl
    rw [List.getD_eq_getElem?_getD, List.getElem?_map, List.getElem?_range (by omega)]
    rfl
  rw [e j (by omega), e (j + 1) (by omega), kc_at (w.bef j hj)]
end Cw
namespace Cw
open PySem PySem.Spec PyProof.Rows PySem.SeqAt L2
/-! ## min(xs, default=None) -/
section
variable {X : Cx}
def rMinN (K : PySem.W.Frag) : List V → List V → Hp → VK → Prop := fun xs zs H Q => ∃ (a : Addr) (ns : List Int), xs = [.ref a] ∧ SqL K H a (ns.map V.int) ∧ zs = [.non] ∧ (ns = [] → Q .non H) ∧ ∀ M, M ∈ ns → (∀ y ∈ ns, M ≤ y) → Q (.int M) H
theorem fold_min (n : Int) : ∀ (ns : List Int), ns.foldl min n ≤ n ∧ (∀ y ∈ ns, ns.foldl min n ≤ y) ∧ (ns.foldl min n = n ∨ ns.foldl min n ∈ ns) := by
  intro ns
  induction ns generalizing n with
  | nil => exact ⟨Int.le_refl _, fun _ h => (nomatch h), .inl rfl⟩
  | cons k r ih =>
    rw [List.foldl_cons]
    obtain ⟨h1, h2, h3⟩ := ih (min n k)
    refine ⟨Int.le_trans h1 (Int.min_le_left _ _), fun y hy => ?_, ?_⟩
    · rcases List.mem_cons.mp hy with rfl | hy
      · exact Int.le_trans h1 (Int.min_le_right _ _)
      · exact h2 y hy
    · rcases h3 with e | e
      · rw [e]
        by_cases c : n ≤ k
        · exact .inl (Int.min_eq_left c)
        · exact .inr (by rw [Int.min_eq_right (by omega)]; exact List.mem_cons_self ..)
      · exact .inr (List.mem_cons_of_mem _ e)
theorem cr_minN (hc : X.calm = true) (hu : X.A.units + 3 < cLine) : CallRK X (.builtin "min") ["default"] (rMinN X.K) := by
  intro pins s σ H xs zs us ws Q I r rz h
  obtain ⟨a, ns, rfl, hs, rfl, q0, q⟩ := h
  obtain ⟨its, rv, pl, _⟩ := I.list hs
  rw [Vals.ref1 r]
  obtain ⟨u, rfl, ru⟩ := vals1 rz
  obtain rfl : u = Value.none := ru
  have dpi : ∀ ns : List Int, DpAll X.K H (ns.map V.int) (ns.map PyData.int) := fun ns => by
    induction ns with
    | nil => exact .nil
    | cons n r ih => exact .cons (.int n) ih
  have dpt : ∀ ns : List Int, PyData.depthAll (ns.map PyData.int) ≤ 1 := fun ns => by
    induction ns with
    | nil => exact Nat.zero_le _
    | cons n r ih =>
      rw [List.map_cons]
      unfold PyData.depthAll PyData.depth
      omega
  obtain ⟨as, hr⟩ := Dp.readsAll I _ _ _ (dpi ns) rv
  have hd := dpt ns
  refine PySem.W.min_list_default (vs := its.toArray) (I.ok.hd hc) pl.isList (by rw [List.toList_toArray]; exact hr) (alike_ints ns) (by omega) (fun e h' tk k' => ?_) (fun y ys i v h' tk bs e _ rd k' => ?_)
  · exact ⟨.non, H, I.kept k', rfl, q0 (List.map_eq_nil_iff.mp e)⟩
  · cases ns with
    | nil => cases e
    | cons n r =>
      rw [List.map_cons] at e
      injection e with e1 e2
      subst e1 e2
      rw [PySem.W.minD_ints] at rd
      cases rd with
      | int i t =>
        obtain ⟨f1, f2, f3⟩ := fold_min n r
        refine ⟨.int (r.foldl min n), H, I.kept k', ⟨t, rfl⟩, q _ ?_ fun y hy => ?_⟩
        · rcases f3 with e | e
          · rw [e]
            exact List.mem_cons_self ..
          · exact List.mem_cons_of_mem _ e
        · rcases List.mem_cons.mp hy with rfl | hy
          · exact f1
          · exact f2 y hy
end
end Cw
namespace Cw
open PySem L2
abbrev sPm : Stmt := top 15
abbrev sLw : Stmt := top 17
abbrev sLb : Stmt := top 16
abbrev sTb : Stmt := top 18
abbrev sSos : Stmt := top 19
abbrev sSf : Stmt := top 13
theorem cut_tail {α : Type} (f : α → V) (xs : List α) : cutV (xs.map f) (some 1) none = (xs.drop 1).map f := by
  unfold cutV
  have e : HT.sIx (xs.map f).length 0 (some 1) = min 1 (xs.map f).length := HT.sIx_nat _ _ 1
  rw [e, HT.sIx_none, List.map_drop]
  by_cases h : xs.length = 0
  · have : xs = [] := List.length_eq_zero_iff.mp h
    subst this
    rfl
  · rw [show min 1 (xs.map f).length = 1 by rw [List.length_map]; omega, List.take_of_length_le]
    rw [List.length_drop]
    exact Nat.le_refl _
theorem cut_init {α : Type} (f : α → V) (xs : List α) : cutV (xs.map f) none (some (-1)) = xs.dropLast.map f := by
  have e : HT.sIx (xs.map f).length (xs.map f).length (some (-1)) = ((-1 : Int) + (((xs.map f).length : Nat) : Int)).toNat := by
    show (if (-1 : Int) < 0 then ((-1 : Int) + _).toNat else min (-1 : Int).toNat (xs.map f).length) = _
    rw [if_pos (by decide)]
  unfold cutV
  rw [e, HT.sIx_none, List.drop_zero, List.dropLast_eq_take, List.map_take, List.length_map]
  congr 1
  omega
def oV : Option Int → V
  | none => .non
  | some k => .int k
theorem zip_cuts {n : Int} {cuts : List Int} {K i : Nat} {x1 x2 : V} (C : CutsOk n cuts K) (hi : i < K) (e1 : (cuts.map V.int)[i]? = some x1) (e2 : ((cuts.drop 1).map V.int)[i]? = some x2) : x1 = .int (cAt cuts i) ∧ x2 = .int (cAt cuts (i + 1)) := by
  rw [List.getElem?_map, C.at (by omega)] at e1
  rw [List.getElem?_map, List.getElem?_drop, show 1 + i = i + 1 by omega, C.at (by omega)] at e2
  exact ⟨(Option.some.inj e1).symm, (Option.some.inj e2).symm⟩
def spPm (C : Addr) : Sp := fun vs H Q _ => ∃ (r : Addr) (n : Int) (ms ss : List Int), vs = [.ref r] ∧ RowAt C H r n ms ss ∧ Good n ms ss ∧ ∀ q H', Same H H' → H q = none → IL H' q (plM ms ss) → Q (.ref q) H'
def spLw : Sp := fun vs H Q _ => ∃ (a : Addr) (xs : List Int) (b e : Int), vs = [.ref a, .int b, .int e] ∧ IL H a xs ∧ Asc xs ∧ xs.length ≤ 400 ∧ ∀ x, LastW xs b e x → Q (.int x) H
def spLb (C : Addr) : Sp := fun vs H Q _ => ∃ (r c : Addr) (n : Int) (ms ss cuts : List Int) (K' : Nat), vs = [.ref r, .ref c] ∧ RowAt C H r n ms ss ∧ Good n ms ss ∧ IL H c cuts ∧ CutsOk n cuts K' ∧
  ∀ (q : Addr) (H' : Hp) (L N G : Int), Same H H' → H q = none → IL H' q [L, N, G] → Lo cuts K' ms ss L N G → Q (.ref q) H'
def spTb (C : Addr) : Sp := fun vs H Q _ => ∃ (r c : Addr) (n : Int) (ms ss cuts : List Int) (K' : Nat), vs = [.ref r, .ref c] ∧ RowAt C H r n ms ss ∧ Good n ms ss ∧ IL H c cuts ∧ CutsOk n cuts K' ∧
  ∀ (q : Addr) (H' : Hp) (x y z : Option Int), Same H H' → H q = none → H' q = some (.lst [oV x, oV y, oV z]) → Hi cuts K' n ms ss x y z → Q (.ref q) H'
def spSos : Sp := fun vs H Q _ => ∃ (p q : Addr) (L N G : Int) (x y z : Option Int), vs = [.ref p, .ref q] ∧ IL H p [L, N, G] ∧ H q = some (.lst [oV x, oV y, oV z]) ∧ 1 ≤ L ∧ ∀ (H' : Hp) (b : Bool), Same H H' → (b = true ↔ OkS L N G x y z) → Q (.bl b) H'
def spSf (C : Addr) : Sp := fun vs H Q _ => ∃ (r c : Addr) (n : Int) (ms ss cuts : List Int) (K' : Nat), vs = [.ref r, .ref c] ∧ RowAt C H r n ms ss ∧ Good n ms ss ∧ IL H c cuts ∧ CutsOk n cuts K' ∧
  ∀ (H' : Hp) (L N G : Int) (x y z : Option Int), Same H H' → Lo cuts K' ms ss L N G → Hi cuts K' n ms ss x y z → (¬ OkS L N G x y z → Q .non H') ∧ (OkS L N G x y z → ∀ p, H' p = none → Q (.ref p) (upd H' p (.tup [.int L, oV x, .int N, oV y, .int G, oV z])))
section
variable {P : Program} {w : World} {K : PySem.W.Frag} {mg : Str → Option Value} {base : Heap}
abbrev NPm : List Str := ["row", "strict", "mark"]
theorem scPm : FnScope NPm ["row"] (defScope sPm) := ⟨rfl, rfl, rfl, by decide +kernel, rfl, by decide +kernel, by decide +kernel⟩
theorem ok_pm {f C pL fGL pM fGM pS fGS : Addr} {fd dL dM dS : FuncData} (F : Fun K "plain_marks" "plain_marks" sPm f fd) (T : Bl mg) (R : Cl K mg C) (Gs : Gets P w K mg base C pL fGL pM fGM pS fGS dL dM dS) :
    FnOk P w K mg base CX0 3 f fd ["row"] (spPm C) := by
  refine F.ok scPm (fun vs H Q E h => ?_) (fun cdv A outer s H vs Q E hr h => ?_)
  · obtain ⟨r, n, ms, ss, rfl, _⟩ := h
    rfl
  · obtain ⟨r, n, ms, ss, rfl, row, G, q⟩ := h
    refine ⟨_, (pss_cons (ps_set (i := 1) scPm.nd rfl (Or.inr rfl) (pe_callTy (show CallR _ (.type "set") (rSetOfW K w) from cr_setOf rfl) (by rfl) T.set (by decide +kernel) (pa_cons (pe_prop (pv 0) R.cl Gs.hS Gs.GS (hr.mono (by decide)) Gs.bS .nil pass0 rfl) pa_nil)))
        (pss_one (ps_ret (pe_lc (own := [("mark", 2)]) (g := (gName 2)) rfl scPm.nd (pi_list (pe_prop (pv 0) R.cl Gs.hM Gs.GM (hr.mono (by decide)) Gs.bM .nil pass0 rfl)) (blkOk_by (own := [("mark", 2)]) (N := NPm) (sc := defScope sPm) (by decide +kernel)) (fun _ _ _ _ _ => (pg_name (i := 2) scPm.nd rfl (Or.inl rfl))) (fun _ _ _ _ _ => (pts_one (pt_cmpR (show OpR _ (compareOp .NotIn) (rSNotIn w) from or_snotin) (pv 2) (pv 1) (by rfl)))) (fun _ _ _ _ _ => (pv 2)))))), ?_⟩
    obtain ⟨dx, _, _, ho, _, _⟩ := id row
    have ml := G.len
    have sl := G.len2
    refine ⟨_, rfl, r, dx, _, rfl, ho, r, n, ms, ss, rfl, row, fun c H1 s1 nc ic => ⟨c, ss, rfl, SqL.of ic, by omega, fun p cc hc hp => ?_⟩⟩
    have s2 := same_new (o := SetO w p (fun j => decide (j ∈ ss)) cc) (Same.refl H1) hp
    have k2 : upd H1 p (SetO w p (fun j => decide (j ∈ ss)) cc) p = some (SetO w p (fun j => decide (j ∈ ss)) cc) := upd_same
    generalize upd H1 p (SetO w p (fun j => decide (j ∈ ss)) cc) = H2 at s2 k2 ⊢
    have s02 := s1.trans s2
    try dsimp only [L2.start, List.set, List.map, List.append, List.replicate, List.length]
    refine ⟨_, rfl, r, dx, _, rfl, s02 _ _ ho, r, n, ms, ss, rfl, row.same s02, fun c2 H3 s3 nc2 ic2 => ⟨c2, rfl, ⟨_, SqL.of ic2⟩, fun D hD => ?_⟩⟩
    refine lcF (α := Int) (K := K) (src := ms.map V.int) (xs := ms) (fun x => decide (x ∉ ss)) (fun x => x) (fun H' s => SqL.of (s _ _ ic2)) (by rw [List.length_map]) hD (by omega) ?_ ?_
    · intro i x z H4 A' B' hx hz s4 ka kb
      obtain ⟨z3, rfl, hz3⟩ := il_at hx
      rw [hz] at hz3
      cases hz3
      refine ⟨rfl, _, rfl, _, rfl, z, p, _, cc, rfl, rfl, s4 _ _ (s3 _ _ k2), _, rfl, ?_⟩
      by_cases c1 : z ∈ ss
      · refine ifF (by rw [decide_eq_true c1]; rfl) ?_
        exact kb _ (decide_eq_false fun h => h c1) (Same.refl _)
      · refine ifT (by rw [decide_eq_false c1]; rfl) ?_
        exact ⟨_, rfl, ka _ (decide_eq_true c1) (Same.refl _)⟩
    intro H4 s4 hE
    rw [List.map_id'] at hE
    exact q D H4 (s02.trans (s3.trans s4)) ((s02.trans s3).free hD) hE
abbrev NLw : List Str := ["marks", "begin", "end", "at"]
theorem scLw : FnScope NLw ["marks", "begin", "end"] (defScope sLw) := ⟨rfl, rfl, rfl, by decide +kernel, rfl, by decide +kernel, by decide +kernel⟩
theorem ok_lw {f fB : Addr} {fd fdB : FuncData} (F : Fun K "last_within" "last_within" sLw f fd) (T : Bl mg)
    (gB : mg "count_before" = some (.ref fB)) (kB : PySem.W.keepIn K (.ref fB) = true) (bB : Binds K fdB ["places", "place"] []) (GB : FnOk P w K mg base CX0 1 fB fdB ["places", "place"] spCB) :
    FnOk P w K mg base CX0 2 f fd ["marks", "begin", "end"] (spLw) := by
  refine F.ok scLw (fun vs H Q E h => ?_) (fun cdv A outer s H vs Q E hr h => ?_)
  · obtain ⟨a, xs, b, e, rfl, _⟩ := h
    rfl
  · obtain ⟨a, xs, b, e, rfl, hA, asc, few, q⟩ := h
    refine ⟨_, (pss_cons (ps_set (i := 3) scLw.nd rfl (Or.inl rfl) (pe_call GB (hr.mono (by decide)) rfl gB kB bB .nil pass0 (pa_cons (pv 0) (pa_cons (pv 2) pa_nil))))
        (pss_cons (ps_if (pt_cmpR op_eq (pv 3) pe_int (nomark _)) (pss_one (ps_ret pe_int)) pss_nil)
        (pss_one (ps_ret (pe_callB (call_max2 rfl) (by rfl) T.max (by decide +kernel) (pa_cons (pe_op op_sub (pe_ix (r := rIxL K) ix_list (pv 0) (pe_op op_sub (pv 3) pe_int) (fun _ _ => rfl)) (pv 1)) (pa_cons pe_int pa_nil))))))), ?_⟩
    refine ⟨_, rfl, _, rfl, a, xs, e, rfl, hA, by omega, asc, ?_⟩
    obtain ⟨lo, hi⟩ := cb_split asc e
    have cl := cb_le (ns := xs) (z := e)
    try dsimp only [L2.start, List.set, List.map, List.append, List.replicate, List.length]
    refine ⟨_, rfl, rfl, _, rfl, ?_⟩
    by_cases c : cb xs e = 0
    · refine ifT (decide_eq_true (by rw [c]; rfl)) ?_
      refine q 0 (.inl ⟨rfl, fun y hy h => ?_⟩)
      obtain ⟨i, hi', rfl⟩ := List.mem_iff_getElem.mp hy
      have := hi i (by omega) _ (List.getElem?_eq_getElem hi')
      omega
    · refine ifF (decide_eq_false fun z => c (by have := V.int.inj z; omega)) ?_
      have il : cb xs e - 1 < xs.length := by omega
      have hy := List.getElem?_eq_getElem il
      refine ⟨_, rfl, _, rfl, _, _, rfl, rfl, a, _, _, _, rfl, rfl, SqL.of hA, at_of2 (j := cb xs e - 1) (by omega) (by rw [List.getElem?_map, hy]; rfl), _, rfl, _, _, rfl, rfl, _, _, rfl, ?_⟩
      generalize hv : xs[cb xs e - 1] = v at hy
      have v1 := lo (cb xs e - 1) (by omega) _ hy
      have vm := List.mem_of_getElem? hy
      have top : ∀ z ∈ xs, z < e → z ≤ v := fun z hz h => by
        obtain ⟨i, hi', rfl⟩ := List.mem_iff_getElem.mp hz
        by_cases d : i < cb xs e
        · by_cases f : i = cb xs e - 1
          · subst f
            omega
          · have := List.pairwise_iff_getElem.mp asc i (cb xs e - 1) hi' il (by omega)
            omega
        · have := hi i (by omega) _ (List.getElem?_eq_getElem hi')
          omega
      refine q _ ?_
      by_cases d : b < v
      · rw [if_neg (by omega)]
        exact .inr ⟨v, vm, d, v1, rfl, fun z hz _ h2 => top z hz h2⟩
      · refine .inl ⟨by split <;> omega, fun y hy' h => ?_⟩
        have := top y hy' h.2
        omega
abbrev NLb : List Str := ["row", "cuts", "strict", "plain", "least", "normal", "greatest", "begin", "end"]
theorem scLb : FnScope NLb ["row", "cuts"] (defScope sLb) := ⟨rfl, rfl, rfl, by decide +kernel, rfl, by decide +kernel, by decide +kernel⟩
theorem ok_lb {f C fP fW pL fGL pM fGM pS fGS : Addr} {fd fdP fdW dL dM dS : FuncData} (F : Fun K "low_bounds" "low_bounds" sLb f fd) (T : Bl mg) (R : Cl K mg C) (Gs : Gets P w K mg base C pL fGL pM fGM pS fGS dL dM dS)
    (gP : mg "plain_marks" = some (.ref fP)) (kP : PySem.W.keepIn K (.ref fP) = true) (bP : Binds K fdP ["row"] []) (GP : FnOk P w K mg base CX0 3 fP fdP ["row"] (spPm C))
    (gW : mg "last_within" = some (.ref fW)) (kW : PySem.W.keepIn K (.ref fW) = true) (bW : Binds K fdW ["marks", "begin", "end"] []) (GW : FnOk P w K mg base CX0 2 fW fdW ["marks", "begin", "end"] spLw) :
    FnOk P w K mg base CX0 4 f fd ["row", "cuts"] (spLb C) := by
  refine F.ok scLb (fun vs H Q E h => ?_) (fun cdv A outer s H vs Q E hr h => ?_)
  · obtain ⟨r, c, n, ms, ss, cuts, K', rfl, _⟩ := h
    rfl
  · obtain ⟨r, c, n, ms, ss, cuts, K', rfl, row, G, hC, CO, q⟩ := h
    refine ⟨_, (pss_cons (ps_set (i := 2) scLb.nd rfl (Or.inl rfl) (pe_prop (pv 0) R.cl Gs.hS Gs.GS (hr.mono (by decide)) Gs.bS .nil pass0 rfl))
        (pss_cons (ps_set (i := 3) scLb.nd rfl (Or.inl rfl) (pe_call GP (hr.mono (by decide)) rfl gP kP bP .nil pass0 (pa_cons (pv 0) pa_nil)))
        (pss_cons (ps_asg3 pe_int (pg_name (i := 4) scLb.nd rfl (Or.inl rfl)) (pg_name (i := 5) scLb.nd rfl (Or.inl rfl)) (pg_name (i := 6) scLb.nd rfl (Or.inl rfl)))
        (pss_cons (ps_for PassesOwn.never rfl (pi_zip (by rfl) T.zip (pa_cons (pv 1) (pa_cons (pe_slice sl_list (pv 1) (po_some pe_int) po_none) pa_nil))) (pg_tup rfl (pgs_cons (pg_name (i := 7) scLb.nd rfl (Or.inl rfl)) (pgs_cons (pg_name (i := 8) scLb.nd rfl (Or.inl rfl)) pgs_nil)))
        (pss_cons (ps_set (i := 4) scLb.nd rfl (Or.inl rfl) (pe_callB (call_max2 rfl) (by rfl) T.max (by decide +kernel) (pa_cons (pv 4) (pa_cons (pe_op op_add (pe_call GW (hr.mono (by decide)) rfl gW kW bW .nil pass0 (pa_cons (pv 2) (pa_cons (pv 7) (pa_cons (pv 8) pa_nil)))) pe_int) pa_nil))))
        (pss_cons (ps_set (i := 5) scLb.nd rfl (Or.inl rfl) (pe_callB (call_max2 rfl) (by rfl) T.max (by decide +kernel) (pa_cons (pv 5) (pa_cons (pe_op op_add (pe_call GW (hr.mono (by decide)) rfl gW kW bW .nil pass0 (pa_cons (pv 3) (pa_cons (pv 7) (pa_cons (pv 8) pa_nil)))) pe_int) pa_nil))))
        (pss_one (ps_set (i := 6) scLb.nd rfl (Or.inl rfl) (pe_callB (call_max2 rfl) (by rfl) T.max (by decide +kernel) (pa_cons (pv 6) (pa_cons (pe_op op_sub (pv 8) (pv 7)) pa_nil))))))))
        (pss_one (ps_ret (pe_lst (pa_cons (pv 4) (pa_cons (pv 5) (pa_cons (pv 6) pa_nil)))))))))), ?_⟩
    obtain ⟨dx, _, _, ho, _, _⟩ := id row
    have ml := G.len
    have sl := G.len2
    have cl := CO.len
    have cf := CO.few
    refine ⟨_, rfl, r, dx, _, rfl, ho, r, n, ms, ss, rfl, row, fun c1 H1 s1 nc1 ic1 => ?_⟩
    try dsimp only [L2.start, List.set, List.map, List.append, List.replicate, List.length]
    refine ⟨_, rfl, r, n, ms, ss, rfl, row.same s1, G, fun c2 H2 s2 nc2 ic2 => ?_⟩
    have s02 := s1.trans s2
    have ic1 := s2 _ _ ic1
    try dsimp only [L2.start, List.set, List.map, List.append, List.replicate, List.length]
    refine ⟨_, rfl, _, rfl, _, rfl, c, _, rfl, SqL.of (s02 _ _ hC), fun p hp => ?_⟩
    rw [cut_tail]
    have s3 := same_new (o := .lst ((cuts.drop 1).map V.int)) (Same.refl H2) hp
    have ip : IL (upd H2 p (.lst ((cuts.drop 1).map V.int))) p (cuts.drop 1) := upd_same
    generalize upd H2 p (.lst ((cuts.drop 1).map V.int)) = H3 at s3 ip ⊢
    have s03 := s02.trans s3
    have hC3 := s03 _ _ hC
    have hn : K' = min (cuts.map V.int).length ((cuts.drop 1).map V.int).length := by
      rw [List.length_map, List.length_map, List.length_drop]
      omega
    have asp : Asc (plM ms ss) := G.asc.filter _
    have pll : (plM ms ss).length ≤ 400 := Nat.le_trans (List.length_filter_le _ _) ml
    refine ⟨c, p, _, _, rfl, SqL.of hC3, SqL.of ip, for_it (walk_zip hn) (fun i σ H' => ∃ (L N G' : Int) (v7 v8 : Option V), σ = [some (.ref r), some (.ref c), some (.ref c1), some (.ref c2), some (.int L), some (.int N), some (.int G'), v7, v8] ∧ Same H3 H' ∧ MaxOf (PL cuts i ss) L ∧ MaxOf (PL cuts i (plM ms ss)) N ∧ MaxOf (PG cuts i) G')
      ⟨1, 1, 1, _, _, rfl, Same.refl _, MaxOf.nil fun x ⟨j, h, _⟩ => absurd h (Nat.not_lt_zero _), MaxOf.nil fun x ⟨j, h, _⟩ => absurd h (Nat.not_lt_zero _), MaxOf.nil fun x ⟨j, h, _⟩ => absurd h (Nat.not_lt_zero _)⟩
      (fun i σ H' _ ⟨_, _, _, _, _, _, s, _⟩ => ⟨SqL.of (s _ _ hC3), SqL.of (s _ _ ip)⟩) ?_ ?_⟩
    · rintro i x' σ H4 H5 hi ⟨L, N, G', v7, v8, rfl, s4, m1, m2, m3⟩ ⟨tt, x1, x2, rfl, nt, rfl, e1, e2⟩
      obtain ⟨rfl, rfl⟩ := zip_cuts CO hi e1 e2
      have s5 := same_new (o := .tup [.int (cAt cuts i), .int (cAt cuts (i + 1))]) s4 nt
      have kt : upd H4 tt (.tup [.int (cAt cuts i), .int (cAt cuts (i + 1))]) tt = some (.tup [.int (cAt cuts i), .int (cAt cuts (i + 1))]) := upd_same
      generalize upd H4 tt (.tup [.int (cAt cuts i), .int (cAt cuts (i + 1))]) = H5 at s5 kt ⊢
      refine ⟨tt, _, rfl, SqT.of kt, rfl, _, _, rfl, _, _, rfl, rfl, ?_⟩
      try dsimp only [L2.start, List.set, List.map, List.append, List.replicate, List.length]
      refine ⟨_, rfl, _, rfl, _, rfl, _, rfl, c1, ss, _, _, rfl, s5 _ _ (s3 _ _ ic1), G.asc2, by omega, fun w1 l1 => ⟨_, _, rfl, rfl, _, _, rfl, ?_⟩⟩
      try dsimp only [L2.start, List.set, List.map, List.append, List.replicate, List.length]
      refine ⟨_, rfl, _, rfl, _, rfl, _, rfl, c2, plM ms ss, _, _, rfl, s5 _ _ (s3 _ _ ic2), asp, pll, fun w2 l2 => ⟨_, _, rfl, rfl, _, _, rfl, ?_⟩⟩
      try dsimp only [L2.start, List.set, List.map, List.append, List.replicate, List.length]
      refine ⟨_, rfl, _, rfl, _, rfl, _, _, rfl, rfl, _, _, rfl, ?_⟩
      have lt := CO.lt (show i < i + 1 by omega) (show i + 1 ≤ K' by omega)
      exact ⟨_, _, _, _, _, rfl, s5, m1.last l1 PL_succ, m2.last l2 PL_succ, m3.add (by omega) PG_succ⟩
    · rintro σ H4 ⟨L, N, G', v7, v8, rfl, s4, m1, m2, m3⟩
      try dsimp only [L2.start, List.set, List.map, List.append, List.replicate, List.length]
      refine ⟨_, rfl, _, rfl, _, rfl, (by show 3 ≤ sizeLine; decide), fun l hl => ?_⟩
      have s5 := s03.trans s4
      exact q l _ L N G' (same_new s5 hl) (s5.free hl) upd_same ⟨m1, m2, m3⟩
abbrev NTb : List Str := ["row", "cuts", "ends", "pieces", "marks", "strict", "at_strict", "at_plain", "at_none", "begin", "end", "length", "lengths"]
theorem scTb : FnScope NTb ["row", "cuts"] (defScope sTb) := ⟨rfl, rfl, rfl, by decide +kernel, rfl, by decide +kernel, by decide +kernel⟩
theorem ok_tb {f C pL fGL pM fGM pS fGS : Addr} {fd dL dM dS : FuncData} (F : Fun K "top_bounds" "top_bounds" sTb f fd) (T : Bl mg) (R : Cl K mg C) (Gs : Gets P w K mg base C pL fGL pM fGM pS fGS dL dM dS) :
    FnOk P w K mg base CX0 4 f fd ["row", "cuts"] (spTb C) := by
  refine F.ok scTb (fun vs H Q E h => ?_) (fun cdv A outer s H vs Q E hr h => ?_)
  · obtain ⟨r, c, n, ms, ss, cuts, K', rfl, _⟩ := h
    rfl
  · obtain ⟨r, c, n, ms, ss, cuts, K', rfl, row, G, hC, CO, q⟩ := h
    have hu := hu_of hr
    have hu64 : (A.deeper (PyProof.Rows.envOfC "top_bounds" (defScope sTb) s.heap.objs.size f cdv)).units + 64 < cLine := Nat.lt_of_le_of_lt (by omega) hr.un
    refine ⟨_, (pss_cons (ps_set (i := 2) scTb.nd rfl (Or.inl rfl) (pe_slice sl_list (pv 1) po_none (po_some (pe_un un_neg pe_int))))
        (pss_cons (ps_setLc (i := 3) (own := [("begin", 9), ("end", 10)]) (g := (gTup K 2 (gCons (gName 9) (gCons (gName 10) gNil)))) (tt := tYes) rfl scTb.nd rfl rfl (sw_true rfl rfl rfl (by decide +kernel)) (pi_zip (by rfl) T.zip (pa_cons (pv 2) (pa_cons (pe_slice sl_list (pv 2) (po_some pe_int) po_none) pa_nil))) (blkOk_by (own := [("begin", 9), ("end", 10)]) (N := NTb) (sc := defScope sTb) (by decide +kernel)) (fun _ _ _ _ _ => (pg_tup rfl (pgs_cons (pg_name (i := 9) scTb.nd rfl (Or.inl rfl)) (pgs_cons (pg_name (i := 10) scTb.nd rfl (Or.inl rfl)) pgs_nil)))) (fun _ _ _ _ _ => pts_nil) (fun _ _ _ _ _ => (pe_tup (pa_cons (pv 10) (pa_cons (pe_op op_sub (pv 10) (pv 9)) pa_nil)))))
        (pss_cons (ps_set (i := 4) scTb.nd rfl (Or.inr rfl) (pe_callTy (show CallR _ (.type "set") (rSetOfW K w) from cr_setOf rfl) (by rfl) T.set (by decide +kernel) (pa_cons (pe_prop (pv 0) R.cl Gs.hM Gs.GM (hr.mono (by decide)) Gs.bM .nil pass0 rfl) pa_nil)))
        (pss_cons (ps_set (i := 5) scTb.nd rfl (Or.inr rfl) (pe_callTy (show CallR _ (.type "set") (rSetOfW K w) from cr_setOf rfl) (by rfl) T.set (by decide +kernel) (pa_cons (pe_prop (pv 0) R.cl Gs.hS Gs.GS (hr.mono (by decide)) Gs.bS .nil pass0 rfl) pa_nil)))
        (pss_cons (ps_setLc (i := 6) (own := [("end", 10), ("length", 11)]) (g := (gTup K 2 (gCons (gName 10) (gCons (gName 11) gNil)))) rfl scTb.nd rfl rfl (sw_true rfl rfl rfl (by decide +kernel)) (pi_list (pv 3)) (blkOk_by (own := [("end", 10), ("length", 11)]) (N := NTb) (sc := defScope sTb) (by decide +kernel)) (fun _ _ _ _ _ => (pg_tup rfl (pgs_cons (pg_name (i := 10) scTb.nd rfl (Or.inl rfl)) (pgs_cons (pg_name (i := 11) scTb.nd rfl (Or.inl rfl)) pgs_nil)))) (fun _ _ _ _ _ => (pts_one (pt_cmpR (show OpR _ (compareOp .In) (rSIn w) from or_sin) (pv 10) (pv 5) (by rfl)))) (fun _ _ _ _ _ => (pv 11)))
        (pss_cons (ps_setLc (i := 7) (own := [("end", 10), ("length", 11)]) (g := (gTup K 2 (gCons (gName 10) (gCons (gName 11) gNil)))) rfl scTb.nd rfl rfl (sw_true rfl rfl rfl (by decide +kernel)) (pi_list (pv 3)) (blkOk_by (own := [("end", 10), ("length", 11)]) (N := NTb) (sc := defScope sTb) (by decide +kernel)) (fun _ _ _ _ _ => (pg_tup rfl (pgs_cons (pg_name (i := 10) scTb.nd rfl (Or.inl rfl)) (pgs_cons (pg_name (i := 11) scTb.nd rfl (Or.inl rfl)) pgs_nil)))) (fun _ _ _ _ _ => (pts_one (PW.pt (pw_and (pt_cmpR (show OpR _ (compareOp .In) (rSIn w) from or_sin) (pv 10) (pv 4) (by rfl)) (pw_and1 (pt_cmpR (show OpR _ (compareOp .NotIn) (rSNotIn w) from or_snotin) (pv 10) (pv 5) (by rfl))))))) (fun _ _ _ _ _ => (pv 11)))
        (pss_cons (ps_setLc (i := 8) (own := [("end", 10), ("length", 11)]) (g := (gTup K 2 (gCons (gName 10) (gCons (gName 11) gNil)))) rfl scTb.nd rfl rfl (sw_true rfl rfl rfl (by decide +kernel)) (pi_list (pv 3)) (blkOk_by (own := [("end", 10), ("length", 11)]) (N := NTb) (sc := defScope sTb) (by decide +kernel)) (fun _ _ _ _ _ => (pg_tup rfl (pgs_cons (pg_name (i := 10) scTb.nd rfl (Or.inl rfl)) (pgs_cons (pg_name (i := 11) scTb.nd rfl (Or.inl rfl)) pgs_nil)))) (fun _ _ _ _ _ => (pts_one (pt_cmpR (show OpR _ (compareOp .NotIn) (rSNotIn w) from or_snotin) (pv 10) (pv 4) (by rfl)))) (fun _ _ _ _ _ => (pv 11)))
        (pss_one (ps_ret (pe_lc (own := [("lengths", 12)]) (g := (gName 12)) (tt := tYes) rfl scTb.nd (pi_tup (pe_tup (pa_cons (pv 6) (pa_cons (pv 7) (pa_cons (pv 8) pa_nil))))) (blkOk_by (own := [("lengths", 12)]) (N := NTb) (sc := defScope sTb) (by decide +kernel)) (fun _ _ _ _ _ => (pg_name (i := 12) scTb.nd rfl (Or.inl rfl))) (fun _ _ _ _ _ => pts_nil) (fun _ _ _ _ _ => (pe_callBK (show CallRK _ (.builtin "min") ["default"] (rMinN K) from cr_minN rfl (Nat.lt_of_le_of_lt (Nat.add_le_add_left (by decide : 3 ≤ 64) _) hu64)) (by rfl) T.min (by decide +kernel) (pa_cons (pv 12) pa_nil) (pk_cons pe_non pk_nil))))))))))))), ?_⟩
    obtain ⟨dx, _, _, ho, _, _⟩ := id row
    have ml := G.len
    have sl := G.len2
    have cl := CO.len
    have cf := CO.few
    refine ⟨_, rfl, _, rfl, _, rfl, c, _, rfl, SqL.of hC, fun en hen => ?_⟩
    rw [cut_init]
    have s1 := same_new (o := .lst (cuts.dropLast.map V.int)) (Same.refl H) hen
    have i1 : IL (upd H en (.lst (cuts.dropLast.map V.int))) en cuts.dropLast := upd_same
    generalize upd H en (.lst (cuts.dropLast.map V.int)) = H1 at s1 i1 ⊢
    try dsimp only [L2.start, List.set, List.map, List.append, List.replicate, List.length]
    -- the pieces
    refine ⟨_, rfl, _, rfl, _, rfl, en, _, rfl, SqL.of i1, fun e2 he2 => ?_⟩
    rw [cut_tail]
    have s2 := same_new (o := .lst ((cuts.dropLast.drop 1).map V.int)) (Same.refl H1) he2
    have i2 : IL (upd H1 e2 (.lst ((cuts.dropLast.drop 1).map V.int))) e2 (cuts.dropLast.drop 1) := upd_same
    generalize upd H1 e2 (.lst ((cuts.dropLast.drop 1).map V.int)) = H2 at s2 i2 ⊢
    have i1 := s2 _ _ i1
    have hn : K' - 1 = min (cuts.dropLast.map V.int).length ((cuts.dropLast.drop 1).map V.int).length := by
      rw [List.length_map, List.length_map, List.length_drop, List.length_dropLast]
      omega
    refine ⟨en, e2, _, _, rfl, SqL.of i1, SqL.of i2, fun PC hPC => ?_⟩
    refine lc_it (walk_zip hn) (fun i H' => Same H2 H' ∧ ∃ ts : List Addr, H' PC = some (.lst (ts.map V.ref)) ∧ PrAt H' ts ((List.range i).map fun j => (cAt cuts (j + 1), cAt cuts (j + 1) - cAt cuts j))) ⟨same_new (Same.refl H2) hPC, [], upd_same, .nil⟩ (fun i H' _ ⟨s, _⟩ => ⟨SqL.of (s _ _ i1), SqL.of (s _ _ i2)⟩) ?_ ?_
    · rintro i x H3 H4 hi ⟨s3, ts, hP, hq⟩ ⟨tt, x1, x2, rfl, nt, rfl, e1, e2'⟩
      have g1 : x1 = .int (cAt cuts i) := by
        dsimp only at e1
        rw [List.getElem?_map, List.dropLast_eq_take, List.getElem?_take, if_pos (by omega), CO.at (by omega)] at e1
        exact (Option.some.inj e1).symm
      have g2 : x2 = .int (cAt cuts (i + 1)) := by
        dsimp only at e2'
        rw [List.getElem?_map, List.getElem?_drop, List.dropLast_eq_take, List.getElem?_take, if_pos (by omega), show 1 + i = i + 1 by omega, CO.at (by omega)] at e2'
        exact (Option.some.inj e2').symm
      subst g1 g2
      have s4 := same_new (o := .tup [.int (cAt cuts i), .int (cAt cuts (i + 1))]) (Same.refl H3) nt
      have kt : upd H3 tt (.tup [.int (cAt cuts i), .int (cAt cuts (i + 1))]) tt = some (.tup [.int (cAt cuts i), .int (cAt cuts (i + 1))]) := upd_same
      generalize upd H3 tt (.tup [.int (cAt cuts i), .int (cAt cuts (i + 1))]) = H4 at s4 kt ⊢
      have hP := s4 _ _ hP
      have hq : PrAt H4 ts _ := hq.imp fun _ _ h => s4 _ _ h
      have tl : ts.length = i := by rw [hq.len, List.length_map, List.length_range]
      refine ⟨tt, _, rfl, SqT.of kt, rfl, _, _, rfl, _, _, rfl, rfl, rfl, ?_⟩
      unfold tYes
      refine iteT ?_
      refine ⟨_, rfl, _, rfl, _, rfl, _, _, rfl, rfl, (by show 2 ≤ sizeLine; decide), fun u hu' => ?_⟩
      have nu : PC ≠ u := ne_of_none hP hu'
      refine ⟨_, by rw [upd_ne nu]; exact hP, by rw [List.length_map]; exact small1000 (by omega), same_put (same_new (s3.trans s4) hu') hPC, ts ++ [u], by rw [upd_same, List.map_append]; rfl, ?_⟩
      rw [List.range_succ, List.map_append]
      refine PrAt.app (hq.imp fun v p e => ?_) (.cons ?_ .nil)
      · rw [upd_ne (ne_of e hP (by intro y; cases y)), upd_ne (ne_of_none e hu')]
        exact e
      · rw [upd_ne (Ne.symm nu)]
        exact upd_same
    rintro H3 ⟨s3, ts, hP, hq⟩
    generalize hps : ((List.range (K' - 1)).map fun j => (cAt cuts (j + 1), cAt cuts (j + 1) - cAt cuts j)) = ps at hq
    have pl : ps.length ≤ 200 := by
      rw [← hps, List.length_map, List.length_range]
      omega
    have mem : ∀ (φ : Int → Prop) [DecidablePred φ] (x : Int), x ∈ (ps.filter fun q => decide (φ q.1)).map (fun q => q.2) ↔ PT cuts K' n φ x := fun φ _ x => by
      rw [← hps]
      constructor
      · intro h
        obtain ⟨q', hq', rfl⟩ := List.mem_map.mp h
        obtain ⟨h1, h2⟩ := List.mem_filter.mp hq'
        obtain ⟨j, hj, rfl⟩ := List.mem_map.mp h1
        have jl := List.mem_range.mp hj
        exact ⟨j, by omega, CO.lt_n (by omega), of_decide_eq_true h2, rfl⟩
      · rintro ⟨j, hj, h1, h2, rfl⟩
        have jl : j < K' - 1 := by
          by_cases d : j < K' - 1
          · exact d
          · exfalso
            have : j + 1 = K' := by omega
            rw [this, CO.last] at h1
            omega
        exact List.mem_map.mpr ⟨_, List.mem_filter.mpr ⟨List.mem_map.mpr ⟨j, List.mem_range.mpr jl, rfl⟩, decide_eq_true h2⟩, rfl⟩
    have s03 := (s1.trans s2).trans s3
    try dsimp only [L2.start, List.set, List.map, List.append, List.replicate, List.length]
    -- the sets
    refine ⟨_, rfl, r, dx, _, rfl, s03 _ _ ho, r, n, ms, ss, rfl, row.same s03, fun c1 H4 s4 nc1 ic1 => ⟨c1, ms, rfl, SqL.of ic1, by omega, fun p1 cc1 hc1 hp1 => ?_⟩⟩
    have s5 := same_new (o := SetO w p1 (fun j => decide (j ∈ ms)) cc1) (Same.refl H4) hp1
    have k5 : upd H4 p1 (SetO w p1 (fun j => decide (j ∈ ms)) cc1) p1 = some (SetO w p1 (fun j => decide (j ∈ ms)) cc1) := upd_same
    generalize upd H4 p1 (SetO w p1 (fun j => decide (j ∈ ms)) cc1) = H5 at s5 k5 ⊢
    have s35 := s4.trans s5
    have s05 := s03.trans s35
    try dsimp only [L2.start, List.set, List.map, List.append, List.replicate, List.length]
    refine ⟨_, rfl, r, dx, _, rfl, s05 _ _ ho, r, n, ms, ss, rfl, row.same s05, fun c2 H6 s6 nc2 ic2 => ⟨c2, ss, rfl, SqL.of ic2, by omega, fun p2 cc2 hc2 hp2 => ?_⟩⟩
    have s7 := same_new (o := SetO w p2 (fun j => decide (j ∈ ss)) cc2) (Same.refl H6) hp2
    have k7 : upd H6 p2 (SetO w p2 (fun j => decide (j ∈ ss)) cc2) p2 = some (SetO w p2 (fun j => decide (j ∈ ss)) cc2) := upd_same
    generalize upd H6 p2 (SetO w p2 (fun j => decide (j ∈ ss)) cc2) = H7 at s7 k7 ⊢
    have s57 := s6.trans s7
    have k5 := s57 _ _ k5
    have s37 := s35.trans s57
    have hP := s37 _ _ hP
    have hq : PrAt H7 ts ps := hq.imp fun _ _ h => s37 _ _ h
    have s07 := s03.trans s37
    clear i1 i2 s4 s5 s6
    try dsimp only [L2.start, List.set, List.map, List.append, List.replicate, List.length]
    -- at strict marks
    refine ⟨_, rfl, PC, rfl, ⟨_, SqL.of hP⟩, fun D1 hD1 => ?_⟩
    refine lcF (α := Int × Int) (K := K) (src := ts.map V.ref) (xs := ps) (fun q => decide (q.1 ∈ ss)) (fun q => q.2) (fun H' s => SqL.of (s _ _ hP)) (by rw [List.length_map]; exact hq.len) hD1 (by omega) ?_ ?_
    · intro i x z H8 A' B' hx hz s8 ka kb
      obtain ⟨u, y, rfl, hy, hu'⟩ := hq.get hx
      rw [hz] at hy
      cases hy
      refine ⟨u, _, rfl, SqT.of (s8 _ _ hu'), rfl, _, _, rfl, _, _, rfl, rfl, rfl, ?_⟩
      refine ⟨_, rfl, _, rfl, z.1, p2, _, cc2, rfl, rfl, s8 _ _ k7, _, rfl, ?_⟩
      by_cases c1 : z.1 ∈ ss
      · refine ifT (decide_eq_true c1) ?_
        exact ⟨_, rfl, ka _ (decide_eq_true c1) (Same.refl _)⟩
      · refine ifF (decide_eq_false c1) ?_
        exact kb _ (decide_eq_false c1) (Same.refl _)
    intro H8 s8 hA1
    have mA := mem (fun e => e ∈ ss)
    have lA : ((ps.filter fun q => decide (q.1 ∈ ss)).map fun q => q.2).length ≤ 200 := by
      rw [List.length_map]
      exact Nat.le_trans (List.length_filter_le _ _) pl
    generalize ((ps.filter fun q => decide (q.1 ∈ ss)).map fun q => q.2) = as at hA1 mA lA
    try dsimp only [L2.start, List.set, List.map, List.append, List.replicate, List.length]
    -- at plain marks
    refine ⟨_, rfl, PC, rfl, ⟨_, SqL.of (s8 _ _ hP)⟩, fun D2 hD2 => ?_⟩
    refine lcF (α := Int × Int) (K := K) (src := ts.map V.ref) (xs := ps) (fun q => decide (q.1 ∈ ms ∧ q.1 ∉ ss)) (fun q => q.2) (fun H' s => SqL.of (s _ _ (s8 _ _ hP))) (by rw [List.length_map]; exact hq.len) hD2 (by omega) ?_ ?_
    · intro i x z H9 A' B' hx hz s9 ka kb
      obtain ⟨u, y, rfl, hy, hu'⟩ := hq.get hx
      rw [hz] at hy
      cases hy
      have s79 := s8.trans s9
      refine ⟨u, _, rfl, SqT.of (s79 _ _ hu'), rfl, _, _, rfl, _, _, rfl, rfl, rfl, ?_⟩
      refine ⟨_, rfl, _, rfl, z.1, p1, _, cc1, rfl, rfl, s79 _ _ k5, _, rfl, ?_⟩
      by_cases c1 : z.1 ∈ ms
      · refine ifT (decide_eq_true c1) ?_
        refine ⟨_, rfl, _, rfl, z.1, p2, _, cc2, rfl, rfl, s79 _ _ k7, _, rfl, ?_⟩
        by_cases c2 : z.1 ∈ ss
        · refine ifF (by rw [decide_eq_true c2]; rfl) ?_
          exact kb _ (decide_eq_false fun h => h.2 c2) (Same.refl _)
        · refine ifT (by rw [decide_eq_false c2]; rfl) ?_
          exact ⟨_, rfl, ka _ (decide_eq_true ⟨c1, c2⟩) (Same.refl _)⟩
      · refine ifF (decide_eq_false c1) ?_
        refine ifF rfl ?_
        exact kb _ (decide_eq_false fun h => c1 h.1) (Same.refl _)
    intro H9 s9 hB1
    have mB := mem (fun e => e ∈ ms ∧ e ∉ ss)
    have lB : ((ps.filter fun q => decide (q.1 ∈ ms ∧ q.1 ∉ ss)).map fun q => q.2).length ≤ 200 := by
      rw [List.length_map]
      exact Nat.le_trans (List.length_filter_le _ _) pl
    generalize ((ps.filter fun q => decide (q.1 ∈ ms ∧ q.1 ∉ ss)).map fun q => q.2) = bs at hB1 mB lB
    have s79 := s8.trans s9
    try dsimp only [L2.start, List.set, List.map, List.append, List.replicate, List.length]
    -- at none
    refine ⟨_, rfl, PC, rfl, ⟨_, SqL.of (s79 _ _ hP)⟩, fun D3 hD3 => ?_⟩
    refine lcF (α := Int × Int) (K := K) (src := ts.map V.ref) (xs := ps) (fun q => decide (q.1 ∉ ms)) (fun q => q.2) (fun H' s => SqL.of (s _ _ (s79 _ _ hP))) (by rw [List.length_map]; exact hq.len) hD3 (by omega) ?_ ?_
    · intro i x z HA A' B' hx hz sA ka kb
      obtain ⟨u, y, rfl, hy, hu'⟩ := hq.get hx
      rw [hz] at hy
      cases hy
      have s7A := s79.trans sA
      refine ⟨u, _, rfl, SqT.of (s7A _ _ hu'), rfl, _, _, rfl, _, _, rfl, rfl, rfl, ?_⟩
      refine ⟨_, rfl, _, rfl, z.1, p1, _, cc1, rfl, rfl, s7A _ _ k5, _, rfl, ?_⟩
      by_cases c1 : z.1 ∈ ms
      · refine ifF (by rw [decide_eq_true c1]; rfl) ?_
        exact kb _ (decide_eq_false fun h => h c1) (Same.refl _)
      · refine ifT (by rw [decide_eq_false c1]; rfl) ?_
        exact ⟨_, rfl, ka _ (decide_eq_true c1) (Same.refl _)⟩
    intro HA sA hC1
    have mC := mem (fun e => e ∉ ms)
    have lC : ((ps.filter fun q => decide (q.1 ∉ ms)).map fun q => q.2).length ≤ 200 := by
      rw [List.length_map]
      exact Nat.le_trans (List.length_filter_le _ _) pl
    generalize ((ps.filter fun q => decide (q.1 ∉ ms)).map fun q => q.2) = cs at hC1 mC lC
    have hA2 := sA _ _ (s9 _ _ hA1)
    have hB2 := sA _ _ hB1
    try dsimp only [L2.start, List.set, List.map, List.append, List.replicate, List.length]
    -- the least of each
    refine ⟨_, rfl, _, rfl, _, rfl, (by show 3 ≤ sizeLine; decide), fun tp htp => ⟨tp, rfl, ⟨_, SqT.of upd_same⟩, fun D4 hD4 => ?_⟩⟩
    have sB := same_new (o := .tup [.ref D1, .ref D2, .ref D3]) (Same.refl HA) htp
    have kB : upd HA tp (.tup [.ref D1, .ref D2, .ref D3]) tp = some (.tup [.ref D1, .ref D2, .ref D3]) := upd_same
    try dsimp -proj only at hD4 ⊢
    generalize upd HA tp (.tup [.ref D1, .ref D2, .ref D3]) = HB at sB kB hD4 ⊢
    have pick : ∀ (i : Nat) (v : V), [V.ref D1, V.ref D2, V.ref D3][i]? = some v → ∃ (d : Addr) (xs : List Int), v = .ref d ∧ IL HB d xs ∧ [as, bs, cs][i]? = some xs := fun i v h => by
      match i with
      | 0 =>
        cases h
        exact ⟨D1, as, rfl, sB _ _ hA2, rfl⟩
      | 1 =>
        cases h
        exact ⟨D2, bs, rfl, sB _ _ hB2, rfl⟩
      | 2 =>
        cases h
        exact ⟨D3, cs, rfl, sB _ _ hC1, rfl⟩
      | i + 3 => cases h
    refine lc_tup (K := K) (a := tp) (xs := [.ref D1, .ref D2, .ref D3]) (fun i H' => Same HB H' ∧ ∃ ys : List (Option Int), H' D4 = some (.lst (ys.map oV)) ∧ ys.length = i ∧ ∀ j l, j < i → [as, bs, cs][j]? = some l → ∃ o, ys[j]? = some o ∧ MinOf (fun x => x ∈ l) o) ⟨same_new (Same.refl HB) hD4, [], upd_same, rfl, fun j l h => absurd h (Nat.not_lt_zero _)⟩ (fun i H' _ ⟨s, _⟩ => SqT.of (s _ _ kB)) ?_ ?_
    · rintro i v HC hv ⟨sC, ys, hY, yl, ym⟩
      obtain ⟨d, xs, rfl, hd, hx⟩ := pick i v hv
      have i3 : i < 3 := (List.getElem?_eq_some_iff.mp hv).1
      have put : ∀ o, MinOf (fun x => x ∈ xs) o → ∃ acc, HC D4 = some (.lst acc) ∧ acc.length < sizeLine ∧ Same HB (upd HC D4 (.lst (acc ++ [oV o]))) ∧ ∃ ys' : List (Option Int), upd HC D4 (.lst (acc ++ [oV o])) D4 = some (.lst (ys'.map oV)) ∧ ys'.length = i + 1 ∧ ∀ j l, j < i + 1 → [as, bs, cs][j]? = some l → ∃ o, ys'[j]? = some o ∧ MinOf (fun x => x ∈ l) o := fun o ho => by
        refine ⟨_, hY, by rw [List.length_map]; exact small1000 (by omega), same_put sC hD4, ys ++ [o], by rw [upd_same, List.map_append]; rfl, by rw [List.length_append, yl]; rfl, fun j l hj hl => ?_⟩
        by_cases d : j < i
        · obtain ⟨o', h1, h2⟩ := ym j l d hl
          exact ⟨o', by rw [List.getElem?_append_left (by omega)]; exact h1, h2⟩
        · have e : j = i := by omega
          subst e
          rw [hx] at hl
          cases hl
          exact ⟨o, by rw [List.getElem?_append_right (by omega), yl, Nat.sub_self]; rfl, ho⟩
      refine ⟨rfl, ?_⟩
      unfold tYes
      refine iteT ?_
      refine ⟨_, rfl, d, xs, rfl, SqL.of (sC _ _ hd), rfl, fun e => ?_, fun M hm hle => ?_⟩
      · exact put none (by rw [e]; exact fun x h => (nomatch h))
      · exact put (some M) ⟨hm, hle⟩
    rintro HC ⟨sC, ys, hY, yl, ym⟩
    have yl : ys.length = 3 := yl
    obtain ⟨o1, e1, m1⟩ := ym 0 as (by show 0 < 3; decide) rfl
    obtain ⟨o2, e2, m2⟩ := ym 1 bs (by show 1 < 3; decide) rfl
    obtain ⟨o3, e3, m3⟩ := ym 2 cs (by show 2 < 3; decide) rfl
    have ey : ys = [o1, o2, o3] := by
      match ys, yl with
      | [a1, a2, a3], _ =>
        cases e1
        cases e2
        cases e3
        rfl
    subst ey
    have s0A := ((s07.trans s79).trans sA).trans sB
    exact q D4 HC o1 o2 o3 (s0A.trans sC) (s0A.free hD4) hY ⟨m1.iff fun x => mA x, m2.iff fun x => mB x, m3.iff fun x => mC x⟩
abbrev NSos : List Str := ["lows", "tops", "number", "low", "top"]
theorem scSos : FnScope NSos ["lows", "tops"] (defScope sSos) := ⟨rfl, rfl, rfl, by decide +kernel, rfl, by decide +kernel, by decide +kernel⟩
theorem ok_sos {f : Addr} {fd : FuncData} (F : Fun K "some_settings" "some_settings" sSos f fd) (T : Bl mg) :
    FnOk P w K mg base CX0 1 f fd ["lows", "tops"] (spSos) := by
  refine F.ok scSos (fun vs H Q E h => ?_) (fun cdv A outer s H vs Q E hr h => ?_)
  · obtain ⟨p, p2, L, N, G, x, y, z, rfl, _⟩ := h
    rfl
  · obtain ⟨p, p2, L, N, G, x, y, z, rfl, hp, hq, l1, q⟩ := h
    refine ⟨_, (pss_cons (ps_set (i := 2) scSos.nd rfl (Or.inl rfl) pe_int)
        (pss_cons (ps_for PassesOwn.never rfl (pi_zip (by rfl) T.zip (pa_cons (pv 0) (pa_cons (pv 1) pa_nil))) (pg_tup rfl (pgs_cons (pg_name (i := 3) scSos.nd rfl (Or.inl rfl)) (pgs_cons (pg_name (i := 4) scSos.nd rfl (Or.inl rfl)) pgs_nil)))
        (pss_cons (ps_set (i := 2) scSos.nd rfl (Or.inl rfl) (pe_callB (call_max2 rfl) (by rfl) T.max (by decide +kernel) (pa_cons (pv 2) (pa_cons (pv 3) pa_nil))))
        (pss_one (ps_if (PW.pt (pw_and (pt_cmpR op_notN (pv 4) pe_non (nomark _)) (pw_and1 (pt_cmpR op_gt (pv 2) (pv 4) (nomark _))))) (pss_one (ps_ret pe_bl)) pss_nil))))
        (pss_one (ps_ret pe_bl)))), ?_⟩
    have hn : 3 = min ([L, N, G].map V.int).length [oV x, oV y, oV z].length := rfl
    try dsimp only [L2.start, List.set, List.map, List.append, List.replicate, List.length]
    refine ⟨_, rfl, _, rfl, p, p2, _, _, rfl, SqL.of hp, SqL.of hq, for_it (walk_zip hn) (fun i σ H' => ∃ (v3 v4 : Option V) (num : Int), σ = [some (.ref p), some (.ref p2), some (.int num), v3, v4] ∧ Same H H' ∧ ([1, L, mx L N, mx (mx L N) G])[i]? = some num ∧ (1 ≤ i → ∀ t, x = some t → L ≤ t) ∧ (2 ≤ i → ∀ t, y = some t → mx L N ≤ t) ∧ (3 ≤ i → ∀ t, z = some t → mx (mx L N) G ≤ t))
      ⟨_, _, 1, rfl, Same.refl _, rfl, fun h => absurd h (by decide), fun h => absurd h (by decide), fun h => absurd h (by decide)⟩ (fun i σ H' _ ⟨_, _, _, _, s, _⟩ => ⟨SqL.of (s _ _ hp), SqL.of (s _ _ hq)⟩) ?_ ?_⟩
    · rintro i v σ H1 H2 hi ⟨v3, v4, num, rfl, s1, en, c1, c2, c3⟩ ⟨tt, x1, x2, rfl, nt, rfl, e1, e2⟩
      obtain ⟨lo, hlo⟩ : ∃ lo, [L, N, G][i]? = some lo := ⟨_, List.getElem?_eq_getElem (by show i < 3; omega)⟩
      obtain ⟨to, hto⟩ : ∃ to, [x, y, z][i]? = some to := ⟨_, List.getElem?_eq_getElem (by show i < 3; omega)⟩
      have g1 : x1 = .int lo := by
        dsimp only at e1
        rw [List.getElem?_map, hlo] at e1
        exact (Option.some.inj e1).symm
      have g2 : x2 = oV to := by
        have e2 : ([x, y, z].map oV)[i]? = some x2 := e2
        rw [List.getElem?_map, hto] at e2
        exact (Option.some.inj e2).symm
      subst g1 g2
      have s2 := same_new (o := .tup [.int lo, oV to]) (Same.refl H1) nt
      have kt : upd H1 tt (.tup [.int lo, oV to]) tt = some (.tup [.int lo, oV to]) := upd_same
      generalize upd H1 tt (.tup [.int lo, oV to]) = H2 at s2 kt ⊢
      refine ⟨tt, _, rfl, SqT.of kt, rfl, _, _, rfl, _, _, rfl, rfl, ?_⟩
      try dsimp only [L2.start, List.set, List.map, List.append, List.replicate, List.length]
      refine ⟨_, rfl, _, rfl, _, _, rfl, ?_⟩
      have ex : ([1, L, mx L N, mx (mx L N) G])[i + 1]? = some (mx num lo) := by
        match i, hi with
        | 0, _ =>
          cases en
          cases hlo
          show some L = some (mx 1 L)
          congr 1
          unfold mx
          split <;> omega
        | 1, _ =>
          cases en
          cases hlo
          rfl
        | 2, _ =>
          cases en
          cases hlo
          rfl
      have fin : (∀ t, to = some t → mx num lo ≤ t) → ∃ (w3 w4 : Option V) (num' : Int), [some (.ref p), some (.ref p2), some (.int (if lo > num then lo else num)), some (.int lo), some (oV to)] = [some (V.ref p), some (V.ref p2), some (.int num'), w3, w4] ∧ Same H H2 ∧ ([1, L, mx L N, mx (mx L N) G])[i + 1]? = some num' ∧ (1 ≤ i + 1 → ∀ t, x = some t → L ≤ t) ∧ (2 ≤ i + 1 → ∀ t, y = some t → mx L N ≤ t) ∧ (3 ≤ i + 1 → ∀ t, z = some t → mx (mx L N) G ≤ t) := fun h => by
        refine ⟨_, _, _, rfl, s1.trans s2, ex, ?_, ?_, ?_⟩
        · intro _
          match i, hi with
          | 0, _ =>
            cases hto
            have e : mx num lo = L := (Option.some.inj ex).symm
            rw [← e]
            exact h
          | 1, _ => exact c1 (by decide)
          | 2, _ => exact c1 (by decide)
        · intro h2
          match i, hi with
          | 0, _ => exact absurd h2 (by decide)
          | 1, _ =>
            cases hto
            have e : mx num lo = mx L N := (Option.some.inj ex).symm
            rw [← e]
            exact h
          | 2, _ => exact c2 (by decide)
        · intro h3
          match i, hi with
          | 0, _ => exact absurd h3 (by decide)
          | 1, _ => exact absurd h3 (by decide)
          | 2, _ =>
            cases hto
            have e : mx num lo = mx (mx L N) G := (Option.some.inj ex).symm
            rw [← e]
            exact h
      have bad : ∀ t, to = some t → t < mx num lo → ¬ OkS L N G x y z := fun t et lt ok => by
        match i, hi with
        | 0, _ =>
          cases hto
          have e : mx num lo = L := (Option.some.inj ex).symm
          have := ok.1 t et
          omega
        | 1, _ =>
          cases hto
          have e : mx num lo = mx L N := (Option.some.inj ex).symm
          have := ok.2.1 t et
          omega
        | 2, _ =>
          cases hto
          have e : mx num lo = mx (mx L N) G := (Option.some.inj ex).symm
          have := ok.2.2 t et
          omega
      try dsimp only [L2.start, List.set, List.map, List.append, List.replicate, List.length]
      refine ⟨_, rfl, rfl, _, rfl, ?_⟩
      cases to with
      | none =>
        refine ifF rfl ?_
        refine ifF rfl ?_
        exact fin fun t h => (nomatch h)
      | some t =>
        refine ifT rfl ?_
        refine ⟨_, rfl, _, rfl, _, _, rfl, rfl, _, rfl, ?_⟩
        by_cases d : mx num lo > t
        · refine ifT (decide_eq_true d) ?_
          exact q H2 false (s1.trans s2) ⟨fun h => (nomatch h), fun h => absurd h (bad t rfl d)⟩
        · refine ifF (decide_eq_false d) ?_
          exact fin fun t' h => by
            cases h
            omega
    · rintro σ H1 ⟨v3, v4, num, rfl, s1, en, c1, c2, c3⟩
      exact q H1 true s1 ⟨fun _ => ⟨c1 (by decide), c2 (by decide), c3 (by decide)⟩, fun _ => rfl⟩
abbrev NSf : List Str := ["row", "cuts", "lows", "tops"]
theorem scSf : FnScope NSf ["row", "cuts"] (defScope sSf) := ⟨rfl, rfl, rfl, by decide +kernel, rfl, by decide +kernel, by decide +kernel⟩
theorem ok_sf {f C fA fL fU fO pL fGL pM fGM pS fGS : Addr} {fd fdA fdL fdU fdO dL dM dS : FuncData} (F : Fun K "settings_for" "settings_for" sSf f fd) (T : Bl mg) (R : Cl K mg C) (Gs : Gets P w K mg base C pL fGL pM fGM pS fGS dL dM dS)
    (gA : mg "are_ascending" = some (.ref fA)) (kA : PySem.W.keepIn K (.ref fA) = true) (bA : Binds K fdA ["thing", "low", "high"] []) (GA : FnOk P w K mg base CX0 3 fA fdA ["thing", "low", "high"] spAsc)
    (gL : mg "low_bounds" = some (.ref fL)) (kL : PySem.W.keepIn K (.ref fL) = true) (bL : Binds K fdL ["row", "cuts"] []) (GL : FnOk P w K mg base CX0 4 fL fdL ["row", "cuts"] (spLb C))
    (gU : mg "top_bounds" = some (.ref fU)) (kU : PySem.W.keepIn K (.ref fU) = true) (bU : Binds K fdU ["row", "cuts"] []) (GU : FnOk P w K mg base CX0 4 fU fdU ["row", "cuts"] (spTb C))
    (gO : mg "some_settings" = some (.ref fO)) (kO : PySem.W.keepIn K (.ref fO) = true) (bO : Binds K fdO ["lows", "tops"] []) (GO : FnOk P w K mg base CX0 1 fO fdO ["lows", "tops"] spSos) :
    FnOk P w K mg base CX0 5 f fd ["row", "cuts"] (spSf C) := by
  refine F.ok scSf (fun vs H Q E h => ?_) (fun cdv A outer s H vs Q E hr h => ?_)
  · obtain ⟨r, c, n, ms, ss, cuts, K', rfl, _⟩ := h
    rfl
  · obtain ⟨r, c, n, ms, ss, cuts, K', rfl, row, G, hC, CO, q⟩ := h
    refine ⟨_, (pss_cons (ps_if (PW.pt (pw_or (pt_not (pt_val (pe_call GA (hr.mono (by decide)) rfl gA kA bA .nil pass0 (pa_cons (pv 1) (pa_cons pe_int (pa_cons (pe_prop (pv 0) R.cl Gs.hL Gs.GL (hr.mono (by decide)) Gs.bL .nil pass0 rfl) pa_nil)))))) (pw_or1 (pt_cmpR (op_neD hr.units) (pe_slice sl_list (pv 1) (po_some (pe_un un_neg pe_int)) po_none) (pe_lst (pa_cons (pe_prop (pv 0) R.cl Gs.hL Gs.GL (hr.mono (by decide)) Gs.bL .nil pass0 rfl) pa_nil)) (nomark _))))) pss_never pss_nil)
        (pss_cons (ps_set (i := 2) scSf.nd rfl (Or.inl rfl) (pe_call GL (hr.mono (by decide)) rfl gL kL bL .nil pass0 (pa_cons (pv 0) (pa_cons (pv 1) pa_nil))))
        (pss_cons (ps_set (i := 3) scSf.nd rfl (Or.inl rfl) (pe_call GU (hr.mono (by decide)) rfl gU kU bU .nil pass0 (pa_cons (pv 0) (pa_cons (pv 1) pa_nil))))
        (pss_cons (ps_if (pt_not (pt_val (pe_call GO (hr.mono (by decide)) rfl gO kO bO .nil pass0 (pa_cons (pv 2) (pa_cons (pv 3) pa_nil))))) (pss_one (ps_ret pe_non)) pss_nil)
        (pss_one (ps_ret (pe_tup (pa_cons (pe_ix (r := rIxL K) ix_list (pv 2) pe_int (fun _ _ => rfl)) (pa_cons (pe_ix (r := rIxL K) ix_list (pv 3) pe_int (fun _ _ => rfl)) (pa_cons (pe_ix (r := rIxL K) ix_list (pv 2) pe_int (fun _ _ => rfl)) (pa_cons (pe_ix (r := rIxL K) ix_list (pv 3) pe_int (fun _ _ => rfl)) (pa_cons (pe_ix (r := rIxL K) ix_list (pv 2) pe_int (fun _ _ => rfl)) (pa_cons (pe_ix (r := rIxL K) ix_list (pv 3) pe_int (fun _ _ => rfl)) pa_nil))))))))))))), ?_⟩
    obtain ⟨dx, _, _, ho, _, _⟩ := id row
    have cl := CO.len
    have cf := CO.few
    refine ⟨_, rfl, _, rfl, r, dx, _, rfl, ho, r, n, ms, ss, rfl, row, c, cuts, 0, n, rfl, hC, by omega, CO.rng, CO.asc, fun H1 s1 => ⟨_, rfl, ?_⟩⟩
    refine ifF rfl ?_
    have row1 := row.same s1
    refine ⟨_, rfl, _, rfl, _, rfl, c, _, rfl, SqL.of (s1 _ _ hC), fun l1 hl1 => ?_⟩
    obtain ⟨jd, ej, jl⟩ := cut_last V.int cuts 1 (by decide)
    have ej : cutV (cuts.map V.int) (some (-1)) none = (cuts.drop jd).map V.int := ej
    have e1 : cutV (cuts.map V.int) (some (-1)) none = [n].map V.int := by
      have e : HT.sIx (cuts.map V.int).length 0 (some (-1)) = K' := by
        show (if (-1 : Int) < 0 then ((-1 : Int) + (((cuts.map V.int).length : Nat) : Int)).toNat else min (-1 : Int).toNat (cuts.map V.int).length) = _
        rw [if_pos (by decide), List.length_map]
        omega
      unfold cutV
      rw [e, HT.sIx_none, List.take_of_length_le (by rw [List.length_drop]; exact Nat.le_refl _), ← List.map_drop]
      congr 1
      have a := CO.at (Nat.le_refl K')
      rw [CO.last] at a
      obtain ⟨lk, ek⟩ := List.getElem?_eq_some_iff.mp a
      rw [List.drop_eq_getElem_cons lk, ek, List.drop_eq_nil_of_le (by omega)]
    rw [e1]
    have s2 := same_new (o := .lst ([n].map V.int)) (Same.refl H1) hl1
    have k2 : IL (upd H1 l1 (.lst ([n].map V.int))) l1 [n] := upd_same
    generalize upd H1 l1 (.lst ([n].map V.int)) = H2 at s2 k2 ⊢
    have s02 := s1.trans s2
    refine ⟨_, rfl, r, dx, _, rfl, s02 _ _ ho, r, n, ms, ss, rfl, row.same s02, (by show 1 ≤ sizeLine; decide), fun l2 hl2 => ?_⟩
    have s3 := same_new (o := .lst [.int n]) (Same.refl H2) hl2
    have k3 : IL (upd H2 l2 (.lst [.int n])) l2 [n] := upd_same
    generalize upd H2 l2 (.lst [.int n]) = H3 at s3 k3 ⊢
    refine ⟨_, _, dp_il (s3 _ _ k2), dp_il k3, shape_il _, shape_il _, _, rfl, ?_⟩
    rw [eqv_il]
    refine ifF rfl ?_
    have s03 := s02.trans s3
    try dsimp only [L2.start, List.set, List.map, List.append, List.replicate, List.length]
    refine ⟨_, rfl, _, rfl, r, c, n, ms, ss, cuts, K', rfl, row.same s03, G, s03 _ _ hC, CO, fun lo H4 L N G' s4 nlo ilo LO => ?_⟩
    have s04 := s03.trans s4
    try dsimp only [L2.start, List.set, List.map, List.append, List.replicate, List.length]
    refine ⟨_, rfl, _, rfl, r, c, n, ms, ss, cuts, K', rfl, row.same s04, G, s04 _ _ hC, CO, fun hi H5 x y z s5 nhi ihi HI => ?_⟩
    have s05 := s04.trans s5
    have ilo := s5 _ _ ilo
    try dsimp only [L2.start, List.set, List.map, List.append, List.replicate, List.length]
    refine ⟨_, rfl, _, rfl, lo, hi, L, N, G', x, y, z, rfl, ilo, ihi, LO.l.one, fun H6 b s6 hb => ⟨_, rfl, ?_⟩⟩
    have ilo := s6 _ _ ilo
    have ihi := s6 _ _ ihi
    have qq := q H6 L N G' x y z (s05.trans s6) LO HI
    cases b with
    | false =>
      refine ifT rfl ?_
      exact qq.1 fun h => by have := hb.mpr h; cases this
    | true =>
      refine ifF rfl ?_
      refine ⟨_, rfl, lo, _, _, _, rfl, rfl, SqL.of ilo, at_of2 (j := 0) rfl rfl, _, rfl, hi, _, _, _, rfl, rfl, SqL.of ihi, at_of2 (j := 0) rfl rfl, _, rfl, lo, _, _, _, rfl, rfl, SqL.of ilo, at_of2 (j := 1) rfl rfl, _, rfl, hi, _, _, _, rfl, rfl, SqL.of ihi, at_of2 (j := 1) rfl rfl, _, rfl, lo, _, _, _, rfl, rfl, SqL.of ilo, at_of2 (j := 2) rfl rfl, _, rfl, hi, _, _, _, rfl, rfl, SqL.of ihi, at_of2 (j := 2) rfl rfl, (by show 6 ≤ sizeLine; decide), fun p hp => ?_⟩
      exact qq.2 (hb.mp rfl) p hp
end
end Cw
namespace Cw
open PySem L2
abbrev sBd : Stmt := top 31
abbrev sWin : Stmt := top 30
/-- the kind of the place x -/
def kat (prs : List (Int × Int)) (x : Int) : Int := ((prs.find? fun q => decide (q.1 = x)).map (·.2)).getD 0
theorem kat_mem {prs : List (Int × Int)} (ha : Asc (prs.map (·.1))) {q : Int × Int} (hq : q ∈ prs) : kat prs q.1 = q.2 := by
  induction prs with
  | nil => cases hq
  | cons p r ih =>
    rw [List.map_cons] at ha
    obtain ⟨h1, h2⟩ := List.pairwise_cons.mp ha
    unfold kat
    rw [List.find?_cons]
    rcases List.mem_cons.mp hq with rfl | hq
    · simp
    · have n : ¬ p.1 = q.1 := fun e => by
        have := h1 q.1 (List.mem_map.mpr ⟨q, hq, rfl⟩)
        omega
      simp only [n, decide_false]
      exact ih h2 hq
theorem kat_no {prs : List (Int × Int)} {x : Int} (h : ∀ q ∈ prs, q.1 ≠ x) : kat prs x = 0 := by
  unfold kat
  rw [List.find?_eq_none.mpr fun q hq => by simpa using h q hq]
  rfl
theorem kat_pos {prs : List (Int × Int)} {x : Int} (h : kat prs x ≠ 0) : ∃ q ∈ prs, q.1 = x := by
  by_cases z : ∃ q ∈ prs, q.1 = x
  · exact z
  · exact absurd (kat_no fun q hq e => z ⟨q, hq, e⟩) h
def kvOf (q : Int × Int) : Key × V := (Sum.inl q.1, V.int q.2)
theorem merge_at {x : Int} : ∀ (prs : List (Int × Int)) (acc : List (Key × V)), Asc (prs.map (·.1)) → valV (mergeK acc (prs.map kvOf)) (Sum.inl x) = ((prs.find? fun q => decide (q.1 = x)).map fun q => V.int q.2).or (valV acc (Sum.inl x))
  | [], acc, _ => rfl
  | p :: r, acc, ha => by
    rw [List.map_cons] at ha
    obtain ⟨h1, h2⟩ := List.pairwise_cons.mp ha
    show valV (mergeK (putK acc (Sum.inl p.1) (V.int p.2)) (r.map kvOf)) (Sum.inl x) = _
    rw [merge_at r _ h2, List.find?_cons]
    by_cases e : p.1 = x
    · have z : r.find? (fun q => decide (q.1 = x)) = none := List.find?_eq_none.mpr fun q hq => by
        have := h1 q.1 (List.mem_map.mpr ⟨q, hq, rfl⟩)
        simp
        omega
      subst e
      rw [z, valV_put, if_pos rfl]
      simp
    · rw [valV_put, if_neg (by intro z; exact e (Sum.inl.inj z).symm)]
      simp [e]
/-- the least of some numbers below top, or top -/
def MinT (P : Int → Prop) (top m : Int) : Prop := (m = top ∧ ∀ x, ¬ P x) ∨ (P m ∧ m < top ∧ ∀ x, P x → m ≤ x)
theorem MinT.add {P Q : Int → Prop} {top m v : Int} (h : MinT P top m) (hv : v < top) (e : ∀ x, Q x ↔ P x ∨ x = v) : MinT Q top (if v < m then v else m) := by
  rcases h with ⟨h1, h2⟩ | ⟨h1, h2, h3⟩
  · rw [if_pos (by omega)]
    refine .inr ⟨(e v).mpr (.inr rfl), hv, fun x hx => ?_⟩
    rcases (e x).mp hx with z | z
    · exact absurd z (h2 x)
    · omega
  · by_cases c : v < m
    · rw [if_pos c]
      refine .inr ⟨(e v).mpr (.inr rfl), hv, fun x hx => ?_⟩
      rcases (e x).mp hx with z | z
      · have := h3 x z
        omega
      · omega
    · rw [if_neg c]
      refine .inr ⟨(e m).mpr (.inl h1), h2, fun x hx => ?_⟩
      rcases (e x).mp hx with z | z
      · exact h3 x z
      · omega
theorem MinT.iff {P Q : Int → Prop} {top m : Int} (h : MinT P top m) (e : ∀ x, P x ↔ Q x) : MinT Q top m := by
  rcases h with ⟨h1, h2⟩ | ⟨h1, h2, h3⟩
  · exact .inl ⟨h1, fun x hx => h2 x ((e x).mpr hx)⟩
  · exact .inr ⟨(e m).mp h1, h2, fun x hx => h3 x ((e x).mpr hx)⟩
def oT (top m : Int) : Option Int := if m = top then none else some m
theorem MinT.of {P : Int → Prop} {top m : Int} (h : MinT P top m) : MinOf P (oT top m) := by
  unfold oT
  rcases h with ⟨h1, h2⟩ | ⟨h1, h2, h3⟩
  · rw [if_pos h1]
    exact h2
  · rw [if_neg (by omega)]
    exact ⟨h1, h3⟩
theorem plain_in {n y : Int} {prs : List (Int × Int)} (G : GoodP n prs) : y ∈ plM (marksOf prs) (strictOf prs) ↔ (y, 1) ∈ prs := by
  rw [mem_pl, mem_marks G, mem_strict]
  constructor
  · rintro ⟨h | h, k⟩
    · exact h
    · exact absurd h k
  · intro h
    refine ⟨.inl h, fun k => ?_⟩
    have a := kat_mem G.asc h
    have b := kat_mem G.asc k
    rw [a] at b
    cases b
/-- marks of a kind behind b and before e, among the first j -/
def Mk' (prs : List (Int × Int)) (j : Nat) (kd b e x : Int) : Prop := ∃ q ∈ prs.take j, q.2 = kd ∧ b < q.1 ∧ q.1 < e ∧ x = q.1 - b + 1
theorem mk_zero {prs : List (Int × Int)} {kd b e x : Int} : ¬ Mk' prs 0 kd b e x := fun ⟨_, h, _⟩ => by cases h
theorem mk_succ {prs : List (Int × Int)} {j : Nat} {z : Int × Int} {kd b e x : Int} (h : prs[j]? = some z) : Mk' prs (j + 1) kd b e x ↔ Mk' prs j kd b e x ∨ (z.2 = kd ∧ b < z.1 ∧ z.1 < e ∧ x = z.1 - b + 1) := by
  unfold Mk'
  rw [List.take_add_one, h]
  constructor
  · rintro ⟨q, hq, k⟩
    rcases List.mem_append.mp hq with hq | hq
    · exact .inl ⟨q, hq, k⟩
    · rw [show q = z from List.mem_singleton.mp hq] at k
      exact .inr k
  · rintro (⟨q, hq, k⟩ | k)
    · exact ⟨q, List.mem_append_left _ hq, k⟩
    · exact ⟨z, List.mem_append_right _ (List.mem_singleton.mpr rfl), k⟩
theorem mk_all {prs : List (Int × Int)} {kd b e x : Int} {ys : List Int} (h : ∀ y, y ∈ ys ↔ (y, kd) ∈ prs) : Mk' prs prs.length kd b e x ↔ ∃ y ∈ ys, b < y ∧ y < e ∧ x = y - b + 1 := by
  unfold Mk'
  rw [List.take_length]
  constructor
  · rintro ⟨q, hq, rfl, k⟩
    exact ⟨q.1, (h _).mpr hq, k⟩
  · rintro ⟨y, hy, k⟩
    exact ⟨(y, kd), (h y).mp hy, rfl, k⟩
theorem lcV {α : Type} {K : PySem.W.Frag} {a D : Addr} {src : List V} {xs : List α} {g : TG} {tt : TT} {te : TE} {vs : List Nat} {σ : St} {H1 : Hp} {Qd : Hp → Prop} (v : α → V)
    (ha : ∀ H, Same H1 H → SqL K H a src) (hl : src.length = xs.length) (hD : H1 D = none) (few : xs.length ≤ 999)
    (step : ∀ (i : Nat) (x : V) (z : α) (H : Hp) (A : V → Hp → Prop) (B : Hp → Prop), src[i]? = some x → xs[i]? = some z → Same H1 H → (∀ H', Same H H' → A (v z) H') →
      g x (wipe σ vs) H fun σ2 H2 => wipe σ2 vs = wipe σ vs ∧ tt σ2 H2 fun b H3 => if b = true then te σ2 H3 fun y H4 => A y H4 else B H3)
    (fin : ∀ (H : Hp), Same H1 H → H D = some (.lst (xs.map v)) → Qd H) :
    ∃ W : Nat → Nat → Hp → Prop, (∃ m, W 0 m (upd H1 D (HO.lst []))) ∧ ∀ (i m : Nat) (H : Hp), W i m H → (Itl K a).stop i H ∧ Qd H ∨ (Itl K a).go i H ∧ ∃ Nx : Hp → Prop, (∀ H', Nx H' → ∃ m', m' < m ∧ W (i + 1) m' H') ∧
      ∀ (x : V) (H' : Hp), (Itl K a).yld i H x H' → g x (wipe σ vs) H' fun σ2 H2 => wipe σ2 vs = wipe σ vs ∧ tt σ2 H2 fun b H3 => if b = true then te σ2 H3 fun y H4 => ∃ acc, H4 D = some (HO.lst acc) ∧ acc.length < sizeLine ∧ Nx (upd H4 D (HO.lst (acc ++ [y]))) else Nx H3 := by
  refine lc_list (K := K) (a := a) (xs := src) (fun i H' => Same H1 H' ∧ H' D = some (.lst ((xs.take i).map v))) ⟨same_new (Same.refl H1) hD, upd_same⟩ (fun i H' _ z => ha _ z.1) ?_ ?_
  · rintro i x H' hx ⟨s1, hE⟩
    have il : i < xs.length := by rw [← hl]; exact (List.getElem?_eq_some_iff.mp hx).1
    obtain ⟨z, hz⟩ : ∃ z, xs[i]? = some z := ⟨_, List.getElem?_eq_getElem il⟩
    refine step i x z H' _ _ hx hz s1 fun H2 s2 => ?_
    refine ⟨_, s2 _ _ hE, by rw [List.length_map, List.length_take]; exact small1000 (by omega), same_put (s1.trans s2) hD, ?_⟩
    rw [upd_same, List.take_add_one, hz, List.map_append]
    rfl
  · rintro H' ⟨s1, hE⟩
    rw [hl, List.take_length] at hE
    exact fin H' s1 hE
theorem kv_at {K : PySem.W.Frag} {H' : Hp} : ∀ {ts : List Addr} {prs : List (Int × Int)}, PrAt H' ts prs → Paired (fun p (kv : Key × V) => SqT K H' p [kV kv.1, kv.2]) ts (prs.map kvOf)
  | _, _, .nil => .nil
  | _, _, .cons a r => .cons (SqT.of a) (kv_at r)
theorem kat_cases {n : Int} {prs : List (Int × Int)} (G : GoodP n prs) (e : Int) : (kat prs e = 2 ∧ e ∈ strictOf prs ∧ e ∈ marksOf prs) ∨ (kat prs e = 1 ∧ e ∈ marksOf prs ∧ e ∉ strictOf prs) ∨ (kat prs e = 0 ∧ e ∉ marksOf prs ∧ e ∉ strictOf prs) := by
  by_cases h : ∃ q ∈ prs, q.1 = e
  · obtain ⟨q, hq, rfl⟩ := h
    have ka := kat_mem G.asc hq
    rcases (G.rng q hq).2.2 with k | k
    · have hq1 : (q.1, (1 : Int)) ∈ prs := by rw [← k]; exact hq
      obtain ⟨i1, i2⟩ := mem_pl.mp ((plain_in G).mpr hq1)
      exact .inr (.inl ⟨by rw [ka, k], i1, i2⟩)
    · have hq1 : (q.1, (2 : Int)) ∈ prs := by rw [← k]; exact hq
      exact .inl ⟨by rw [ka, k], mem_strict.mpr hq1, (mem_marks G).mpr (.inr hq1)⟩
  · have no : ∀ q ∈ prs, q.1 ≠ e := fun q hq k => h ⟨q, hq, k⟩
    refine .inr (.inr ⟨kat_no no, fun k => ?_, fun k => no _ (mem_strict.mp k) rfl⟩)
    rcases (mem_marks G).mp k with k | k
    · exact no _ k rfl
    · exact no _ k rfl
def spBd : Sp := fun vs H Q _ => ∃ (u c : Addr) (n : Int) (cuts : List Int) (K' : Nat) (prs : List (Int × Int)), vs = [.ref u, .ref c] ∧ RawAt H u n prs ∧ GoodP n prs ∧ n ≤ 40 ∧ prs.length ≤ 120 ∧ IL H c cuts ∧ CutsOk n cuts K' ∧
  ∀ (q : Addr) (H' : Hp) (L N G : Int) (x y z : Option Int), Same H H' → H q = none → H' q = some (.tup [.int L, oV x, .int N, oV y, .int G, oV z]) → Lo cuts K' (marksOf prs) (strictOf prs) L N G → Hi cuts K' n (marksOf prs) (strictOf prs) x y z → Q (.ref q) H'
def spWi : Sp := fun vs H Q _ => ∃ (d t : Addr) (L N G l m g : Int) (x y z : Option Int), vs = [.ref d, .ref t] ∧ H d = some (.tup [.int L, oV x, .int N, oV y, .int G, oV z]) ∧ H t = some (.tup [.int l, .int m, .int g]) ∧
  ∀ (H' : Hp) (b : Bool), Same H H' → (b = true ↔ Within L N G x y z l m g) → Q (.bl b) H'
section
variable {P : Program} {w : World} {K : PySem.W.Frag} {mg : Str → Option Value} {base : Heap}
abbrev NBd : List Str := ["raw", "cuts_here", "found", "begin", "end", "place", "kind", "bound"]
theorem scBd : FnScope NBd ["raw", "cuts_here"] (defScope sBd) := ⟨rfl, rfl, rfl, by decide +kernel, rfl, by decide +kernel, by decide +kernel⟩
theorem ok_bd {f : Addr} {fd : FuncData} (F : Fun K "_law_bounds" "_law_bounds" sBd f fd) (T : Bl mg) :
    FnOk P w K mg base CX0 2 f fd ["raw", "cuts_here"] (spBd) := by
  refine F.ok scBd (fun vs H Q E h => ?_) (fun cdv A outer s H vs Q E hr h => ?_)
  · obtain ⟨u, c, n, cuts, K', prs, rfl, _⟩ := h
    rfl
  · obtain ⟨u, c, n, cuts, K', prs, rfl, RR, G, n40, pl, hC, CO, q⟩ := h
    have hu := hu_of hr
    refine ⟨_, (pss_cons (ps_set (i := 2) scBd.nd rfl (Or.inl rfl) (pe_lst (pa_cons pe_int (pa_cons pe_int (pa_cons pe_int (pa_cons pe_int (pa_cons pe_int (pa_cons pe_int pa_nil))))))))
        (pss_cons (ps_for PassesOwn.never rfl (pi_zip (by rfl) T.zip (pa_cons (pv 1) (pa_cons (pe_slice sl_list (pv 1) (po_some pe_int) po_none) pa_nil))) (pg_tup rfl (pgs_cons (pg_name (i := 3) scBd.nd rfl (Or.inl rfl)) (pgs_cons (pg_name (i := 4) scBd.nd rfl (Or.inl rfl)) pgs_nil)))
        (pss_cons (ps_asg (pe_callB (call_max2 rfl) (by rfl) T.max (by decide +kernel) (pa_cons (pe_ix (r := rIxL K) ix_list (pv 2) pe_int (fun _ _ => rfl)) (pa_cons (pe_op op_sub (pv 4) (pv 3)) pa_nil))) (pg_sub (pv 2) pe_int L2.set_list))
        (pss_cons (ps_for PassesOwn.never rfl (pi_list (pe_ix (r := rIxT K) ix_tup (pv 0) pe_int (fun _ _ => rfl))) (pg_tup rfl (pgs_cons (pg_name (i := 5) scBd.nd rfl (Or.inl rfl)) (pgs_cons (pg_name (i := 6) scBd.nd rfl (Or.inl rfl)) pgs_nil)))
        (pss_one (ps_if (pt_chain op_lt op_lt (pv 3) (pv 5) (pv 4)) (pss_one (ps_asg (pe_callB (call_max2 rfl) (by rfl) T.max (by decide +kernel) (pa_cons (pe_ix (r := rIxL K) ix_list (pv 2) (pe_op op_sub pe_int (pe_op op_mul pe_int (pv 6))) (fun _ _ => rfl)) (pa_cons (pe_op op_add (pe_op op_sub (pv 5) (pv 3)) pe_int) pa_nil))) (pg_sub (pv 2) (pe_op op_sub pe_int (pe_op op_mul pe_int (pv 6))) L2.set_list))) pss_nil)))
        (pss_one (ps_if (pt_cmpR op_lt (pv 4) (pe_ix (r := rIxT K) ix_tup (pv 0) pe_int (fun _ _ => rfl)) (nomark _)) (pss_cons (ps_set (i := 6) scBd.nd rfl (Or.inl rfl) (pe_dget2 hu (pe_callTy (call_dictP rfl) (by rfl) T.dict (by decide +kernel) (pa_cons (pe_ix (r := rIxT K) ix_tup (pv 0) pe_int (fun _ _ => rfl)) pa_nil)) (pv 4) pe_int ⟨rfl, rfl, rfl, rfl⟩))
        (pss_one (ps_asg (pe_callB (call_min2 rfl) (by rfl) T.min (by decide +kernel) (pa_cons (pe_ix (r := rIxL K) ix_list (pv 2) (pe_op op_sub pe_int (pe_op op_mul pe_int (pv 6))) (fun _ _ => rfl)) (pa_cons (pe_op op_sub (pv 4) (pv 3)) pa_nil))) (pg_sub (pv 2) (pe_op op_sub pe_int (pe_op op_mul pe_int (pv 6))) L2.set_list)))) pss_nil)))))
        (pss_one (ps_ret (pe_callTy call_tuple_of (by rfl) T.tuple (by decide +kernel) (pa_cons (pe_lc (own := [("bound", 7)]) (g := (gName 7)) (tt := tYes) rfl scBd.nd (pi_list (pv 2)) (blkOk_by (own := [("bound", 7)]) (N := NBd) (sc := defScope sBd) (by decide +kernel)) (fun _ _ _ _ _ => (pg_name (i := 7) scBd.nd rfl (Or.inl rfl))) (fun _ _ _ _ _ => pts_nil) (fun _ _ _ _ _ => (pe_ifExp (pt_cmpR op_eq (pv 7) pe_int (nomark _)) pe_non (pv 7)))) pa_nil)))))), ?_⟩
    have n0 := G.pos
    have cl := CO.len
    have cf := CO.few
    obtain ⟨lp, t, ts, hp, hl, hpr⟩ := RR
    have lt := hpr.len
    refine ⟨(by show 6 ≤ sizeLine; decide), fun D hD => ?_⟩
    have hDn := hD
    have s02 := same_new (o := .lst [.int 1, .int 99, .int 1, .int 99, .int 1, .int 99]) (Same.refl H) hD
    have k1 : upd H D (.lst [.int 1, .int 99, .int 1, .int 99, .int 1, .int 99]) D = some (.lst [.int 1, .int 99, .int 1, .int 99, .int 1, .int 99]) := upd_same
    generalize upd H D (.lst [.int 1, .int 99, .int 1, .int 99, .int 1, .int 99]) = H2 at s02 k1 ⊢
    try dsimp only [L2.start, List.set, List.map, List.append, List.replicate, List.length]
    refine ⟨_, rfl, _, rfl, _, rfl, c, _, rfl, SqL.of (s02 _ _ hC), fun p hp3 => ?_⟩
    rw [cut_tail]
    have s3 := same_new (o := .lst ((cuts.drop 1).map V.int)) (Same.refl H2) hp3
    have ip : IL (upd H2 p (.lst ((cuts.drop 1).map V.int))) p (cuts.drop 1) := upd_same
    have npD : p ≠ D := fun e => by rw [e, k1] at hp3; cases hp3
    generalize upd H2 p (.lst ((cuts.drop 1).map V.int)) = H3 at s3 ip ⊢
    have s03 := s02.trans s3
    have k1 := s3 _ _ k1
    have hn : K' = min (cuts.map V.int).length ((cuts.drop 1).map V.int).length := by
      rw [List.length_map, List.length_map, List.length_drop]
      omega
    refine ⟨c, p, _, _, rfl, SqL.of (s03 _ _ hC), SqL.of ip, for_it (walk_zip hn) (fun i σ H' => ∃ (a0 a1 a2 a3 a4 a5 : Int) (v4 v5 v6 v7 : Option V), σ = [some (.ref u), some (.ref c), some (.ref D), v4, v5, v6, v7, none] ∧ Same H H' ∧ IL H' p (cuts.drop 1) ∧ H' D = some (.lst [.int a0, .int a1, .int a2, .int a3, .int a4, .int a5]) ∧
        MaxOf (PL cuts i (strictOf prs)) a0 ∧ MaxOf (PL cuts i (plM (marksOf prs) (strictOf prs))) a2 ∧ MaxOf (PG cuts i) a4 ∧ MinT (PT cuts i n fun e => e ∈ strictOf prs) 99 a1 ∧ MinT (PT cuts i n fun e => e ∈ marksOf prs ∧ e ∉ strictOf prs) 99 a3 ∧ MinT (PT cuts i n fun e => e ∉ marksOf prs) 99 a5)
      ⟨1, 99, 1, 99, 1, 99, _, _, _, _, rfl, s03, ip, k1, MaxOf.nil fun x ⟨j, h, _⟩ => absurd h (Nat.not_lt_zero _), MaxOf.nil fun x ⟨j, h, _⟩ => absurd h (Nat.not_lt_zero _), MaxOf.nil fun x ⟨j, h, _⟩ => absurd h (Nat.not_lt_zero _), .inl ⟨rfl, fun x ⟨j, h, _⟩ => absurd h (Nat.not_lt_zero _)⟩, .inl ⟨rfl, fun x ⟨j, h, _⟩ => absurd h (Nat.not_lt_zero _)⟩, .inl ⟨rfl, fun x ⟨j, h, _⟩ => absurd h (Nat.not_lt_zero _)⟩⟩
      (fun i σ H' _ ⟨_, _, _, _, _, _, _, _, _, _, _, s, ip, _⟩ => ⟨SqL.of (s _ _ hC), SqL.of ip⟩) ?_ ?_⟩
    · rintro i x' σ H4 H5 hi ⟨a0, a1, a2, a3, a4, a5, v4, v5, v6, v7, rfl, s4, ip4, k4, m0, m2, m4, t1, t3, t5⟩ ⟨tt, x1, x2, rfl, nt, rfl, e1, e2⟩
      obtain ⟨rfl, rfl⟩ := zip_cuts CO hi e1 e2
      have lt2 := CO.lt (show i < i + 1 by omega) (show i + 1 ≤ K' by omega)
      have rb := CO.rng _ (CO.mem (show i ≤ K' by omega))
      have re := CO.rng _ (CO.mem (show i + 1 ≤ K' by omega))
      have s5 := same_new (o := .tup [.int (cAt cuts i), .int (cAt cuts (i + 1))]) s4 nt
      have kt : upd H4 tt (.tup [.int (cAt cuts i), .int (cAt cuts (i + 1))]) tt = some (.tup [.int (cAt cuts i), .int (cAt cuts (i + 1))]) := upd_same
      have k5 := same_new (o := .tup [.int (cAt cuts i), .int (cAt cuts (i + 1))]) (Same.refl H4) nt _ _ k4
      have ip5 := same_new (o := .tup [.int (cAt cuts i), .int (cAt cuts (i + 1))]) (Same.refl H4) nt _ _ ip4
      generalize upd H4 tt (.tup [.int (cAt cuts i), .int (cAt cuts (i + 1))]) = H5 at s5 kt k5 ip5 ⊢
      refine ⟨tt, _, rfl, SqT.of kt, rfl, _, _, rfl, _, _, rfl, rfl, ?_⟩
      try dsimp only [L2.start, List.set, List.map, List.append, List.replicate, List.length]
      have PLs := PL_succ (cuts := cuts) (K := i) (xs := strictOf prs)
      have PLp := PL_succ (cuts := cuts) (K := i) (xs := plM (marksOf prs) (strictOf prs))
      have PGs := PG_succ (cuts := cuts) (K := i)
      have T1 := PT_succ (cuts := cuts) (K := i) (n := n) (φ := fun e => e ∈ strictOf prs)
      have T3 := PT_succ (cuts := cuts) (K := i) (n := n) (φ := fun e => e ∈ marksOf prs ∧ e ∉ strictOf prs)
      have T5 := PT_succ (cuts := cuts) (K := i) (n := n) (φ := fun e => e ∉ marksOf prs)
      generalize hb : cAt cuts i = b at lt2 rb re PLs PLp PGs T1 T3 T5 ⊢
      generalize he : cAt cuts (i + 1) = e at lt2 rb re PLs PLp PGs T1 T3 T5 ⊢
      -- the length
      refine ⟨_, rfl, D, _, _, _, rfl, rfl, SqL.of k5, at_of2 (j := 4) rfl rfl, _, rfl, _, rfl, _, _, rfl, rfl, _, _, rfl, _, rfl, D, _, _, 4, rfl, rfl, k5, rfl, ?_⟩
      have m4' := m4.add (v := e - b) (by omega) PGs
      try dsimp -proj only [List.set] at m4' ⊢
      generalize (if e - b > a4 then e - b else a4) = a4' at m4' ⊢
      have s6 := same_put (o := .lst [.int a0, .int a1, .int a2, .int a3, .int a4', .int a5]) s5 hDn
      have k6 : upd H5 D (.lst [.int a0, .int a1, .int a2, .int a3, .int a4', .int a5]) D = some (.lst [.int a0, .int a1, .int a2, .int a3, .int a4', .int a5]) := upd_same
      have ip6 : IL (upd H5 D (.lst [.int a0, .int a1, .int a2, .int a3, .int a4', .int a5])) p (cuts.drop 1) := by
        show upd _ _ _ p = _
        rw [upd_ne npD]
        exact ip5
      generalize upd H5 D (.lst [.int a0, .int a1, .int a2, .int a3, .int a4', .int a5]) = H6 at s6 k6 ip6 ⊢
      try dsimp only [L2.start, List.set, List.map, List.append, List.replicate, List.length]
      -- the marks
      refine ⟨_, rfl, u, _, _, _, rfl, rfl, SqT.of (s6 _ _ hp), at_of2 (j := 1) rfl rfl, lp, rfl, ⟨_, SqL.of (s6 _ _ hl)⟩, ?_⟩
      refine for_list (xs := ts.map V.ref) (fun j σ H' => ∃ (b0 b2 : Int) (v6 v7 : Option V), σ = [some (.ref u), some (.ref c), some (.ref D), some (.int b), some (.int e), v6, v7, none] ∧ Same H H' ∧ IL H' p (cuts.drop 1) ∧ H' D = some (.lst [.int b0, .int a1, .int b2, .int a3, .int a4', .int a5]) ∧
          MaxOf (fun x => PL cuts i (strictOf prs) x ∨ Mk' prs j 2 b e x) b0 ∧ MaxOf (fun x => PL cuts i (plM (marksOf prs) (strictOf prs)) x ∨ Mk' prs j 1 b e x) b2)
        ⟨a0, a2, _, _, rfl, s6, ip6, k6, m0.iff fun x => ⟨.inl, fun h => h.elim id fun h => absurd h mk_zero⟩, m2.iff fun x => ⟨.inl, fun h => h.elim id fun h => absurd h mk_zero⟩⟩
        (fun j σ H' _ ⟨_, _, _, _, _, s, _⟩ => SqL.of (s _ _ hl)) ?_ ?_
      · rintro j xx σ H7 hx ⟨b0, b2, w6, w7, rfl, s7, ip7, k7, n0', n2⟩
        obtain ⟨w', z, rfl, hz, hu'⟩ := hpr.get hx
        obtain ⟨z1, z2⟩ := z
        have rg := (G.rng _ (List.mem_of_getElem? hz)).2.2
        have M2 := fun x => mk_succ (kd := 2) (b := b) (e := e) (x := x) hz
        have M1 := fun x => mk_succ (kd := 1) (b := b) (e := e) (x := x) hz
        dsimp only at rg M1 M2
        refine ⟨w', _, rfl, SqT.of (s7 _ _ hu'), rfl, _, _, rfl, _, _, rfl, rfl, ?_⟩
        try dsimp only [L2.start, List.set, List.map, List.append, List.replicate, List.length]
        have skip : ¬ (b < z1 ∧ z1 < e) → ∃ (b0' b2' : Int) (v6 v7 : Option V), [some (V.ref u), some (V.ref c), some (V.ref D), some (V.int b), some (V.int e), some (V.int z1), some (V.int z2), none] = [some (V.ref u), some (V.ref c), some (V.ref D), some (V.int b), some (V.int e), v6, v7, none] ∧ Same H H7 ∧ IL H7 p (cuts.drop 1) ∧ H7 D = some (.lst [.int b0', .int a1, .int b2', .int a3, .int a4', .int a5]) ∧
            MaxOf (fun x => PL cuts i (strictOf prs) x ∨ Mk' prs (j + 1) 2 b e x) b0' ∧ MaxOf (fun x => PL cuts i (plM (marksOf prs) (strictOf prs)) x ∨ Mk' prs (j + 1) 1 b e x) b2' := fun no =>
          ⟨b0, b2, _, _, rfl, s7, ip7, k7, n0'.iff fun x => or_congr Iff.rfl ⟨fun h => (M2 x).mpr (.inl h), fun h => ((M2 x).mp h).elim id fun h => absurd ⟨h.2.1, h.2.2.1⟩ no⟩, n2.iff fun x => or_congr Iff.rfl ⟨fun h => (M1 x).mpr (.inl h), fun h => ((M1 x).mp h).elim id fun h => absurd ⟨h.2.1, h.2.2.1⟩ no⟩⟩
        refine ⟨_, rfl, _, rfl, _, _, rfl, rfl, _, rfl, ?_⟩
        by_cases c1 : b < z1
        · refine ifT (decide_eq_true c1) ?_
          refine ⟨_, rfl, _, _, rfl, rfl, _, rfl, ?_⟩
          by_cases c2 : z1 < e
          · refine ifT (decide_eq_true c2) ?_
            rcases rg with rfl | rfl
            · refine ⟨_, rfl, _, rfl, _, _, rfl, rfl, .inl ⟨by decide, by decide⟩, _, _, rfl, rfl, D, _, _, _, rfl, rfl, SqL.of k7, at_of2 (j := 2) rfl rfl, _, rfl, _, rfl, _, _, rfl, rfl, _, _, rfl, rfl, _, _, rfl, _, rfl, _, rfl, _, _, rfl, rfl, .inl ⟨by decide, by decide⟩, _, _, rfl, rfl, D, _, _, 2, rfl, rfl, k7, rfl, ?_⟩
              refine ⟨b0, _, _, _, rfl, same_put s7 hDn, by show upd _ _ _ p = _; rw [upd_ne npD]; exact ip7, upd_same, n0'.iff fun x => or_congr Iff.rfl ⟨fun h => (M2 x).mpr (.inl h), fun h => ((M2 x).mp h).elim id fun h => absurd h.1 (by decide)⟩, n2.add (by omega) fun x => ?_⟩
              constructor
              · rintro (h | h)
                · exact .inl (.inl h)
                · exact ((M1 x).mp h).elim (fun h => .inl (.inr h)) fun h => .inr (by have := h.2.2.2; omega)
              · rintro ((h | h) | h)
                · exact .inl h
                · exact .inr ((M1 x).mpr (.inl h))
                · exact .inr ((M1 x).mpr (.inr ⟨rfl, c1, c2, by omega⟩))
            · refine ⟨_, rfl, _, rfl, _, _, rfl, rfl, .inl ⟨by decide, by decide⟩, _, _, rfl, rfl, D, _, _, _, rfl, rfl, SqL.of k7, at_of2 (j := 0) rfl rfl, _, rfl, _, rfl, _, _, rfl, rfl, _, _, rfl, rfl, _, _, rfl, _, rfl, _, rfl, _, _, rfl, rfl, .inl ⟨by decide, by decide⟩, _, _, rfl, rfl, D, _, _, 0, rfl, rfl, k7, rfl, ?_⟩
              refine ⟨_, b2, _, _, rfl, same_put s7 hDn, by show upd _ _ _ p = _; rw [upd_ne npD]; exact ip7, upd_same, n0'.add (by omega) fun x => ?_, n2.iff fun x => or_congr Iff.rfl ⟨fun h => (M1 x).mpr (.inl h), fun h => ((M1 x).mp h).elim id fun h => absurd h.1 (by decide)⟩⟩
              constructor
              · rintro (h | h)
                · exact .inl (.inl h)
                · exact ((M2 x).mp h).elim (fun h => .inl (.inr h)) fun h => .inr (by have := h.2.2.2; omega)
              · rintro ((h | h) | h)
                · exact .inl h
                · exact .inr ((M2 x).mpr (.inl h))
                · exact .inr ((M2 x).mpr (.inr ⟨rfl, c1, c2, by omega⟩))
          · refine ifF (decide_eq_false c2) ?_
            exact skip fun h => c2 h.2
        · refine ifF (decide_eq_false c1) ?_
          refine ⟨_, rfl, ?_⟩
          refine ifF rfl ?_
          exact skip fun h => c1 h.1
      rintro σ H7 ⟨b0, b2, w6, w7, rfl, s7, ip7, k7, n0', n2⟩
      rw [List.length_map, lt] at n0' n2
      have m0' : MaxOf (PL cuts (i + 1) (strictOf prs)) b0 := n0'.iff fun x => (or_congr Iff.rfl (mk_all fun y => mem_strict)).trans (PLs x).symm
      have m2' : MaxOf (PL cuts (i + 1) (plM (marksOf prs) (strictOf prs))) b2 := n2.iff fun x => (or_congr Iff.rfl (mk_all fun y => plain_in G)).trans (PLp x).symm
      try dsimp only [L2.start, List.set, List.map, List.append, List.replicate, List.length]
      -- what ends it
      refine ⟨_, rfl, _, rfl, u, _, _, _, rfl, rfl, SqT.of (s7 _ _ hp), at_of2 (j := 0) rfl rfl, _, _, rfl, rfl, _, rfl, ?_⟩
      by_cases c1 : e < n
      · refine ifT (decide_eq_true c1) ?_
        refine ⟨_, rfl, u, _, _, _, rfl, rfl, SqT.of (s7 _ _ hp), at_of2 (j := 1) rfl rfl, lp, ts, _, rfl, SqL.of (s7 _ _ hl), kv_at (hpr.imp fun _ _ h => s7 _ _ h), fun d hd => ⟨d, rfl, .inl ⟨_, .inl upd_same⟩, _, rfl, _, DGet.k (k := Sum.inl e) upd_same, ?_⟩⟩
        have ek : (valV (mergeK [] (prs.map kvOf)) (Sum.inl e)).getD (V.int 0) = V.int (kat prs e) := by
          rw [merge_at _ _ G.asc]
          unfold kat
          cases prs.find? (fun q => decide (q.1 = e)) <;> rfl
        rw [ek]
        have s8 := same_new (o := .dK (mergeK [] (prs.map kvOf))) s7 hd
        have k8 := same_new (o := .dK (mergeK [] (prs.map kvOf))) (Same.refl H7) hd _ _ k7
        have ip8 := same_new (o := .dK (mergeK [] (prs.map kvOf))) (Same.refl H7) hd _ _ ip7
        generalize upd H7 d (.dK (mergeK [] (prs.map kvOf))) = H8 at s8 k8 ip8 ⊢
        try dsimp only [L2.start, List.set, List.map, List.append, List.replicate, List.length]
        have v1 : e - b < 99 := by omega
        rcases kat_cases G e with ⟨ka, i1, i2⟩ | ⟨ka, i1, i2⟩ | ⟨ka, i1, i2⟩
        · rw [ka]
          refine ⟨_, rfl, _, rfl, _, _, rfl, rfl, .inl ⟨by decide, by decide⟩, _, _, rfl, rfl, D, _, _, _, rfl, rfl, SqL.of k8, at_of2 (j := 1) rfl rfl, _, rfl, _, rfl, _, _, rfl, rfl, _, _, rfl, _, rfl, _, rfl, _, _, rfl, rfl, .inl ⟨by decide, by decide⟩, _, _, rfl, rfl, D, _, _, 1, rfl, rfl, k8, rfl, ?_⟩
          exact ⟨b0, _, b2, a3, a4', a5, _, _, _, _, rfl, same_put s8 hDn, by show upd _ _ _ p = _; rw [upd_ne npD]; exact ip8, upd_same, m0', m2', m4', t1.add v1 fun x => (T1 x).trans (or_congr Iff.rfl ⟨fun h => h.2.2, fun h => ⟨c1, i1, h⟩⟩), t3.iff fun x => (or_iff_left_of_imp fun h => absurd i1 h.2.1.2).symm.trans (T3 x).symm, t5.iff fun x => (or_iff_left_of_imp fun h => absurd i2 h.2.1).symm.trans (T5 x).symm⟩
        · rw [ka]
          refine ⟨_, rfl, _, rfl, _, _, rfl, rfl, .inl ⟨by decide, by decide⟩, _, _, rfl, rfl, D, _, _, _, rfl, rfl, SqL.of k8, at_of2 (j := 3) rfl rfl, _, rfl, _, rfl, _, _, rfl, rfl, _, _, rfl, _, rfl, _, rfl, _, _, rfl, rfl, .inl ⟨by decide, by decide⟩, _, _, rfl, rfl, D, _, _, 3, rfl, rfl, k8, rfl, ?_⟩
          exact ⟨b0, a1, b2, _, a4', a5, _, _, _, _, rfl, same_put s8 hDn, by show upd _ _ _ p = _; rw [upd_ne npD]; exact ip8, upd_same, m0', m2', m4', t1.iff fun x => (or_iff_left_of_imp fun h => absurd h.2.1 i2).symm.trans (T1 x).symm, t3.add v1 fun x => (T3 x).trans (or_congr Iff.rfl ⟨fun h => h.2.2, fun h => ⟨c1, ⟨i1, i2⟩, h⟩⟩), t5.iff fun x => (or_iff_left_of_imp fun h => absurd i1 h.2.1).symm.trans (T5 x).symm⟩
        · rw [ka]
          refine ⟨_, rfl, _, rfl, _, _, rfl, rfl, .inl ⟨by decide, by decide⟩, _, _, rfl, rfl, D, _, _, _, rfl, rfl, SqL.of k8, at_of2 (j := 5) rfl rfl, _, rfl, _, rfl, _, _, rfl, rfl, _, _, rfl, _, rfl, _, rfl, _, _, rfl, rfl, .inl ⟨by decide, by decide⟩, _, _, rfl, rfl, D, _, _, 5, rfl, rfl, k8, rfl, ?_⟩
          exact ⟨b0, a1, b2, a3, a4', _, _, _, _, _, rfl, same_put s8 hDn, by show upd _ _ _ p = _; rw [upd_ne npD]; exact ip8, upd_same, m0', m2', m4', t1.iff fun x => (or_iff_left_of_imp fun h => absurd h.2.1 i2).symm.trans (T1 x).symm, t3.iff fun x => (or_iff_left_of_imp fun h => absurd h.2.1.1 i1).symm.trans (T3 x).symm, t5.add v1 fun x => (T5 x).trans (or_congr Iff.rfl ⟨fun h => h.2.2, fun h => ⟨c1, i1, h⟩⟩)⟩
      · refine ifF (decide_eq_false c1) ?_
        exact ⟨b0, a1, b2, a3, a4', a5, _, _, _, _, rfl, s7, ip7, k7, m0', m2', m4', t1.iff fun x => (or_iff_left_of_imp fun h => absurd h.1 c1).symm.trans (T1 x).symm, t3.iff fun x => (or_iff_left_of_imp fun h => absurd h.1 c1).symm.trans (T3 x).symm, t5.iff fun x => (or_iff_left_of_imp fun h => absurd h.1 c1).symm.trans (T5 x).symm⟩
    · rintro σ H4 ⟨a0, a1, a2, a3, a4, a5, v4, v5, v6, v7, rfl, s4, ip4, k4, m0, m2, m4, t1, t3, t5⟩
      try dsimp only [L2.start, List.set, List.map, List.append, List.replicate, List.length]
      refine ⟨_, rfl, D, rfl, ⟨_, SqL.of k4⟩, fun E hE => ?_⟩
      refine lcV (α := Int) (K := K) (src := [.int a0, .int a1, .int a2, .int a3, .int a4, .int a5]) (xs := [a0, a1, a2, a3, a4, a5]) (fun z => if z = 99 then V.non else V.int z) (fun H' s => SqL.of (s _ _ k4)) rfl hE (by show 6 ≤ 999; decide) ?_ ?_
      · intro j x z H5 A' B' hx hz s5 ka
        obtain ⟨z3, rfl, hz3⟩ := il_at (ns := [a0, a1, a2, a3, a4, a5]) hx
        rw [hz] at hz3
        cases hz3
        refine ⟨rfl, ?_⟩
        unfold tYes
        refine iteT ?_
        refine ⟨_, rfl, rfl, _, rfl, ?_⟩
        have kk := ka H5 (Same.refl _)
        by_cases c1 : z = 99
        · rw [if_pos c1] at kk
          exact ifT (decide_eq_true (by rw [c1])) kk
        · rw [if_neg c1] at kk
          exact ifF (decide_eq_false fun h => c1 (V.int.inj h)) ⟨_, rfl, kk⟩
      intro H5 s5 hY
      have pl : ∀ {xs : List Int} {m : Int}, (∀ y ∈ xs, y ∈ marksOf prs) → MaxOf (PL cuts K' xs) m → m ≠ 99 := fun {xs m} sub h e => by
        rcases h.is with z | ⟨j, hj, y, hy, y1, y2, z⟩
        · omega
        · have r1 := CO.rng _ (CO.mem (show j ≤ K' by omega))
          have r2 := CO.rng _ (CO.mem (show j + 1 ≤ K' by omega))
          omega
      have pg : a4 ≠ 99 := fun e => by
        rcases m4.is with z | ⟨j, hj, z⟩
        · omega
        · have r1 := CO.rng _ (CO.mem (show j ≤ K' by omega))
          have r2 := CO.rng _ (CO.mem (show j + 1 ≤ K' by omega))
          omega
      have ov : ∀ m : Int, (if m = 99 then V.non else V.int m) = oV (oT 99 m) := fun m => by
        unfold oT
        by_cases c1 : m = 99
        · rw [if_pos c1, if_pos c1]
          rfl
        · rw [if_neg c1, if_neg c1]
          rfl
      simp only [List.map_cons, List.map_nil] at hY
      rw [if_neg (pl G.good.sub m0), ov a1, if_neg (pl (fun y h => (mem_pl.mp h).1) m2), ov a3, if_neg pg, ov a5] at hY
      refine ⟨E, _, rfl, .inl ⟨SqL.of hY, fun T6 hT6 => ?_⟩⟩
      exact q T6 _ a0 a2 a4 _ _ _ (same_new (s4.trans s5) hT6) ((s4.trans s5).free hT6) upd_same ⟨m0, m2, m4⟩ ⟨t1.of, t3.of, t5.of⟩
abbrev NWin : List Str := ["bounds_here", "three", "spot", "low", "high"]
theorem scWin : FnScope NWin ["bounds_here", "three"] (defScope sWin) := ⟨rfl, rfl, rfl, by decide +kernel, rfl, by decide +kernel, by decide +kernel⟩
theorem ok_wi {f : Addr} {fd : FuncData} (F : Fun K "_law_within" "_law_within" sWin f fd) (T : Bl mg) :
    FnOk P w K mg base CX0 1 f fd ["bounds_here", "three"] (spWi) := by
  refine F.ok scWin (fun vs H Q E h => ?_) (fun cdv A outer s H vs Q E hr h => ?_)
  · obtain ⟨d, t, L, N, G, l, m, g, x, y, z, rfl, _⟩ := h
    rfl
  · obtain ⟨d, t, L, N, G, l, m, g, x, y, z, rfl, hd, ht, q⟩ := h
    refine ⟨_, (pss_cons (ps_for PassesOwn.never rfl (pi_range1 (by rfl) T.range (pa_cons pe_int pa_nil)) (pg_name (i := 2) scWin.nd rfl (Or.inl rfl))
        (pss_cons (ps_asg (pe_slice sl_tup (pv 0) (po_some (pe_op op_mul pe_int (pv 2))) (po_some (pe_op op_add (pe_op op_mul pe_int (pv 2)) pe_int))) (pg_tup rfl (pgs_cons (pg_name (i := 3) scWin.nd rfl (Or.inl rfl)) (pgs_cons (pg_name (i := 4) scWin.nd rfl (Or.inl rfl)) pgs_nil))))
        (pss_one (ps_if (PW.pt (pw_or (pt_cmpR op_lt (pe_ix (r := rIxT K) ix_tup (pv 1) (pv 2) (fun _ _ => rfl)) (pv 3) (nomark _)) (pw_or1 (PW.pt (pw_and (pt_cmpR op_notN (pv 4) pe_non (nomark _)) (pw_and1 (pt_cmpR op_gt (pe_ix (r := rIxT K) ix_tup (pv 1) (pv 2) (fun _ _ => rfl)) (pv 4) (nomark _)))))))) (pss_one (ps_ret pe_bl)) pss_nil))))
        (pss_one (ps_ret pe_bl))), ?_⟩
    have sc : ∀ (i : Nat), i < 3 → ∃ lo to th, [L, N, G][i]? = some lo ∧ [x, y, z][i]? = some to ∧ [V.int l, V.int m, V.int g][i]? = some (V.int th) ∧ [l, m, g][i]? = some th ∧ cutV [.int L, oV x, .int N, oV y, .int G, oV z] (some (2 * (0 + (i : Int)))) (some (2 * (0 + (i : Int)) + 2)) = [.int lo, oV to] ∧ ¬ (HT.sIx 6 0 (some (2 * (0 + (i : Int)))) = 0 ∧ HT.sIx 6 6 (some (2 * (0 + (i : Int)) + 2)) = 6) := fun i hi => by
      match i, hi with
      | 0, _ => exact ⟨L, x, l, rfl, rfl, rfl, rfl, rfl, by decide +kernel⟩
      | 1, _ => exact ⟨N, y, m, rfl, rfl, rfl, rfl, rfl, by decide +kernel⟩
      | 2, _ => exact ⟨G, z, g, rfl, rfl, rfl, rfl, rfl, by decide +kernel⟩
    refine ⟨_, rfl, by decide, by decide, ?_⟩
    refine for_range (lo := 0) (n := 3) (fun i σ H' => ∃ (v2 v3 v4 : Option V), σ = [some (.ref d), some (.ref t), v2, v3, v4] ∧ Same H H' ∧ ∀ j lo to th, j < i → [L, N, G][j]? = some lo → [x, y, z][j]? = some to → [l, m, g][j]? = some th → lo ≤ th ∧ ∀ t, to = some t → th ≤ t)
      ⟨_, _, _, rfl, Same.refl H, fun j _ _ _ h => absurd h (Nat.not_lt_zero _)⟩ ?_ ?_
    · rintro i σ H2 hi ⟨v2, v3, v4, rfl, s2, ok⟩
      obtain ⟨lo, to, th, hlo, hto, hth, hth', ec, nw⟩ := sc i hi
      try dsimp only [L2.start, List.set, List.map, List.append, List.replicate, List.length]
      refine ⟨_, rfl, _, rfl, _, _, rfl, rfl, .inl ⟨by decide, by decide⟩, _, rfl, _, rfl, _, _, rfl, rfl, .inl ⟨by decide, by decide⟩, _, _, rfl, rfl, _, rfl, d, _, rfl, SqT.of (s2 _ _ hd), nw, fun u hu => ?_⟩
      rw [ec]
      have s3 := s2.trans (same_new (o := .tup [.int lo, oV to]) (Same.refl H2) hu)
      have k3 : upd H2 u (.tup [.int lo, oV to]) u = some (.tup [.int lo, oV to]) := upd_same
      generalize upd H2 u (.tup [.int lo, oV to]) = H3 at s3 k3 ⊢
      refine ⟨u, _, rfl, SqT.of k3, rfl, _, _, rfl, _, _, rfl, rfl, ?_⟩
      try dsimp only [L2.start, List.set, List.map, List.append, List.replicate, List.length]
      have all : ∀ (wi : Within L N G x y z l m g) (j : Nat) (lo to th), [L, N, G][j]? = some lo → [x, y, z][j]? = some to → [l, m, g][j]? = some th → lo ≤ th ∧ ∀ t, to = some t → th ≤ t := fun wi j lo to th h1 h2 h3 => by
        match j with
        | 0 => cases h1; cases h2; cases h3; exact ⟨wi.l1, wi.l2⟩
        | 1 => cases h1; cases h2; cases h3; exact ⟨wi.n1, wi.n2⟩
        | 2 => cases h1; cases h2; cases h3; exact ⟨wi.g1, wi.g2⟩
        | j + 3 => cases h1
      have fin : lo ≤ th → (∀ t, to = some t → th ≤ t) → ∀ j lo to th, j < i + 1 → [L, N, G][j]? = some lo → [x, y, z][j]? = some to → [l, m, g][j]? = some th → lo ≤ th ∧ ∀ t, to = some t → th ≤ t := fun a1 a2 j lo' to' th' hj h1 h2 h3 => by
        by_cases c : j = i
        · subst c
          rw [hlo] at h1
          rw [hto] at h2
          rw [hth'] at h3
          cases h1
          cases h2
          cases h3
          exact ⟨a1, a2⟩
        · exact ok j lo' to' th' (by omega) h1 h2 h3
      refine ⟨_, rfl, _, rfl, t, _, _, _, rfl, rfl, SqT.of (s3 _ _ ht), at_of2 (j := i) (by omega) hth, _, rfl, _, _, rfl, rfl, _, rfl, ?_⟩
      by_cases c1 : th < lo
      · refine ifT (decide_eq_true c1) ?_
        exact q H3 false s3 ⟨fun h => (nomatch h), fun wi => absurd (all wi i lo to th hlo hto hth').1 (by omega)⟩
      · refine ifF (decide_eq_false c1) ?_
        cases to with
        | none =>
          refine ⟨_, rfl, rfl, _, rfl, ?_⟩
          refine ifF rfl ?_
          exact ⟨_, _, _, rfl, s3, fin (by omega) fun _ z => (nomatch z)⟩
        | some k =>
          refine ⟨_, rfl, rfl, _, rfl, ?_⟩
          refine ifT rfl ?_
          refine ⟨_, rfl, _, rfl, t, _, _, _, rfl, rfl, SqT.of (s3 _ _ ht), at_of2 (j := i) (by omega) hth, _, rfl, _, _, rfl, rfl, _, rfl, ?_⟩
          by_cases c2 : th > k
          · refine ifT (decide_eq_true c2) ?_
            exact q H3 false s3 ⟨fun h => (nomatch h), fun wi => absurd ((all wi i lo (some k) th hlo hto hth').2 k rfl) (by omega)⟩
          · refine ifF (decide_eq_false c2) ?_
            exact ⟨_, _, _, rfl, s3, fin (by omega) fun _ z => by cases z; omega⟩
    · rintro σ H2 ⟨v2, v3, v4, rfl, s2, ok⟩
      obtain ⟨a1, a2⟩ := ok 0 L x l (by decide) rfl rfl rfl
      obtain ⟨b1, b2⟩ := ok 1 N y m (by decide) rfl rfl rfl
      obtain ⟨c1, c2⟩ := ok 2 G z g (by decide) rfl rfl rfl
      exact q H2 true s2 ⟨fun _ => ⟨a1, b1, c1, a2, b2, c2⟩, fun _ => rfl⟩
end
end Cw
namespace Cw
open PySem L2
abbrev sRt : Stmt := top 32
theorem lo_le {n m : Int} {cuts xs ms ss : List Int} {K : Nat} (C : CutsOk n cuts K) (_G : Good n ms ss) (h : MaxOf (PL cuts K xs) m) (_sub : ∀ y ∈ xs, y ∈ ms) (nlim : n ≤ 9999999999999999999999999999999) : m ≤ 10000000000000000000000000000000 := by
  rcases h.is with e | ⟨j, hj, y, hy, y1, y2, e⟩
  · omega
  · have r1 := C.rng _ (C.mem (show j ≤ K by omega))
    have r2 := C.rng _ (C.mem (show j + 1 ≤ K by omega))
    omega
theorem lo_leG {n m : Int} {cuts : List Int} {K : Nat} (C : CutsOk n cuts K) (h : MaxOf (PG cuts K) m) (nlim : n ≤ 9999999999999999999999999999999) : m ≤ 10000000000000000000000000000000 := by
  rcases h.is with e | ⟨j, hj, e⟩
  · omega
  · have r1 := C.rng _ (C.mem (show j ≤ K by omega))
    have r2 := C.rng _ (C.mem (show j + 1 ≤ K by omega))
    omega
theorem hi_le {n : Int} {cuts : List Int} {K : Nat} {φ : Int → Prop} {o : Option Int} (C : CutsOk n cuts K) (h : MinOf (PT cuts K n φ) o) (nlim : n ≤ 9999999999999999999999999999999) : ∀ t, o = some t → 0 ≤ t ∧ t ≤ 10000000000000000000000000000000 := fun t e => by
  rw [e] at h
  obtain ⟨⟨j, hj, h1, h2, e2⟩, _⟩ := h
  have r1 := C.rng _ (C.mem (show j ≤ K by omega))
  have r2 := C.rng _ (C.mem (show j + 1 ≤ K by omega))
  have r3 := C.lt (show j < j + 1 by omega) (show j + 1 ≤ K by omega)
  omega
def dO : Option Int → PyData
  | none => .none
  | some k => .int k
theorem dp_oV {K : PySem.W.Frag} {H : Hp} : ∀ o : Option Int, Dp K H (oV o) (dO o)
  | none => .non
  | some k => .int k
theorem show_oV {o : Option Int} (h : ∀ t, o = some t → 0 ≤ t ∧ t ≤ 10000000000000000000000000000000) : (PyData.shown (dO o)).length ≤ 1921 ∧ (dO o).showable = true ∧ (dO o).hasDict = false ∧ (dO o).depth ≤ 1 := by
  cases o with
  | none => exact ⟨by decide, rfl, rfl, by show PyData.depth .none ≤ 1; simp [PyData.depth]⟩
  | some k =>
    have := h k rfl
    exact ⟨shown_wide this.1 (by omega), decide_eq_true (log_wide this.1 (by omega)), rfl, by show PyData.depth (.int k) ≤ 1; simp [PyData.depth]⟩
/-- the text of the bounds -/
def six (L N G : Int) (x y z : Option Int) : PyData := .tuple [.int L, dO x, .int N, dO y, .int G, dO z]
theorem txt_six {K : PySem.W.Frag} {H : Hp} {p : Addr} {L N G : Int} {x y z : Option Int} (h : H p = some (.tup [.int L, oV x, .int N, oV y, .int G, oV z])) (hL : 0 ≤ L ∧ L ≤ 10000000000000000000000000000000) (hN : 0 ≤ N ∧ N ≤ 10000000000000000000000000000000) (hG : 0 ≤ G ∧ G ≤ 10000000000000000000000000000000)
    (hx : ∀ t, x = some t → 0 ≤ t ∧ t ≤ 10000000000000000000000000000000) (hy : ∀ t, y = some t → 0 ≤ t ∧ t ≤ 10000000000000000000000000000000) (hz : ∀ t, z = some t → 0 ≤ t ∧ t ≤ 10000000000000000000000000000000) :
    Txt K H p (six L N G x y z) := by
  show Txt K H p (.tuple [.int L, dO x, .int N, dO y, .int G, dO z])
  obtain ⟨x1, x2, x3, x4⟩ := show_oV hx
  obtain ⟨y1, y2, y3, y4⟩ := show_oV hy
  obtain ⟨z1, z2, z3, z4⟩ := show_oV hz
  have l1 := shown_wide hL.1 (show L ≤ 1000000000000000000000000000000000 by omega)
  have n1 := shown_wide hN.1 (show N ≤ 1000000000000000000000000000000000 by omega)
  have g1 := shown_wide hG.1 (show G ≤ 1000000000000000000000000000000000 by omega)
  refine ⟨.tup (SqT.of h) (.cons (.int _) (.cons (dp_oV x) (.cons (.int _) (.cons (dp_oV y) (.cons (.int _) (.cons (dp_oV z) .nil)))))), ?_, ?_, ?_, ?_⟩
  · simp only [PyData.showable, PyData.showableAll, x2, y2, z2, decide_eq_true (log_wide hL.1 (show L ≤ 1000000000000000000000000000000000 by omega)), decide_eq_true (log_wide hN.1 (show N ≤ 1000000000000000000000000000000000 by omega)), decide_eq_true (log_wide hG.1 (show G ≤ 1000000000000000000000000000000000 by omega)), Bool.and_self]
  · simp only [PyData.hasDict, PyData.hasDictAll, x3, y3, z3, Bool.or_self]
  · simp only [PyData.depth, PyData.depthAll]
    omega
  · have zt := tupleText_len_le [PyData.shown (.int L), PyData.shown (dO x), PyData.shown (.int N), PyData.shown (dO y), PyData.shown (.int G), PyData.shown (dO z)]
    simp only [List.map_cons, List.map_nil, List.sum_cons, List.sum_nil, List.length_cons, List.length_nil] at zt
    simp only [PyData.shown, PyData.shownAll] at zt l1 n1 g1 ⊢
    rw [sizeLine_eq]
    omega
abbrev TrAt (H : Hp) : List Addr → List (Int × Int × Int) → Prop := Paired (fun t (q : Int × Int × Int) => H t = some (.tup [.int q.1, .int q.2.1, .int q.2.2]))
theorem TrAt.imp {H H' : Hp} : ∀ {ts : List Addr} {ps : List (Int × Int × Int)}, TrAt H ts ps → (∀ t (q : Int × Int × Int), H t = some (.tup [.int q.1, .int q.2.1, .int q.2.2]) → H' t = some (.tup [.int q.1, .int q.2.1, .int q.2.2])) → TrAt H' ts ps
  | _, _, .nil, _ => .nil
  | _, _, .cons h r, k => .cons (k _ _ h) (TrAt.imp r k)
theorem TrAt.app {H : Hp} : ∀ {ts us : List Addr} {ps qs : List (Int × Int × Int)}, TrAt H ts ps → TrAt H us qs → TrAt H (ts ++ us) (ps ++ qs)
  | _, _, _, _, .nil, h => h
  | _, _, _, _, .cons a r, h => .cons a (TrAt.app r h)
theorem TrAt.len {H : Hp} : ∀ {ts : List Addr} {ps : List (Int × Int × Int)}, TrAt H ts ps → ts.length = ps.length
  | _, _, .nil => rfl
  | _, _, .cons _ r => by rw [List.length_cons, List.length_cons, TrAt.len r]
theorem TrAt.get {H : Hp} : ∀ {ts : List Addr} {ps : List (Int × Int × Int)} {i : Nat} {v : V}, TrAt H ts ps → (ts.map V.ref)[i]? = some v → ∃ t q, v = .ref t ∧ ps[i]? = some q ∧ H t = some (.tup [.int q.1, .int q.2.1, .int q.2.2])
  | _, _, 0, v, .cons (a := t) (b := q) a _, e => ⟨t, q, (Option.some.inj e).symm, rfl, a⟩
  | _, _, i + 1, v, .cons _ r, e => by
    obtain ⟨t, p, h1, h2, h3⟩ := TrAt.get (i := i) r e
    exact ⟨t, p, h1, h2, h3⟩
  | _, _, _, _, .nil, e => by simp at e
theorem TrAt.take {H : Hp} : ∀ {ts : List Addr} {ps : List (Int × Int × Int)} (j : Nat), TrAt H ts ps → TrAt H (ts.take j) (ps.take j)
  | _, _, 0, _ => .nil
  | _, _, _ + 1, .nil => .nil
  | _, _, j + 1, .cons a r => .cons a (TrAt.take j r)
theorem TrAt.same {H H' : Hp} {ts : List Addr} {ps : List (Int × Int × Int)} (h : TrAt H ts ps) (s : Same H H') : TrAt H' ts ps := h.imp fun _ _ k => s _ _ k
abbrev dT3 (q : Int × Int × Int) : PyData := .tuple [.int q.1, .int q.2.1, .int q.2.2]
theorem dp_t3 {K : PySem.W.Frag} {H : Hp} {t : Addr} {q : Int × Int × Int} (h : H t = some (.tup [.int q.1, .int q.2.1, .int q.2.2])) : Dp K H (.ref t) (dT3 q) := .tup (SqT.of h) (.cons (.int _) (.cons (.int _) (.cons (.int _) .nil)))
theorem dps_t3 {K : PySem.W.Frag} {H : Hp} : ∀ {ts : List Addr} {ps : List (Int × Int × Int)}, TrAt H ts ps → DpAll K H (ts.map V.ref) (ps.map dT3)
  | _, _, .nil => .nil
  | _, _, .cons h r => .cons (dp_t3 h) (dps_t3 r)
theorem shaped_t3 (q : Int × Int × Int) : SeqAt.shaped (dT3 q) = true := by rfl
theorem eqv_t3 {a b : Int × Int × Int} : PyData.eqv (dT3 a) (dT3 b) = decide (a = b) := by
  obtain ⟨a1, a2, a3⟩ := a
  obtain ⟨b1, b2, b3⟩ := b
  show ((a1 == b1) && ((a2 == b2) && ((a3 == b3) && true))) = _
  rw [Bool.eq_iff_iff]
  simp
theorem any_t3 {q : Int × Int × Int} {ps : List (Int × Int × Int)} : ((ps.map dT3).any fun z => PyData.eqv z (dT3 q)) = decide (q ∈ ps) := by
  rw [Bool.eq_iff_iff, List.any_eq_true, decide_eq_true_iff]
  constructor
  · rintro ⟨z, hz, e⟩
    obtain ⟨r, hr, rfl⟩ := List.mem_map.mp hz
    rw [eqv_t3, decide_eq_true_iff] at e
    exact e ▸ hr
  · intro h
    exact ⟨dT3 q, List.mem_map.mpr ⟨q, h, rfl⟩, by rw [eqv_t3]; exact decide_eq_true rfl⟩
theorem eqv_t3nil {ps : List (Int × Int × Int)} : PyData.eqv (.list (ps.map dT3)) (.list []) = decide (ps = []) := by
  cases ps with
  | nil => rfl
  | cons _ _ => rfl
theorem eqvAll_ints : ∀ {xs ys : List Int}, PyData.eqvAll (xs.map PyData.int) (ys.map PyData.int) = decide (xs = ys)
  | [], [] => rfl
  | [], _ :: _ => rfl
  | _ :: _, [] => rfl
  | x :: xs, y :: ys => by
    show ((x == y) && PyData.eqvAll (xs.map PyData.int) (ys.map PyData.int)) = _
    rw [eqvAll_ints, Bool.eq_iff_iff]
    simp
theorem eqv_ints {xs ys : List Int} : PyData.eqv (.list (xs.map PyData.int)) (.list (ys.map PyData.int)) = decide (xs = ys) := eqvAll_ints
/-- a comprehension over a range that makes triples -/
theorem lcT3 {D : Addr} {lo : Int} {N : Nat} {g : TG} {tt : TT} {te : TE} {vs : List Nat} {σ : St} {H1 : Hp} {Qd : Hp → Prop} (f : Nat → Int × Int × Int)
    (hD : H1 D = none) (few : N ≤ 999)
    (step : ∀ (i : Nat) (H : Hp) (A : V → Hp → Prop) (B : Hp → Prop), i < N → Same H1 H → (∀ e, H e = none → A (.ref e) (upd H e (.tup [.int (f i).1, .int (f i).2.1, .int (f i).2.2]))) →
      g (.int (lo + (i : Int))) (wipe σ vs) H fun σ2 H2 => wipe σ2 vs = wipe σ vs ∧ tt σ2 H2 fun b H3 => if b = true then te σ2 H3 fun y H4 => A y H4 else B H3)
    (fin : ∀ (H : Hp) (es : List Addr), Same H1 H → H D = some (.lst (es.map V.ref)) → TrAt H es ((List.range N).map f) → Qd H) :
    ∃ W : Nat → Nat → Hp → Prop, (∃ m, W 0 m (upd H1 D (HO.lst []))) ∧ ∀ (i m : Nat) (H : Hp), W i m H → (Itr lo N).stop i H ∧ Qd H ∨ (Itr lo N).go i H ∧ ∃ Nx : Hp → Prop, (∀ H', Nx H' → ∃ m', m' < m ∧ W (i + 1) m' H') ∧
      ∀ (x : V) (H' : Hp), (Itr lo N).yld i H x H' → g x (wipe σ vs) H' fun σ2 H2 => wipe σ2 vs = wipe σ vs ∧ tt σ2 H2 fun b H3 => if b = true then te σ2 H3 fun y H4 => ∃ acc, H4 D = some (HO.lst acc) ∧ acc.length < sizeLine ∧ Nx (upd H4 D (HO.lst (acc ++ [y]))) else Nx H3 := by
  refine lc_range (lo := lo) (n := N) (fun i H' => Same H1 H' ∧ ∃ es : List Addr, H' D = some (.lst (es.map V.ref)) ∧ TrAt H' es ((List.range i).map f)) ⟨same_new (Same.refl H1) hD, [], upd_same, .nil⟩ ?_ ?_
  · rintro i H' hi ⟨s1, es, hE, tr⟩
    have tl := tr.len
    rw [List.length_map, List.length_range] at tl
    refine step i H' _ _ hi s1 fun e he => ?_
    have se := same_new (o := .tup [.int (f i).1, .int (f i).2.1, .int (f i).2.2]) (Same.refl H') he
    have ke : upd H' e (.tup [.int (f i).1, .int (f i).2.1, .int (f i).2.2]) e = some (.tup [.int (f i).1, .int (f i).2.1, .int (f i).2.2]) := upd_same
    generalize upd H' e (.tup [.int (f i).1, .int (f i).2.1, .int (f i).2.2]) = H2 at se ke ⊢
    have hE2 := se _ _ hE
    refine ⟨_, hE2, by rw [List.length_map]; exact small1000 (by omega), same_put (s1.trans se) hD, es ++ [e], ?_, ?_⟩
    · show upd _ _ _ D = _
      rw [upd_same, List.map_append]
      rfl
    · have keep : ∀ t (q : Int × Int × Int), H2 t = some (.tup [.int q.1, .int q.2.1, .int q.2.2]) → upd H2 D (.lst (es.map V.ref ++ [V.ref e])) t = some (.tup [.int q.1, .int q.2.1, .int q.2.2]) := fun t q h => by
        have : t ≠ D := fun k => by rw [k, hE2] at h; cases h
        rw [upd_ne this]
        exact h
      rw [List.range_succ, List.map_append]
      exact TrAt.app ((tr.same se).imp keep) (.cons (keep _ _ ke) .nil)
  · rintro H' ⟨s1, es, hE, tr⟩
    exact fin H' es s1 hE tr
/-- a comprehension that keeps some triples of a list -/
theorem lcK3 {K : PySem.W.Frag} {a D : Addr} {ts : List Addr} {trs : List (Int × Int × Int)} {g : TG} {tt : TT} {te : TE} {vs : List Nat} {σ : St} {H1 : Hp} {Qd : Hp → Prop} (f : Int × Int × Int → Bool)
    (ha : H1 a = some (.lst (ts.map V.ref))) (hp : TrAt H1 ts trs) (hD : H1 D = none) (few : trs.length ≤ 999)
    (step : ∀ (u : Addr) (q : Int × Int × Int) (H : Hp) (A : V → Hp → Prop) (B : Hp → Prop), Same H1 H → q ∈ trs → H u = some (.tup [.int q.1, .int q.2.1, .int q.2.2]) → (∀ H', Same H H' → f q = true → A (.ref u) H') → (∀ H', Same H H' → f q = false → B H') →
      g (.ref u) (wipe σ vs) H fun σ2 H2 => wipe σ2 vs = wipe σ vs ∧ tt σ2 H2 fun b H3 => if b = true then te σ2 H3 fun y H4 => A y H4 else B H3)
    (fin : ∀ (H : Hp) (es : List Addr), Same H1 H → H D = some (.lst (es.map V.ref)) → TrAt H es (trs.filter f) → Qd H) :
    ∃ W : Nat → Nat → Hp → Prop, (∃ m, W 0 m (upd H1 D (HO.lst []))) ∧ ∀ (i m : Nat) (H : Hp), W i m H → (Itl K a).stop i H ∧ Qd H ∨ (Itl K a).go i H ∧ ∃ Nx : Hp → Prop, (∀ H', Nx H' → ∃ m', m' < m ∧ W (i + 1) m' H') ∧
      ∀ (x : V) (H' : Hp), (Itl K a).yld i H x H' → g x (wipe σ vs) H' fun σ2 H2 => wipe σ2 vs = wipe σ vs ∧ tt σ2 H2 fun b H3 => if b = true then te σ2 H3 fun y H4 => ∃ acc, H4 D = some (HO.lst acc) ∧ acc.length < sizeLine ∧ Nx (upd H4 D (HO.lst (acc ++ [y]))) else Nx H3 := by
  have lt := hp.len
  refine lc_list (K := K) (a := a) (xs := ts.map V.ref) (fun i H' => Same H1 H' ∧ ∃ es : List Addr, H' D = some (.lst (es.map V.ref)) ∧ TrAt H' es ((trs.take i).filter f)) ⟨same_new (Same.refl H1) hD, [], upd_same, .nil⟩ (fun i H' _ z => SqL.of (z.1 _ _ ha)) ?_ ?_
  · rintro i x H' hx ⟨s1, es, hE, tr⟩
    obtain ⟨u, q, rfl, hq, hu⟩ := hp.get hx
    have tl := tr.len
    have l1 := List.length_filter_le f (trs.take i)
    rw [List.length_take] at l1
    have tk : (trs.take (i + 1)).filter f = (trs.take i).filter f ++ (if f q = true then [q] else []) := by
      rw [List.take_add_one, hq, List.filter_append]
      congr 1
      show List.filter f [q] = _
      rw [List.filter_cons]
      split <;> rfl
    refine step u q H' _ _ s1 (List.mem_of_getElem? hq) (s1 _ _ hu) (fun H2 s2 c => ?_) (fun H2 s2 c => ?_)
    · have hE2 := s2 _ _ hE
      have keep : ∀ t (q : Int × Int × Int), H2 t = some (.tup [.int q.1, .int q.2.1, .int q.2.2]) → upd H2 D (.lst (es.map V.ref ++ [V.ref u])) t = some (.tup [.int q.1, .int q.2.1, .int q.2.2]) := fun t q h => by
        have : t ≠ D := fun k => by rw [k, hE2] at h; cases h
        rw [upd_ne this]
        exact h
      refine ⟨_, hE2, by rw [List.length_map]; exact small1000 (by omega), same_put (s1.trans s2) hD, es ++ [u], ?_, ?_⟩
      · show upd _ _ _ D = _
        rw [upd_same, List.map_append]
        rfl
      · rw [tk, if_pos c]
        exact TrAt.app ((tr.same s2).imp keep) (.cons (keep _ _ (s2 _ _ (s1 _ _ hu))) .nil)
    · refine ⟨s1.trans s2, es, s2 _ _ hE, ?_⟩
      rw [tk, if_neg (by rw [c]; exact Bool.false_ne_true), List.append_nil]
      exact tr.same s2
  · rintro H ⟨s1, es, hE, tr⟩
    rw [List.length_map, lt, List.take_length] at tr
    exact fin H es s1 hE tr
/-- a comprehension that makes the same list for each triple -/
theorem lcW3 {K : PySem.W.Frag} {a D : Addr} {ts : List Addr} {trs : List (Int × Int × Int)} {cuts : List Int} {g : TG} {tt : TT} {te : TE} {vs : List Nat} {σ : St} {H1 : Hp} {Qd : Hp → Prop}
    (ha : H1 a = some (.lst (ts.map V.ref))) (hp : TrAt H1 ts trs) (hD : H1 D = none) (few : trs.length ≤ 999)
    (step : ∀ (u : Addr) (q : Int × Int × Int) (H : Hp) (A : V → Hp → Prop) (B : Hp → Prop), Same H1 H → q ∈ trs → H u = some (.tup [.int q.1, .int q.2.1, .int q.2.2]) → (∀ w H', Same H H' → H w = none → IL H' w cuts → A (.ref w) H') →
      g (.ref u) (wipe σ vs) H fun σ2 H2 => wipe σ2 vs = wipe σ vs ∧ tt σ2 H2 fun b H3 => if b = true then te σ2 H3 fun y H4 => A y H4 else B H3)
    (fin : ∀ (H : Hp) (ws : List Addr), Same H1 H → H D = some (.lst (ws.map V.ref)) → ws.length ≤ 999 → (∀ w ∈ ws, IL H w cuts) → Qd H) :
    ∃ W : Nat → Nat → Hp → Prop, (∃ m, W 0 m (upd H1 D (HO.lst []))) ∧ ∀ (i m : Nat) (H : Hp), W i m H → (Itl K a).stop i H ∧ Qd H ∨ (Itl K a).go i H ∧ ∃ Nx : Hp → Prop, (∀ H', Nx H' → ∃ m', m' < m ∧ W (i + 1) m' H') ∧
      ∀ (x : V) (H' : Hp), (Itl K a).yld i H x H' → g x (wipe σ vs) H' fun σ2 H2 => wipe σ2 vs = wipe σ vs ∧ tt σ2 H2 fun b H3 => if b = true then te σ2 H3 fun y H4 => ∃ acc, H4 D = some (HO.lst acc) ∧ acc.length < sizeLine ∧ Nx (upd H4 D (HO.lst (acc ++ [y]))) else Nx H3 := by
  have lt := hp.len
  refine lc_list (K := K) (a := a) (xs := ts.map V.ref) (fun i H' => Same H1 H' ∧ ∃ ws : List Addr, H' D = some (.lst (ws.map V.ref)) ∧ ws.length ≤ i ∧ ∀ w ∈ ws, w ≠ D ∧ IL H' w cuts) ⟨same_new (Same.refl H1) hD, [], upd_same, Nat.zero_le _, fun _ h => nomatch h⟩ (fun i H' _ z => SqL.of (z.1 _ _ ha)) ?_ ?_
  · rintro i x H' hx ⟨s1, ws, hE, wl, al⟩
    obtain ⟨u, q, rfl, hq, hu⟩ := hp.get hx
    have il := (List.getElem?_eq_some_iff.mp hq).1
    refine step u q H' _ _ s1 (List.mem_of_getElem? hq) (s1 _ _ hu) fun w H2 s2 nw iw => ?_
    have nD : w ≠ D := fun k => by rw [k, hE] at nw; cases nw
    refine ⟨_, s2 _ _ hE, by rw [List.length_map]; exact small1000 (by omega), same_put (s1.trans s2) hD, ws ++ [w], ?_, ?_, ?_⟩
    · show upd _ _ _ D = _
      rw [upd_same, List.map_append]
      rfl
    · rw [List.length_append, List.length_singleton]
      omega
    · intro v hv
      rcases List.mem_append.mp hv with h | h
      · obtain ⟨a1, a2⟩ := al v h
        refine ⟨a1, ?_⟩
        show upd _ _ _ v = _
        rw [upd_ne a1]
        exact s2 _ _ a2
      · rw [List.mem_singleton.mp h]
        refine ⟨nD, ?_⟩
        show upd _ _ _ w = _
        rw [upd_ne nD]
        exact iw
  · rintro H ⟨s1, ws, hE, wl, al⟩
    rw [List.length_map, lt] at wl
    exact fin H ws s1 hE (by omega) fun w h => (al w h).2
/-- repr of data or of None -/
def rReprV (K : PySem.W.Frag) : List V → Hp → VK → Prop := fun xs H Q => (xs = [.non] ∧ Q (.str "None") H) ∨ rReprD K xs H Q
theorem call_reprV {X : Cx} (gu : X.A.guards = some []) (hu : X.A.units + 64 < cLine) : CallR X (.builtin "repr") (rReprV X.K) := by
  intro pins s σ H xs us Q I r h
  rcases h with ⟨rfl, q⟩ | h
  · obtain ⟨u, rfl, rx⟩ := vals1 r
    obtain rfl : u = Value.none := rx
    exact PySem.P.repr_of_none ⟨.str _, H, I.tok _, ⟨_, rfl⟩, q⟩
  · exact call_reprD gu hu pins s σ H xs us Q I r h
def wiB (L N G : Int) (x y z : Option Int) (q : Int × Int × Int) : Bool := decide (L ≤ q.1) && decide (N ≤ q.2.1) && decide (G ≤ q.2.2) && (x.all fun t => decide (q.1 ≤ t)) && (y.all fun t => decide (q.2.1 ≤ t)) && (z.all fun t => decide (q.2.2 ≤ t))
theorem wiB_iff {L N G : Int} {x y z : Option Int} {q : Int × Int × Int} : wiB L N G x y z q = true ↔ Within L N G x y z q.1 q.2.1 q.2.2 := by
  unfold wiB
  have o : ∀ (o : Option Int) (v : Int), (o.all fun t => decide (v ≤ t)) = true ↔ ∀ t, o = some t → v ≤ t := fun o v => by
    cases o with
    | none => exact ⟨fun _ _ e => (nomatch e), fun _ => rfl⟩
    | some k =>
      show decide (v ≤ k) = true ↔ _
      rw [decide_eq_true_iff]
      exact ⟨fun h t e => by cases e; exact h, fun h => h k rfl⟩
  simp only [Bool.and_eq_true, decide_eq_true_iff, o]
  exact ⟨fun ⟨⟨⟨⟨⟨a, b⟩, c⟩, d⟩, e⟩, f⟩ => ⟨a, b, c, d, e, f⟩, fun w => ⟨⟨⟨⟨⟨w.1, w.2⟩, w.3⟩, w.4⟩, w.5⟩, w.6⟩⟩
def Ok12 (q : Int × Int × Int) : Prop := 1 ≤ q.1 ∧ q.1 ≤ q.2.1 ∧ q.2.1 ≤ q.2.2 ∧ q.2.2 ≤ 12
theorem Ok12.set {q : Int × Int × Int} (h : Ok12 q) : SetOk q.1 q.2.1 q.2.2 := ⟨h.1, h.2.1, h.2.2.1⟩
def cntI (i j : Nat) : Nat := ((List.range j).map fun b => 12 - i - b).sum
def cntO (i : Nat) : Nat := ((List.range i).map fun a => cntI a (12 - a)).sum
theorem cntI_succ {i j : Nat} : cntI i (j + 1) = cntI i j + (12 - i - j) := by
  unfold cntI
  rw [List.range_succ, List.map_append, List.sum_append]
  rfl
theorem cntO_succ {i : Nat} : cntO (i + 1) = cntO i + cntI i (12 - i) := by
  unfold cntO
  rw [List.range_succ, List.map_append, List.sum_append]
  rfl
/-- what settings_for gives, in one way -/
theorem sf_of {L N G : Int} {x y z : Option Int} {H' : Hp} {Q : V → Hp → Prop} (h : ∀ (tv : V) (H4 : Hp) (ok : Bool), Same H' H4 → (ok = true ↔ OkS L N G x y z) → ((ok = false ∧ tv = .non) ∨ (ok = true ∧ ∃ p, tv = .ref p ∧ H4 p = some (.tup [.int L, oV x, .int N, oV y, .int G, oV z]))) → Q tv H4) :
    (¬ OkS L N G x y z → Q .non H') ∧ (OkS L N G x y z → ∀ p, H' p = none → Q (.ref p) (upd H' p (.tup [.int L, oV x, .int N, oV y, .int G, oV z]))) :=
  ⟨fun no => h _ _ false (Same.refl _) ⟨fun z => (nomatch z), fun z => absurd z no⟩ (.inl ⟨rfl, rfl⟩), fun ok p hp => h _ _ true (same_new (Same.refl H') hp) ⟨fun _ => ok, fun _ => rfl⟩ (.inr ⟨rfl, p, rfl, upd_same⟩)⟩
theorem rest2 {R A : Prop} (k : R → A) (h : R) : A := k h
theorem sf_use {C ro hd : Addr} {n : Int} {ms ss cuts : List Int} {K' : Nat} {vs : List V} {H2 : Hp} {Q : VK} {E : XK} (row : RowAt C H2 ro n ms ss) (e : vs = [.ref ro, .ref hd]) (GG : Good n ms ss) (k : IL H2 hd cuts) (CO : CutsOk n cuts K')
    (h : ∀ (tv : V) (H4 : Hp) (ok : Bool) (L N G : Int) (x y z : Option Int), Same H2 H4 → Lo cuts K' ms ss L N G → Hi cuts K' n ms ss x y z → (ok = true ↔ OkS L N G x y z) → ((ok = false ∧ tv = .non) ∨ (ok = true ∧ ∃ p, tv = .ref p ∧ H4 p = some (.tup [.int L, oV x, .int N, oV y, .int G, oV z]))) → Q tv H4) : spSf C vs H2 Q E :=
  ⟨ro, hd, n, ms, ss, cuts, K', e, row, GG, k, CO, fun _ L N G x y z s lo hi => sf_of fun tv H4 ok s4 ho ht => h tv H4 ok L N G x y z (s.trans s4) lo hi ho ht⟩
theorem lay_t3 : ∀ ps : List (Int × Int × Int), PyData.canLayAll0 (ps.map dT3) = true
  | [] => rfl
  | _ :: r => lay_t3 r
theorem depth_t3 : ∀ ps : List (Int × Int × Int), PyData.depthAll (ps.map dT3) ≤ 3 := fun ps => by
  induction ps with
  | nil => decide
  | cons q r ih =>
    have e : PyData.depth (dT3 q) ≤ 3 := by
      have z : PyData.depth (dT3 q) = PyData.depth (.tuple [.int 0, .int 0, .int 0]) := rfl
      rw [z]
      decide +kernel
    simp only [List.map_cons, PyData.depthAll]
    omega
theorem shape_t3s (ps : List (Int × Int × Int)) : SeqAt.shaped (.list (ps.map dT3)) = true := by
  have h1 : PyData.canLay0 (.list (ps.map dT3)) = true := by
    unfold PyData.canLay0
    exact lay_t3 ps
  have h2 : PyData.depth (.list (ps.map dT3)) ≤ 64 := by
    have z := depth_t3 ps
    unfold PyData.depth
    omega
  unfold SeqAt.shaped
  rw [h1, decide_eq_true h2]
  rfl
theorem lo_n {n m : Int} {cuts xs : List Int} {K : Nat} (C : CutsOk n cuts K) (h : MaxOf (PL cuts K xs) m) (n0 : 1 ≤ n) : m ≤ n := by
  rcases h.is with e | ⟨j, hj, y, hy, y1, y2, e⟩
  · omega
  · have r1 := C.rng _ (C.mem (show j ≤ K by omega))
    have r2 := C.rng _ (C.mem (show j + 1 ≤ K by omega))
    omega
theorem lo_nG {n m : Int} {cuts : List Int} {K : Nat} (C : CutsOk n cuts K) (h : MaxOf (PG cuts K) m) (n0 : 1 ≤ n) : m ≤ n := by
  rcases h.is with e | ⟨j, hj, e⟩
  · omega
  · have r1 := C.rng _ (C.mem (show j ≤ K by omega))
    have r2 := C.rng _ (C.mem (show j + 1 ≤ K by omega))
    omega
theorem rest3 {H : Hp} {R : Addr → Prop} {A : Prop} (k : (∀ e, H e = none → R e) → A) (h : ∀ e, H e = none → R e) : A := k h
theorem cut_to {α : Type} (f : α → V) (xs : List α) (s : Nat) : cutV (xs.map f) none (some (s : Int)) = (xs.take s).map f := by
  have e : HT.sIx (xs.map f).length (xs.map f).length (some (s : Int)) = min s (xs.map f).length := HT.sIx_nat _ _ s
  unfold cutV
  rw [e, HT.sIx_none, List.drop_zero, ← List.map_take, List.length_map]
  by_cases h : s ≤ xs.length
  · rw [Nat.min_eq_left h, Nat.sub_zero]
  · rw [Nat.min_eq_right (by omega), Nat.sub_zero, List.take_of_length_le (Nat.le_refl _), List.take_of_length_le (Nat.le_of_lt (by omega))]
def spRi (C : Addr) : Sp := fun vs H Q _ => ∃ (u c : Addr) (n l m g : Int) (prs : List (Int × Int)) (cuts : List Int) (K' : Nat), vs = [.ref u, .ref c] ∧ RawS H u n prs l m g ∧ GoodP n prs ∧ n ≤ 10 ∧ prs.length ≤ 39 ∧ IL H c cuts ∧ CutsOk n cuts K' ∧ ∀ H', Same H H' → Q (.bl true) H'
section
variable {P : Program} {w : World} {K : PySem.W.Frag} {mg : Str → Option Value} {base : Heap}
abbrev NRt : List Str := ["raw", "cuts_here", "handed", "told", "tried", "least", "normal", "due", "some", "spot", "three", "walks_here", "greatest", "one"]
theorem scRt : FnScope NRt ["raw", "cuts_here"] (defScope sRt) := ⟨rfl, rfl, rfl, by decide +kernel, rfl, by decide +kernel, by decide +kernel⟩
theorem ok_ri {f C fS fH fB fW fL : Addr} {fd fdS fdH fdB fdW fdL : FuncData} (F : Fun K "_law_right" "_law_right" sRt f fd) (T : Bl mg) (hRp : mg "repr" = none)
    (gS : mg "settings_for" = some (.ref fS)) (kS : PySem.W.keepIn K (.ref fS) = true) (bS : Binds K fdS ["row", "cuts"] []) (GS : FnOk P w K mg base CX0 5 fS fdS ["row", "cuts"] (spSf C))
    (gH : mg "_law_heap" = some (.ref fH)) (kH : PySem.W.keepIn K (.ref fH) = true) (bH : Binds K fdH ["raw"] []) (GH : FnOk P w K mg base CX0 7 fH fdH ["raw"] (spHeap C))
    (gB : mg "_law_bounds" = some (.ref fB)) (kB : PySem.W.keepIn K (.ref fB) = true) (bB : Binds K fdB ["raw", "cuts_here"] []) (GB : FnOk P w K mg base CX0 2 fB fdB ["raw", "cuts_here"] spBd)
    (gW : mg "_law_within" = some (.ref fW)) (kW : PySem.W.keepIn K (.ref fW) = true) (bW : Binds K fdW ["bounds_here", "three"] []) (GW : FnOk P w K mg base CX0 1 fW fdW ["bounds_here", "three"] spWi)
    (gL : mg "_law_slow_walk" = some (.ref fL)) (kL : PySem.W.keepIn K (.ref fL) = true) (bL : Binds K fdL ["raw", "begin"] []) (GL : FnOk P w K mg base CX0 2 fL fdL ["raw", "begin"] spSW) :
    FnG P w K mg base 8 f fd ["raw", "cuts_here"] (spRi C) := by
  refine okG F scRt (fun vs H Q E h => ?_) (fun cdv A outer s H vs Q E hr hg h => ?_)
  · obtain ⟨u, c, n, l, m, g, prs, cuts, K', rfl, _⟩ := h
    rfl
  · obtain ⟨u, c, n, l, m, g, prs, cuts, K', rfl, RR, G, n40, pl, hC, CO, q⟩ := h
    have hu : (A.deeper (PyProof.Rows.envOfC "_law_right" (defScope sRt) s.heap.objs.size f cdv)).units + 64 < cLine := Nat.lt_of_le_of_lt (by omega) hr.un
    have hu65 : (A.deeper (PyProof.Rows.envOfC "_law_right" (defScope sRt) s.heap.objs.size f cdv)).units + 65 < cLine := Nat.lt_of_le_of_lt (by omega) hr.un
    have gu : (A.deeper (PyProof.Rows.envOfC "_law_right" (defScope sRt) s.heap.objs.size f cdv)).guards = some [] := hg
    refine ⟨_, (pss_cons (ps_set (i := 2) scRt.nd rfl (Or.inl rfl) (pe_callTy call_list_of (by rfl) T.list (by decide +kernel) (pa_cons (pv 1) pa_nil)))
        (pss_cons (ps_set (i := 3) scRt.nd rfl (Or.inl rfl) (pe_call GS (hr.mono (by decide)) rfl gS kS bS .nil pass0 (pa_cons (pe_call GH (hr.mono (by decide)) rfl gH kH bH .nil pass0 (pa_cons (pv 0) pa_nil)) (pa_cons (pv 2) pa_nil))))
        (pss_cons (ps_set (i := 4) scRt.nd rfl (Or.inl rfl) (pe_lst pa_nil))
        (pss_cons (ps_for PassesOwn.never rfl (pi_range2 (by rfl) T.range (pa_cons pe_int (pa_cons pe_int pa_nil))) (pg_name (i := 5) scRt.nd rfl (Or.inr rfl))
        (pss_one (ps_for PassesOwn.never rfl (pi_range2 (by rfl) T.range (pa_cons (pv 5) (pa_cons pe_int pa_nil))) (pg_name (i := 6) scRt.nd rfl (Or.inr rfl))
        (pss_one (ps_expr (pe_bm PySem.F.plainAttrs_list PySem.F.slot_list_extend PySem.F.type_list_extend mt_extend (pv 4) (pa_cons (pe_lc (own := [("greatest", 12)]) (g := (gName 12)) (tt := tYes) rfl scRt.nd (pi_range2 (by rfl) T.range (pa_cons (pv 6) (pa_cons pe_int pa_nil))) (blkOk_by (own := [("greatest", 12)]) (N := NRt) (sc := defScope sRt) (by decide +kernel)) (fun _ _ _ _ _ => (pg_name (i := 12) scRt.nd rfl (Or.inl rfl))) (fun _ _ _ _ _ => pts_nil) (fun _ _ _ _ _ => (pe_tup (pa_cons (pv 5) (pa_cons (pv 6) (pa_cons (pv 12) pa_nil)))))) pa_nil)))))))
        (pss_cons (ps_set (i := 7) scRt.nd rfl (Or.inr rfl) (pe_call GB (hr.mono (by decide)) rfl gB kB bB .nil pass0 (pa_cons (pv 0) (pa_cons (pv 1) pa_nil))))
        (pss_cons (ps_setLc (i := 8) (own := [("three", 10)]) (g := (gName 10)) rfl scRt.nd rfl rfl (sw_true rfl rfl rfl (by decide +kernel)) (pi_list (pv 4)) (blkOk_by (own := [("three", 10)]) (N := NRt) (sc := defScope sRt) (by decide +kernel)) (fun _ _ _ _ _ => (pg_name (i := 10) scRt.nd rfl (Or.inl rfl))) (fun _ _ _ _ _ => (pts_one (pt_val (pe_call GW (hr.mono (by decide)) rfl gW kW bW .nil pass0 (pa_cons (pv 7) (pa_cons (pv 10) pa_nil)))))) (fun _ _ _ _ _ => (pv 10)))
        (pss_cons (ps_if (PW.pt (pw_or (pt_cmpR (op_neD hr.units) (pv 2) (pv 1) (nomark _)) (pw_or1 (pt_cmpR op_ne (pe_callB (call_reprV gu hu) (by rfl) hRp (by decide +kernel) (pa_cons (pv 3) pa_nil)) (pe_callB (call_reprV gu hu) (by rfl) hRp (by decide +kernel) (pa_cons (pe_ifExp (pt_cmpR (op_neD hr.units) (pv 8) (pe_lst pa_nil) (nomark _)) (pv 7) pe_non) pa_nil)) (nomark _))))) (pss_one (ps_ret pe_bl)) pss_nil)
        (pss_cons (ps_for PassesOwn.never rfl (pi_range3 (by rfl) T.range (pa_cons pe_int (pa_cons (pe_callB call_len_seq (by rfl) T.len PySem.boot_len (pa_cons (pv 4) pa_nil)) (pa_cons pe_int pa_nil)))) (pg_name (i := 9) scRt.nd rfl (Or.inl rfl))
        (pss_cons (ps_set (i := 10) scRt.nd rfl (Or.inl rfl) (pe_ix (r := rIxL K) ix_list (pv 4) (pe_op op_mod (pe_op op_add (pv 9) (pe_callB call_len_seq (by rfl) T.len PySem.boot_len (pa_cons (pv 1) pa_nil))) (pe_callB call_len_seq (by rfl) T.len PySem.boot_len (pa_cons (pv 4) pa_nil))) (fun _ _ => rfl)))
        (pss_one (ps_if (pt_cmpR op_ne (pe_cmpR (op_eqD hr.units) (pe_call GL (hr.mono (by decide)) rfl gL kL bL .nil pass0 (pa_cons (pe_tup (pa_cons (pe_ix (r := rIxT K) ix_tup (pv 0) pe_int (fun _ _ => rfl)) (pa_cons (pe_ix (r := rIxT K) ix_tup (pv 0) pe_int (fun _ _ => rfl)) (pa_cons (pv 10) pa_nil)))) (pa_cons (pe_ix (r := rIxL K) ix_list (pv 1) pe_int (fun _ _ => rfl)) pa_nil))) (pv 1) (nomark _)) (pe_cmpR (op_inD hu65) (pv 10) (pv 8) (by rfl)) (nomark _)) (pss_one (ps_ret pe_bl)) pss_nil))))
        (pss_cons (ps_setLc (i := 11) (own := [("three", 10)]) (g := (gName 10)) (tt := tYes) rfl scRt.nd rfl rfl (sw_true rfl rfl rfl (by decide +kernel)) (pi_list (pe_slice sl_list (pv 8) po_none (po_some pe_int))) (blkOk_by (own := [("three", 10)]) (N := NRt) (sc := defScope sRt) (by decide +kernel)) (fun _ _ _ _ _ => (pg_name (i := 10) scRt.nd rfl (Or.inl rfl))) (fun _ _ _ _ _ => pts_nil) (fun _ _ _ _ _ => (pe_call GL (hr.mono (by decide)) rfl gL kL bL .nil pass0 (pa_cons (pe_tup (pa_cons (pe_ix (r := rIxT K) ix_tup (pv 0) pe_int (fun _ _ => rfl)) (pa_cons (pe_ix (r := rIxT K) ix_tup (pv 0) pe_int (fun _ _ => rfl)) (pa_cons (pv 10) pa_nil)))) (pa_cons (pe_ix (r := rIxL K) ix_list (pv 1) pe_int (fun _ _ => rfl)) pa_nil)))))
        (pss_one (ps_ret (pe_cmpR (op_eqD hr.units) (pe_lc (own := [("one", 13)]) (g := (gName 13)) rfl scRt.nd (pi_list (pv 11)) (blkOk_by (own := [("one", 13)]) (N := NRt) (sc := defScope sRt) (by decide +kernel)) (fun _ _ _ _ _ => (pg_name (i := 13) scRt.nd rfl (Or.inl rfl))) (fun _ _ _ _ _ => (pts_one (pt_cmpR (show OpR _ (compareOp .NotEq) (rNeD K) from op_neD hr.units) (pv 13) (pv 1) (nomark _)))) (fun _ _ _ _ _ => (pv 13))) (pe_lst pa_nil) (nomark _))))))))))))), ?_⟩
    have n0 := G.pos
    have GG := G.good
    have cl := CO.len
    have cf := CO.few
    obtain ⟨lp, t0, ts0, hp, hl, hpr, ht0⟩ := id RR
    have lt0 := hpr.len
    -- handed
    refine ⟨_, rfl, c, _, rfl, .inl (SqL.of hC), fun hd hhd => ?_⟩
    have s1 := same_new (o := .lst (cuts.map V.int)) (Same.refl H) hhd
    have k1 : IL (upd H hd (.lst (cuts.map V.int))) hd cuts := upd_same
    generalize upd H hd (.lst (cuts.map V.int)) = H1 at s1 k1 ⊢
    try dsimp only [L2.start, List.set, List.map, List.append, List.replicate, List.length]
    -- told
    refine ⟨_, rfl, u, n, prs, rfl, (RR.same s1).raw, G, fun ro H2 s2 row => ⟨_, rfl, ?_⟩⟩
    dsimp -proj only [tNil]
    refine sf_use row.at rfl GG (s2 _ _ k1) CO fun tv H4 ok L N G' x y z s3 lo hi hok htv => ?_
    have s14 := (s1.trans s2).trans s3
    have k1 := s3 _ _ (s2 _ _ k1)
    try dsimp only [L2.start, List.set, List.map, List.append, List.replicate, List.length]
    -- tried
    refine ⟨Nat.zero_le _, fun TR hTR => ?_⟩
    have nT : H TR = none := s14.free hTR
    have kT0 : ∃ (ts : List Addr) (trs : List (Int × Int × Int)), upd H4 TR (.lst []) TR = some (.lst (ts.map V.ref)) ∧ TrAt (upd H4 TR (.lst [])) ts trs ∧ (∀ q ∈ trs, Ok12 q) ∧ (∀ q, Ok12 q → q.1 ≤ ((0 : Nat) : Int) → q ∈ trs) ∧ trs.length = cntO 0 := ⟨[], [], upd_same, .nil, (fun _ h => (nomatch h)), (fun q h hq => absurd h.1 (by omega)), rfl⟩
    have sT := same_new (o := .lst []) (Same.refl H4) hTR
    generalize upd H4 TR (.lst []) = H5 at sT kT0 ⊢
    try dsimp only [L2.start, List.set, List.map, List.append, List.replicate, List.length]
    refine ⟨_, _, rfl, ⟨by decide, by decide, by decide, by decide⟩, ?_⟩
    refine for_range (lo := 1) (n := 12) (fun i σ H' => ∃ (v5 v6 : Option V), σ = [some (.ref u), some (.ref c), some (.ref hd), some tv, some (.ref TR), v5, v6, none, none, none, none, none, none, none] ∧ Same H4 H' ∧ ∃ (ts : List Addr) (trs : List (Int × Int × Int)), H' TR = some (.lst (ts.map V.ref)) ∧ TrAt H' ts trs ∧ (∀ q ∈ trs, Ok12 q) ∧ (∀ q, Ok12 q → q.1 ≤ (i : Int) → q ∈ trs) ∧ trs.length = cntO i)
      ⟨_, _, rfl, sT, kT0⟩ ?_ ?_
    · rintro i σ H6 hi ⟨v5, v6, rfl, s6, ts, trs, kT, tr, ok12, cov, len⟩
      try dsimp only [L2.start, List.set, List.map, List.append, List.replicate, List.length]
      refine ⟨_, rfl, _, _, rfl, ⟨by omega, by omega, by decide, by decide⟩, ?_⟩
      rw [show ((13 : Int) - (1 + (i : Int))).toNat = 12 - i by omega]
      refine for_range (lo := 1 + (i : Int)) (n := 12 - i) (fun j σ H' => ∃ (v6 : Option V), σ = [some (.ref u), some (.ref c), some (.ref hd), some tv, some (.ref TR), some (.int (1 + (i : Int))), v6, none, none, none, none, none, none, none] ∧ Same H4 H' ∧ ∃ (ts : List Addr) (trs : List (Int × Int × Int)), H' TR = some (.lst (ts.map V.ref)) ∧ TrAt H' ts trs ∧ (∀ q ∈ trs, Ok12 q) ∧ (∀ q, Ok12 q → (q.1 ≤ (i : Int) ∨ q.1 = i + 1 ∧ q.2.1 < 1 + i + j) → q ∈ trs) ∧ trs.length = cntO i + cntI i j)
        ⟨_, rfl, s6, ts, trs, kT, tr, ok12, fun q h hq => cov q h (by rcases hq with h1 | ⟨h1, h2⟩; exact h1; have := h.2.1; omega), len⟩ ?_ ?_
      · rintro j σ H7 hj ⟨v6, rfl, s7, ts, trs, kT, tr, ok12, cov, len⟩
        try dsimp only [L2.start, List.set, List.map, List.append, List.replicate, List.length]
        refine ⟨_, rfl, .inl ⟨rfl, _, SqL.of kT⟩, _, rfl, _, _, rfl, ⟨by omega, by omega, by decide, by decide⟩, fun E hE => ?_⟩
        rw [show ((13 : Int) - (1 + (i : Int) + (j : Int))).toNat = 12 - i - j by omega]
        refine lcT3 (fun k => (1 + (i : Int), 1 + (i : Int) + (j : Int), 1 + (i : Int) + (j : Int) + (k : Int))) hE (by omega) ?_ ?_
        · intro k H8 A' B' hk s8 ka
          refine ⟨rfl, ?_⟩
          unfold tYes
          refine iteT ?_
          refine ⟨_, rfl, _, rfl, _, rfl, (by show 3 ≤ sizeLine; decide), fun e he => ?_⟩
          exact ka e he
        intro H8 es s8 hE8 tr8
        have tl := tr.len
        have el := tr8.len
        rw [List.length_map, List.length_range] at el
        have b1 : cntO i + cntI i j ≤ 1000 := by
          have e : ∀ a < 12, ∀ b < 12, cntO a + cntI a b ≤ 1000 := by decide +kernel
          exact e i hi j (by omega)
        have kT8 := s8 _ _ kT
        refine ⟨TR, E, _, _, rfl, rfl, kT8, hE8, by rw [List.length_map, List.length_map]; exact (by rw [sizeLine_eq]; omega), ?_⟩
        have keep : ∀ t (q : Int × Int × Int), H8 t = some (.tup [.int q.1, .int q.2.1, .int q.2.2]) → upd H8 TR (.lst (ts.map V.ref ++ es.map V.ref)) t = some (.tup [.int q.1, .int q.2.1, .int q.2.2]) := fun t q h => by
          have : t ≠ TR := fun k => by rw [k, kT8] at h; cases h
          rw [upd_ne this]
          exact h
        refine ⟨_, rfl, same_put (s7.trans s8) hTR, ts ++ es, _, ?_, TrAt.app ((tr.same s8).imp keep) (tr8.imp keep), ?_, ?_, ?_⟩
        · rw [upd_same, List.map_append]
        · intro q hq
          rcases List.mem_append.mp hq with h | h
          · exact ok12 q h
          · obtain ⟨k, hk, rfl⟩ := List.mem_map.mp h
            have := List.mem_range.mp hk
            refine ⟨?_, ?_, ?_, ?_⟩
            · show 1 ≤ 1 + (i : Int)
              omega
            · show 1 + (i : Int) ≤ 1 + (i : Int) + (j : Int)
              omega
            · show 1 + (i : Int) + (j : Int) ≤ 1 + (i : Int) + (j : Int) + (k : Int)
              omega
            · show 1 + (i : Int) + (j : Int) + (k : Int) ≤ 12
              omega
        · intro q h hq
          by_cases c1 : q.1 ≤ i ∨ q.1 = i + 1 ∧ q.2.1 < 1 + i + j
          · exact List.mem_append_left _ (cov q h c1)
          · refine List.mem_append_right _ (List.mem_map.mpr ⟨(q.2.2 - (1 + i + j)).toNat, List.mem_range.mpr ?_, ?_⟩)
            · have := h.2.2.1
              have := h.2.2.2
              omega
            · obtain ⟨q1, q2, q3⟩ := q
              have h3 : q2 ≤ q3 := h.2.2.1
              have hq : q1 ≤ i ∨ q1 = i + 1 ∧ q2 < 1 + i + ((j + 1 : Nat) : Int) := hq
              have c1 : ¬ (q1 ≤ i ∨ q1 = i + 1 ∧ q2 < 1 + i + j) := c1
              show ((1 + (i : Int), 1 + (i : Int) + (j : Int), 1 + (i : Int) + (j : Int) + (((q3 - (1 + i + j)).toNat : Nat) : Int)) : Int × Int × Int) = (q1, q2, q3)
              have e1 : q1 = 1 + i := by omega
              have e2 : q2 = 1 + i + j := by omega
              rw [show 1 + (i : Int) + (j : Int) + (((q3 - (1 + i + j)).toNat : Nat) : Int) = q3 by omega, e1, e2]
        · rw [List.length_append, List.length_map, List.length_range, len, cntI_succ]
          omega
      · rintro σ H7 ⟨v6, rfl, s7, ts, trs, kT, tr, ok12, cov, len⟩
        exact ⟨_, _, rfl, s7, ts, trs, kT, tr, ok12, fun q h hq => cov q h (by have := h.2.1; have := h.2.2.1; have := h.2.2.2; omega), by rw [len, cntO_succ]⟩
    rintro σ H6 ⟨v5, v6, rfl, s6, ts, trs, kT, tr, ok12, cov, len⟩
    have len : trs.length = 364 := by rw [len]; decide
    have cov : ∀ q, Ok12 q → q ∈ trs := fun q h => cov q h (by have := h.2.1; have := h.2.2.1; have := h.2.2.2; omega)
    have tl := tr.len
    have s06 := s14.trans s6
    have htv : (ok = false ∧ tv = .non) ∨ (ok = true ∧ ∃ p, tv = .ref p ∧ H6 p = some (.tup [.int L, oV x, .int N, oV y, .int G', oV z])) := htv.imp id fun ⟨e, p, e1, e2⟩ => ⟨e, p, e1, s6 _ _ e2⟩
    have k1 := s6 _ _ k1
    try dsimp only [L2.start, List.set, List.map, List.append, List.replicate, List.length]
    -- due
    refine ⟨_, rfl, _, rfl, u, c, n, cuts, K', prs, rfl, (RR.same s06).raw, G, by omega, by omega, s06 _ _ hC, CO, fun du H7 L2' N2 G2 x2 y2 z2 s7 ndu kdu lo2 hi2 => ?_⟩
    obtain rfl : L2' = L := lo2.l.eq lo.l
    obtain rfl : N2 = N := lo2.p.eq lo.p
    obtain rfl : G2 = G' := lo2.g.eq lo.g
    obtain rfl : x2 = x := hi2.l.eq hi.l
    obtain rfl : y2 = y := hi2.p.eq hi.p
    obtain rfl : z2 = z := hi2.g.eq hi.g
    clear lo2 hi2
    have kT7 := s7 _ _ kT
    have tr7 := tr.same s7
    try dsimp only [L2.start, List.set, List.map, List.append, List.replicate, List.length]
    -- some
    refine ⟨_, rfl, TR, rfl, ⟨_, SqL.of kT7⟩, fun SM hSM => ?_⟩
    refine lcK3 (K := K) (wiB L2' N2 G2 x2 y2 z2) kT7 tr7 hSM (by omega) ?_ ?_
    · intro w q H8 A' B' s8 hq hw ka kb
      refine ⟨rfl, ?_⟩
      refine ⟨_, rfl, _, rfl, du, w, L2', N2, G2, q.1, q.2.1, q.2.2, x2, y2, z2, rfl, s8 _ _ kdu, hw, fun H9 b s9 hb => ⟨_, rfl, ?_⟩⟩
      have e : b = wiB L2' N2 G2 x2 y2 z2 q := Bool.eq_iff_iff.mpr (hb.trans wiB_iff.symm)
      by_cases c1 : b = true
      · exact ifT c1 ⟨_, rfl, ka H9 s9 (e ▸ c1)⟩
      · exact ifF (Bool.eq_false_iff.mpr c1) (kb H9 s9 (e ▸ Bool.eq_false_iff.mpr c1))
    intro H8 es s8 kS trS
    have s78 := s7.trans s8
    have s08 := s06.trans s78
    have k1 := s78 _ _ k1
    have hC8 := s08 _ _ hC
    have kT8 := s8 _ _ kT7
    have tr8 := tr7.same s8
    have kdu := s8 _ _ kdu
    have htv : (ok = false ∧ tv = .non) ∨ (ok = true ∧ ∃ p, tv = .ref p ∧ H8 p = some (.tup [.int L2', oV x2, .int N2, oV y2, .int G2, oV z2])) := htv.imp id fun ⟨e, p, e1, e2⟩ => ⟨e, p, e1, s78 _ _ e2⟩
    try dsimp only [L2.start, List.set, List.map, List.append, List.replicate, List.length]
    refine ⟨_, rfl, _, rfl, _, _, dp_il k1, dp_il hC8, shape_il _, shape_il _, _, rfl, ?_⟩
    rw [eqv_il]
    refine ifF rfl ?_
    have hne : trs.filter (wiB L2' N2 G2 x2 y2 z2) ≠ [] ↔ ok = true := by
      rw [hok]
      constructor
      · intro h
        obtain ⟨q, hq⟩ := List.exists_mem_of_ne_nil _ h
        obtain ⟨q1, q2⟩ := List.mem_filter.mp hq
        exact (wiB_iff.mp q2).ok (ok12 q q1).set
      · intro h e
        have b1 := lo_n CO lo.l n0
        have b2 := lo_n CO lo.p n0
        have b3 := lo_nG CO lo.g n0
        have m1 : mx L2' N2 ≤ 10 := mx_le.mpr ⟨by omega, by omega⟩
        have m2 : mx (mx L2' N2) G2 ≤ 12 := mx_le.mpr ⟨by omega, by omega⟩
        have W0 : Within L2' N2 G2 x2 y2 z2 L2' (mx L2' N2) (mx (mx L2' N2) G2) := ⟨Int.le_refl _, mx_r, mx_r, fun t k => h.1 t k, fun t k => h.2.1 t k, fun t k => h.2.2 t k⟩
        have mem : (L2', mx L2' N2, mx (mx L2' N2) G2) ∈ trs.filter (wiB L2' N2 G2 x2 y2 z2) := List.mem_filter.mpr ⟨cov _ ⟨lo.l.one, mx_l, mx_l, m2⟩, wiB_iff.mpr W0⟩
        rw [e] at mem
        cases mem
    have T6 : ∀ {H : Hp} {p : Addr}, H p = some (.tup [.int L2', oV x2, .int N2, oV y2, .int G2, oV z2]) → Txt K H p (six L2' N2 G2 x2 y2 z2) := fun h => by
      have b1 := lo_n CO lo.l n0
      have b2 := lo_n CO lo.p n0
      have b3 := lo_nG CO lo.g n0
      exact txt_six h ⟨by have := lo.l.one; omega, by omega⟩ ⟨by have := lo.p.one; omega, by omega⟩ ⟨by have := lo.g.one; omega, by omega⟩ (hi_le CO hi.l (by omega)) (hi_le CO hi.p (by omega)) (hi_le CO hi.g (by omega))
    generalize six L2' N2 G2 x2 y2 z2 = d6 at T6
    apply rest3 (H := H8)
    · intro tl
      rcases id htv with ⟨e1, e2⟩ | ⟨e1, p, e2, e3⟩
      · have em : trs.filter (wiB L2' N2 G2 x2 y2 z2) = [] := Decidable.byContradiction fun h => by
          have := hne.mp h
          rw [e1] at this
          cases this
        refine ⟨_, rfl, .inl ⟨by rw [e2], ?_⟩⟩
        refine ⟨_, rfl, Nat.zero_le _, fun e he => ⟨_, _, .lst (SqL.of (same_new (Same.refl H8) he _ _ kS)) (dps_t3 (trS.same (same_new (Same.refl H8) he))), .lst (SqL.of upd_same) .nil, shape_t3s _, rfl, _, rfl, ?_⟩⟩
        rw [eqv_t3nil, em]
        refine ifF rfl ?_
        refine .inl ⟨rfl, rfl, _, rfl, ?_⟩
        exact ifF rfl (tl e he)
      · have em : trs.filter (wiB L2' N2 G2 x2 y2 z2) ≠ [] := hne.mpr e1
        obtain ⟨z1, z2', z3, z4, z5⟩ := T6 e3
        refine ⟨_, rfl, .inr ⟨p, d6, by rw [e2], z1, z2', z3, z4, z5, ?_⟩⟩
        refine ⟨_, rfl, Nat.zero_le _, fun e he => ⟨_, _, .lst (SqL.of (same_new (Same.refl H8) he _ _ kS)) (dps_t3 (trS.same (same_new (Same.refl H8) he))), .lst (SqL.of upd_same) .nil, shape_t3s _, rfl, _, rfl, ?_⟩⟩
        rw [eqv_t3nil, decide_eq_false em]
        refine ifT rfl ?_
        obtain ⟨y1, y2', y3, y4, y5⟩ := T6 (same_new (o := .lst []) (Same.refl H8) he _ _ kdu)
        refine ⟨_, rfl, .inr ⟨du, d6, rfl, y1, y2', y3, y4, y5, rfl, _, rfl, ?_⟩⟩
        exact ifF (by simp) (tl e he)
    intro e9 he9
    have s9 := same_new (o := .lst []) (Same.refl H8) he9
    generalize upd H8 e9 (.lst []) = H9 at s9 ⊢
    clear T6 htv
    have s09 := s08.trans s9
    have kT9 := s9 _ _ kT8
    have tr9 := tr8.same s9
    have kS9 := s9 _ _ kS
    have trS9 := trS.same s9
    have hlen : (((ts.map V.ref).length : Nat) : Int) = 364 := by rw [List.length_map, tl, len]; rfl
    have c0 := CO.rng _ (CO.mem (Nat.zero_le K'))
    have a0 : (cuts.map V.int)[0]? = some (.int (cAt cuts 0)) := by rw [List.getElem?_map, CO.at (Nat.zero_le _)]; rfl
    have yes : ∀ q, Ok12 q → Within L2' N2 G2 x2 y2 z2 q.1 q.2.1 q.2.2 → ∀ {k : Nat}, WkOk (nx n (marksOf prs) (strictOf prs) q.1 q.2.1 q.2.2) n (cAt cuts 0) k → wl (nx n (marksOf prs) (strictOf prs) q.1 q.2.1 q.2.2) n (cAt cuts 0) k = cuts := fun q h W k wk => by
      have ch := chain_wl CO fun j hj => steps_of GG h.set CO lo hi W hj
      obtain rfl := wk.one ch.1
      exact ch.2
    dsimp -proj only [tNext]
    try dsimp only [L2.start, List.set, List.map, List.append, List.replicate, List.length]
    refine ⟨_, rfl, TR, _, rfl, .inl (SqL.of kT9), _, _, _, 73, rfl, ⟨by decide, by decide, by rw [hlen]; decide +kernel, by rw [hlen]; decide +kernel⟩, ?_⟩
    refine for_rangeC (n := 73) (fun i σ H' => ∃ (v9 v10 : Option V), σ = [some (.ref u), some (.ref c), some (.ref hd), some tv, some (.ref TR), v5, v6, some (.ref du), some (.ref SM), v9, v10, none, none, none] ∧ Same H9 H') ⟨_, _, rfl, Same.refl _⟩ ?_ ?_
    · rintro i σ HA hi' ⟨v9, v10, rfl, sA⟩
      try dsimp only [L2.start, List.set, List.map, List.append, List.replicate, List.length]
      have s0A := s09.trans sA
      obtain ⟨jn, hjn, hjl⟩ : ∃ jn : Nat, (0 + (i : Nat) * 5 + (((cuts.map V.int).length : Nat) : Int)) % (((ts.map V.ref).length : Nat) : Int) = jn ∧ jn < 364 := by
        rw [hlen]
        exact ⟨((0 + (i : Nat) * 5 + (((cuts.map V.int).length : Nat) : Int)) % 364).toNat, by omega, by omega⟩
      have jl : jn < (ts.map V.ref).length := by omega
      obtain ⟨w, q, ew, hq, hw⟩ := tr9.get (List.getElem?_eq_getElem jl)
      have hix : (ts.map V.ref)[jn]? = some (.ref w) := by rw [← ew]; exact List.getElem?_eq_getElem jl
      have qok := ok12 q (List.mem_of_getElem? hq)
      refine ⟨_, rfl, _, rfl, _, rfl, c, _, rfl, .inl (SqL.of (s0A _ _ hC)), _, _, rfl, rfl, _, rfl, TR, _, rfl, .inl (SqL.of (sA _ _ kT9)), _, _, rfl, rfl, (show (0 : Int) < (((ts.map V.ref).length : Nat) : Int) by omega), TR, _, _, _, rfl, rfl, SqL.of (sA _ _ kT9), at_of2 (j := jn) hjn hix, ?_⟩
      try dsimp only [L2.start, List.set, List.map, List.append, List.replicate, List.length]
      refine ⟨_, rfl, u, _, _, _, rfl, rfl, SqT.of (s0A _ _ hp), at_of2 (j := 0) rfl rfl, _, rfl, u, _, _, _, rfl, rfl, SqT.of (s0A _ _ hp), at_of2 (j := 1) rfl rfl, _, rfl, (by show 3 ≤ sizeLine; decide), fun tp htp => ?_⟩
      have sB := same_new (o := .tup [.int n, .ref lp, .ref w]) (Same.refl HA) htp
      have kB : upd HA tp (.tup [.int n, .ref lp, .ref w]) tp = some (.tup [.int n, .ref lp, .ref w]) := upd_same
      generalize upd HA tp (.tup [.int n, .ref lp, .ref w]) = HB at sB kB ⊢
      have s0B := s0A.trans sB
      have hwB := sB _ _ (sA _ _ hw)
      have RB : RawS HB tp n prs q.1 q.2.1 q.2.2 := ⟨lp, w, ts0, kB, s0B _ _ hl, hpr.imp fun _ _ h => s0B _ _ h, hwB⟩
      have q1 := qok.1
      have q4 := qok.2.2.2
      refine ⟨_, rfl, c, _, _, _, rfl, rfl, SqL.of (s0B _ _ hC), at_of2 (j := 0) rfl a0, tp, n, q.1, q.2.1, q.2.2, cAt cuts 0, prs, rfl, RB, G, qok.set, by omega, by omega, by omega, c0.1, c0.2, fun wq HC kq sC nq wkq iq => ?_⟩
      refine ⟨_, rfl, _, _, dp_il iq, dp_il (sC _ _ (s0B _ _ hC)), shape_il _, shape_il _, _, rfl, _, rfl, _, _, dp_t3 (sC _ _ hwB), .lst (SqL.of (sC _ _ (sB _ _ (sA _ _ kS9)))) (dps_t3 (((trS9.same sA).same sB).same sC)), shaped_t3 q, shape_t3s _, rfl, _, rfl, ?_⟩
      rw [eqv_ints, any_t3]
      have key : decide (wl (nx n (marksOf prs) (strictOf prs) q.1 q.2.1 q.2.2) n (cAt cuts 0) kq = cuts) = decide (q ∈ trs.filter (wiB L2' N2 G2 x2 y2 z2)) := by
        rw [decide_eq_decide, List.mem_filter, wiB_iff]
        constructor
        · intro h
          refine ⟨List.mem_of_getElem? hq, within_of GG qok.set CO lo hi fun j hj => ?_⟩
          have e : kq = K' := by
            have := congrArg List.length h
            rw [wl_len, cl] at this
            omega
          subst e
          have z := wl_steps wkq hj
          rw [h] at z
          exact z
        · exact fun h => yes q qok h.2 wkq
      rw [key]
      refine ifF (by simp) ?_
      exact ⟨_, _, rfl, (sA.trans sB).trans sC⟩
    rintro σ HA ⟨v9, v10, rfl, sA⟩
    try dsimp only [L2.start, List.set, List.map, List.append, List.replicate, List.length]
    -- the walks
    have e30 : cutV (es.map V.ref) none (some 30) = (es.take 30).map V.ref := cut_to V.ref es 30
    refine ⟨_, rfl, _, rfl, SM, _, rfl, SqL.of (sA _ _ kS9), fun s30 hs30 => ?_⟩
    rw [e30]
    have sC := sA.trans (same_new (o := .lst ((es.take 30).map V.ref)) (Same.refl HA) hs30)
    have kC : upd HA s30 (.lst ((es.take 30).map V.ref)) s30 = some (.lst ((es.take 30).map V.ref)) := upd_same
    generalize upd HA s30 (.lst ((es.take 30).map V.ref)) = HC at sC kC ⊢
    have trC := (trS9.same sC).take 30
    have s0C := s09.trans sC
    refine ⟨s30, rfl, ⟨_, SqL.of kC⟩, fun WH hWH => ?_⟩
    refine lcW3 (K := K) (cuts := cuts) kC trC hWH (by rw [List.length_take]; omega) ?_ ?_
    · intro w q HD A' B' sD hq hw ka
      refine ⟨rfl, ?_⟩
      unfold tYes
      refine iteT ?_
      have s0D := s0C.trans sD
      obtain ⟨q1, q2⟩ := List.mem_filter.mp (List.mem_of_mem_take hq)
      have qok := ok12 q q1
      refine ⟨_, rfl, u, _, _, _, rfl, rfl, SqT.of (s0D _ _ hp), at_of2 (j := 0) rfl rfl, _, rfl, u, _, _, _, rfl, rfl, SqT.of (s0D _ _ hp), at_of2 (j := 1) rfl rfl, _, rfl, (by show 3 ≤ sizeLine; decide), fun tp htp => ?_⟩
      have sB := same_new (o := .tup [.int n, .ref lp, .ref w]) (Same.refl HD) htp
      have kB : upd HD tp (.tup [.int n, .ref lp, .ref w]) tp = some (.tup [.int n, .ref lp, .ref w]) := upd_same
      generalize upd HD tp (.tup [.int n, .ref lp, .ref w]) = HB at sB kB ⊢
      have s0B := s0D.trans sB
      have RB : RawS HB tp n prs q.1 q.2.1 q.2.2 := ⟨lp, w, ts0, kB, s0B _ _ hl, hpr.imp fun _ _ h => s0B _ _ h, sB _ _ hw⟩
      have q1 := qok.1
      have q4 := qok.2.2.2
      refine ⟨_, rfl, c, _, _, _, rfl, rfl, SqL.of (s0B _ _ hC), at_of2 (j := 0) rfl a0, tp, n, q.1, q.2.1, q.2.2, cAt cuts 0, prs, rfl, RB, G, qok.set, by omega, by omega, by omega, c0.1, c0.2, fun wq HE kq sE nq wkq iq => ?_⟩
      rw [yes q qok (wiB_iff.mp q2) wkq] at iq
      exact ka wq HE (sB.trans sE) (sB.free nq) iq
    intro HD ws sD kW wl' al
    have s0D := s0C.trans sD
    try dsimp only [L2.start, List.set, List.map, List.append, List.replicate, List.length]
    refine ⟨_, rfl, WH, rfl, ⟨_, SqL.of kW⟩, fun ED hED => ?_⟩
    refine lc_list (K := K) (a := WH) (xs := ws.map V.ref) (fun i H' => Same HD H' ∧ H' ED = some (.lst [])) ⟨same_new (Same.refl HD) hED, upd_same⟩ (fun i H' _ z => SqL.of (z.1 _ _ kW)) ?_ ?_
    · rintro i xx H' hx ⟨sE, kE⟩
      obtain ⟨w, hw, rfl⟩ := List.mem_map.mp (List.mem_of_getElem? hx)
      refine ⟨rfl, ?_⟩
      refine ⟨_, rfl, _, rfl, _, _, dp_il (sE _ _ (al w hw)), dp_il (sE _ _ (s0D _ _ hC)), shape_il _, shape_il _, _, rfl, ?_⟩
      rw [eqv_il]
      exact ifF rfl ⟨sE, kE⟩
    rintro HE ⟨sE, kE⟩
    refine ⟨Nat.zero_le _, fun ef hef => ⟨.list [], .list [], .lst (SqL.of (same_new (Same.refl HE) hef _ _ kE)) .nil, .lst (SqL.of upd_same) .nil, rfl, rfl, ?_⟩⟩
    exact q _ ((s0D.trans sE).trans (same_new (Same.refl HE) hef))
end
end Cw
namespace Cw
open PySem PySem.Spec L2
abbrev sL : Stmt := top 33
section
variable {X : Cx} {CX : CXT} {k : Nat} {f : Addr} {fd : FuncData} {ps ks : List Str} {sp : Sp} {E : XK} {x : Str} {p pos : Pos} {kws : List Keyword} {tk : TA} {g : List Value → List Value → List Value} {gV : List V → List V → List V}
/-- f(k = v, ..) -/
theorem pe_callK0 (F : FnOk X.prog X.w X.K X.mg X.base CX k f fd ps sp) (hr : Room k X.A) (hg : Gl X x) (hm : X.mg x = some (.ref f)) (hk : PySem.W.keepIn X.K (.ref f) = true) (hb : KBinds X.K fd ps ks g gV) (hx : Passes CX X E)
    (hkw : PK X kws tk) (hall : (backToKw pos (keywordEach kws X.env)).all (·.1.isSome) = true := by rfl) (hks : (backToKw pos (keywordEach kws X.env)).filterMap (·.1) = ks := by rfl)
    (hdb : (x == ("__debug__" : Str)) = false := by decide)
    (hpl : ((backTo pos (starEach [] X.env)).any (·.1) || (backToKw pos (keywordEach kws X.env)).any (·.1.isNone)) = false := by rfl) :
    PE X (.Call (.Name x p) [] kws pos) (tCallK sp gV E tNil tk) := by
  refine ⟨fun pins s σ H Q I h => ?_⟩
  refine wpAny_Call_Name_kw (ld_glob I hg hm ?_ hdb)
  refine PySem.W.callWith_KW0 (h₀ := X.base) I.ok.mod.kin hk hall (thn (hkw.run pos pins s σ H _ I h) fun ws s2 ⟨zs, H2, I2, rz, q2⟩ => ⟨I2.kIn, ?_⟩) hpl
  rw [hks]
  exact run_fnk F hr hb hx I2 .nil rz q2
end
def spLaw (K : PySem.W.Frag) : Sp := fun vs H Q _ => ∃ (a : Addr) (ns : List Int), vs = [.ref a] ∧ SqL K H a (ns.map V.int) ∧ ns.length ≤ 63 ∧ ∀ H', Q (.bl true) H'
def gR2 : List Value → List Value → List Value
  | [], [a, b] => [b, a]
  | _, _ => []
def gR2V : List V → List V → List V
  | [], [a, b] => [b, a]
  | _, _ => []
/-- the script, which is not the jar -/
def Scr (K : PySem.W.Frag) (H : Hp) (a : Addr) (xs : List V) (p : Addr) : Prop := (a ≠ p ∧ (H a = some (.lst xs) ∨ ∃ o, H a = some (.frz o (.lst xs)))) ∨ ∀ H' : Hp, SqL K H' a xs
theorem Scr.of {K : PySem.W.Frag} {H : Hp} {a p : Addr} {xs : List V} (h : SqL K H a xs) (n : H p = none) : Scr K H a xs p := by
  rcases h with h | h
  · refine .inl ⟨fun e => ?_, h⟩
    subst e
    rcases h with h | ⟨o, h⟩ <;> rw [n] at h <;> cases h
  · exact .inr fun H' => .inr h
theorem Scr.sq {K : PySem.W.Frag} {H : Hp} {a p : Addr} {xs : List V} (h : Scr K H a xs p) : SqL K H a xs := by
  rcases h with ⟨_, h⟩ | h
  · exact .inl h
  · exact h H
theorem Scr.but {K : PySem.W.Frag} {H H' : Hp} {a p : Addr} {xs : List V} (h : Scr K H a xs p) (e : But H H' p) : Scr K H' a xs p := by
  rcases h with ⟨n, h | ⟨o, h⟩⟩ | h
  · exact .inl ⟨n, .inl (e _ _ h n)⟩
  · exact .inl ⟨n, .inr ⟨o, e _ _ h n⟩⟩
  · exact .inr h
def plList (cuts : List Int) (K : Nat) (xs : List Int) : List Int := (List.range K).flatMap fun j => (xs.filter fun y => decide (cAt cuts j < y) && decide (y < cAt cuts (j + 1))).map fun y => y - cAt cuts j + 1
theorem mem_plList {cuts xs : List Int} {K : Nat} {v : Int} : v ∈ plList cuts K xs ↔ PL cuts K xs v := by
  unfold plList PL
  simp only [List.mem_flatMap, List.mem_range, List.mem_map, List.mem_filter, Bool.and_eq_true, decide_eq_true_iff]
  exact ⟨fun ⟨j, hj, y, ⟨h1, h2, h3⟩, e⟩ => ⟨j, hj, y, h1, h2, h3, e.symm⟩, fun ⟨j, hj, y, h1, h2, h3, e⟩ => ⟨j, hj, y, ⟨h1, h2, h3⟩, e.symm⟩⟩
def pgList (cuts : List Int) (K : Nat) : List Int := (List.range K).map fun j => cAt cuts (j + 1) - cAt cuts j
theorem mem_pgList {cuts : List Int} {K : Nat} {v : Int} : v ∈ pgList cuts K ↔ PG cuts K v := by
  unfold pgList PG
  simp only [List.mem_map, List.mem_range]
  exact ⟨fun ⟨j, hj, e⟩ => ⟨j, hj, e.symm⟩, fun ⟨j, hj, e⟩ => ⟨j, hj, e.symm⟩⟩
def ptList (cuts : List Int) (K : Nat) (n : Int) (f : Int → Bool) : List Int := ((List.range K).filter fun j => decide (cAt cuts (j + 1) < n) && f (cAt cuts (j + 1))).map fun j => cAt cuts (j + 1) - cAt cuts j
theorem mem_ptList {cuts : List Int} {K : Nat} {n : Int} {f : Int → Bool} {φ : Int → Prop} (hf : ∀ e, f e = true ↔ φ e) {v : Int} : v ∈ ptList cuts K n f ↔ PT cuts K n φ v := by
  unfold ptList PT
  simp only [List.mem_map, List.mem_filter, List.mem_range, Bool.and_eq_true, decide_eq_true_iff, hf]
  exact ⟨fun ⟨j, ⟨hj, h1, h2⟩, e⟩ => ⟨j, hj, h1, h2, e.symm⟩, fun ⟨j, hj, h1, h2, e⟩ => ⟨j, ⟨hj, h1, h2⟩, e.symm⟩⟩
def chkMax (l : List Int) (m : Int) : Bool := (decide (m = 1) || l.contains m) && decide (1 ≤ m) && l.all fun x => decide (x ≤ m)
theorem max_chk {P : Int → Prop} {l : List Int} {m : Int} (e : ∀ v, v ∈ l ↔ P v) (h : chkMax l m = true) : MaxOf P m := by
  unfold chkMax at h
  simp only [Bool.and_eq_true, Bool.or_eq_true, decide_eq_true_iff, List.all_eq_true, List.contains_iff_mem] at h
  obtain ⟨⟨h1, h2⟩, h3⟩ := h
  exact ⟨h1.imp id (e m).mp, h2, fun x hx => h3 x ((e x).mpr hx)⟩
def chkMin (l : List Int) : Option Int → Bool
  | none => l.isEmpty
  | some m => l.contains m && l.all fun x => decide (m ≤ x)
theorem min_chk {P : Int → Prop} {l : List Int} : ∀ {o : Option Int}, (∀ v, v ∈ l ↔ P v) → chkMin l o = true → MinOf P o
  | none, e, h => by
    intro x hx
    have := (e x).mpr hx
    rw [List.isEmpty_iff.mp h] at this
    cases this
  | some m, e, h => by
    have h : (l.contains m && l.all fun x => decide (m ≤ x)) = true := h
    simp only [Bool.and_eq_true, decide_eq_true_iff, List.all_eq_true, List.contains_iff_mem] at h
    exact ⟨(e m).mp h.1, fun x hx => h.2 x ((e x).mpr hx)⟩
def chkB (n : Int) (ms ss cuts : List Int) (K : Nat) (L N G : Int) (x y z : Option Int) : Bool :=
  chkMax (plList cuts K ss) L && chkMax (plList cuts K (plM ms ss)) N && chkMax (pgList cuts K) G && chkMin (ptList cuts K n fun e => decide (e ∈ ss)) x && chkMin (ptList cuts K n fun e => decide (e ∈ ms) && decide (e ∉ ss)) y && chkMin (ptList cuts K n fun e => decide (e ∉ ms)) z
theorem chk_lo {n : Int} {ms ss cuts : List Int} {K : Nat} {L N G : Int} {x y z : Option Int} (h : chkB n ms ss cuts K L N G x y z = true) : Lo cuts K ms ss L N G ∧ Hi cuts K n ms ss x y z := by
  unfold chkB at h
  simp only [Bool.and_eq_true] at h
  obtain ⟨⟨⟨⟨⟨h1, h2⟩, h3⟩, h4⟩, h5⟩, h6⟩ := h
  exact ⟨⟨max_chk (fun _ => mem_plList) h1, max_chk (fun _ => mem_plList) h2, max_chk (fun _ => mem_pgList) h3⟩,
    ⟨min_chk (fun _ => mem_ptList fun e => decide_eq_true_iff) h4, min_chk (fun _ => mem_ptList fun e => by rw [Bool.and_eq_true, decide_eq_true_iff, decide_eq_true_iff]) h5, min_chk (fun _ => mem_ptList fun e => decide_eq_true_iff) h6⟩⟩
theorem sf_yes {C ro hd : Addr} {n : Int} {ms ss cuts : List Int} {K' : Nat} {vs : List V} {H2 : Hp} {Q : VK} {E : XK} (L N G : Int) (x y z : Option Int) (row : RowAt C H2 ro n ms ss) (e : vs = [.ref ro, .ref hd]) (GG : Good n ms ss) (k : IL H2 hd cuts) (CO : CutsOk n cuts K')
    (c : chkB n ms ss cuts K' L N G x y z = true) (ok : OkS L N G x y z) (h : ∀ (p : Addr) (H4 : Hp), Same H2 H4 → H4 p = some (.tup [.int L, oV x, .int N, oV y, .int G, oV z]) → Q (.ref p) H4) : spSf C vs H2 Q E :=
  sf_use row e GG k CO fun tv H4 b L' N' G' x' y' z' s lo hi hb ht => by
    obtain ⟨lo', hi'⟩ := chk_lo c
    obtain rfl : L' = L := lo.l.eq lo'.l
    obtain rfl : N' = N := lo.p.eq lo'.p
    obtain rfl : G' = G := lo.g.eq lo'.g
    obtain rfl : x' = x := hi.l.eq hi'.l
    obtain rfl : y' = y := hi.p.eq hi'.p
    obtain rfl : z' = z := hi.g.eq hi'.g
    rcases ht with ⟨e1, _⟩ | ⟨_, p, rfl, e2⟩
    · rw [hb.mpr ok] at e1
      cases e1
    · exact h p H4 s e2
theorem sf_no {C ro hd : Addr} {n : Int} {ms ss cuts : List Int} {K' : Nat} {vs : List V} {H2 : Hp} {Q : VK} {E : XK} (L N G : Int) (x y z : Option Int) (row : RowAt C H2 ro n ms ss) (e : vs = [.ref ro, .ref hd]) (GG : Good n ms ss) (k : IL H2 hd cuts) (CO : CutsOk n cuts K')
    (c : chkB n ms ss cuts K' L N G x y z = true) (ok : ¬ OkS L N G x y z) (h : ∀ (H4 : Hp), Same H2 H4 → Q .non H4) : spSf C vs H2 Q E :=
  sf_use row e GG k CO fun tv H4 b L' N' G' x' y' z' s lo hi hb ht => by
    obtain ⟨lo', hi'⟩ := chk_lo c
    obtain rfl : L' = L := lo.l.eq lo'.l
    obtain rfl : N' = N := lo.p.eq lo'.p
    obtain rfl : G' = G := lo.g.eq lo'.g
    obtain rfl : x' = x := hi.l.eq hi'.l
    obtain rfl : y' = y := hi.p.eq hi'.p
    obtain rfl : z' = z := hi.g.eq hi'.g
    rcases ht with ⟨_, rfl⟩ | ⟨e1, _⟩
    · exact h H4 s
    · exact absurd (hb.mp e1) ok
theorem good20 : Good 20 [3, 7, 8, 13] [3, 8] := ⟨by decide, by decide, by decide, by decide, by decide, by decide⟩
theorem good1 : Good 1 [] [] := ⟨by decide, by decide, by decide, by decide, by decide, by decide⟩
theorem cA : CutsOk 20 [0, 3, 7, 12, 17, 20] 5 := ⟨rfl, by decide, by decide, by decide, rfl⟩
theorem cB : CutsOk 20 [20] 0 := ⟨rfl, by decide, by decide, by decide, rfl⟩
theorem cC : CutsOk 20 [0, 20] 1 := ⟨rfl, by decide, by decide, by decide, rfl⟩
theorem cD : CutsOk 20 [0, 7, 8, 20] 3 := ⟨rfl, by decide, by decide, by decide, rfl⟩
theorem cE : CutsOk 1 [0, 1] 1 := ⟨rfl, by decide, by decide, by decide, rfl⟩
theorem hA : chkB 20 [3, 7, 8, 13] [3, 8] [0, 3, 7, 12, 17, 20] 5 2 2 5 (some 3) (some 4) (some 5) = true := by decide +kernel
theorem hB : chkB 20 [3, 7, 8, 13] [3, 8] [20] 0 1 1 1 none none none = true := by decide +kernel
theorem hC' : chkB 20 [3, 7, 8, 13] [3, 8] [0, 20] 1 9 14 20 none none none = true := by decide +kernel
theorem hD' : chkB 20 [3, 7, 8, 13] [3, 8] [0, 7, 8, 20] 3 4 6 12 (some 1) (some 7) none = true := by decide +kernel
theorem hE' : chkB 1 [] [] [0, 1] 1 1 1 1 none none none = true := by decide +kernel
theorem cuts_some {n : Int} {xs : List Int} (asc : Asc xs) (rg : ∀ x ∈ xs, 0 ≤ x ∧ x < n) (n0 : 0 ≤ n) (few : xs.length ≤ 200) : CutsOk n (xs ++ [n]) xs.length := by
  refine ⟨by rw [List.length_append]; rfl, few, ?_, fun x hx => ?_, ?_⟩
  · refine List.pairwise_append.mpr ⟨asc, List.pairwise_singleton _ _, fun a ha b hb => ?_⟩
    rw [List.mem_singleton.mp hb]
    exact (rg a ha).2
  · rcases List.mem_append.mp hx with h | h
    · have := rg x h
      omega
    · rw [List.mem_singleton.mp h]
      omega
  · show List.getD _ _ _ = _
    rw [List.getD_eq_getElem?_getD, List.getElem?_append_right (Nat.le_refl _), Nat.sub_self]
    rfl
theorem okA : OkS 2 2 5 (some 3) (some 4) (some 5) := ⟨(fun t e => by cases e; decide), (fun t e => by cases e; decide), (fun t e => by cases e; decide)⟩
theorem okN {L N G : Int} : OkS L N G none none none := ⟨(fun t e => (nomatch e)), (fun t e => (nomatch e)), (fun t e => (nomatch e))⟩
theorem noD : ¬ OkS 4 6 12 (some 1) (some 7) none := fun h => absurd (h.1 1 rfl) (by decide)
theorem dp6 {K : PySem.W.Frag} {H : Hp} {u : Addr} (L N G : Int) (x y z : Option Int) (h : H u = some (.tup [.int L, oV x, .int N, oV y, .int G, oV z])) : Dp K H (.ref u) (six L N G x y z) :=
  .tup (SqT.of h) (.cons (.int _) (.cons (dp_oV x) (.cons (.int _) (.cons (dp_oV y) (.cons (.int _) (.cons (dp_oV z) .nil))))))
section
variable {P : Program} {w : World} {K : PySem.W.Frag} {mg : Str → Option Value} {base : Heap}
abbrev NL : List Str := ["script", "k", "jar", "turn", "raw", "length", "some", "made", "told", "place"]
theorem scL : FnScope NL ["script"] (defScope sL) := ⟨rfl, rfl, rfl, by decide +kernel, rfl, by decide +kernel, by decide +kernel⟩
theorem ok_law {f C fJ fS fW fD fA fF fN : Addr} {fd fdJ fdS fdW fdD fdA fdF fdN : FuncData} (F : Fun K "law" "law" sL f fd) (T : Bl mg) (R : Cl K mg C) (M : Mk K C fN) (bN : Binds K fdN NI []) (GN : FnOk P w K mg base CX0 5 fN fdN NI (spInit C))
    (gJ : mg "_law_jar" = some (.ref fJ)) (kJ : PySem.W.keepIn K (.ref fJ) = true) (bJ : Binds K fdJ ["script", "k"] []) (GJ : FnOk P w K mg base CX0 1 fJ fdJ ["script", "k"] (spJar K))
    (gS : mg "_law_small" = some (.ref fS)) (kS : PySem.W.keepIn K (.ref fS) = true) (bS : Binds K fdS ["jar", "most"] []) (GS : FnOk P w K mg base CX0 3 fS fdS ["jar", "most"] spSmall)
    (gW : mg "_law_slow_walk" = some (.ref fW)) (kW : PySem.W.keepIn K (.ref fW) = true) (bW : Binds K fdW ["raw", "begin"] []) (GW : FnOk P w K mg base CX0 2 fW fdW ["raw", "begin"] spSW)
    (gD : mg "_law_dip" = some (.ref fD)) (kD : PySem.W.keepIn K (.ref fD) = true) (bD : Binds K fdD ["jar", "many"] []) (GD : FnOk P w K mg base CX0 1 fD fdD ["jar", "many"] spDip)
    (gA : mg "_law_right" = some (.ref fA)) (kA : PySem.W.keepIn K (.ref fA) = true) (bA : Binds K fdA ["raw", "cuts_here"] []) (GA : FnG P w K mg base 8 fA fdA ["raw", "cuts_here"] (spRi C))
    (gF : mg "settings_for" = some (.ref fF)) (kF : PySem.W.keepIn K (.ref fF) = true) (bF : Binds K fdF ["row", "cuts"] []) (kbF : KBinds K fdF ["row", "cuts"] ["cuts", "row"] gR2 gR2V) (GF : FnOk P w K mg base CX0 5 fF fdF ["row", "cuts"] (spSf C)) :
    FnG P w K mg base 9 f fd ["script"] (spLaw K) := by
  refine okG F scL (fun vs H Q E h => ?_) (fun cdv A outer s H vs Q E hr hg h => ?_)
  · obtain ⟨a, ns, rfl, _⟩ := h
    rfl
  · obtain ⟨a, ns, rfl, hS, hl, q⟩ := h
    have hu : (A.deeper (PyProof.Rows.envOfC "law" (defScope sL) s.heap.objs.size f cdv)).units + 64 < cLine := Nat.lt_of_le_of_lt (by omega) hr.un
    have gu : (A.deeper (PyProof.Rows.envOfC "law" (defScope sL) s.heap.objs.size f cdv)).guards = some [] := hg
    refine ⟨_, (pss_cons (ps_for PassesOwn.never rfl (pi_range1 (by rfl) T.range (pa_cons (pe_callB (call_max2 rfl) (by rfl) T.max (by decide +kernel) (pa_cons pe_int (pa_cons (pe_callB (call_min2 rfl) (by rfl) T.min (by decide +kernel) (pa_cons pe_int (pa_cons (pe_callB call_len_seq (by rfl) T.len PySem.boot_len (pa_cons (pv 0) pa_nil)) pa_nil))) pa_nil))) pa_nil)) (pg_name (i := 1) scL.nd rfl (Or.inl rfl))
        (pss_cons (ps_set (i := 2) scL.nd rfl (Or.inr rfl) (pe_call GJ (hr.mono (by decide)) rfl gJ kJ bJ .nil pass0 (pa_cons (pv 0) (pa_cons (pv 1) pa_nil))))
        (pss_one (ps_for PassesOwn.never rfl (pi_range1 (by rfl) T.range (pa_cons pe_int pa_nil)) (pg_name (i := 3) scL.nd rfl (Or.inl rfl))
        (pss_cons (ps_set (i := 4) scL.nd rfl (Or.inl rfl) (pe_call GS (hr.mono (by decide)) rfl gS kS bS .nil pass0 (pa_cons (pv 2) (pa_cons pe_int pa_nil))))
        (pss_cons (ps_set (i := 5) scL.nd rfl (Or.inl rfl) (pe_ix (r := rIxT K) ix_tup (pv 4) pe_int (fun _ _ => rfl)))
        (pss_cons (ps_if (pt_not (pt_val (pe_callG GA (hr.mono (by decide)) gu rfl gA kA bA (pa_cons (pv 4) (pa_cons (pe_call GW (hr.mono (by decide)) rfl gW kW bW .nil pass0 (pa_cons (pv 4) (pa_cons (pe_call GD (hr.mono (by decide)) rfl gD kD bD .nil pass0 (pa_cons (pv 2) (pa_cons (pe_op op_add (pv 5) pe_int) pa_nil))) pa_nil))) pa_nil))))) (pss_one (ps_ret pe_bl)) pss_nil)
        (pss_cons (ps_setLc (i := 6) (own := [("place", 9)]) (g := (gName 9)) rfl scL.nd rfl rfl (sw_true rfl rfl rfl (by decide +kernel)) (pi_range1 (by rfl) T.range (pa_cons (pv 5) pa_nil)) (blkOk_by (own := [("place", 9)]) (N := NL) (sc := defScope sL) (by decide +kernel)) (fun _ _ _ _ _ => (pg_name (i := 9) scL.nd rfl (Or.inl rfl))) (fun _ _ _ _ _ => (pts_one (pt_cmpR op_eq (pe_call GD (hr.mono (by decide)) rfl gD kD bD .nil pass0 (pa_cons (pv 2) (pa_cons pe_int pa_nil))) pe_int (nomark _)))) (fun _ _ _ _ _ => (pv 9)))
        (pss_one (ps_if (pt_not (pt_val (pe_callG GA (hr.mono (by decide)) gu rfl gA kA bA (pa_cons (pv 4) (pa_cons (pe_op op_cat (pv 6) (pe_lst (pa_cons (pv 5) pa_nil))) pa_nil))))) (pss_one (ps_ret pe_bl)) pss_nil))))))))))
        (pss_cons (ps_set (i := 7) scL.nd rfl (Or.inl rfl) (pe_make M GN (hr.mono (by decide)) rfl R.mgR bN .nil pass0 (pa_cons pe_int (pa_cons (pe_lst (pa_cons pe_int (pa_cons pe_int (pa_cons pe_int (pa_cons pe_int pa_nil))))) (pa_cons (pe_lst (pa_cons pe_int (pa_cons pe_int pa_nil))) pa_nil)))))
        (pss_cons (ps_set (i := 8) scL.nd rfl (Or.inl rfl) (pe_lst (pa_cons (pe_call GF (hr.mono (by decide)) rfl gF kF bF .nil pass0 (pa_cons (pv 7) (pa_cons (pe_lst (pa_cons pe_int (pa_cons pe_int (pa_cons pe_int (pa_cons pe_int (pa_cons pe_int (pa_cons pe_int pa_nil))))))) pa_nil))) (pa_cons (pe_callK0 GF (hr.mono (by decide)) rfl gF kF kbF pass0 (pk_cons (pe_lst (pa_cons pe_int pa_nil)) (pk_cons (pv 7) pk_nil))) (pa_cons (pe_call GF (hr.mono (by decide)) rfl gF kF bF .nil pass0 (pa_cons (pv 7) (pa_cons (pe_lst (pa_cons pe_int (pa_cons pe_int pa_nil))) pa_nil))) pa_nil)))))
        (pss_cons (ps_if (pt_cmpR (op_neD hr.units) (pv 8) (pe_lst (pa_cons (pe_tup (pa_cons pe_int (pa_cons pe_int (pa_cons pe_int (pa_cons pe_int (pa_cons pe_int (pa_cons pe_int pa_nil))))))) (pa_cons (pe_tup (pa_cons pe_int (pa_cons pe_non (pa_cons pe_int (pa_cons pe_non (pa_cons pe_int (pa_cons pe_non pa_nil))))))) (pa_cons (pe_tup (pa_cons pe_int (pa_cons pe_non (pa_cons pe_int (pa_cons pe_non (pa_cons pe_int (pa_cons pe_non pa_nil))))))) pa_nil)))) (nomark _)) (pss_one (ps_ret pe_bl)) pss_nil)
        (pss_cons (ps_set (i := 8) scL.nd rfl (Or.inl rfl) (pe_lst (pa_cons (pe_call GF (hr.mono (by decide)) rfl gF kF bF .nil pass0 (pa_cons (pv 7) (pa_cons (pe_lst (pa_cons pe_int (pa_cons pe_int (pa_cons pe_int (pa_cons pe_int pa_nil))))) pa_nil))) (pa_cons (pe_call GF (hr.mono (by decide)) rfl gF kF bF .nil pass0 (pa_cons (pe_make M GN (hr.mono (by decide)) rfl R.mgR bN .nil pass0 (pa_cons pe_int (pa_cons (pe_lst pa_nil) (pa_cons (pe_lst pa_nil) pa_nil)))) (pa_cons (pe_lst (pa_cons pe_int (pa_cons pe_int pa_nil))) pa_nil))) pa_nil))))
        (pss_one (ps_ret (pe_cmpR (op_eqD hr.units) (pv 8) (pe_lst (pa_cons pe_non (pa_cons (pe_tup (pa_cons pe_int (pa_cons pe_non (pa_cons pe_int (pa_cons pe_non (pa_cons pe_int (pa_cons pe_non pa_nil))))))) pa_nil))) (nomark _))))))))), ?_⟩
    refine ⟨_, rfl, a, _, rfl, .inl hS, _, _, rfl, _, _, rfl, _, rfl, ?_, ?_, for_range (lo := 0) (n := Int.toNat _) (fun _ σ H' => ∃ v1 v2 v3 v4 v5 v6, σ = [some (.ref a), v1, v2, v3, v4, v5, v6, none, none, none] ∧ SqL K H' a (ns.map V.int)) ⟨_, _, _, _, _, _, rfl, hS⟩ ?_ ?_⟩
    · rw [List.length_map]
      split <;> split <;> omega
    · rw [List.length_map]
      split <;> split <;> omega
    · rintro i σ H1 hi ⟨v1, v2, v3, v4, v5, v6, rfl, s1⟩
      have hil : i ≤ ns.length := by
        rw [List.length_map] at hi
        split at hi <;> split at hi <;> omega
      refine ⟨_, rfl, _, rfl, a, ns, i, by rw [Int.zero_add]; rfl, s1, hil, hl, fun p H2 s2 np J2 => ?_⟩
      have sc2 := (Scr.of s1 np).but (But.of s2)
      try dsimp only [L2.start, List.set, List.map, List.append, List.replicate, List.length]
      refine ⟨_, rfl, by decide, by decide, for_range (lo := 0) (n := 2) (fun t σ H' => ∃ v3 v4 v5 v6, σ = [some (.ref a), some (.int (0 + (i : Int))), some (.ref p), v3, v4, v5, v6, none, none, none] ∧ JarAt H' p (100 * (2 - t)) ∧ Scr K H' a (ns.map V.int) p) ⟨_, _, _, _, rfl, J2.mono (by omega), sc2⟩ ?_ ?_⟩
      · rintro t σ H3 ht ⟨v3, v4, v5, v6, rfl, J3, sc3⟩
        have Jd : JarAt H3 p (100 * (2 - (t + 1)) + 10 + 1 + 60) := J3.mono (by omega)
        generalize 100 * (2 - (t + 1)) = kk at Jd ⊢
        refine ⟨_, rfl, p, _, 10, rfl, by decide, by decide, Jd, fun r1 H4 n l m g prs n10 G f39 hR S big gb J4 B4 => ?_⟩
        have sc4 := sc3.but B4
        have l1 := S.l1
        have n0 := G.pos
        have GG := G.good
        obtain ⟨lp, ta, ts, hp, hlp, hpr, hta⟩ := id hR
        try dsimp only [L2.start, List.set, List.map, List.append, List.replicate, List.length]
        refine ⟨_, rfl, r1, _, _, _, rfl, rfl, SqT.of hp, at_of2 (j := 0) rfl rfl, ?_⟩
        try dsimp only [L2.start, List.set, List.map, List.append, List.replicate, List.length]
        refine ⟨_, rfl, _, rfl, _, rfl, _, rfl, _, _, rfl, rfl, p, _, n + 1, rfl, J4, by omega, Int.lt_of_le_of_lt (show n + 1 ≤ 10000 by omega) (by decide), fun b0 H5 b1 b2 J5 B5 => ?_⟩
        have sc5 := sc4.but B5
        have hR5 := hR.but J4 B5
        refine ⟨r1, n, l, m, g, b0, prs, rfl, hR5, G, S, big, by omega, by omega, b1, by omega, fun c H6 k6 s6 nc wk ic => ?_⟩
        have CO := wl_cuts (nx_stp GG S) wk b1 (show b0 ≤ n by omega)
        refine ⟨r1, c, n, l, m, g, prs, _, k6, rfl, hR5.same s6, G, n10, f39, ic, CO, fun H7 s7 => ⟨_, rfl, ?_⟩⟩
        refine ifF rfl ?_
        have s57 := s6.trans s7
        have sc7 := sc5.but (But.of s57)
        have J7 := J5.same s57
        have hR7 := hR5.same s57
        try dsimp only [L2.start, List.set, List.map, List.append, List.replicate, List.length]
        dsimp -proj only [tNext]
        refine ⟨_, rfl, n, rfl, by omega, by omega, fun D hD => ?_⟩
        have Dp' : D ≠ p := (J7.ne hD).symm
        refine lc_range (lo := 0) (n := n.toNat) (fun j H' => JarAt H' p (kk + (10 - j)) ∧ But H7 H' p ∧ ∃ xs : List Int, IL H' D xs ∧ Asc xs ∧ (∀ x ∈ xs, 0 ≤ x ∧ x < j) ∧ xs.length ≤ j) ⟨J7.put Dp'.symm, But.of (same_new (Same.refl H7) hD), [], upd_same, List.Pairwise.nil, (fun _ h => (nomatch h)), Nat.zero_le _⟩ ?_ ?_
        · rintro j H8 hj ⟨J8, B8, xs, hx, asc, rg, ln⟩
          have J8 : JarAt H8 p (kk + (10 - (j + 1)) + 1) := J8.mono (by omega)
          refine ⟨rfl, ?_⟩
          refine ⟨_, rfl, p, _, 3, rfl, J8, by decide, by decide, fun v H9 w0 w1 J9 B9 => ⟨rfl, _, rfl, ?_⟩⟩
          have hx9 := B9 _ _ hx Dp'
          by_cases c1 : v = 0
          · refine ifT (decide_eq_true (by rw [c1])) ?_
            refine ⟨_, rfl, _, hx9, by rw [List.length_map]; exact small1000 (by omega), J9.put Dp'.symm, ?_, xs ++ [0 + (j : Int)], ?_, ?_, ?_, ?_⟩
            · intro b o hb hne
              have bD : b ≠ D := fun e => by rw [e, hD] at hb; cases hb
              rw [upd_ne bD]
              exact (B8.trans B9) b o hb hne
            · show upd _ _ _ D = _
              rw [upd_same, ints_app]
            · refine List.pairwise_append.mpr ⟨asc, List.pairwise_singleton _ _, fun x hx y hy => ?_⟩
              rw [List.mem_singleton.mp hy]
              have := rg x hx
              omega
            · intro x hx
              rcases List.mem_append.mp hx with h | h
              · have := rg x h
                omega
              · rw [List.mem_singleton.mp h]
                omega
            · rw [List.length_append, List.length_singleton]
              omega
          · refine ifF (decide_eq_false fun z => c1 (V.int.inj z)) ?_
            exact ⟨J9, B8.trans B9, xs, hx9, asc, (fun x h => by have := rg x h; omega), by omega⟩
        rintro H8 ⟨J8, B8, xs, hx, asc, rg, ln⟩
        have sc8 := sc7.but B8
        have hR8 := hR7.but J7 B8
        have J8 : JarAt H8 p kk := J8.mono (by omega)
        try dsimp only [L2.start, List.set, List.map, List.append, List.replicate, List.length]
        refine ⟨_, rfl, _, rfl, _, rfl, (by show 1 ≤ sizeLine; decide), fun u1 hu1 => ?_⟩
        have s9 := same_new (o := .lst [.int n]) (Same.refl H8) hu1
        have k9 : upd H8 u1 (.lst [.int n]) u1 = some (.lst [.int n]) := upd_same
        generalize upd H8 u1 (.lst [.int n]) = H9 at s9 k9 ⊢
        refine ⟨D, u1, _, _, rfl, rfl, s9 _ _ hx, k9, by rw [List.length_map, List.length_singleton, sizeLine_eq]; omega, fun cc hcc => ?_⟩
        have s10 := s9.trans (same_new (o := .lst (xs.map V.int ++ [.int n])) (Same.refl H9) hcc)
        have k10 : IL (upd H9 cc (.lst (xs.map V.int ++ [.int n]))) cc (xs ++ [n]) := by
          show upd _ _ _ cc = _
          rw [upd_same, ints_app]
        generalize upd H9 cc (.lst (xs.map V.int ++ [.int n])) = HA at s10 k10 ⊢
        refine ⟨r1, cc, n, l, m, g, prs, xs ++ [n], xs.length, rfl, hR8.same s10, G, n10, f39, k10, cuts_some asc (fun x h => by have := rg x h; omega) (by omega) (by omega), fun HB sB => ⟨_, rfl, ?_⟩⟩
        refine ifF rfl ?_
        exact ⟨_, _, _, _, rfl, (J8.same s10).same sB, (sc8.but (But.of s10)).but (But.of sB)⟩
      · rintro σ H3 ⟨v3, v4, v5, v6, rfl, J3, sc3⟩
        exact ⟨_, _, _, _, _, _, rfl, sc3.sq⟩
    · rintro σ H1 ⟨v1, v2, v3, v4, v5, v6, rfl, s1⟩
      refine ⟨(by show 4 ≤ sizeLine; decide), fun cx hcx => ⟨(by show 2 ≤ sizeLine; decide), fun ex hex => ?_⟩⟩
      have mx : IL (upd (upd H1 cx (.lst [.int 3, .int 7, .int 8, .int 13])) ex (.lst [.int 3, .int 8])) cx [3, 7, 8, 13] := by
        show upd _ _ _ cx = _
        rw [upd_ne (ne_of_none upd_same hex)]
        exact upd_same
      have nx : IL (upd (upd H1 cx (.lst [.int 3, .int 7, .int 8, .int 13])) ex (.lst [.int 3, .int 8])) ex [3, 8] := upd_same
      have tx : Same H1 (upd (upd H1 cx (.lst [.int 3, .int 7, .int 8, .int 13])) ex (.lst [.int 3, .int 8])) := same_new (same_new (Same.refl H1) hcx) hex
      generalize upd (upd H1 cx (.lst [.int 3, .int 7, .int 8, .int 13])) ex (.lst [.int 3, .int 8]) = Xx at mx nx tx ⊢
      refine fun x dxx nxx ndx nex => ?_
      have ux : Same Xx (upd (upd Xx dxx (.own x)) x (.ins C dxx [])) := same_new (same_new (Same.refl Xx) ndx) (by rw [upd_ne (Ne.symm nex)]; exact nxx)
      refine ⟨x, dxx, cx, ex, 20, _, _, rfl, upd_same, ux _ _ mx, ux _ _ nx, good20, fun H2 rowx kpx => ⟨rfl, ?_⟩⟩
      have rx := rowx.at
      have sx : Same H1 H2 := tx.trans (same_ins (Same.refl Xx) nxx ndx kpx)
      clear rowx kpx ux nxx ndx nex mx nx hcx hex tx
      try dsimp only [L2.start, List.set, List.map, List.append, List.replicate, List.length]
      refine ⟨_, rfl, (by show 6 ≤ sizeLine; decide), fun c1 hc1 => ?_⟩
      have sc1 := same_new (o := (.lst [.int 0, .int 3, .int 7, .int 12, .int 17, .int 20])) (Same.refl H2) hc1
      have kc1 : IL (upd H2 c1 (.lst [.int 0, .int 3, .int 7, .int 12, .int 17, .int 20])) c1 [0, 3, 7, 12, 17, 20] := upd_same
      generalize upd H2 c1 (.lst [.int 0, .int 3, .int 7, .int 12, .int 17, .int 20]) = H3 at sc1 kc1 ⊢
      dsimp -proj only [tNil]
      refine sf_yes 2 2 5 (some 3) (some 4) (some 5) (rx.same sc1) rfl good20 kc1 cA hA okA fun p1 H4 s4 k4 => ?_
      refine ⟨(by show 1 ≤ sizeLine; decide), fun c2 hc2 => ?_⟩
      have sc2 := same_new (o := (.lst [.int 20])) (Same.refl H4) hc2
      have kc2 : IL (upd H4 c2 (.lst [.int 20])) c2 [20] := upd_same
      generalize upd H4 c2 (.lst [.int 20]) = H5 at sc2 kc2 ⊢
      have s25 := (sc1.trans s4).trans sc2
      refine ⟨_, rfl, ?_⟩
      dsimp -proj only [tNil]
      refine sf_yes 1 1 1 none none none (rx.same s25) rfl good20 kc2 cB hB okN fun p2 H6 s6 k6 => ?_
      refine ⟨_, rfl, (by show 2 ≤ sizeLine; decide), fun c3 hc3 => ?_⟩
      have sc3 := same_new (o := (.lst [.int 0, .int 20])) (Same.refl H6) hc3
      have kc3 : IL (upd H6 c3 (.lst [.int 0, .int 20])) c3 [0, 20] := upd_same
      generalize upd H6 c3 (.lst [.int 0, .int 20]) = H7 at sc3 kc3 ⊢
      have s27 := (s25.trans s6).trans sc3
      dsimp -proj only [tNil]
      refine sf_yes 9 14 20 none none none (rx.same s27) rfl good20 kc3 cC hC' okN fun p3 H8 s8 k8 => ?_
      refine ⟨(by show 3 ≤ sizeLine; decide), fun T1 hT1 => ?_⟩
      have sT1 := same_new (o := (.lst [.ref p1, .ref p2, .ref p3])) (Same.refl H8) hT1
      have kT1 : upd H8 T1 (.lst [.ref p1, .ref p2, .ref p3]) T1 = some (.lst [.ref p1, .ref p2, .ref p3]) := upd_same
      generalize upd H8 T1 (.lst [.ref p1, .ref p2, .ref p3]) = H9 at sT1 kT1 ⊢
      have k4 := sT1 _ _ (s8 _ _ (sc3 _ _ (s6 _ _ (sc2 _ _ k4))))
      have k6 := sT1 _ _ (s8 _ _ (sc3 _ _ k6))
      have k8 := sT1 _ _ k8
      have s29 := (s27.trans s8).trans sT1
      try dsimp only [L2.start, List.set, List.map, List.append, List.replicate, List.length]
      refine ⟨_, rfl, (by show 6 ≤ sizeLine; decide), fun t1 ht1 => ?_⟩
      have st1 := same_new (o := (.tup [.int 2, .int 3, .int 2, .int 4, .int 5, .int 5])) (Same.refl H9) ht1
      have kt1 : upd H9 t1 (.tup [.int 2, .int 3, .int 2, .int 4, .int 5, .int 5]) t1 = some (.tup [.int 2, .int 3, .int 2, .int 4, .int 5, .int 5]) := upd_same
      generalize upd H9 t1 (.tup [.int 2, .int 3, .int 2, .int 4, .int 5, .int 5]) = HA at st1 kt1 ⊢
      refine ⟨(by show 6 ≤ sizeLine; decide), fun t2 ht2 => ?_⟩
      have st2 := same_new (o := (.tup [.int 1, .non, .int 1, .non, .int 1, .non])) (Same.refl HA) ht2
      have kt2 : upd HA t2 (.tup [.int 1, .non, .int 1, .non, .int 1, .non]) t2 = some (.tup [.int 1, .non, .int 1, .non, .int 1, .non]) := upd_same
      generalize upd HA t2 (.tup [.int 1, .non, .int 1, .non, .int 1, .non]) = HB at st2 kt2 ⊢
      refine ⟨(by show 6 ≤ sizeLine; decide), fun t3 ht3 => ?_⟩
      have st3 := same_new (o := (.tup [.int 9, .non, .int 14, .non, .int 20, .non])) (Same.refl HB) ht3
      have kt3 : upd HB t3 (.tup [.int 9, .non, .int 14, .non, .int 20, .non]) t3 = some (.tup [.int 9, .non, .int 14, .non, .int 20, .non]) := upd_same
      generalize upd HB t3 (.tup [.int 9, .non, .int 14, .non, .int 20, .non]) = HC at st3 kt3 ⊢
      refine ⟨(by show 3 ≤ sizeLine; decide), fun T2 hT2 => ?_⟩
      have sT2 := same_new (o := (.lst [.ref t1, .ref t2, .ref t3])) (Same.refl HC) hT2
      have kT2 : upd HC T2 (.lst [.ref t1, .ref t2, .ref t3]) T2 = some (.lst [.ref t1, .ref t2, .ref t3]) := upd_same
      generalize upd HC T2 (.lst [.ref t1, .ref t2, .ref t3]) = HD at sT2 kT2 ⊢
      have s9D := ((st1.trans st2).trans st3).trans sT2
      have kt1 := sT2 _ _ (st3 _ _ (st2 _ _ kt1))
      have kt2 := sT2 _ _ (st3 _ _ kt2)
      have kt3 := sT2 _ _ kt3
      refine ⟨.list [six 2 2 5 (some 3) (some 4) (some 5), six 1 1 1 none none none, six 9 14 20 none none none], .list [six 2 2 5 (some 3) (some 4) (some 5), six 1 1 1 none none none, six 9 14 20 none none none],
        .lst (SqL.of (s9D _ _ kT1)) (.cons (dp6 2 2 5 (some 3) (some 4) (some 5) (s9D _ _ k4)) (.cons (dp6 1 1 1 none none none (s9D _ _ k6)) (.cons (dp6 9 14 20 none none none (s9D _ _ k8)) .nil))),
        .lst (SqL.of kT2) (.cons (dp6 2 2 5 (some 3) (some 4) (some 5) kt1) (.cons (dp6 1 1 1 none none none kt2) (.cons (dp6 9 14 20 none none none kt3) .nil))), by decide +kernel, by decide +kernel, _, rfl, ?_⟩
      refine ifF (by decide +kernel) ?_
      have rxD := rx.same (s29.trans s9D)
      try dsimp only [L2.start, List.set, List.map, List.append, List.replicate, List.length]
      refine ⟨_, rfl, (by show 4 ≤ sizeLine; decide), fun c4 hc4 => ?_⟩
      have sc4 := same_new (o := (.lst [.int 0, .int 7, .int 8, .int 20])) (Same.refl HD) hc4
      have kc4 : IL (upd HD c4 (.lst [.int 0, .int 7, .int 8, .int 20])) c4 [0, 7, 8, 20] := upd_same
      generalize upd HD c4 (.lst [.int 0, .int 7, .int 8, .int 20]) = HE at sc4 kc4 ⊢
      dsimp -proj only [tNil]
      refine sf_no 4 6 12 (some 1) (some 7) none (rxD.same sc4) rfl good20 kc4 cD hD' noD fun HF sF => ?_
      refine ⟨Nat.zero_le _, fun cz hcz => ⟨Nat.zero_le _, fun ez hez => ?_⟩⟩
      have mz : IL (upd (upd HF cz (.lst [])) ez (.lst [])) cz [] := by
        show upd _ _ _ cz = _
        rw [upd_ne (ne_of_none upd_same hez)]
        exact upd_same
      have nz : IL (upd (upd HF cz (.lst [])) ez (.lst [])) ez [] := upd_same
      have tz : Same HF (upd (upd HF cz (.lst [])) ez (.lst [])) := same_new (same_new (Same.refl HF) hcz) hez
      generalize upd (upd HF cz (.lst [])) ez (.lst []) = Xz at mz nz tz ⊢
      refine fun z dxz nxz ndz nez => ?_
      have uz : Same Xz (upd (upd Xz dxz (.own z)) z (.ins C dxz [])) := same_new (same_new (Same.refl Xz) ndz) (by rw [upd_ne (Ne.symm nez)]; exact nxz)
      refine ⟨z, dxz, cz, ez, 1, _, _, rfl, upd_same, uz _ _ mz, uz _ _ nz, good1, fun HG rowz kpz => ⟨rfl, ?_⟩⟩
      have rz := rowz.at
      have sz : Same HF HG := tz.trans (same_ins (Same.refl Xz) nxz ndz kpz)
      clear rowz kpz uz nxz ndz nez mz nz hcz hez tz
      refine ⟨(by show 2 ≤ sizeLine; decide), fun c5 hc5 => ?_⟩
      have sc5 := same_new (o := (.lst [.int 0, .int 1])) (Same.refl HG) hc5
      have kc5 : IL (upd HG c5 (.lst [.int 0, .int 1])) c5 [0, 1] := upd_same
      generalize upd HG c5 (.lst [.int 0, .int 1]) = HH at sc5 kc5 ⊢
      dsimp -proj only [tNil]
      refine sf_yes 1 1 1 none none none (rz.same sc5) rfl good1 kc5 cE hE' okN fun p5 HI sI kI => ?_
      refine ⟨(by show 2 ≤ sizeLine; decide), fun T3 hT3 => ?_⟩
      have sT3 := same_new (o := (.lst [.non, .ref p5])) (Same.refl HI) hT3
      have kT3 : upd HI T3 (.lst [.non, .ref p5]) T3 = some (.lst [.non, .ref p5]) := upd_same
      generalize upd HI T3 (.lst [.non, .ref p5]) = HJ at sT3 kT3 ⊢
      have kI := sT3 _ _ kI
      try dsimp only [L2.start, List.set, List.map, List.append, List.replicate, List.length]
      refine ⟨_, rfl, (by show 6 ≤ sizeLine; decide), fun t4 ht4 => ?_⟩
      have st4 := same_new (o := (.tup [.int 1, .non, .int 1, .non, .int 1, .non])) (Same.refl HJ) ht4
      have kt4 : upd HJ t4 (.tup [.int 1, .non, .int 1, .non, .int 1, .non]) t4 = some (.tup [.int 1, .non, .int 1, .non, .int 1, .non]) := upd_same
      generalize upd HJ t4 (.tup [.int 1, .non, .int 1, .non, .int 1, .non]) = HK at st4 kt4 ⊢
      refine ⟨(by show 2 ≤ sizeLine; decide), fun T4 hT4 => ?_⟩
      have sT4 := same_new (o := (.lst [.non, .ref t4])) (Same.refl HK) hT4
      have kT4 : upd HK T4 (.lst [.non, .ref t4]) T4 = some (.lst [.non, .ref t4]) := upd_same
      generalize upd HK T4 (.lst [.non, .ref t4]) = HL at sT4 kT4 ⊢
      have sJL := st4.trans sT4
      refine ⟨.list [.none, six 1 1 1 none none none], .list [.none, six 1 1 1 none none none], .lst (SqL.of (sJL _ _ kT3)) (.cons .non (.cons (dp6 1 1 1 none none none (sJL _ _ kI)) .nil)), .lst (SqL.of kT4) (.cons .non (.cons (dp6 1 1 1 none none none (sT4 _ _ kt4)) .nil)), by decide +kernel, by decide +kernel, ?_⟩
      have e : PyData.eqv (.list [.none, six 1 1 1 none none none]) (.list [.none, six 1 1 1 none none none]) = true := by decide +kernel
      rw [e]
      exact q HL
end
end Cw
namespace Cw
open PySem L2
theorem kb_x18_gR2 {K : PySem.W.Frag} {f : Addr} {fd : FuncData} (F : Fun K "settings_for" "settings_for" sSf f fd) : KBinds K fd ["row", "cuts"] ["cuts", "row"] gR2 gR2V := by
  obtain ⟨oc, od, kV, doc, pm, an, cdv, ct, osl, rfl, lk, hcd⟩ := F.ex
  refine ⟨fun s us ws _ hl => ?_, fun {vs us zs ws} r z => ?_⟩
  · match us, ws, hl with
    | [], [a0, a1], _ => exact .of_eq rfl
  · cases r with
    | cons a b => exact .nil
    | nil =>
      cases z with
      | nil => exact .nil
      | cons a0 z =>
        cases z with
        | nil => exact .nil
        | cons a1 z =>
          cases z with
          | nil => exact (.cons a1 (.cons a0 .nil))
          | cons e z => exact .nil
/-! ## what the top has written -/
theorem all_mk {l : PySem.W.OpenLaw} {w : World} {K : PySem.W.Frag} {h : Heap} {mg : Str → Option Value} {fa : Addr} (X : K.In h) (G : h.Ns mainGlobals mg) (hfa : mg "law" = some (.ref fa))
    {C fx0 fx1 fx2 fx3 fx4 fx5 fx6 fx7 fx8 fx9 pL fx10 pM fx11 pS fx12 fx13 fx14 fx15 fx16 fx17 fx18 fx19 fx20 fx21 fx22 fx23 fx24 fx25 fLW : Addr} {t_MOST_MARKS : Tok} {restpL restpM restpS : List Value}
    {ocx0 kVx0 dcx0 pmx0 cdx0 ctx0 : Value} {odx0 anx0 : Option Addr} {slx0 : Array (Option Value)}
    {ocx1 kVx1 dcx1 pmx1 cdx1 ctx1 : Value} {odx1 anx1 : Option Addr} {slx1 : Array (Option Value)}
    {ocx2 kVx2 dcx2 pmx2 cdx2 ctx2 : Value} {odx2 anx2 : Option Addr} {slx2 : Array (Option Value)}
    {ocx3 kVx3 dcx3 pmx3 cdx3 ctx3 : Value} {odx3 anx3 : Option Addr} {slx3 : Array (Option Value)}
    {ocx4 kVx4 dcx4 pmx4 cdx4 ctx4 : Value} {odx4 anx4 : Option Addr} {slx4 : Array (Option Value)}
    {ocx5 kVx5 dcx5 pmx5 cdx5 ctx5 : Value} {odx5 anx5 : Option Addr} {slx5 : Array (Option Value)}
    {ocx6 kVx6 dcx6 pmx6 cdx6 ctx6 : Value} {odx6 anx6 : Option Addr} {slx6 : Array (Option Value)}
    {ocx7 kVx7 dcx7 pmx7 cdx7 ctx7 : Value} {odx7 anx7 : Option Addr} {slx7 : Array (Option Value)}
    {ocx8 kVx8 dcx8 pmx8 cdx8 ctx8 : Value} {odx8 anx8 : Option Addr} {slx8 : Array (Option Value)}
    {ocx9 kVx9 dcx9 pmx9 cdx9 ctx9 : Value} {odx9 anx9 : Option Addr} {slx9 : Array (Option Value)}
    {ocx10 kVx10 dcx10 pmx10 cdx10 ctx10 : Value} {odx10 anx10 : Option Addr} {slx10 : Array (Option Value)}
    {ocx11 kVx11 dcx11 pmx11 cdx11 ctx11 : Value} {odx11 anx11 : Option Addr} {slx11 : Array (Option Value)}
    {ocx12 kVx12 dcx12 pmx12 cdx12 ctx12 : Value} {odx12 anx12 : Option Addr} {slx12 : Array (Option Value)}
    {ocx13 kVx13 dcx13 pmx13 cdx13 ctx13 : Value} {odx13 anx13 : Option Addr} {slx13 : Array (Option Value)}
    {ocx14 kVx14 dcx14 pmx14 cdx14 ctx14 : Value} {odx14 anx14 : Option Addr} {slx14 : Array (Option Value)}
    {ocx15 kVx15 dcx15 pmx15 cdx15 ctx15 : Value} {odx15 anx15 : Option Addr} {slx15 : Array (Option Value)}
    {ocx16 kVx16 dcx16 pmx16 cdx16 ctx16 : Value} {odx16 anx16 : Option Addr} {slx16 : Array (Option Value)}
    {ocx17 kVx17 dcx17 pmx17 cdx17 ctx17 : Value} {odx17 anx17 : Option Addr} {slx17 : Array (Option Value)}
    {ocx18 kVx18 dcx18 pmx18 cdx18 ctx18 : Value} {odx18 anx18 : Option Addr} {slx18 : Array (Option Value)}
    {ocx19 kVx19 dcx19 pmx19 cdx19 ctx19 : Value} {odx19 anx19 : Option Addr} {slx19 : Array (Option Value)}
    {ocx20 kVx20 dcx20 pmx20 cdx20 ctx20 : Value} {odx20 anx20 : Option Addr} {slx20 : Array (Option Value)}
    {ocx21 kVx21 dcx21 pmx21 cdx21 ctx21 : Value} {odx21 anx21 : Option Addr} {slx21 : Array (Option Value)}
    {ocx22 kVx22 dcx22 pmx22 cdx22 ctx22 : Value} {odx22 anx22 : Option Addr} {slx22 : Array (Option Value)}
    {ocx23 kVx23 dcx23 pmx23 cdx23 ctx23 : Value} {odx23 anx23 : Option Addr} {slx23 : Array (Option Value)}
    {ocx24 kVx24 dcx24 pmx24 cdx24 ctx24 : Value} {odx24 anx24 : Option Addr} {slx24 : Array (Option Value)}
    {ocx25 kVx25 dcx25 pmx25 cdx25 ctx25 : Value} {odx25 anx25 : Option Addr} {slx25 : Array (Option Value)}
    {ocLW kVLW dcLW pmLW cdLW ctLW : Value} {odLW anLW : Option Addr} {slLW : Array (Option Value)}
    (aC : PySem.W.nsIn K mainGlobals "Row" = some (some (.ref C)))
    (a_MOST_MARKS : PySem.W.nsIn K mainGlobals "MOST_MARKS" = some (some (.int 400 t_MOST_MARKS)))
    (n_int : PySem.W.nsIn K mainGlobals "int" = some none)
    (n_bool : PySem.W.nsIn K mainGlobals "bool" = some none)
    (n_list : PySem.W.nsIn K mainGlobals "list" = some none)
    (n_tuple : PySem.W.nsIn K mainGlobals "tuple" = some none)
    (n_range : PySem.W.nsIn K mainGlobals "range" = some none)
    (n_len : PySem.W.nsIn K mainGlobals "len" = some none)
    (n_abs : PySem.W.nsIn K mainGlobals "abs" = some none)
    (n_all : PySem.W.nsIn K mainGlobals "all" = some none)
    (n_isinstance : PySem.W.nsIn K mainGlobals "isinstance" = some none)
    (n_zip : PySem.W.nsIn K mainGlobals "zip" = some none)
    (n_max : PySem.W.nsIn K mainGlobals "max" = some none)
    (n_min : PySem.W.nsIn K mainGlobals "min" = some none)
    (n_set : PySem.W.nsIn K mainGlobals "set" = some none)
    (n_sorted : PySem.W.nsIn K mainGlobals "sorted" = some none)
    (n_dict : PySem.W.nsIn K mainGlobals "dict" = some none)
    (n_repr : PySem.W.nsIn K mainGlobals "repr" = some none)
    (ax0 : PySem.W.nsIn K mainGlobals "_law_jar" = some (some (.ref fx0)))
    (lx0 : K.lookup fx0 = some ⟨ocx0, odx0, .func (PySem.W.fnOf "_law_jar" "_law_jar" (defArgs sJar) (defBody sJar) (defScope sJar) .none kVx0 dcx0 pmx0 anx0 cdx0 ctx0), slx0⟩)
    (cox0 : PySem.W.codeIn K cdx0 "_law_jar" = true)
    (kx0 : PySem.W.keepIn K (.ref fx0) = true)
    (ax1 : PySem.W.nsIn K mainGlobals "_law_dip" = some (some (.ref fx1)))
    (lx1 : K.lookup fx1 = some ⟨ocx1, odx1, .func (PySem.W.fnOf "_law_dip" "_law_dip" (defArgs sDip) (defBody sDip) (defScope sDip) .none kVx1 dcx1 pmx1 anx1 cdx1 ctx1), slx1⟩)
    (cox1 : PySem.W.codeIn K cdx1 "_law_dip" = true)
    (kx1 : PySem.W.keepIn K (.ref fx1) = true)
    (ax2 : PySem.W.nsIn K mainGlobals "_law_three" = some (some (.ref fx2)))
    (lx2 : K.lookup fx2 = some ⟨ocx2, odx2, .func (PySem.W.fnOf "_law_three" "_law_three" (defArgs sThree) (defBody sThree) (defScope sThree) .none kVx2 dcx2 pmx2 anx2 cdx2 ctx2), slx2⟩)
    (cox2 : PySem.W.codeIn K cdx2 "_law_three" = true)
    (kx2 : PySem.W.keepIn K (.ref fx2) = true)
    (ax3 : PySem.W.nsIn K mainGlobals "_law_small" = some (some (.ref fx3)))
    (lx3 : K.lookup fx3 = some ⟨ocx3, odx3, .func (PySem.W.fnOf "_law_small" "_law_small" (defArgs sSmall) (defBody sSmall) (defScope sSmall) .none kVx3 dcx3 pmx3 anx3 cdx3 ctx3), slx3⟩)
    (cox3 : PySem.W.codeIn K cdx3 "_law_small" = true)
    (kx3 : PySem.W.keepIn K (.ref fx3) = true)
    (ax4 : PySem.W.nsIn K mainGlobals "_law_slow" = some (some (.ref fx4)))
    (lx4 : K.lookup fx4 = some ⟨ocx4, odx4, .func (PySem.W.fnOf "_law_slow" "_law_slow" (defArgs sSlow) (defBody sSlow) (defScope sSlow) .none kVx4 dcx4 pmx4 anx4 cdx4 ctx4), slx4⟩)
    (cox4 : PySem.W.codeIn K cdx4 "_law_slow" = true)
    (kx4 : PySem.W.keepIn K (.ref fx4) = true)
    (ax5 : PySem.W.nsIn K mainGlobals "_law_slow_walk" = some (some (.ref fx5)))
    (lx5 : K.lookup fx5 = some ⟨ocx5, odx5, .func (PySem.W.fnOf "_law_slow_walk" "_law_slow_walk" (defArgs sSW) (defBody sSW) (defScope sSW) .none kVx5 dcx5 pmx5 anx5 cdx5 ctx5), slx5⟩)
    (cox5 : PySem.W.codeIn K cdx5 "_law_slow_walk" = true)
    (kx5 : PySem.W.keepIn K (.ref fx5) = true)
    (ax6 : PySem.W.nsIn K mainGlobals "is_integer" = some (some (.ref fx6)))
    (lx6 : K.lookup fx6 = some ⟨ocx6, odx6, .func (PySem.W.fnOf "is_integer" "is_integer" (defArgs sIsInt) (defBody sIsInt) (defScope sIsInt) .none kVx6 dcx6 pmx6 anx6 cdx6 ctx6), slx6⟩)
    (cox6 : PySem.W.codeIn K cdx6 "is_integer" = true)
    (kx6 : PySem.W.keepIn K (.ref fx6) = true)
    (ax7 : PySem.W.nsIn K mainGlobals "are_places" = some (some (.ref fx7)))
    (lx7 : K.lookup fx7 = some ⟨ocx7, odx7, .func (PySem.W.fnOf "are_places" "are_places" (defArgs sPlaces) (defBody sPlaces) (defScope sPlaces) .none kVx7 dcx7 pmx7 anx7 cdx7 ctx7), slx7⟩)
    (cox7 : PySem.W.codeIn K cdx7 "are_places" = true)
    (kx7 : PySem.W.keepIn K (.ref fx7) = true)
    (ax8 : PySem.W.nsIn K mainGlobals "are_ascending" = some (some (.ref fx8)))
    (lx8 : K.lookup fx8 = some ⟨ocx8, odx8, .func (PySem.W.fnOf "are_ascending" "are_ascending" (defArgs sAsc) (defBody sAsc) (defScope sAsc) .none kVx8 dcx8 pmx8 anx8 cdx8 ctx8), slx8⟩)
    (cox8 : PySem.W.codeIn K cdx8 "are_ascending" = true)
    (kx8 : PySem.W.keepIn K (.ref fx8) = true)
    (apL : PySem.W.findIn K (.ref C) "length" = some (some (.ref pL)))
    (gpL : PySem.W.specialIn K (.ref pL) "__get__" = some (some (.builtin "property.__get__")))
    (tpL : PySem.W.takesIn K (.ref pL) = some true)
    (rpL : PySem.W.recIn K pL "property" = some (.ref fx9 :: restpL))
    (lx9 : K.lookup fx9 = some ⟨ocx9, odx9, .func (PySem.W.fnOf "length" "Row.length" (defArgs sGetL) (defBody sGetL) (defScope sGetL) .none kVx9 dcx9 pmx9 anx9 cdx9 ctx9), slx9⟩)
    (cox9 : PySem.W.codeIn K cdx9 "Row.length" = true)
    (kx9 : PySem.W.keepIn K (.ref fx9) = true)
    (apM : PySem.W.findIn K (.ref C) "marks" = some (some (.ref pM)))
    (gpM : PySem.W.specialIn K (.ref pM) "__get__" = some (some (.builtin "property.__get__")))
    (tpM : PySem.W.takesIn K (.ref pM) = some true)
    (rpM : PySem.W.recIn K pM "property" = some (.ref fx10 :: restpM))
    (lx10 : K.lookup fx10 = some ⟨ocx10, odx10, .func (PySem.W.fnOf "marks" "Row.marks" (defArgs sGetM) (defBody sGetM) (defScope sGetM) .none kVx10 dcx10 pmx10 anx10 cdx10 ctx10), slx10⟩)
    (cox10 : PySem.W.codeIn K cdx10 "Row.marks" = true)
    (kx10 : PySem.W.keepIn K (.ref fx10) = true)
    (apS : PySem.W.findIn K (.ref C) "strict" = some (some (.ref pS)))
    (gpS : PySem.W.specialIn K (.ref pS) "__get__" = some (some (.builtin "property.__get__")))
    (tpS : PySem.W.takesIn K (.ref pS) = some true)
    (rpS : PySem.W.recIn K pS "property" = some (.ref fx11 :: restpS))
    (lx11 : K.lookup fx11 = some ⟨ocx11, odx11, .func (PySem.W.fnOf "strict" "Row.strict" (defArgs sGetS) (defBody sGetS) (defScope sGetS) .none kVx11 dcx11 pmx11 anx11 cdx11 ctx11), slx11⟩)
    (cox11 : PySem.W.codeIn K cdx11 "Row.strict" = true)
    (kx11 : PySem.W.keepIn K (.ref fx11) = true)
    (ax12 : PySem.W.nsIn K mainGlobals "plain_marks" = some (some (.ref fx12)))
    (lx12 : K.lookup fx12 = some ⟨ocx12, odx12, .func (PySem.W.fnOf "plain_marks" "plain_marks" (defArgs sPm) (defBody sPm) (defScope sPm) .none kVx12 dcx12 pmx12 anx12 cdx12 ctx12), slx12⟩)
    (cox12 : PySem.W.codeIn K cdx12 "plain_marks" = true)
    (kx12 : PySem.W.keepIn K (.ref fx12) = true)
    (ax13 : PySem.W.nsIn K mainGlobals "count_before" = some (some (.ref fx13)))
    (lx13 : K.lookup fx13 = some ⟨ocx13, odx13, .func (PySem.W.fnOf "count_before" "count_before" (defArgs sCB) (defBody sCB) (defScope sCB) .none kVx13 dcx13 pmx13 anx13 cdx13 ctx13), slx13⟩)
    (cox13 : PySem.W.codeIn K cdx13 "count_before" = true)
    (kx13 : PySem.W.keepIn K (.ref fx13) = true)
    (ax14 : PySem.W.nsIn K mainGlobals "last_within" = some (some (.ref fx14)))
    (lx14 : K.lookup fx14 = some ⟨ocx14, odx14, .func (PySem.W.fnOf "last_within" "last_within" (defArgs sLw) (defBody sLw) (defScope sLw) .none kVx14 dcx14 pmx14 anx14 cdx14 ctx14), slx14⟩)
    (cox14 : PySem.W.codeIn K cdx14 "last_within" = true)
    (kx14 : PySem.W.keepIn K (.ref fx14) = true)
    (ax15 : PySem.W.nsIn K mainGlobals "low_bounds" = some (some (.ref fx15)))
    (lx15 : K.lookup fx15 = some ⟨ocx15, odx15, .func (PySem.W.fnOf "low_bounds" "low_bounds" (defArgs sLb) (defBody sLb) (defScope sLb) .none kVx15 dcx15 pmx15 anx15 cdx15 ctx15), slx15⟩)
    (cox15 : PySem.W.codeIn K cdx15 "low_bounds" = true)
    (kx15 : PySem.W.keepIn K (.ref fx15) = true)
    (ax16 : PySem.W.nsIn K mainGlobals "top_bounds" = some (some (.ref fx16)))
    (lx16 : K.lookup fx16 = some ⟨ocx16, odx16, .func (PySem.W.fnOf "top_bounds" "top_bounds" (defArgs sTb) (defBody sTb) (defScope sTb) .none kVx16 dcx16 pmx16 anx16 cdx16 ctx16), slx16⟩)
    (cox16 : PySem.W.codeIn K cdx16 "top_bounds" = true)
    (kx16 : PySem.W.keepIn K (.ref fx16) = true)
    (ax17 : PySem.W.nsIn K mainGlobals "some_settings" = some (some (.ref fx17)))
    (lx17 : K.lookup fx17 = some ⟨ocx17, odx17, .func (PySem.W.fnOf "some_settings" "some_settings" (defArgs sSos) (defBody sSos) (defScope sSos) .none kVx17 dcx17 pmx17 anx17 cdx17 ctx17), slx17⟩)
    (cox17 : PySem.W.codeIn K cdx17 "some_settings" = true)
    (kx17 : PySem.W.keepIn K (.ref fx17) = true)
    (ax18 : PySem.W.nsIn K mainGlobals "settings_for" = some (some (.ref fx18)))
    (lx18 : K.lookup fx18 = some ⟨ocx18, odx18, .func (PySem.W.fnOf "settings_for" "settings_for" (defArgs sSf) (defBody sSf) (defScope sSf) .none kVx18 dcx18 pmx18 anx18 cdx18 ctx18), slx18⟩)
    (cox18 : PySem.W.codeIn K cdx18 "settings_for" = true)
    (kx18 : PySem.W.keepIn K (.ref fx18) = true)
    (ax19 : PySem.W.nsIn K mainGlobals "are_marks" = some (some (.ref fx19)))
    (lx19 : K.lookup fx19 = some ⟨ocx19, odx19, .func (PySem.W.fnOf "are_marks" "are_marks" (defArgs sMarks) (defBody sMarks) (defScope sMarks) .none kVx19 dcx19 pmx19 anx19 cdx19 ctx19), slx19⟩)
    (cox19 : PySem.W.codeIn K cdx19 "are_marks" = true)
    (kx19 : PySem.W.keepIn K (.ref fx19) = true)
    (ax20 : PySem.W.nsIn K mainGlobals "are_some_of" = some (some (.ref fx20)))
    (lx20 : K.lookup fx20 = some ⟨ocx20, odx20, .func (PySem.W.fnOf "are_some_of" "are_some_of" (defArgs sSome) (defBody sSome) (defScope sSome) .none kVx20 dcx20 pmx20 anx20 cdx20 ctx20), slx20⟩)
    (cox20 : PySem.W.codeIn K cdx20 "are_some_of" = true)
    (kx20 : PySem.W.keepIn K (.ref fx20) = true)
    (ax21 : PySem.W.findIn K (.ref C) "__init__" = some (some (.ref fx21)))
    (ix21 : PySem.W.isFn K (.ref fx21) = true)
    (lx21 : K.lookup fx21 = some ⟨ocx21, odx21, .func (PySem.W.fnOf "__init__" "Row.__init__" (defArgs sInit) (defBody sInit) (defScope sInit) .none kVx21 dcx21 pmx21 anx21 cdx21 ctx21), slx21⟩)
    (cox21 : PySem.W.codeIn K cdx21 "Row.__init__" = true)
    (kx21 : PySem.W.keepIn K (.ref fx21) = true)
    (ax22 : PySem.W.nsIn K mainGlobals "_law_heap" = some (some (.ref fx22)))
    (lx22 : K.lookup fx22 = some ⟨ocx22, odx22, .func (PySem.W.fnOf "_law_heap" "_law_heap" (defArgs sHeap) (defBody sHeap) (defScope sHeap) .none kVx22 dcx22 pmx22 anx22 cdx22 ctx22), slx22⟩)
    (cox22 : PySem.W.codeIn K cdx22 "_law_heap" = true)
    (kx22 : PySem.W.keepIn K (.ref fx22) = true)
    (ax23 : PySem.W.nsIn K mainGlobals "_law_bounds" = some (some (.ref fx23)))
    (lx23 : K.lookup fx23 = some ⟨ocx23, odx23, .func (PySem.W.fnOf "_law_bounds" "_law_bounds" (defArgs sBd) (defBody sBd) (defScope sBd) .none kVx23 dcx23 pmx23 anx23 cdx23 ctx23), slx23⟩)
    (cox23 : PySem.W.codeIn K cdx23 "_law_bounds" = true)
    (kx23 : PySem.W.keepIn K (.ref fx23) = true)
    (ax24 : PySem.W.nsIn K mainGlobals "_law_within" = some (some (.ref fx24)))
    (lx24 : K.lookup fx24 = some ⟨ocx24, odx24, .func (PySem.W.fnOf "_law_within" "_law_within" (defArgs sWin) (defBody sWin) (defScope sWin) .none kVx24 dcx24 pmx24 anx24 cdx24 ctx24), slx24⟩)
    (cox24 : PySem.W.codeIn K cdx24 "_law_within" = true)
    (kx24 : PySem.W.keepIn K (.ref fx24) = true)
    (ax25 : PySem.W.nsIn K mainGlobals "_law_right" = some (some (.ref fx25)))
    (lx25 : K.lookup fx25 = some ⟨ocx25, odx25, .func (PySem.W.fnOf "_law_right" "_law_right" (defArgs sRt) (defBody sRt) (defScope sRt) .none kVx25 dcx25 pmx25 anx25 cdx25 ctx25), slx25⟩)
    (cox25 : PySem.W.codeIn K cdx25 "_law_right" = true)
    (kx25 : PySem.W.keepIn K (.ref fx25) = true)
    (aLW : PySem.W.nsIn K mainGlobals "law" = some (some (.ref fLW)))
    (lLW : K.lookup fLW = some ⟨ocLW, odLW, .func (PySem.W.fnOf "law" "law" (defArgs sL) (defBody sL) (defScope sL) .none kVLW dcLW pmLW anLW cdLW ctLW), slLW⟩)
    (coLW : PySem.W.codeIn K cdLW "law" = true)
    (kLW : PySem.W.keepIn K (.ref fLW) = true)
    (pg : PySem.W.plainGet K C Str.empty = true)
    (hd : PySem.W.hasDictIn K C = true)
    (po : PySem.W.plainOver K C = true)
    (sa : PySem.W.findIn K (.ref C) "__setattr__" = some (some (.builtin "object.__setattr__")))
    (mk : PySem.W.makesIn K C = true)
    (kc : PySem.W.keepIn K (.ref C) = true)
    (nL : PySem.W.findIn K (.ref C) "_length" = some none)
    (nM : PySem.W.findIn K (.ref C) "_marks" = some none)
    (nS : PySem.W.findIn K (.ref C) "_strict" = some none)
    (kt : PySem.W.kitOne K (.ref C) (.ref C) = some true)
    : ∃ fd : FuncData, (∀ (s : Shared) (v : Value), BindsTo s fd ⟨[v], []⟩ [("script", v)]) ∧ ∀ base : Heap, K.In base → base.Ns mainGlobals mg → FnG l.prog w K mg base 9 fa fd ["script"] (spLaw K) := by
  have e := hfa.symm.trans (PySem.W.mg_of X G aLW)
  cases e
  have T : Bl mg := ⟨PySem.W.mg_none_of X G n_int, PySem.W.mg_none_of X G n_bool, PySem.W.mg_none_of X G n_list, PySem.W.mg_none_of X G n_tuple, PySem.W.mg_none_of X G n_range, PySem.W.mg_none_of X G n_len, PySem.W.mg_none_of X G n_abs, PySem.W.mg_none_of X G n_all, PySem.W.mg_none_of X G n_isinstance, PySem.W.mg_none_of X G n_zip, PySem.W.mg_none_of X G n_max, PySem.W.mg_none_of X G n_min, PySem.W.mg_none_of X G n_set, PySem.W.mg_none_of X G n_sorted, PySem.W.mg_none_of X G n_dict⟩
  have R : Cl K mg C := ⟨⟨pg, hd, po, sa⟩, nL, nM, nS, PySem.W.mg_of X G aC, kt⟩
  have M : Mk K C fx21 := ⟨mk, ax21, ix21, kc⟩
  have Fx0 := fun_mk (st := sJar) lx0 cox0 kx0
  have bx0 := Fx0.binds (ps := ["script", "k"]) fun _ _ _ _ _ _ us hl => match us, hl with | [_, _], _ => rfl
  have gx0 := PySem.W.mg_of X G ax0
  have Fx1 := fun_mk (st := sDip) lx1 cox1 kx1
  have bx1 := Fx1.binds (ps := ["jar", "many"]) fun _ _ _ _ _ _ us hl => match us, hl with | [_, _], _ => rfl
  have gx1 := PySem.W.mg_of X G ax1
  have Fx2 := fun_mk (st := sThree) lx2 cox2 kx2
  have bx2 := Fx2.binds (ps := ["jar", "wide"]) fun _ _ _ _ _ _ us hl => match us, hl with | [_, _], _ => rfl
  have gx2 := PySem.W.mg_of X G ax2
  have Fx3 := fun_mk (st := sSmall) lx3 cox3 kx3
  have bx3 := Fx3.binds (ps := ["jar", "most"]) fun _ _ _ _ _ _ us hl => match us, hl with | [_, _], _ => rfl
  have gx3 := PySem.W.mg_of X G ax3
  have Fx4 := fun_mk (st := sSlow) lx4 cox4 kx4
  have bx4 := Fx4.binds (ps := ["raw", "spot"]) fun _ _ _ _ _ _ us hl => match us, hl with | [_, _], _ => rfl
  have gx4 := PySem.W.mg_of X G ax4
  have Fx5 := fun_mk (st := sSW) lx5 cox5 kx5
  have bx5 := Fx5.binds (ps := ["raw", "begin"]) fun _ _ _ _ _ _ us hl => match us, hl with | [_, _], _ => rfl
  have gx5 := PySem.W.mg_of X G ax5
  have Fx6 := fun_mk (st := sIsInt) lx6 cox6 kx6
  have bx6 := Fx6.binds (ps := ["thing"]) fun _ _ _ _ _ _ us hl => match us, hl with | [_], _ => rfl
  have gx6 := PySem.W.mg_of X G ax6
  have Fx7 := fun_mk (st := sPlaces) lx7 cox7 kx7
  have bx7 := Fx7.binds (ps := ["thing", "low", "high"]) fun _ _ _ _ _ _ us hl => match us, hl with | [_, _, _], _ => rfl
  have gx7 := PySem.W.mg_of X G ax7
  have Fx8 := fun_mk (st := sAsc) lx8 cox8 kx8
  have bx8 := Fx8.binds (ps := ["thing", "low", "high"]) fun _ _ _ _ _ _ us hl => match us, hl with | [_, _, _], _ => rfl
  have gx8 := PySem.W.mg_of X G ax8
  have Fx9 := fun_mk (st := sGetL) lx9 cox9 kx9
  have bx9 := Fx9.binds (ps := ["self"]) fun _ _ _ _ _ _ us hl => match us, hl with | [_], _ => rfl
  have Fx10 := fun_mk (st := sGetM) lx10 cox10 kx10
  have bx10 := Fx10.binds (ps := ["self"]) fun _ _ _ _ _ _ us hl => match us, hl with | [_], _ => rfl
  have Fx11 := fun_mk (st := sGetS) lx11 cox11 kx11
  have bx11 := Fx11.binds (ps := ["self"]) fun _ _ _ _ _ _ us hl => match us, hl with | [_], _ => rfl
  have Fx12 := fun_mk (st := sPm) lx12 cox12 kx12
  have bx12 := Fx12.binds (ps := ["row"]) fun _ _ _ _ _ _ us hl => match us, hl with | [_], _ => rfl
  have gx12 := PySem.W.mg_of X G ax12
  have Fx13 := fun_mk (st := sCB) lx13 cox13 kx13
  have bx13 := Fx13.binds (ps := ["places", "place"]) fun _ _ _ _ _ _ us hl => match us, hl with | [_, _], _ => rfl
  have gx13 := PySem.W.mg_of X G ax13
  have Fx14 := fun_mk (st := sLw) lx14 cox14 kx14
  have bx14 := Fx14.binds (ps := ["marks", "begin", "end"]) fun _ _ _ _ _ _ us hl => match us, hl with | [_, _, _], _ => rfl
  have gx14 := PySem.W.mg_of X G ax14
  have Fx15 := fun_mk (st := sLb) lx15 cox15 kx15
  have bx15 := Fx15.binds (ps := ["row", "cuts"]) fun _ _ _ _ _ _ us hl => match us, hl with | [_, _], _ => rfl
  have gx15 := PySem.W.mg_of X G ax15
  have Fx16 := fun_mk (st := sTb) lx16 cox16 kx16
  have bx16 := Fx16.binds (ps := ["row", "cuts"]) fun _ _ _ _ _ _ us hl => match us, hl with | [_, _], _ => rfl
  have gx16 := PySem.W.mg_of X G ax16
  have Fx17 := fun_mk (st := sSos) lx17 cox17 kx17
  have bx17 := Fx17.binds (ps := ["lows", "tops"]) fun _ _ _ _ _ _ us hl => match us, hl with | [_, _], _ => rfl
  have gx17 := PySem.W.mg_of X G ax17
  have Fx18 := fun_mk (st := sSf) lx18 cox18 kx18
  have bx18 := Fx18.binds (ps := ["row", "cuts"]) fun _ _ _ _ _ _ us hl => match us, hl with | [_, _], _ => rfl
  have gx18 := PySem.W.mg_of X G ax18
  have Fx19 := fun_mk (st := sMarks) lx19 cox19 kx19
  have bx19 := Fx19.binds (ps := ["thing", "high"]) fun _ _ _ _ _ _ us hl => match us, hl with | [_, _], _ => rfl
  have gx19 := PySem.W.mg_of X G ax19
  have Fx20 := fun_mk (st := sSome) lx20 cox20 kx20
  have bx20 := Fx20.binds (ps := ["thing", "marks"]) fun _ _ _ _ _ _ us hl => match us, hl with | [_, _], _ => rfl
  have gx20 := PySem.W.mg_of X G ax20
  have Fx21 := fun_mk (st := sInit) lx21 cox21 kx21
  have bx21 := Fx21.binds (ps := ["self", "length", "marks", "strict"]) fun _ _ _ _ _ _ us hl => match us, hl with | [_, _, _, _], _ => rfl
  have Fx22 := fun_mk (st := sHeap) lx22 cox22 kx22
  have bx22 := Fx22.binds (ps := ["raw"]) fun _ _ _ _ _ _ us hl => match us, hl with | [_], _ => rfl
  have gx22 := PySem.W.mg_of X G ax22
  have Fx23 := fun_mk (st := sBd) lx23 cox23 kx23
  have bx23 := Fx23.binds (ps := ["raw", "cuts_here"]) fun _ _ _ _ _ _ us hl => match us, hl with | [_, _], _ => rfl
  have gx23 := PySem.W.mg_of X G ax23
  have Fx24 := fun_mk (st := sWin) lx24 cox24 kx24
  have bx24 := Fx24.binds (ps := ["bounds_here", "three"]) fun _ _ _ _ _ _ us hl => match us, hl with | [_, _], _ => rfl
  have gx24 := PySem.W.mg_of X G ax24
  have Fx25 := fun_mk (st := sRt) lx25 cox25 kx25
  have bx25 := Fx25.binds (ps := ["raw", "cuts_here"]) fun _ _ _ _ _ _ us hl => match us, hl with | [_, _], _ => rfl
  have gx25 := PySem.W.mg_of X G ax25
  have FLW := fun_mk (st := sL) lLW coLW kLW
  have gLW := PySem.W.mg_of X G aLW
  refine ⟨PySem.W.fnOf "law" "law" (defArgs sL) (defBody sL) (defScope sL) .none kVLW dcLW pmLW anLW cdLW ctLW, fun s v => .of_eq rfl, fun base _ _ => ?_⟩
  have Gx0 := ok_jar (P := l.prog) (w := w) (K := K) (mg := mg) (base := base) Fx0 T
  have Gx1 := ok_dip (P := l.prog) (w := w) (K := K) (mg := mg) (base := base) Fx1 T
  have Gx2 := ok_three (P := l.prog) (w := w) (K := K) (mg := mg) (base := base) Fx2 gx1 kx1 bx1 Gx1
  have Gx3 := ok_small (P := l.prog) (w := w) (K := K) (mg := mg) (base := base) Fx3 T gx1 kx1 bx1 Gx1 gx2 kx2 bx2 Gx2
  have Gx4 := ok_slow (P := l.prog) (w := w) (K := K) (mg := mg) (base := base) Fx4 T
  have Gx5 := ok_sw (P := l.prog) (w := w) (K := K) (mg := mg) (base := base) Fx5 gx4 kx4 bx4 Gx4
  have Gx6 := ok_int (P := l.prog) (w := w) (K := K) (mg := mg) (base := base) Fx6 T
  have Gx7 := ok_places (P := l.prog) (w := w) (K := K) (mg := mg) (base := base) Fx7 T gx6 kx6 bx6 Gx6
  have Gx8 := ok_asc (P := l.prog) (w := w) (K := K) (mg := mg) (base := base) Fx8 T gx7 kx7 bx7 Gx7
  have Gx9 := ok_getL (P := l.prog) (w := w) (K := K) (mg := mg) (base := base) Fx9 R
  have Gx10 := ok_getM (P := l.prog) (w := w) (K := K) (mg := mg) (base := base) Fx10 T R
  have Gx11 := ok_getS (P := l.prog) (w := w) (K := K) (mg := mg) (base := base) Fx11 T R
  have Gs : Gets l.prog w K mg base C pL fx9 pM fx10 pS fx11 _ _ _ := ⟨⟨apL, gpL, tpL, ⟨restpL, rpL⟩⟩, bx9, Gx9, ⟨apM, gpM, tpM, ⟨restpM, rpM⟩⟩, bx10, Gx10, ⟨apS, gpS, tpS, ⟨restpS, rpS⟩⟩, bx11, Gx11⟩
  have Gx12 := ok_pm (P := l.prog) (w := w) (K := K) (mg := mg) (base := base) Fx12 T R Gs
  have Gx13 := ok_cb (P := l.prog) (w := w) (K := K) (mg := mg) (base := base) Fx13 T
  have Gx14 := ok_lw (P := l.prog) (w := w) (K := K) (mg := mg) (base := base) Fx14 T gx13 kx13 bx13 Gx13
  have Gx15 := ok_lb (P := l.prog) (w := w) (K := K) (mg := mg) (base := base) Fx15 T R Gs gx12 kx12 bx12 Gx12 gx14 kx14 bx14 Gx14
  have Gx16 := ok_tb (P := l.prog) (w := w) (K := K) (mg := mg) (base := base) Fx16 T R Gs
  have Gx17 := ok_sos (P := l.prog) (w := w) (K := K) (mg := mg) (base := base) Fx17 T
  have Gx18 := ok_sf (P := l.prog) (w := w) (K := K) (mg := mg) (base := base) Fx18 T R Gs gx8 kx8 bx8 Gx8 gx15 kx15 bx15 Gx15 gx16 kx16 bx16 Gx16 gx17 kx17 bx17 Gx17
  have Gx19 := ok_marks (P := l.prog) (w := w) (K := K) (mg := mg) (base := base) Fx19 T (PySem.W.mg_of X G a_MOST_MARKS) gx8 kx8 bx8 Gx8
  have Gx20 := ok_some (P := l.prog) (w := w) (K := K) (mg := mg) (base := base) Fx20 T gx8 kx8 bx8 Gx8
  have Gx21 := ok_init (P := l.prog) (w := w) (K := K) (mg := mg) (base := base) Fx21 T R gx6 kx6 bx6 Gx6 gx19 kx19 bx19 Gx19 gx20 kx20 bx20 Gx20
  have Gx22 := ok_heap (P := l.prog) (w := w) (K := K) (mg := mg) (base := base) Fx22 R M bx21 Gx21
  have Gx23 := ok_bd (P := l.prog) (w := w) (K := K) (mg := mg) (base := base) Fx23 T
  have Gx24 := ok_wi (P := l.prog) (w := w) (K := K) (mg := mg) (base := base) Fx24 T
  have Gx25 := ok_ri (P := l.prog) (w := w) (K := K) (mg := mg) (base := base) Fx25 T (PySem.W.mg_none_of X G n_repr) gx18 kx18 bx18 Gx18 gx22 kx22 bx22 Gx22 gx23 kx23 bx23 Gx23 gx24 kx24 bx24 Gx24 gx5 kx5 bx5 Gx5
  exact ok_law (P := l.prog) (w := w) (K := K) (mg := mg) (base := base) FLW T R M bx21 Gx21 gx0 kx0 bx0 Gx0 gx3 kx3 bx3 Gx3 gx5 kx5 bx5 Gx5 gx1 kx1 bx1 Gx1 gx25 kx25 bx25 Gx25 gx18 kx18 bx18 (kb_x18_gR2 Fx18) Gx18
theorem walk_here {l : PySem.W.OpenLaw} {q : Program} {loose : List Str} {XP : (Str → Option Value) → Heap → Prop} {YP : World → Heap → Prop} {d : DefRec} {K : Params → PySem.W.Frag} (hn : l.most = some 63) (hdf : d.params.defaults = [])
    (hY : ∀ (w : World) (h : Heap), YP w h → (K w.params).In h)
    (F : ∀ (w : World) (mg : Str → Option Value) (fa : Addr) (h : Heap), (K w.params).In h → h.Ns mainGlobals mg → mg d.name = some (.ref fa) →
      ∃ fd : FuncData, (∀ (s : Shared) (u : Value), BindsTo s fd ⟨[u], []⟩ [("script", u)]) ∧ ∀ base : Heap, (K w.params).In base → base.Ns mainGlobals mg → FnG l.prog w (K w.params) mg base 9 fa fd ["script"] (spLaw (K w.params))) :
    PySem.W.WalkO q loose XP YP l.row.toRowW d [] (fun f vs => PySem.call f vs) :=
  walkG (n := 63) (k := 9) (x := "script") (sp := fun w => spLaw (K w.params)) hn (by decide) hdf ⟨rfl, by decide, by decide⟩ hY F fun _ _ a ns hl _ hS => ⟨a, ns, rfl, hS, hl, fun _ => rfl⟩
end Cw
open PySem PySem.W PyProof.Rows
set_option maxRecDepth 100000 in
set_option maxHeartbeats 0 in
theorem PySem.Challenge.cw_cutwalks_k11_settings_by_trying_holds : PySem.Challenge.rw_cutwalks_k11_settings_by_trying.Holds := by
  w_on; o_law; k_head; (case hw => w_witness2)
  k_fill
  refine Cw.walk_here (l := PySem.Challenge.rw_cutwalks_k11_settings_by_trying) rfl rfl (fun w h Y => PySem.W.kIn_of Y) ?F
  case F =>
    intro w mg fa h KX G hmg
    refine' Cw.all_mk KX G hmg ?aC ?a_MOST_MARKS ?n_int ?n_bool ?n_list ?n_tuple ?n_range ?n_len ?n_abs ?n_all ?n_isinstance ?n_zip ?n_max ?n_min ?n_set ?n_sorted ?n_dict ?n_repr ?ax0 ?lx0 ?cox0 ?kx0 ?ax1 ?lx1 ?cox1 ?kx1 ?ax2 ?lx2 ?cox2 ?kx2 ?ax3 ?lx3 ?cox3 ?kx3 ?ax4 ?lx4 ?cox4 ?kx4 ?ax5 ?lx5 ?cox5 ?kx5 ?ax6 ?lx6 ?cox6 ?kx6 ?ax7 ?lx7 ?cox7 ?kx7 ?ax8 ?lx8 ?cox8 ?kx8 ?apL ?gpL ?tpL ?rpL ?lx9 ?cox9 ?kx9 ?apM ?gpM ?tpM ?rpM ?lx10 ?cox10 ?kx10 ?apS ?gpS ?tpS ?rpS ?lx11 ?cox11 ?kx11 ?ax12 ?lx12 ?cox12 ?kx12 ?ax13 ?lx13 ?cox13 ?kx13 ?ax14 ?lx14 ?cox14 ?kx14 ?ax15 ?lx15 ?cox15 ?kx15 ?ax16 ?lx16 ?cox16 ?kx16 ?ax17 ?lx17 ?cox17 ?kx17 ?ax18 ?lx18 ?cox18 ?kx18 ?ax19 ?lx19 ?cox19 ?kx19 ?ax20 ?lx20 ?cox20 ?kx20 ?ax21 ?ix21 ?lx21 ?cox21 ?kx21 ?ax22 ?lx22 ?cox22 ?kx22 ?ax23 ?lx23 ?cox23 ?kx23 ?ax24 ?lx24 ?cox24 ?kx24 ?ax25 ?lx25 ?cox25 ?kx25 ?aLW ?lLW ?coLW ?kLW ?pg ?hd ?po ?sa ?mk ?kc ?nL ?nM ?nS ?kt
    (case aC => k_is)
    (case a_MOST_MARKS => k_is)
    (case n_int => k_is)
    (case n_bool => k_is)
    (case n_list => k_is)
    (case n_tuple => k_is)
    (case n_range => k_is)
    (case n_len => k_is)
    (case n_abs => k_is)
    (case n_all => k_is)
    (case n_isinstance => k_is)
    (case n_zip => k_is)
    (case n_max => k_is)
    (case n_min => k_is)
    (case n_set => k_is)
    (case n_sorted => k_is)
    (case n_dict => k_is)
    (case n_repr => k_is)
    (case ax0 => k_is)
    (case lx0 => k_is)
    (case cox0 => k_is)
    (case kx0 => k_is)
    (case ax1 => k_is)
    (case lx1 => k_is)
    (case cox1 => k_is)
    (case kx1 => k_is)
    (case ax2 => k_is)
    (case lx2 => k_is)
    (case cox2 => k_is)
    (case kx2 => k_is)
    (case ax3 => k_is)
    (case lx3 => k_is)
    (case cox3 => k_is)
    (case kx3 => k_is)
    (case ax4 => k_is)
    (case lx4 => k_is)
    (case cox4 => k_is)
    (case kx4 => k_is)
    (case ax5 => k_is)
    (case lx5 => k_is)
    (case cox5 => k_is)
    (case kx5 => k_is)
    (case ax6 => k_is)
    (case lx6 => k_is)
    (case cox6 => k_is)
    (case kx6 => k_is)
    (case ax7 => k_is)
    (case lx7 => k_is)
    (case cox7 => k_is)
    (case kx7 => k_is)
    (case ax8 => k_is)
    (case lx8 => k_is)
    (case cox8 => k_is)
    (case kx8 => k_is)
    (case apL => k_is)
    (case gpL => first | k_is | kernel_rfl)
    (case tpL => first | k_is | kernel_rfl)
    (case rpL => k_is)
    (case lx9 => k_is)
    (case cox9 => k_is)
    (case kx9 => k_is)
    (case apM => k_is)
    (case gpM => first | k_is | kernel_rfl)
    (case tpM => first | k_is | kernel_rfl)
    (case rpM => k_is)
    (case lx10 => k_is)
    (case cox10 => k_is)
    (case kx10 => k_is)
    (case apS => k_is)
    (case gpS => first | k_is | kernel_rfl)
    (case tpS => first | k_is | kernel_rfl)
    (case rpS => k_is)
    (case lx11 => k_is)
    (case cox11 => k_is)
    (case kx11 => k_is)
    (case ax12 => k_is)
    (case lx12 => k_is)
    (case cox12 => k_is)
    (case kx12 => k_is)
    (case ax13 => k_is)
    (case lx13 => k_is)
    (case cox13 => k_is)
    (case kx13 => k_is)
    (case ax14 => k_is)
    (case lx14 => k_is)
    (case cox14 => k_is)
    (case kx14 => k_is)
    (case ax15 => k_is)
    (case lx15 => k_is)
    (case cox15 => k_is)
    (case kx15 => k_is)
    (case ax16 => k_is)
    (case lx16 => k_is)
    (case cox16 => k_is)
    (case kx16 => k_is)
    (case ax17 => k_is)
    (case lx17 => k_is)
    (case cox17 => k_is)
    (case kx17 => k_is)
    (case ax18 => k_is)
    (case lx18 => k_is)
    (case cox18 => k_is)
    (case kx18 => k_is)
    (case ax19 => k_is)
    (case lx19 => k_is)
    (case cox19 => k_is)
    (case kx19 => k_is)
    (case ax20 => k_is)
    (case lx20 => k_is)
    (case cox20 => k_is)
    (case kx20 => k_is)
    (case ax21 => k_is)
    (case ix21 => k_is)
    (case lx21 => k_is)
    (case cox21 => k_is)
    (case kx21 => k_is)
    (case ax22 => k_is)
    (case lx22 => k_is)
    (case cox22 => k_is)
    (case kx22 => k_is)
    (case ax23 => k_is)
    (case lx23 => k_is)
    (case cox23 => k_is)
    (case kx23 => k_is)
    (case ax24 => k_is)
    (case lx24 => k_is)
    (case cox24 => k_is)
    (case kx24 => k_is)
    (case ax25 => k_is)
    (case lx25 => k_is)
    (case cox25 => k_is)
    (case kx25 => k_is)
    (case aLW => k_is)
    (case lLW => k_is)
    (case coLW => k_is)
    (case kLW => k_is)
    (case pg => k_is)
    (case hd => k_is)
    (case po => k_is)
    (case sa => k_is)
    (case mk => k_is)
    (case kc => k_is)
    (case nL => k_is)
    (case nM => k_is)
    (case nS => k_is)
    (case kt => first | k_is | kernel_rfl)
#print axioms PySem.Challenge.cw_cutwalks_k11_settings_by_trying_holds
