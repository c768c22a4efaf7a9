import PyProof.Rows.All
import Wide.All
import OpenK.AllK
import Wide.FinOn
import HandS.ForMost
import HandS.Strs
import HandS.SetFor
import HandS.SortKw
import KE.DataMinMax
import HandS.OwnEq
import PyProof.InstNe
import HandS.IsInst
import HandS.Walk
import HandS.Exc
import PySem.Challenge.RW_cutwalks_k28_whole_marks_that_help
import HandS.Property
import HandS.WideBits
import HandS.Flt
import PyProof.MaxThree
import PyProof.SeqI3
import HandS.Style
import HandS.Words
import PyProof.ReprRoads
import HandS.Deep
import HandS.RaiseMore
import HandS.Flow
import HandS.Lambda
import HandS.Conv
import HandS.TupSets
import HandS.SortInts
import HandS.EndTab
set_option Elab.async false
set_option maxRecDepth 100000
set_option maxHeartbeats 8000000
namespace Cw
open PySem PySem.Spec PyProof.Rows L2
/-! ## set(xs) of a list of nts -/
section
variable {P : Program} {w : World} {A : Around} {E : Value → Shared → Prop} {s : Shared}
abbrev newS (w : World) : Obj := { cls := .type "set", dict := none, data := .set #[] 0 (.fresh 0 0 (!w.params.followText "set-order")) }
theorem set_list {l : Addr} {its : Array Value} (ns : List Int) {Q : Value → Shared → Prop} (hand : A.handled = none) (isl : s.heap.IsList l its) (nts : IntsAre its.toList ns) (room : ns.length + 1 < scanBound)
    (q : ∀ (g' : Heap) (tk c : Nat), SetR w g' s.heap.objs.size (fun j => decide (j ∈ ns)) c → c ≤ ns.length → (∀ b o, s.heap.get? b = some o → g'.get? b = some o) → Q (.ref s.heap.objs.size) { s with heap := g', toks := tk }) :
    wpAny (model P w) A (call (.type "set") [.ref l]) Q E s := by
  have len : its.size = ns.length := by rw [← IntsAre.length nts, Array.length_toList]
  obtain ⟨c, tl, hmro⟩ := F.called_set.mro; have hmade := F.called_set.made; have hsub := F.called_set.sub
  refine wpAny_call (codeAny_of_tree ?_); show wpAny _ _ (callAny (.type "set") _) _ _ _
  refine wpAny_pure ⟨Code.quiet_builtin _ (by decide +kernel), codeAny_builtin F.entry_type_call ?_⟩; rw [Around.under_plain (weight_type_call_type "set" [.ref l] []) rfl]
  have h1 := F.called_set.notType; have h2 := F.called_set.canCreate; have hct := F.typeCall_set_1 (.ref l)
  repeat (any_goals (first | assumption | wp_step))
  refine codeAny_mono (code_set_led1 (.ref l) (E := E) (Q₁ := fun ob t₁ => ob = .ref s.heap.objs.size ∧ t₁ = { s with heap := s.heap.push (newS w) }) ⟨rfl, rfl⟩) fun r t₁ hr => ?_
  cases r with
  | error e => exact hr
  | ok fl =>
    cases fl with
    | ret ob =>
      obtain ⟨rfl, rfl⟩ := hr
      have at0 : (s.heap.push (newS w)).get? s.heap.objs.size = some (newS w) := Heap.get?_push_size _ rfl
      have ty0 : Shared.TypeIs { s with heap := s.heap.push (newS w) } (.ref s.heap.objs.size) "set" := ⟨_, at0, rfl⟩
      have hli := F.called_set.init.lookup; have hbi := F.called_set.init.bind (.ref s.heap.objs.size)
      repeat (any_goals (first | assumption | wp_step))
      refine codeAny_mono (codeAny_call_builtin (R := wants (fun r t₂ => r = .none ∧ ∃ g' tk c, t₂ = { s with heap := g', toks := tk } ∧ SetR w g' s.heap.objs.size (fun j => decide (j ∈ ns)) c ∧ c ≤ ns.length ∧ (∀ b o, s.heap.get? b = some o → g'.get? b = some o)) E)
        F.called_set.init.plain F.entry_set_init (check_set_init_1 ty0 ?_)) fun r₂ t₂ hr₂ => ?_
      · obtain ⟨ol, lo, lc, nl, ld⟩ := isl
        obtain ⟨oc, odi, oda, osl⟩ := ol
        simp only at lc ld; subst lc; subst ld
        have lo' : (s.heap.push (newS w)).get? l = some { cls := .type "list", dict := odi, data := .seq its nl, slots := osl } := Heap.get?_push_of_some _ lo
        have u1 := F.sub_list_set; have u2 := F.sub_list_frozenset
        have u3 : (Value.type "list" == Value.type "dict") = false := by decide
        have il : (s.heap.push (newS w)).IsList l its := ⟨_, lo', rfl, nl, rfl⟩
        unfold Builtin.«set.__init__» noKeywords Builtin.Frozenset.updateFrom
        generalize hPI : pyIter = PI; wp_walk; subst hPI
        refine wpAny_pyIter_list il ?_; refine wpAny_bind (wpAny_runValue ?_)
        have lt : l < s.heap.objs.size := Heap.lt_size lo
        have hand3 : A.in1.in1.in1.handled = none := by simp [hand]
        have ne1 : l ≠ (s.heap.push (newS w)).objs.size := by rw [Heap.size_push]; exact Nat.ne_of_lt (Nat.lt_succ_of_lt lt)
        have nin : s.heap.objs.size ∉ [(s.heap.push (newS w)).objs.size, l] := by
          rw [Heap.size_push]
          simp only [List.mem_cons, List.mem_singleton, List.not_mem_nil, or_false, not_or]
          exact ⟨Nat.ne_of_lt (Nat.lt_succ_self _), Nat.ne_of_gt lt⟩
        have val : ∀ (i : Nat) (v : Value), its[i]? = some v → ∃ k t, ns[i]? = some k ∧ v = .int k t := fun i v hv => by
          have hi : i < ns.length := by rw [← len]; exact (Array.getElem?_eq_some_iff.mp hv).1
          obtain ⟨t, e⟩ := PyProof.Rows.IntsAre.int_at nts i v (by rw [Array.getElem?_toList]; exact hv)
          exact ⟨ns[i], t, List.getElem?_eq_getElem hi, by rw [e, List.getD_eq_getElem?_getD, List.getElem?_eq_getElem hi] <;> rfl⟩
        refine set_update_ints ((Walks.list hand3 _ l ne1 its).toS) s.heap.objs.size nin ns len room val (its.size - 0) 0 _ (by omega) (Nat.zero_le _) ⟨⟨_, Heap.get?_push_size _ rfl, rfl, rfl⟩, (il.push _)⟩ ?z0 ?zR
        case z0 => exact ⟨0, Nat.le_refl 0, setR_new_at (Heap.get?_push_of_some _ at0)⟩
        case zR =>
          intro t' c' hm hc' hS'
          obtain ⟨g', g2, d', tk', os'⟩ := t'
          have eg : g2 = s.gens := hm.gens; have ed : d' = s.drawn := hm.drawn; have eo : os' = s.os := hm.os
          subst eg; subst ed; subst eo
          show wpAny _ _ _ _ _ _
          refine wpAny_pure ?_; show wpAny _ _ (ret Value.none) _ _ _
          rw [len] at hc'
          refine wpAny_pure ⟨rfl, g', tk', c', rfl, hS', hc', fun b o e => ?_⟩
          have b0 : b < s.heap.objs.size := Heap.lt_size e
          have b2 : b ≠ (s.heap.push (newS w)).objs.size := by rw [Heap.size_push]; exact Nat.ne_of_lt (Nat.lt_succ_of_lt b0)
          exact hm.heap b o (by simp only [List.mem_cons, List.mem_singleton, List.not_mem_nil, or_false, not_or]; exact ⟨Nat.ne_of_lt b0, b2⟩) (Heap.get?_push_of_some _ (Heap.get?_push_of_some _ e))
      · cases r₂ with
        | error e => exact hr₂
        | ok fl₂ =>
          cases fl₂ with
          | ret r =>
            obtain ⟨rfl, g', tk, c', rfl, hS', hc', hk'⟩ := hr₂
            repeat (any_goals (first | assumption | wp_step))
            exact q _ _ _ hS' hc' hk'
          | _ => exact hr₂.elim
    | _ => exact hr.elim
end
section
variable {P : Program} {w : World} {A : Around} {E : Value → Shared → Prop} {s : Shared}
theorem entry_sub : entryFor table "set.__sub__" = some Builtin.«frozenset.__sub__» := entryFor_alias (id' := "frozenset.__sub__") (by kernel_rfl) rfl (by decide +kernel) (by kernel_rfl)
theorem sub_form (a b : Value) : Builtin.«frozenset.__sub__» ⟨[a, b], []⟩ = (do
    let p ← Builtin.Frozenset.slot1 "__sub__" ⟨[a, b], []⟩
    if !(← (Builtin.Frozenset.isAnySet p.1 <&&> Builtin.Frozenset.isAnySet p.2)) then
      rule "frozenset.__sub__.declined"
      ret .notImplemented
    else ret (← Builtin.Frozenset.difference "frozenset.__sub__" (← Builtin.Frozenset.addrOf p.1) p.2)) := by
  rfl
variable {a b : Addr} {S T : Int → Bool} {n m : Nat}
theorem isSet_at {s : Shared} {Q : Bool → Shared → Prop} {a : Addr} (ty : s.TypeIs (.ref a) "set") (q : Q true s) : wpAny (model P w) A (Builtin.Frozenset.isAnySet (.ref a)) Q E s := by
  unfold Builtin.Frozenset.isAnySet isInstance
  have z := sub_set_self
  wp_walk
  exact q
/-- what is walked: all of the set's members -/
def Mem (xs : Array (Int × Value)) (S : Int → Bool) : Prop := ∀ e ∈ xs.toList, GoodE e ∧ S (keyOf e) = true
section
variable {o : Obj} {es : Array (Int × Value)} {ep : Nat} {t : SetTable}
theorem walk_at (ho : s.heap.get? a = some o) (hd : o.data = .set es ep t) (hf : t.fits es.size = true) (hl : w.params.followText "set-order" = true ∨ t.led = true) (hp : w.params.followText "set-order" = true ∨ (!t.plain && decide (es.size > 1)) = false)
    {Q : Array (Int × Value) → Shared → Prop} (q : ∀ xs, (∀ e ∈ xs.toList, e ∈ es.toList) → Q xs s) : wpAny (model P w) A (setWalk a) Q E s := by
  unfold setWalk
  refine wpAny_bind (wpAny_setState_of ho hd hf ?_)
  dsimp only
  refine wpAny_bind (wpAny_byText ?_)
  by_cases c : w.params.followText "set-order" = true
  · refine wp_if_pos c ?_
    refine wpAny_bind (wpAny_askSetting (wpAny_pure (q _ fun e he => ?_)))
    exact (pick_perm _ es).mem_iff.mp he
  · refine wp_if_neg c ?_
    have p1 := hp.resolve_left c
    have p2 := hl.resolve_left c
    try refine wpAny_bind (wpAny_pure ?_)
    refine wp_if_neg (by show ¬ ((!t.plain && decide (es.size > 1)) = true); rw [p1]; exact Bool.false_ne_true) ?_
    try refine wpAny_bind (wpAny_pure ?_)
    refine wpAny_bind (wpAny_of_eq (a := ()) ?_ (wpAny_pure (q es fun _ h => h)))
    show (if (!t.led && decide (es.size > 1)) = true then unsupported "set:maker-not-led" else pure ()) = pure ()
    rw [p2]
    rfl
end
theorem forIn_keep {α β : Type} {M : Model} {f : α → β → Sem (ForInStep β)} {b : β} (I : Shared → Prop) : ∀ (l : List α) {s : Shared} {Q : β → Shared → Prop},
    (∀ x ∈ l, ∀ (s : Shared) (Q' : ForInStep β → Shared → Prop), I s → (∀ s', I s' → Q' (.yield b) s') → wpAny M A (f x b) Q' E s) → I s → (∀ s', I s' → Q b s') → wpAny M A (forIn l b f) Q E s
  | [], s, Q, _, i, q => by
    rw [List.forIn_nil]
    exact wpAny_pure (q s i)
  | x :: l, s, Q, h, i, q => by
    rw [List.forIn_cons]
    exact wpAny_bind (h x (List.mem_cons_self ..) s _ i fun s' i' => forIn_keep I l (fun y hy => h y (List.mem_cons_of_mem _ hy)) i' q)
theorem forIn_keepA {α β : Type} {M : Model} {f : α → β → Sem (ForInStep β)} {b : β} (I : Shared → Prop) (l : Array α) {s : Shared} {Q : β → Shared → Prop}
    (h : ∀ x ∈ l.toList, ∀ (s : Shared) (Q' : ForInStep β → Shared → Prop), I s → (∀ s', I s' → Q' (.yield b) s') → wpAny M A (f x b) Q' E s) (i : I s) (q : ∀ s', I s' → Q b s') : wpAny M A (forIn l b f) Q E s := by
  rw [← Array.forIn_toList]
  exact forIn_keep I l.toList h i q
theorem quiet_at : ∀ (l : List Addr) {s : Shared} {Q : Bool → Shared → Prop}, (∀ c ∈ l, ∃ S n, SetR w s.heap c S n) → Q true s → wpAny (model P w) A (setsQuiet l) Q E s := by
  intro l s Q h q
  unfold setsQuiet
  refine wpAny_bind (forIn_keep (fun s' => s' = s) l (fun c hc s' Q' hs k => ?_) rfl fun s' hs => ?_)
  · subst hs
    obtain ⟨S, n, o, es, ep, t, ho, hx, hd, g, nd, hm, hb, hf, _⟩ := h c hc
    refine wpAny_bind (wpAny_setEntries_of ho hd hf ?_)
    refine wpAny_bind (forIn_keepA (fun s'' => s'' = s') es (fun e he s'' Q'' hs k' => ?_) rfl fun s'' hs => ?_)
    · subst hs
      obtain ⟨i, tk, h1, h2⟩ := g e he
      obtain ⟨e1, e2⟩ := e
      dsimp only at h1
      subst h1
      exact wpAny_pure (k' _ rfl)
    · subst hs
      exact wpAny_pure (k _ rfl)
  · subst hs
    exact wpAny_pure q
/-- the set at a walked while the empty set at r is filled -/
theorem unseen_at {r : Addr} (R : SetR w s.heap a S n) (Rr : SetR w s.heap r (fun _ => false) 0) {l : List Addr} (hall : ∀ c ∈ a :: l, ∃ S n, SetR w s.heap c S n) {Q : Array (Int × Value) → Shared → Prop}
    (q : ∀ xs h', Mem xs S → (∀ c o, c ≠ r → s.heap.get? c = some o → h'.get? c = some o) → SetR w h' r (fun _ => false) 0 → Q xs { s with heap := h' }) : wpAny (model P w) A (setWalkUnseen a l (some r)) Q E s := by
  obtain ⟨o, es, ep, t, ho, hx, hd, g, nd, hm, hb, hf, hn, hr, hl⟩ := R
  have mem : ∀ xs : Array (Int × Value), (∀ e ∈ xs.toList, e ∈ es.toList) → Mem xs S := fun xs h e he => ⟨g e (h e he), (hm _).mpr (List.mem_map_of_mem (h e he))⟩
  unfold setWalkUnseen
  refine wpAny_bind (wpAny_setState_of ho hd hf ?_)
  dsimp only
  refine wpAny_bind (wpAny_byText ?_)
  by_cases c : (w.params.followText "set-order" || t.led && t.plain || decide (es.size ≤ 1)) = true
  · refine wp_if_pos c ?_
    refine walk_at ho hd hf hl ?_ fun xs h => ?_
    · simp only [Bool.or_eq_true, Bool.and_eq_true, decide_eq_true_eq] at c
      rcases c with (c | c) | c
      · exact .inl c
      · exact .inr (by rw [c.2]; rfl)
      · exact .inr (by rw [decide_eq_false (by omega), Bool.and_false])
    · exact q xs s.heap (mem xs h) (fun _ _ _ e => e) Rr
  · refine wp_if_neg c ?_
    try refine wpAny_bind (wpAny_pure ?_)
    refine wpAny_bind (quiet_at (a :: l) hall ?_)
    refine wp_if_neg (by decide) ?_
    try refine wpAny_bind (wpAny_pure ?_)
    refine wpAny_bind (wpAny_rule ?_)
    obtain ⟨o2, es2, ep2, t2, ho2, hx2, hd2, g2, nd2, hm2, hb2, hf2, hn2, hr2, hl2⟩ := Rr
    try dsimp only
    refine wpAny_bind (wpAny_setState_of ho2 hd2 hf2 ?_)
    dsimp only
    have nb : w.params.followText "set-order" = false := by
      cases z : w.params.followText "set-order" with
      | false => rfl
      | true => rw [z] at c; simp at c
    have l1 : t.led = true := hl.resolve_left (by rw [nb]; exact Bool.false_ne_true)
    have l2 : t2.led = true := hl2.resolve_left (by rw [nb]; exact Bool.false_ne_true)
    by_cases c2 : (t2.led && !t.led || t2.plain && !t.plain) = true
    · refine wp_if_pos c2 ?_
      refine wpAny_bind (wpAny_storeSet_of ho2 hd2 ?_ (fits_of_scanBound hb2))
      refine wpAny_pure (q es _ (mem es fun _ h => h) (fun y o' hy e => by rw [Heap.get?_update_other _ _ (Ne.symm hy)]; exact e) ?_)
      exact ⟨_, es2, _, _, store_at ho2 hd2, hx2, rfl, g2, nd2, hm2, hb2, by exact hf2, hn2, hr2, .inr (by rw [l1, l2]; rfl)⟩
    · refine wp_if_neg c2 ?_
      try refine wpAny_bind (wpAny_pure ?_)
      exact wpAny_pure (q es s.heap (mem es fun _ h => h) (fun _ _ _ e => e) ⟨o2, es2, ep2, t2, ho2, hx2, hd2, g2, nd2, hm2, hb2, hf2, hn2, hr2, hl2⟩)
theorem sub_none (R1 : SetR w s.heap a S n) (R2 : SetR w s.heap b T m) (sub : ∀ k, S k = true → T k = true) (le : n ≤ m) {Q : Value → Shared → Prop}
    (q : ∀ h', (∀ c o, s.heap.get? c = some o → h'.get? c = some o) → SetR w h' s.heap.objs.size (fun _ => false) 0 → Q (.ref s.heap.objs.size) { s with heap := h' }) : wpAny (model P w) A (binaryOp .Sub (.ref a) (.ref b)) Q E s := by
  have ta : s.TypeIs (.ref a) "set" := (R1.setOf (P := P)).typeIs
  have tb : s.TypeIs (.ref b) "set" := (R2.setOf (P := P)).typeIs
  refine wpAny_binaryOp_same (T := "set") ta tb F.fills_set_sub F.slot_set_sub ?_
  refine wpAny_call_entry F.slot_set_sub ta entry_sub ?_ (F.args_set_sub_2 _ _)
  rw [sub_form]
  unfold Builtin.Frozenset.slot1 slotArgs
  refine wpAny_bind (wpAny_bind (wpAny_of_eq (a := (Value.ref a, [Value.ref b])) rfl (wpAny_pure ?_)))
  dsimp only
  refine wpAny_bind (m := _ <&&> _) ?_
  unfold andM
  refine wpAny_bind (isSet_at ta ?_)
  show wpAny _ _ (Builtin.Frozenset.isAnySet (.ref b)) _ _ _
  refine isSet_at tb (wp_if_neg (by decide) ?_)
  refine wpAny_bind (wpAny_pure (wpAny_bind ?_))
  obtain ⟨o, es, ep, t, ho, hx, hd, g, nd, hm, hb, hf, hn, hr, hl⟩ := id R1
  obtain ⟨o2, es2, ep2, t2, ho2, hx2, hd2, g2, nd2, hm2, hb2, hf2, hn2, hr2, hl2⟩ := id R2
  unfold Builtin.Frozenset.difference
  dsimp only
  refine wpAny_bind (isSet_at tb ?_)
  refine wp_if_neg (by decide) ?_
  try refine wpAny_bind (m := Builtin.Frozenset.addrOf (.ref b)) (wpAny_pure ?_)
  refine wp_if_neg (by simp) ?_
  refine wp_if_pos rfl ?_
  unfold Builtin.Frozenset.sizeOf
  refine wpAny_bind (wpAny_bind (wpAny_setEntries_of ho2 hd2 hf2 (wpAny_pure ?_)))
  refine wpAny_bind (wpAny_bind (wpAny_setEntries_of ho hd hf (wpAny_pure ?_)))
  refine wp_if_neg (by rw [hn, hn2]; omega) ?_
  unfold Builtin.Frozenset.baseOf isInstance
  have z := sub_set_self
  obtain ⟨hp, gg, dr, tk, os⟩ := s
  wp_walk
  dsimp only at ho ho2 q R1 R2
  refine wpAny_askSetting (wpAny_pure ?_)
  simp only [newObj, if_true]
  refine wpAny_bind (wpAny_alloc (wpAny_pure ?_))
  dsimp only
  have k1 : ∀ c o, hp.get? c = some o → (hp.push (newS w)).get? c = some o := fun c o e => Heap.get?_push_of_some _ e
  have fr := setR_fresh (h := hp) w
  have na : a ≠ hp.objs.size := Nat.ne_of_lt (Heap.lt_size ho)
  have nb : b ≠ hp.objs.size := Nat.ne_of_lt (Heap.lt_size ho2)
  refine wpAny_bind (m := Builtin.Frozenset.addrOf (.ref hp.objs.size)) (wpAny_pure ?_)
  refine wpAny_bind (wpAny_setEpoch_of (k1 _ _ ho) hd hf ?_)
  refine wpAny_bind (wpAny_holding (wpAny_bind ?_))
  refine unseen_at (R1.at fun o e => k1 _ _ e) fr (fun c hc => ?_) fun xs h' hxs k2 R' => ?_
  · rcases List.mem_cons.mp hc with rfl | hc
    · exact ⟨_, _, R1.at fun o e => k1 _ _ e⟩
    rcases List.mem_cons.mp hc with rfl | hc
    · exact ⟨_, _, R2.at fun o e => k1 _ _ e⟩
    rcases List.mem_cons.mp hc with rfl | hc
    · exact ⟨_, _, fr⟩
    · cases hc
  · have k3 : ∀ c o, hp.get? c = some o → h'.get? c = some o := fun c o e => k2 c o (Nat.ne_of_lt (Heap.lt_size e)) (k1 c o e)
    refine wpAny_bind (forIn_keepA (fun s' => s' = ⟨h', gg, dr, tk, os⟩) xs (fun e he s' Q' hs kk => ?_) rfl fun s' hs => ?_)
    · subst hs
      obtain ⟨⟨i, ti, h1, h2⟩, h3⟩ := hxs e he
      obtain ⟨e1, e2⟩ := e
      dsimp only at h1 h2
      subst h1 h2
      refine wpAny_bind (wpAny_holding (wpAny_bind ?_))
      refine wpAny_setFind_of (knd := intKind P w) (k := i) (intKind_is P w i ti) rfl ((R2.at fun o e => k3 _ _ e).setOf (P := P)) fun r hr => ?_
      refine wpAny_bind (wpAny_pure ?_)
      have hs : r.isSome = true := by rw [hr]; exact sub i h3
      refine wp_if_neg (by rw [hs]; decide) ?_
      refine wpAny_pure ?_
      unfold Builtin.Frozenset.unchanged
      refine wpAny_bind (wpAny_bind (wpAny_setEpoch_of (k3 _ _ ho) hd hf ?_))
      refine wp_if_neg (by simp) (wpAny_pure (wpAny_pure (kk _ rfl)))
    · subst hs
      refine wpAny_pure (wpAny_pure (wpAny_pure ⟨_, rfl, (fun z => nomatch z), q h' k3 R'⟩))
end
end Cw
namespace Cw
open PySem PySem.Spec PyProof.Rows L2
theorem nodup_len : ∀ {l m : List Int}, l.Nodup → (∀ x ∈ l, x ∈ m) → l.length ≤ m.length
  | [], m, _, _ => Nat.zero_le _
  | x :: l, m, nd, h => by
    obtain ⟨nx, nd'⟩ := List.nodup_cons.mp nd
    have hx : x ∈ m := h x (List.mem_cons_self ..)
    have z := nodup_len (l := l) (m := m.erase x) nd' fun y hy => by
      have ne : y ≠ x := fun e => nx (by rw [← e]; exact hy)
      exact (List.mem_erase_of_ne ne).mpr (h y (List.mem_cons_of_mem _ hy))
    rw [List.length_erase_of_mem hx] at z
    have p : 0 < m.length := List.length_pos_of_mem hx
    rw [List.length_cons]
    omega
section
variable {X : Cx}
theorem setR_le {w : World} {h : Heap} {a b : Addr} {S T : Int → Bool} {n m : Nat} (R1 : SetR w h a S n) (R2 : SetR w h b T m) (sub : ∀ k, S k = true → T k = true) : n ≤ m := by
  obtain ⟨o, es, ep, t, ho, hx, hd, g, nd, hm, hb, hf, hn, _⟩ := R1
  obtain ⟨o2, es2, ep2, t2, ho2, hx2, hd2, g2, nd2, hm2, hb2, hf2, hn2, _⟩ := R2
  have z := nodup_len (l := es.toList.map keyOf) (m := es2.toList.map keyOf) nd fun x hx => (hm2 x).mp (sub x ((hm x).mpr hx))
  rw [List.length_map, List.length_map, Array.length_toList, Array.length_toList, hn, hn2] at z
  exact z
/-- set(xs) -/
def rSetOf (X : Cx) : List V → Hp → VK → Prop := fun xs H Q => ∃ (l : Addr) (ns : List Int), xs = [.ref l] ∧ SqL X.K H l (ns.map V.int) ∧ ns.length ≤ 4000 ∧ ∀ p c, c ≤ ns.length → H p = none → Q (.ref p) (upd H p (SetO X.w p (fun j => decide (j ∈ ns)) c))
theorem cr_setOf (hc : X.calm = true) : CallR X (.type "set") (rSetOf X) := by
  intro pins s σ H vs us Q I r h
  obtain ⟨l, ns, rfl, hs, hl, q⟩ := h
  obtain ⟨its, rv, pl, _⟩ := I.list hs
  rw [Vals.ref1 r]
  refine set_list (its := its.toArray) ns (I.ok.hd hc) pl.isList rv.ints (by show ns.length + 1 < 4096; omega) fun g' tk c R hc' k => ?_
  exact ⟨.ref s.heap.objs.size, _, I.laid (t' := tk) k (Nat.le_refl _) (setO_new R), rfl, q _ c hc' (I.hok.fresh (Nat.le_refl _))⟩
/-- a - b, all of a's being b's: a new empty set -/
def rSubN (w : World) : R2 := fun x y H Q => ∃ (a b : Addr) (S T : Int → Bool) (n m : Nat), x = .ref a ∧ y = .ref b ∧ H a = some (SetO w a S n) ∧ H b = some (SetO w b T m) ∧ (∀ k, S k = true → T k = true) ∧ ∀ p, H p = none → Q (.ref p) (upd H p (SetO w p (fun _ => false) 0))
theorem op_subN : OpR X (binaryOp .Sub) (rSubN X.w) := by
  intro pins s σ H x y v u Q I rx ry h
  obtain ⟨a, b, S, T, n, m, rfl, rfl, ha, hb, sub, q⟩ := h
  cases rx
  cases ry
  have R1 := setO_get I ha
  have R2 := setO_get I hb
  refine sub_none R1 R2 sub (setR_le R1 R2 sub) fun h' k R => ?_
  exact ⟨.ref s.heap.objs.size, _, I.laid (t' := s.toks) k (Nat.le_refl _) (setO_new R), rfl, q _ (I.hok.fresh (Nat.le_refl _))⟩
/-- len(s) -/
theorem cr_lenS : CallR X (.builtin "len") (fun xs H Q => ∃ (a : Addr) (S : Int → Bool) (n : Nat), xs = [.ref a] ∧ H a = some (SetO X.w a S n) ∧ Q (.int n) H) := by
  intro pins s σ H vs us Q I r h
  obtain ⟨a, S, n, rfl, ha, q⟩ := h
  rw [Vals.ref1 r]
  obtain ⟨o, es, ep, t, ho, hx, hd, g, nd, hm, hb, hf, hn, _⟩ := setO_get I ha
  have e : scanBound = 4096 := rfl
  refine call_len_set ho hx hd hf (by rw [e] at hb; omega) ?_
  rw [hn]
  exact ⟨.int n, H, I.tok _, ⟨_, rfl⟩, q⟩
/-- max(xs, default=k) -/
def rMaxD (K : PySem.W.Frag) : List V → List V → Hp → VK → Prop := fun xs zs H Q => ∃ (a : Addr) (ns : List Int) (k : Int), xs = [.ref a] ∧ SqL K H a (ns.map V.int) ∧ zs = [.int k] ∧ ∀ M, (ns = [] → M = k) → (∀ y ∈ ns, y ≤ M) → Q (.int M) H
theorem fold_max (n : Int) : ∀ (ns : List Int), n ≤ ns.foldl max n ∧ ∀ y ∈ ns, y ≤ ns.foldl max n := by
  intro ns
  induction ns generalizing n with
  | nil => exact ⟨Int.le_refl _, fun _ h => nomatch h⟩
  | cons k r ih =>
    rw [List.foldl_cons]
    obtain ⟨h1, h2⟩ := ih (max n k)
    refine ⟨Int.le_trans (Int.le_max_left _ _) h1, fun y hy => ?_⟩
    rcases List.mem_cons.mp hy with rfl | hy
    · exact Int.le_trans (Int.le_max_right _ _) h1
    · exact h2 y hy
theorem alike_ints (ns : List Int) : PySem.W.AlikeAll (ns.map PyData.int) := by
  constructor
  · intro x hx y hy
    obtain ⟨i, _, rfl⟩ := List.mem_map.mp hx
    obtain ⟨j, _, rfl⟩ := List.mem_map.mp hy
    rfl
  · intro x hx
    obtain ⟨i, _, rfl⟩ := List.mem_map.mp hx
    exact fun z => nomatch z
theorem cr_maxD (hc : X.calm = true) (hu : X.A.units + 3 < cLine) : CallRK X (.builtin "max") ["default"] (rMaxD X.K) := by
  intro pins s σ H xs zs us ws Q I r rz h
  obtain ⟨a, ns, k, rfl, hs, rfl, q⟩ := h
  obtain ⟨its, rv, pl, _⟩ := I.list hs
  rw [Vals.ref1 r]
  obtain ⟨u, rfl, tk0, rfl⟩ := vals1 rz
  have dpi : ∀ ns : List Int, DpAll X.K H (ns.map V.int) (ns.map PyData.int) := fun ns => by
    induction ns with
    | nil => exact .nil
    | cons n r ih => exact .cons (.int n) ih
  have dpt : ∀ ns : List Int, PyData.depthAll (ns.map PyData.int) ≤ 1 := fun ns => by
    induction ns with
    | nil => exact Nat.zero_le _
    | cons n r ih =>
      rw [List.map_cons]
      unfold PyData.depthAll PyData.depth
      omega
  obtain ⟨as, hr⟩ := Dp.readsAll I _ _ _ (dpi ns) rv
  have hd := dpt ns
  refine PySem.W.max_list_default (vs := its.toArray) (I.ok.hd hc) pl.isList (by rw [List.toList_toArray]; exact hr) (alike_ints ns) (by omega) (fun e h' tk k' => ?_) (fun y ys i v h' tk bs e _ rd k' => ?_)
  · exact ⟨.int k, H, I.kept k', ⟨_, rfl⟩, q k (fun _ => rfl) fun y hy => by rw [List.map_eq_nil_iff.mp e] at hy; cases hy⟩
  · cases ns with
    | nil => cases e
    | cons n r =>
      rw [List.map_cons] at e
      injection e with e1 e2
      subst e1 e2
      rw [PySem.W.maxD_ints] at rd
      cases rd with
      | int i t =>
        obtain ⟨f1, f2⟩ := fold_max n r
        refine ⟨.int (r.foldl max n), H, I.kept k', ⟨t, rfl⟩, q _ (fun z => nomatch z) fun y hy => ?_⟩
        rcases List.mem_cons.mp hy with rfl | hy
        · exact f1
        · exact f2 y hy
end
end Cw
namespace Cw
open PySem PySem.Spec PyProof.Rows PySem.SeqAt L2
/-! ## != by an own __eq__ -/
section
variable {M : Model} {prog : Program} {w : World} {A : Around} {E : Value → Shared → Prop} {s : Shared} {K : PySem.W.Frag} {x y f C : Addr} {ox oy : Obj} {od oe : Option Obj}
theorem objNe_entry (X : K.In s.heap) (I : PySem.W.InstAt s.heap x ox C od) (hs : PySem.W.findIn K (.ref C) "__eq__" = some (some (.ref f))) (hf : PySem.W.isFn K (.ref f) = true) (hu : A.units < cLine) {Q : Fin → Shared → Prop}
    (hcall : wpAny (model prog w) A (call (.ref f) [.ref x, .ref y]) (fun v s' => ∃ b, v = .bool b ∧ Q (.done (.ret (.bool (!b)))) s') E s) :
    wpAny (model prog w) A (Builtin.«object.__ne__» ⟨[.ref x, .ref y], []⟩) Q E s := by
  unfold Builtin.«object.__ne__»
  repeat (first
    | with_reducible refine wpAny_cRoomFor hu ?_
    | (refine wpAny_bind (m := callSpecialIfBound? (.ref x) (Str.ofString "__eq__") [.ref y])
        (PySem.W.ifBound_K X I hs hf (wpAny_mono hcall (fun r s' hr => by
          obtain ⟨b, rfl, hq⟩ := hr
          repeat (first | exact hq | exact wpAny_pure hq | exact wpAny_truthy_bool hq | (refine wpAny_bind (m := truthy (.bool _)) (wpAny_truthy_bool ?_)) | wp_step)) fun _ _ e => e)))
    | wp_step)
theorem ifBound_objNe {args : List Value} {Q : Option Value → Shared → Prop} (X : K.In s.heap) (I : PySem.W.InstAt s.heap x ox C od) (hs : PySem.W.findIn K (.ref C) "__ne__" = some (some (.builtin "object.__ne__")))
    (h : wpAny M A (call (.builtin "object.__ne__") (.ref x :: args)) (fun v => Q (some v)) E s) : wpAny M A (callSpecialIfBound? (.ref x) "__ne__" args) Q E s := by
  simp only [callSpecialIfBound?, bindSpecialIfBound?]
  refine wpAny_holding (wpAny_bind (wpAny_bind (wpAny_bind (I.type.here ((PySem.W.looks_findIn X hs).here ?_)))))
  refine wpAny_bind (wpAny_askSetting (wpAny_ite ?_))
  have fin : wpAny M A (call (.builtin "object.__ne__") ([.ref x] ++ args) >>= fun v => pure (some v)) Q E s := wpAny_bind (wpAny_mono h (fun v s' h' => wpAny_pure h') fun _ _ h' => h')
  split
  · exact wpAny_bind (wpAny_of_eq (F.cmp_object.ne.bind _) (wpAny_pure (by exact fin)))
  · exact wpAny_tryCatch (wpAny_bind (wpAny_of_eq (F.cmp_object.ne.bind _) (wpAny_pure (by exact fin))))
theorem rc_ne (hu : A.units + 1 < cLine) (X : K.In s.heap) (I : PySem.W.InstAt s.heap x ox C od) (J : PySem.W.InstAt s.heap y oy C oe) (hm : PySem.W.mroIn K C (.type "object") = some true) (hn : PySem.W.findIn K (.ref C) "__ne__" = some (some (.builtin "object.__ne__")))
    (hs : PySem.W.findIn K (.ref C) "__eq__" = some (some (.ref f))) (hf : PySem.W.isFn K (.ref f) = true) {Q : Value → Shared → Prop}
    (hcall : wpAny (model prog w) A.in1 (call (.ref f) [.ref x, .ref y]) (fun v s' => ∃ b, v = .bool b ∧ Q (.bool (!b)) s') E s) :
    wpAny (model prog w) A (richCompare .NotEq (.ref x) (.ref y)) Q E s := by
  have one : wpAny (model prog w) A (tryCompare (.ref x) "__ne__" (.ref y)) (fun r s' => ∃ b, r = some (.bool b) ∧ Q (.bool b) s') E s := by
    unfold tryCompare
    refine wpAny_bind (ifBound_objNe X I hn (wpAny_call (codeAny_call_builtin F.cmp_object.ne.plain F.cmpEntry_ne (PySem.W.check_slot F.cmpKind_ne F.cmpSplit_ne (I.type.andThen (PySem.W.looks_mroIn X hm)) (F.cmpArgs_ne _ _)
      (objNe_entry (A := A.in1) X I hs hf (by exact hu) (wpAny_mono hcall (fun v s' hv => ?_) fun _ _ e => e))))))
    obtain ⟨b, rfl, hq⟩ := hv
    first | exact ⟨b, rfl, wpAny_pure ⟨_, rfl, hq⟩⟩ | exact ⟨b, rfl, wpAny_pure (wpAny_pure ⟨_, rfl, hq⟩)⟩
  unfold richCompare
  simp only [oneThing_ref]
  refine wpAny_holding (wpAny_bind (wpAny_cRoomFor (Nat.lt_of_succ_lt hu) ?_))
  rw [cmpInfo_NotEq]
  dsimp only
  refine wpAny_bind (I.type.here (wpAny_bind (J.type.here ?_)))
  rw [show (Value.ref C != Value.ref C) = false from by simp]
  simp only [Bool.false_eq_true, if_false]
  refine wpAny_bind (wpAny_pure ?_)
  simp only [Bool.false_eq_true, if_false]
  refine wpAny_bind (wpAny_mono one (fun v s' hv => ?_) fun _ _ e => e)
  obtain ⟨b, rfl, hq⟩ := hv
  first | exact wpAny_pure hq | exact wpAny_pure (wpAny_pure hq)
end
/-- x != y, equal by the own == -/
def rNeG (D : Eqv) : R2 := fun x y H Q => D x y H ∧ ∀ H', Ext H H' → Q (.bl false) H'
section
variable {X : Cx} {n : Nat}
theorem op_neG {CX : CXT} {C f : Addr} {fd : FuncData} {ps : List Str} {R : Addr → Addr → Hp → Prop} {E : XK} (F : FnOk X.prog X.w X.K X.mg X.base CX n f fd ps (spEq R))
    (hm : PySem.W.mroIn X.K C (.type "object") = some true) (hn : PySem.W.findIn X.K (.ref C) "__ne__" = some (some (.builtin "object.__ne__")))
    (hs : PySem.W.findIn X.K (.ref C) "__eq__" = some (some (.ref f))) (hf : PySem.W.isFn X.K (.ref f) = true) (hb : Binds X.K fd ps []) (hx : Passes CX X E) (hr : Room (n + 1) X.A) : OpR X (compareOp .NotEq) (rNeG (DIns C R)) := by
  intro pins s σ H x y u v Q I rx ry hq
  obtain ⟨⟨a, b, dx, dy, fs, gs, rfl, rfl, ha, hb', hR⟩, q⟩ := hq
  cases rx
  cases ry
  obtain ⟨mA, J, _⟩ := ins_get I.hok ha
  obtain ⟨mB, J', _⟩ := ins_get I.hok hb'
  obtain ⟨od, J, _⟩ := J.look
  obtain ⟨od', J', _⟩ := J'.look
  show wpAny (model X.prog X.w) X.A (richCompare .NotEq (.ref a) (.ref b)) (EP X pins σ Q) X.xe s
  refine rc_ne (hr.mono (Nat.succ_le_succ (Nat.zero_le n)) |>.in1.units0) I.kIn J J' hm hn hs hf ?_
  have hsp : spEq R [.ref a, .ref b] H (fun v H' => v = .bl true ∧ Ext H H') E := ⟨a, b, rfl, hR, fun H' e => ⟨rfl, e⟩⟩
  have hl := F.len _ _ _ _ hsp
  have r2 : Vals [V.ref a, V.ref b] [Value.ref a, Value.ref b] := .cons rfl (.cons rfl .nil)
  have e0 : Env0 X.prog X.w X.K X.mg X.base X.A.in1 X.stack s H := I.env0.in1
  refine wpAny_call (codeAny_mono (F.run X.A.in1 X.stack s H ⟨[.ref a, .ref b], []⟩ [.ref a, .ref b] [.ref a, .ref b] _ E hr.in1 e0 (by
    have := hb s [.ref a, .ref b] I.kIn (by simpa using hl)
    simpa using this) r2 hsp) fun r s' hq => ?_)
  cases r with
  | error e => exact hx pins σ H s e s' I hq
  | ok fl =>
    cases fl with
    | ret w =>
      obtain ⟨z, H', I', rz, ez, ex⟩ := I.after hq
      subst ez
      cases rz
      exact ⟨true, rfl, .bl false, H', I', rfl, q H' ex⟩
    | next => exact False.elim hq
    | brk => exact False.elim hq
    | cont => exact False.elim hq
end
end Cw
namespace Cw
open PySem L2
def top (i : Nat) : Stmt := PySem.Challenge.pw_cutwalks_k28_whole_marks_that_help.main.body.getD i (.Pass ⟨0, 0, 0, 0⟩)
abbrev sIsInt : Stmt := top 10
abbrev sPlaces : Stmt := top 11
abbrev sAsc : Stmt := top 12
abbrev sMarks : Stmt := top 13
abbrev sSome : Stmt := top 14
abbrev sChange : Stmt := top 0
abbrev sRepl : Stmt := top 0
abbrev sRow : Stmt := top 36
theorem ifT {c : Bool} {A B : Prop} (h : c = true) (x : A) : if c = true then A else B := by
  rw [if_pos h]
  exact x
theorem ifF {c : Bool} {A B : Prop} (h : c = false) (x : B) : if c = true then A else B := by
  rw [h, if_neg Bool.false_ne_true]
  exact x
theorem same_new {H H1 : Hp} {p : Addr} {o : HO} (s : Same H H1) (h : H1 p = none) : Same H (upd H1 p o) := fun b u e => by
  rw [upd_ne (ne_of_none (s b u e) h)]
  exact s b u e
/-- what stands at D is replaced, D being new since H -/
theorem same_put {H H1 : Hp} {p : Addr} {o : HO} (s : Same H H1) (h : H p = none) : Same H (upd H1 p o) := fun b u e => by
  rw [upd_ne (ne_of_none e h)]
  exact s b u e
theorem all_true (n : Nat) : (List.replicate n true).all id = true := by
  induction n with
  | zero => rfl
  | succ n ih => rw [List.replicate_succ, List.all_cons, ih]; rfl
abbrev Asc (ns : List Int) : Prop := ns.Pairwise (· < ·)
/-- a list of ints stands at a -/
abbrev IL (H : Hp) (a : Addr) (ns : List Int) : Prop := H a = some (.lst (ns.map V.int))
theorem il_at {ns : List Int} {i : Nat} {x : V} (h : (ns.map V.int)[i]? = some x) : ∃ z, x = V.int z ∧ ns[i]? = some z := by
  rw [List.getElem?_map] at h
  cases e : ns[i]? with
  | none => rw [e] at h; cases h
  | some z => rw [e] at h; exact ⟨z, (Option.some.inj h).symm, rfl⟩
/-- what the names of the built-ins hold -/
structure Bl (mg : Str → Option Value) : Prop where
  int : mg "int" = none
  bool : mg "bool" = none
  list : mg "list" = none
  tuple : mg "tuple" = none
  range : mg "range" = none
  len : mg "len" = none
  abs : mg "abs" = none
  all : mg "all" = none
  isi : mg "isinstance" = none
  zip : mg "zip" = none
  max : mg "max" = none
  min : mg "min" = none
  set : mg "set" = none
  sorted : mg "sorted" = none
  dict : mg "dict" = none
def spOne : Sp := fun vs H Q _ => ∃ i : Int, vs = [.int i] ∧ Q (.bl true) H
/-- places from low to high -/
def spPlaces : Sp := fun vs H Q _ => ∃ (a : Addr) (ns : List Int) (lo hi : Int), vs = [.ref a, .int lo, .int hi] ∧ IL H a ns ∧ ns.length ≤ 1000 ∧ (∀ x ∈ ns, lo ≤ x ∧ x ≤ hi) ∧ ∀ H', Same H H' → Q (.bl true) H'
def spAsc : Sp := fun vs H Q _ => ∃ (a : Addr) (ns : List Int) (lo hi : Int), vs = [.ref a, .int lo, .int hi] ∧ IL H a ns ∧ ns.length ≤ 1000 ∧ (∀ x ∈ ns, lo ≤ x ∧ x ≤ hi) ∧ Asc ns ∧ ∀ H', Same H H' → Q (.bl true) H'
def spMarks : Sp := fun vs H Q _ => ∃ (a : Addr) (ns : List Int) (hi : Int), vs = [.ref a, .int hi] ∧ IL H a ns ∧ ns.length ≤ 400 ∧ (∀ x ∈ ns, 1 ≤ x ∧ x ≤ hi) ∧ Asc ns ∧ ∀ H', Same H H' → Q (.bl true) H'
def spSome : Sp := fun vs H Q _ => ∃ (a b : Addr) (ns ms : List Int), vs = [.ref a, .ref b] ∧ IL H a ns ∧ IL H b ms ∧ ns.length ≤ 400 ∧ ms.length ≤ 400 ∧ Asc ns ∧ (∀ x ∈ ns, 1 ≤ x) ∧ (∀ x ∈ ns, x ∈ ms) ∧ ∀ H', Same H H' → Q (.bl true) H'
section
variable {P : Program} {w : World} {K : PySem.W.Frag} {mg : Str → Option Value} {base : Heap}
theorem scI : FnScope ["thing"] ["thing"] (defScope sIsInt) := ⟨rfl, rfl, rfl, by decide +kernel, rfl, by decide +kernel, by decide +kernel⟩
theorem ok_int {f : Addr} {fd : FuncData} (F : Fun K "is_integer" "is_integer" sIsInt f fd) (T : Bl mg) : FnOk P w K mg base CX0 1 f fd ["thing"] spOne := by
  refine F.ok scI (fun vs H Q E h => ?_) (fun cdv A outer s H vs Q E hr h => ?_)
  · obtain ⟨i, rfl, _⟩ := h
    rfl
  · obtain ⟨i, rfl, k⟩ := h
    refine ⟨_, pss_one (ps_ret (pe_and (pe_callB call_isi (by rfl) T.isi (by decide +kernel) (pa_cons (pv 0) (pa_cons (pe_bltn (by rfl) T.int (by decide +kernel) (v := V.ty "int") rfl) pa_nil)))
      (pe_one (pe_not (pe_callB call_isi (by rfl) T.isi (by decide +kernel) (pa_cons (pv 0) (pa_cons (pe_bltn (by rfl) T.bool (by decide +kernel) (v := V.ty "bool") rfl) pa_nil))))))), ?_⟩
    refine ⟨_, rfl, _, _, _, _, true, rfl, ClsV.ty _, .base (.int i), kit_ty (by decide +kernel), _, rfl, ?_⟩
    refine ifT rfl ?_
    refine ⟨_, rfl, _, _, _, _, false, rfl, ClsV.ty _, .base (.int i), kit_ty (by decide +kernel), _, rfl, ?_⟩
    exact k
theorem scP : FnScope ["thing", "low", "high", "place"] ["thing", "low", "high"] (defScope sPlaces) := ⟨rfl, rfl, rfl, by decide +kernel, rfl, by decide +kernel, by decide +kernel⟩
theorem ok_places {f fI : Addr} {fd fdI : FuncData} (F : Fun K "are_places" "are_places" sPlaces f fd) (T : Bl mg) (gI : mg "is_integer" = some (.ref fI)) (kI : PySem.W.keepIn K (.ref fI) = true) (bI : Binds K fdI ["thing"] []) (GI : FnOk P w K mg base CX0 1 fI fdI ["thing"] spOne) :
    FnOk P w K mg base CX0 2 f fd ["thing", "low", "high"] spPlaces := by
  refine F.ok scP (fun vs H Q E h => ?_) (fun cdv A outer s H vs Q E hr h => ?_)
  · obtain ⟨a, ns, lo, hi, rfl, _⟩ := h
    rfl
  · obtain ⟨a, ns, lo, hi, rfl, hS, hl, hb, k⟩ := h
    refine ⟨_, pss_cons (ps_if (pt_not (pt_val (pe_callB call_isi (by rfl) T.isi (by decide +kernel) (pa_cons (pv 0) (pa_cons (pe_bltn (by rfl) T.list (by decide +kernel) (v := V.ty "list") rfl) pa_nil))))) (pss_one (ps_ret pe_bl)) pss_nil)
      (pss_one (ps_ret (pe_callB (cr_all rfl) (by rfl) T.all (by decide +kernel) (pa_cons (pe_lc (own := [("place", 3)]) (g := gName 3) (tt := tYes) rfl scP.nd
        (pi_list (pv 0)) (blkOk_by (own := [("place", 3)]) (N := ["thing", "low", "high", "place"]) (sc := defScope sPlaces) (by decide +kernel)) (fun _ _ _ _ _ => pg_name (i := 3) scP.nd rfl (Or.inl rfl)) (fun _ _ _ _ _ => pts_nil)
        (fun _ _ _ _ _ => pe_and (pe_call GI hr rfl gI kI bI .nil pass0 (pa_cons (pv 3) pa_nil)) (pe_one (pe_chain op_le op_le (pv 1) (pv 3) (pv 2))))) pa_nil)))), ?_⟩
    refine ⟨_, rfl, _, _, _, _, true, rfl, ClsV.ty _, .base (.lst hS), kit_ty (by decide +kernel), _, rfl, ?_⟩
    refine ifF rfl ?_
    refine ⟨_, rfl, a, rfl, ⟨_, SqL.of hS⟩, fun D hD => ?_⟩
    refine lc_list (K := K) (a := a) (xs := ns.map V.int) (fun i H' => Same H H' ∧ H' D = some (.lst (List.replicate i (V.bl true)))) ⟨same_new (Same.refl H) hD, upd_same⟩ (fun i H' _ q => SqL.of (q.1 _ _ hS)) ?_ ?_
    · rintro i x H' hx ⟨s1, hD'⟩
      obtain ⟨z, rfl, hz⟩ := il_at hx
      have hil : i < ns.length := (List.getElem?_eq_some_iff.mp hz).1
      obtain ⟨b1, b2⟩ := hb z (List.mem_of_getElem? hz)
      refine ⟨rfl, ?_⟩
      unfold tYes
      refine iteT ?_
      refine ⟨_, rfl, _, rfl, _, rfl, ?_⟩
      refine ifT rfl ?_
      refine ⟨_, rfl, _, rfl, _, _, rfl, rfl, _, rfl, ?_⟩
      refine ifT (by simp [b1]) ?_
      refine ⟨_, rfl, _, _, rfl, rfl, ?_⟩
      refine ⟨_, hD', by rw [List.length_replicate]; exact small1000 (by omega), same_put s1 hD, ?_⟩
      rw [upd_same, List.replicate_succ']
      simp [b2]
    · rintro H' ⟨s1, hD'⟩
      refine ⟨D, List.replicate ns.length true, rfl, SqL.of (by rw [hD', List.map_replicate, List.length_map]), ?_⟩
      rw [all_true]
      exact k _ s1
end
end Cw
namespace Cw
open PySem L2
theorem cut_one (xs : List V) : cutV xs (some 1) none = xs.drop 1 := by
  unfold cutV
  have e1 : HT.sIx xs.length 0 (some 1) = min 1 xs.length := HT.sIx_nat xs.length 0 1
  rw [e1, HT.sIx_none]
  cases xs with
  | nil => rfl
  | cons x r =>
    have e2 : min 1 (x :: r).length = 1 := by
      rw [List.length_cons]
      omega
    rw [e2, List.drop_succ_cons, List.drop_zero, List.length_cons, Nat.add_sub_cancel]
    exact List.take_length
section
variable {P : Program} {w : World} {K : PySem.W.Frag} {mg : Str → Option Value} {base : Heap}
abbrev NA : List Str := ["thing", "low", "high", "before", "place"]
theorem scA : FnScope NA ["thing", "low", "high"] (defScope sAsc) := ⟨rfl, rfl, rfl, by decide +kernel, rfl, by decide +kernel, by decide +kernel⟩
theorem ok_asc {f fP : Addr} {fd fdP : FuncData} (F : Fun K "are_ascending" "are_ascending" sAsc f fd) (T : Bl mg) (gP : mg "are_places" = some (.ref fP)) (kP : PySem.W.keepIn K (.ref fP) = true) (bP : Binds K fdP ["thing", "low", "high"] []) (GP : FnOk P w K mg base CX0 2 fP fdP ["thing", "low", "high"] spPlaces) :
    FnOk P w K mg base CX0 3 f fd ["thing", "low", "high"] spAsc := by
  refine F.ok scA (fun vs H Q E h => ?_) (fun cdv A outer s H vs Q E hr h => ?_)
  · obtain ⟨a, ns, lo, hi, rfl, _⟩ := h
    rfl
  · obtain ⟨a, ns, lo, hi, rfl, hS, hl, hb, ha, k⟩ := h
    refine ⟨_, pss_cons (ps_if (pt_not (pt_val (pe_call GP hr rfl gP kP bP .nil pass0 (pa_cons (pv 0) (pa_cons (pv 1) (pa_cons (pv 2) pa_nil)))))) (pss_one (ps_ret pe_bl)) pss_nil)
      (pss_one (ps_ret (pe_callB (cr_all rfl) (by rfl) T.all (by decide +kernel) (pa_cons (pe_lc (own := [("before", 3), ("place", 4)]) (g := gTup K 2 (gCons (gName 3) (gCons (gName 4) gNil))) (tt := tYes) rfl scA.nd
        (pi_zip (by rfl) T.zip (pa_cons (pv 0) (pa_cons (pe_slice sl_list (pv 0) (po_some pe_int) po_none) pa_nil))) (blkOk_by (own := [("before", 3), ("place", 4)]) (N := NA) (sc := defScope sAsc) (by decide +kernel))
        (fun _ _ _ _ _ => pg_tup rfl (pgs_cons (pg_name (i := 3) scA.nd rfl (Or.inl rfl)) (pgs_cons (pg_name (i := 4) scA.nd rfl (Or.inl rfl)) pgs_nil))) (fun _ _ _ _ _ => pts_nil)
        (fun _ _ _ _ _ => pe_cmpR op_lt (pv 3) (pv 4) (nomark _))) pa_nil)))), ?_⟩
    refine ⟨_, rfl, _, rfl, _, rfl, a, ns, lo, hi, rfl, hS, hl, hb, fun H1 s1 => ⟨_, rfl, ?_⟩⟩
    refine ifF rfl ?_
    refine ⟨_, rfl, _, rfl, 1, rfl, a, _, rfl, SqL.of (s1 _ _ hS), fun c nc => ?_⟩
    have s2 := same_new (o := .lst (cutV (ns.map V.int) (some 1) none)) s1 nc
    rw [cut_one] at s2
    rw [cut_one]
    refine ⟨a, c, _, _, rfl, SqL.of (s2 _ _ hS), SqL.of upd_same, fun D hD => ?_⟩
    have nc' : H c = none := s1.free nc
    have ncD : c ≠ D := ne_of_none upd_same hD
    have hn : ns.length - 1 = min (ns.map V.int).length ((ns.map V.int).drop 1).length := by
      rw [List.length_drop, List.length_map]
      omega
    refine lc_it (walk_zip hn) (fun i H' => Same H H' ∧ H' c = some (.lst ((ns.map V.int).drop 1)) ∧ H' D = some (.lst (List.replicate i (V.bl true)))) ⟨same_new s2 hD, by rw [upd_ne ncD]; exact upd_same, upd_same⟩ (fun i H' _ q => ⟨SqL.of (q.1 _ _ hS), SqL.of q.2.1⟩) ?_ ?_
    · rintro i x H' H'' hi ⟨s3, hc, hD'⟩ ⟨t, x1, x2, rfl, nt, rfl, e1, e2⟩
      have h1 : i < ns.length := by omega
      have h2 : i + 1 < ns.length := by omega
      have g1 : x1 = .int ns[i] := by
        dsimp only at e1
        rw [List.getElem?_map, List.getElem?_eq_getElem h1] at e1
        exact (Option.some.inj e1).symm
      have g2 : x2 = .int ns[i + 1] := by
        dsimp only at e2
        rw [List.getElem?_drop, List.getElem?_map, Nat.add_comm 1 i, List.getElem?_eq_getElem h2] at e2
        exact (Option.some.inj e2).symm
      subst g1 g2
      have hlt : ns[i] < ns[i + 1] := List.pairwise_iff_getElem.mp ha i (i + 1) h1 h2 (Nat.lt_succ_self i)
      have ntc : c ≠ t := ne_of_none hc nt
      have ntD : D ≠ t := ne_of_none hD' nt
      refine ⟨t, _, rfl, SqT.of upd_same, rfl, _, _, rfl, _, _, rfl, rfl, rfl, ?_⟩
      unfold tYes
      refine iteT ?_
      refine ⟨_, rfl, _, rfl, _, _, rfl, rfl, ?_⟩
      refine ⟨_, (by rw [upd_ne ntD]; exact hD'), by rw [List.length_replicate]; exact small1000 (by omega), same_put (same_new s3 nt) (s2.trans (Same.refl _) |>.free hD), ?_, ?_⟩
      · rw [upd_ne ncD, upd_ne ntc]
        exact hc
      · rw [upd_same, List.replicate_succ']
        simp [hlt]
    · rintro H' ⟨s3, hc, hD'⟩
      refine ⟨D, List.replicate (ns.length - 1) true, rfl, SqL.of (by rw [hD', List.map_replicate]), ?_⟩
      rw [all_true]
      exact k _ s3
theorem scM : FnScope ["thing", "high"] ["thing", "high"] (defScope sMarks) := ⟨rfl, rfl, rfl, by decide +kernel, rfl, by decide +kernel, by decide +kernel⟩
theorem ok_marks {f fA : Addr} {fd fdA : FuncData} {t : Tok} (F : Fun K "are_marks" "are_marks" sMarks f fd) (T : Bl mg) (gN : mg "MOST_MARKS" = some (.int 400 t)) (gA : mg "are_ascending" = some (.ref fA)) (kA : PySem.W.keepIn K (.ref fA) = true) (bA : Binds K fdA ["thing", "low", "high"] []) (GA : FnOk P w K mg base CX0 3 fA fdA ["thing", "low", "high"] spAsc) :
    FnOk P w K mg base CX0 4 f fd ["thing", "high"] spMarks := by
  refine F.ok scM (fun vs H Q E h => ?_) (fun cdv A outer s H vs Q E hr h => ?_)
  · obtain ⟨a, ns, hi, rfl, _⟩ := h
    rfl
  · obtain ⟨a, ns, hi, rfl, hS, hl, hb, ha, k⟩ := h
    refine ⟨_, pss_one (ps_ret (pe_and (pe_call GA hr rfl gA kA bA .nil pass0 (pa_cons (pv 0) (pa_cons pe_int (pa_cons (pv 1) pa_nil))))
      (pe_one (pe_cmpR op_le (pe_callB call_len_seq (by rfl) T.len PySem.boot_len (pa_cons (pv 0) pa_nil)) (pe_glob rfl gN (v := V.int 400) ⟨_, rfl⟩) (nomark _))))), ?_⟩
    refine ⟨_, rfl, _, rfl, a, ns, 1, hi, rfl, hS, by omega, hb, ha, fun H1 s1 => ⟨_, rfl, ?_⟩⟩
    refine ifT rfl ?_
    refine ⟨_, rfl, a, _, rfl, .inl (SqL.of (s1 _ _ hS)), _, _, rfl, rfl, ?_⟩
    have e : decide (((ns.map V.int).length : Int) ≤ 400) = true := by
      rw [List.length_map]
      exact decide_eq_true (by omega)
    have z := k _ s1
    rw [← e] at z
    exact z
theorem scSo : FnScope ["thing", "marks"] ["thing", "marks"] (defScope sSome) := ⟨rfl, rfl, rfl, by decide +kernel, rfl, by decide +kernel, by decide +kernel⟩
theorem ok_some {f fA : Addr} {fd fdA : FuncData} (F : Fun K "are_some_of" "are_some_of" sSome f fd) (T : Bl mg) (gA : mg "are_ascending" = some (.ref fA)) (kA : PySem.W.keepIn K (.ref fA) = true) (bA : Binds K fdA ["thing", "low", "high"] []) (GA : FnOk P w K mg base CX0 3 fA fdA ["thing", "low", "high"] spAsc) :
    FnOk P w K mg base CX0 4 f fd ["thing", "marks"] spSome := by
  refine F.ok scSo (fun vs H Q E h => ?_) (fun cdv A outer s H vs Q E hr h => ?_)
  · obtain ⟨a, b, ns, ms, rfl, _⟩ := h
    rfl
  · obtain ⟨a, b, ns, ms, rfl, hS, hM, hl, hm, ha, h1, hsub, k⟩ := h
    have hu := hr.units
    refine ⟨_, pss_cons (ps_if (pt_not (pt_val (pe_call GA hr rfl gA kA bA .nil pass0 (pa_cons (pv 0) (pa_cons pe_int (pa_cons (pe_callBK (cr_maxD rfl (Nat.lt_of_le_of_lt (Nat.add_le_add_left (by decide : 3 ≤ 64) _) hu)) (by rfl) T.max (by decide +kernel) (pa_cons (pv 1) pa_nil) (pk_cons pe_int pk_nil)) pa_nil)))))) (pss_one (ps_ret pe_bl)) pss_nil)
      (pss_one (ps_ret (pe_cmpR op_eq (pe_callB cr_lenS (by rfl) T.len PySem.boot_len (pa_cons (pe_op op_subN (pe_callTy (cr_setOf rfl) (by rfl) T.set (by decide +kernel) (pa_cons (pv 0) pa_nil)) (pe_callTy (cr_setOf rfl) (by rfl) T.set (by decide +kernel) (pa_cons (pv 1) pa_nil))) pa_nil)) pe_int (nomark _)))), ?_⟩
    refine ⟨_, rfl, _, rfl, b, ms, 0, rfl, SqL.of hM, rfl, fun M _ hM2 => ?_⟩
    refine ⟨a, ns, 0, M, rfl, hS, by omega, fun x hx => ⟨Int.le_trans (by decide) (h1 x hx), hM2 x (hsub x hx)⟩, ha, fun H1 s1 => ⟨_, rfl, ?_⟩⟩
    refine ifF rfl ?_
    refine ⟨_, rfl, a, ns, rfl, SqL.of (s1 _ _ hS), by omega, fun p c _ hp => ?_⟩
    have s2 := same_new (o := SetO w p (fun j => decide (j ∈ ns)) c) s1 hp
    refine ⟨_, rfl, b, ms, rfl, SqL.of (s2 _ _ hM), by omega, fun p2 c2 _ hp2 => ?_⟩
    have s3 := same_new (o := SetO w p2 (fun j => decide (j ∈ ms)) c2) s2 hp2
    have n12 : p ≠ p2 := ne_of_none upd_same hp2
    refine ⟨p, p2, _, _, _, _, rfl, rfl, by rw [upd_ne n12]; exact upd_same, upd_same, fun j hj => decide_eq_true (hsub j (of_decide_eq_true hj)), fun p3 hp3 => ?_⟩
    refine ⟨p3, _, 0, rfl, upd_same, rfl, ?_⟩
    have e : decide (V.int ((0 : Nat) : Int) = V.int 0) = true := by simp
    have z := k _ (same_new (o := SetO w p3 (fun _ => false) 0) s3 hp3)
    rw [← e] at z
    exact z
end
end Cw
namespace Cw
open PySem L2
abbrev sInit : Stmt := inClass sRow 0
abbrev sGetM : Stmt := inClass sRow 2
abbrev sEq : Stmt := inClass sRow 6
abbrev sChanged : Stmt := inClass sRow 11
theorem k12 : ¬ (("_length" : Str) = "_marks") := by decide +kernel
theorem k13 : ¬ (("_length" : Str) = "_strict") := by decide +kernel
theorem k23 : ¬ (("_marks" : Str) = "_strict") := by decide +kernel
def flds (n : Int) (l1 l2 : Addr) : List (Str × V) := putF "_strict" (.ref l2) (putF "_marks" (.ref l1) (putF "_length" (.int n) []))
theorem flds_eq (n : Int) (l1 l2 : Addr) : flds n l1 l2 = ([("_length", V.int n), ("_marks", V.ref l1), ("_strict", V.ref l2)] : List (Str × V)) := by
  unfold flds
  rw [show putF "_length" (V.int n) [] = ([("_length", V.int n)] : List (Str × V)) from rfl]
  rw [show putF "_marks" (V.ref l1) ([("_length", V.int n)] : List (Str × V)) = (if ("_length" : Str) = "_marks" then ([("_length", V.ref l1)] : List (Str × V)) else ("_length", V.int n) :: putF "_marks" (V.ref l1) []) from rfl, if_neg k12]
  rw [show putF "_marks" (V.ref l1) [] = ([("_marks", V.ref l1)] : List (Str × V)) from rfl]
  rw [show putF "_strict" (V.ref l2) ([("_length", V.int n), ("_marks", V.ref l1)] : List (Str × V)) = (if ("_length" : Str) = "_strict" then ([("_length", V.ref l2), ("_marks", V.ref l1)] : List (Str × V)) else ("_length", V.int n) :: (if ("_marks" : Str) = "_strict" then ([("_marks", V.ref l2)] : List (Str × V)) else ("_marks", V.ref l1) :: putF "_strict" (V.ref l2) [])) from rfl, if_neg k13, if_neg k23]
  rfl
theorem fl_L (n : Int) (l1 l2 : Addr) : (flds n l1 l2).lookup ("_length" : Str) = some (.int n) := by
  unfold flds
  rw [lookup_putF, if_neg k13, lookup_putF, if_neg k12, lookup_putF, if_pos rfl]
theorem fl_M (n : Int) (l1 l2 : Addr) : (flds n l1 l2).lookup ("_marks" : Str) = some (.ref l1) := by
  unfold flds
  rw [lookup_putF, if_neg k23, lookup_putF, if_pos rfl]
theorem fl_S (n : Int) (l1 l2 : Addr) : (flds n l1 l2).lookup ("_strict" : Str) = some (.ref l2) := by
  unfold flds
  rw [lookup_putF, if_pos rfl]
theorem fl_no (n : Int) (l1 l2 : Addr) {m : Str} (h1 : ¬ m = "_length") (h2 : ¬ m = "_marks") (h3 : ¬ m = "_strict") : (flds n l1 l2).lookup m = none := by
  unfold flds
  rw [lookup_putF, if_neg h3, lookup_putF, if_neg h2, lookup_putF, if_neg h1]
  rfl
/-- what a row is -/
structure Good (n : Int) (ms ss : List Int) : Prop where
  pos : 1 ≤ n
  len : ms.length ≤ 400
  rng : ∀ x ∈ ms, 1 ≤ x ∧ x ≤ n - 1
  asc : Asc ms
  asc2 : Asc ss
  sub : ∀ x ∈ ss, x ∈ ms
theorem Good.len2 {n : Int} {ms ss : List Int} (g : Good n ms ss) : ss.length ≤ 400 :=
  Nat.le_trans (nodup_len (g.asc2.imp fun h e => by omega) g.sub) g.len
/-- a row stands at p -/
def RowAt (C : Addr) (H : Hp) (p : Addr) (n : Int) (ms ss : List Int) : Prop := ∃ dx l1 l2, H p = some (.ins C dx (flds n l1 l2)) ∧ IL H l1 ms ∧ IL H l2 ss
theorem RowAt.same {C : Addr} {H H' : Hp} {p : Addr} {n : Int} {ms ss : List Int} (r : RowAt C H p n ms ss) (s : Same H H') : RowAt C H' p n ms ss := by
  obtain ⟨dx, l1, l2, a, b, c⟩ := r
  exact ⟨dx, l1, l2, s _ _ a, s _ _ b, s _ _ c⟩
/-- a row has been made at p, its lists are new since H -/
def RowNew (C : Addr) (H H' : Hp) (p : Addr) (n : Int) (ms ss : List Int) : Prop := ∃ dx l1 l2, H' p = some (.ins C dx (flds n l1 l2)) ∧ IL H' l1 ms ∧ IL H' l2 ss ∧ H l1 = none ∧ H l2 = none
theorem RowNew.at {C : Addr} {H H' : Hp} {p : Addr} {n : Int} {ms ss : List Int} (r : RowNew C H H' p n ms ss) : RowAt C H' p n ms ss := by
  obtain ⟨dx, l1, l2, a, b, c, _⟩ := r
  exact ⟨dx, l1, l2, a, b, c⟩
theorem none_of {H H' : Hp} {l : Addr} (k : ∀ c o, H c = some o → ∃ o', H' c = some o') (h : H' l = none) : H l = none := by
  cases e : H l with
  | none => rfl
  | some o =>
    obtain ⟨o', z⟩ := k _ _ e
    rw [h] at z
    cases z
theorem RowNew.mono {C : Addr} {H0 H H' : Hp} {p : Addr} {n : Int} {ms ss : List Int} (r : RowNew C H H' p n ms ss) (k : ∀ c o, H0 c = some o → ∃ o', H c = some o') : RowNew C H0 H' p n ms ss := by
  obtain ⟨dx, l1, l2, a, b, c, d, e⟩ := r
  exact ⟨dx, l1, l2, a, b, c, none_of k d, none_of k e⟩
structure Cl (K : PySem.W.Frag) (mg : Str → Option Value) (C : Addr) : Prop where
  cl : Cls K C
  nL : NoAttr K C "_length"
  nM : NoAttr K C "_marks"
  nS : NoAttr K C "_strict"
  mgR : mg "Row" = some (.ref C)
  kit : PySem.W.kitOne K (.ref C) (.ref C) = some true
/-- Row(n, marks, strict): from the new instance on -/
def spInit (C : Addr) : Sp := fun vs H Q _ => ∃ (x dx a b : Addr) (n : Int) (ms ss : List Int), vs = [.ref x, .int n, .ref a, .ref b] ∧ H x = some (.ins C dx []) ∧ IL H a ms ∧ IL H b ss ∧ Good n ms ss ∧
  ∀ H', RowNew C H H' x n ms ss → (∀ c o, H c = some o → c ≠ x → H' c = some o) → Q .non H'
section
variable {P : Program} {w : World} {K : PySem.W.Frag} {mg : Str → Option Value} {base : Heap}
abbrev NI : List Str := ["self", "length", "marks", "strict"]
theorem scIn : FnScope NI NI (defScope sInit) := ⟨rfl, rfl, rfl, by decide +kernel, rfl, by decide +kernel, by decide +kernel⟩
theorem ok_init {f C fI fM fS : Addr} {fd fdI fdM fdS : FuncData} (F : Fun K "__init__" "Row.__init__" sInit f fd) (T : Bl mg) (R : Cl K mg C)
    (gI : mg "is_integer" = some (.ref fI)) (kI : PySem.W.keepIn K (.ref fI) = true) (bI : Binds K fdI ["thing"] []) (GI : FnOk P w K mg base CX0 1 fI fdI ["thing"] spOne)
    (gM : mg "are_marks" = some (.ref fM)) (kM : PySem.W.keepIn K (.ref fM) = true) (bM : Binds K fdM ["thing", "high"] []) (GM : FnOk P w K mg base CX0 4 fM fdM ["thing", "high"] spMarks)
    (gS : mg "are_some_of" = some (.ref fS)) (kS : PySem.W.keepIn K (.ref fS) = true) (bS : Binds K fdS ["thing", "marks"] []) (GS : FnOk P w K mg base CX0 4 fS fdS ["thing", "marks"] spSome) :
    FnOk P w K mg base CX0 5 f fd NI (spInit C) := by
  refine F.ok scIn (fun vs H Q E h => ?_) (fun cdv A outer s H vs Q E hr h => ?_)
  · obtain ⟨x, dx, a, b, n, ms, ss, rfl, _⟩ := h
    rfl
  · obtain ⟨x, dx, a, b, n, ms, ss, rfl, hx, hM, hS, G, k⟩ := h
    have hr1 : Room 1 (A.deeper (PyProof.Rows.envOfC "Row.__init__" (defScope sInit) s.heap.objs.size f cdv)) := hr.mono (by decide)
    refine ⟨_, pss_cons (ps_if (PW.pt (pw_or (pt_not (pt_val (pe_call GI hr1 rfl gI kI bI .nil pass0 (pa_cons (pv 1) pa_nil)))) (pw_or1 (pt_cmpR op_lt (pv 1) pe_int (nomark _))))) pss_never pss_nil)
      (pss_cons (ps_if (pt_not (pt_val (pe_call GM hr rfl gM kM bM .nil pass0 (pa_cons (pv 2) (pa_cons (pe_op op_sub (pv 1) pe_int) pa_nil))))) pss_never pss_nil)
      (pss_cons (ps_if (pt_not (pt_val (pe_call GS hr rfl gS kS bS .nil pass0 (pa_cons (pv 3) (pa_cons (pv 2) pa_nil))))) pss_never pss_nil)
      (pss_cons (ps_fld (pv 0) (pv 1) rfl)
      (pss_cons (ps_fld (pv 0) (pe_callTy call_list_of (by rfl) T.list (by decide +kernel) (pa_cons (pv 2) pa_nil)) rfl)
      (pss_one (ps_fld (pv 0) (pe_callTy call_list_of (by rfl) T.list (by decide +kernel) (pa_cons (pv 3) pa_nil)) rfl)))))), ?_⟩
    have hp := G.pos
    refine ⟨_, rfl, n, rfl, _, rfl, ?_⟩
    refine ifF rfl ?_
    refine ⟨_, rfl, _, _, rfl, rfl, _, rfl, ?_⟩
    refine ifF (decide_eq_false (by omega)) ?_
    refine ⟨_, rfl, _, rfl, _, _, rfl, rfl, a, ms, n - 1, rfl, hM, G.len, G.rng, G.asc, fun H1 s1 => ⟨_, rfl, ?_⟩⟩
    refine ifF rfl ?_
    refine ⟨_, rfl, _, rfl, b, a, ss, ms, rfl, s1 _ _ hS, s1 _ _ hM, G.len2, G.len, G.asc2, (fun y hy => (G.rng y (G.sub y hy)).1), G.sub, fun H2 s2 => ⟨_, rfl, ?_⟩⟩
    refine ifF rfl ?_
    have s12 := s1.trans s2
    refine ⟨_, rfl, _, rfl, x, C, dx, _, rfl, s12 _ _ hx, R.cl, R.nL, (by show 0 < 1000; decide), ?_⟩
    have na : a ≠ x := ne_of hM hx (by intro z; cases z)
    have nb : b ≠ x := ne_of hS hx (by intro z; cases z)
    have hM3 : ∀ o, IL (upd H2 x o) a ms := fun o => by
      show upd H2 x o a = _
      rw [upd_ne na]
      exact s12 _ _ hM
    have hS3 : ∀ o, IL (upd H2 x o) b ss := fun o => by
      show upd H2 x o b = _
      rw [upd_ne nb]
      exact s12 _ _ hS
    refine ⟨_, rfl, a, _, rfl, .inl (SqL.of (hM3 _)), fun l1 h1 => ?_⟩
    have nx1 : x ≠ l1 := ne_of_none upd_same h1
    have nb1 : b ≠ l1 := ne_of_none (hS3 _) h1
    refine ⟨_, rfl, x, C, dx, _, rfl, (by rw [upd_ne nx1]; exact upd_same), R.cl, R.nM, (by show 1 < 1000; decide), ?_⟩
    refine ⟨_, rfl, b, ss.map V.int, rfl, .inl (SqL.of (by rw [upd_ne nb, upd_ne nb1]; exact hS3 _)), fun l2 h2 => ?_⟩
    have nx2 : x ≠ l2 := ne_of_none upd_same h2
    have n12 : l1 ≠ l2 := ne_of_none (show _ = some (HO.lst (ms.map V.int)) by rw [upd_ne (Ne.symm nx1)]; exact upd_same) h2
    refine ⟨_, rfl, x, C, dx, _, rfl, (by rw [upd_ne nx2]; exact upd_same), R.cl, R.nS, (by show 2 < 1000; decide), ?_⟩
    have up : ∀ (H : Hp) (x : Addr) (o' : HO) (c : Addr) (o : HO), H c = some o → ∃ o'', upd H x o' c = some o'' := fun H x o' c o e => by
      by_cases z : c = x
      · exact ⟨o', by rw [z]; exact upd_same⟩
      · exact ⟨o, by rw [upd_ne z]; exact e⟩
    have f1 : H l1 = none := none_of (fun c o e => up _ _ _ _ _ (s12 _ _ e)) h1
    have f2 : H l2 = none := none_of (fun c o e => by
      obtain ⟨o1, e1⟩ := up H2 x (.ins C dx (putF "_length" (V.int n) [])) _ _ (s12 _ _ e)
      obtain ⟨o2, e2⟩ := up _ l1 (.lst (ms.map V.int)) _ _ e1
      exact up _ _ _ _ _ e2) h2
    refine k _ ⟨dx, l1, l2, upd_same, ?_, ?_, f1, f2⟩ ?_
    · show upd _ _ _ l1 = _
      rw [upd_ne (Ne.symm nx1), upd_ne n12, upd_ne (Ne.symm nx1)]
      exact upd_same
    · show upd _ _ _ l2 = _
      rw [upd_ne (Ne.symm nx2)]
      exact upd_same
    · intro c o ec nc
      have e3 : ∀ o', upd H2 x o' c = some o := fun o' => by
        rw [upd_ne nc]
        exact s12 _ _ ec
      have e4 := e3 (.ins C dx (putF "_length" (V.int n) []))
      have ne1 : c ≠ l1 := ne_of_none e4 h1
      rw [upd_ne nc]
      have e5 : upd (upd (upd H2 x (.ins C dx (putF "_length" (V.int n) []))) l1 (.lst (ms.map V.int))) x (.ins C dx (putF "_marks" (V.ref l1) (putF "_length" (V.int n) []))) c = some o := by
        rw [upd_ne nc, upd_ne ne1]
        exact e4
      rw [upd_ne (ne_of_none e5 h2)]
      exact e5
end
end Cw
namespace Cw
open PySem PySem.Spec PyProof.Rows L2
theorem dps_ints {K : PySem.W.Frag} {H : Hp} : ∀ ns : List Int, DpAll K H (ns.map V.int) (ns.map PyData.int)
  | [] => .nil
  | n :: r => .cons (.int n) (dps_ints r)
theorem dp_il {K : PySem.W.Frag} {H : Hp} {a : Addr} {ns : List Int} (h : IL H a ns) : Dp K H (.ref a) (.list (ns.map PyData.int)) := .lst (SqL.of h) (dps_ints ns)
theorem depth_ints : ∀ ns : List Int, PyData.depthAll (ns.map PyData.int) ≤ 1 := fun ns => by
  induction ns with
  | nil => exact Nat.zero_le _
  | cons n r ih =>
    rw [List.map_cons]
    unfold PyData.depthAll PyData.depth
    omega
theorem lay_ints : ∀ ns : List Int, PyData.canLayAll0 (ns.map PyData.int) = true := fun ns => by
  induction ns with
  | nil => rfl
  | cons n r ih =>
    rw [List.map_cons]
    unfold PyData.canLayAll0 PyData.canLay0
    rw [ih]
    rfl
theorem shape_il (ns : List Int) : SeqAt.shaped (.list (ns.map PyData.int)) = true := by
  have h1 : PyData.canLay0 (.list (ns.map PyData.int)) = true := by
    unfold PyData.canLay0
    exact lay_ints ns
  have h2 : PyData.depth (.list (ns.map PyData.int)) ≤ 64 := by
    have z := depth_ints ns
    unfold PyData.depth
    omega
  unfold SeqAt.shaped
  rw [h1, decide_eq_true h2]
  rfl
theorem eqv_il (ns : List Int) : PyData.eqv (.list (ns.map PyData.int)) (.list (ns.map PyData.int)) = true := SeqAt.eqv_refl _ (SeqAt.canLay_of_shaped (shape_il ns))
section
variable {X : Cx} {a b c d : Expr} {ta tb tc td : TE} {pos : Pos}
/-- a op1 b op2 c op3 d -/
def tChain3 (r1 r2 r3 : R2) (ta tb tc td : TE) : TE := fun σ H Q => ta σ H fun x H1 => tb σ H1 fun y H2 => r1 x y H2 fun z H3 => ∃ k, z = .bl k ∧
  (if k = true then tc σ H3 fun u H4 => r2 y u H4 fun z2 H5 => ∃ k2, z2 = .bl k2 ∧ (if k2 = true then td σ H5 fun v H6 => r3 u v H6 Q else Q (.bl false) H5) else Q (.bl false) H3)
theorem pt_chain3 {o1 o2 o3 : CmpOp} {r1 r2 r3 : R2} (h1 : OpR X (compareOp o1) r1) (h2 : OpR X (compareOp o2) r2) (h3 : OpR X (compareOp o3) r3) (ha : PE X a ta) (hb : PE X b tb) (hc : PE X c tc) (hd : PE X d td)
    (hm : lastMarks [o1, o2, o3] [b, c, d] = false := by with_unfolding_all rfl) : PT X (.Compare a [o1, o2, o3] [b, c, d] pos) (tTest (tChain3 r1 r2 r3 ta tb tc td)) := by
  refine ⟨fun pins s σ H Q I h => ?_⟩
  refine isTrue_chain (thn (ha.run pins s σ H _ I h) fun v s1 ⟨x, H1, I1, e1, q1⟩ => test_link (thn (hb.run pins s1 σ H1 _ I1 q1) fun u s2 ⟨y, H2, I2, e2, q2⟩ =>
    thn (h1 pins s2 σ H2 x y v u _ I2 e1 e2 q2) fun d1 s3 ⟨z, H3, I3, e3, k, e, q3⟩ => ?_)) hm
  subst e
  cases e3
  refine wpAny_truthy_bool ?_
  cases k with
  | false =>
    obtain ⟨k', e', q'⟩ := q3
    cases e'
    exact ite_ff ⟨H3, I3, q'⟩
  | true =>
    refine ite_tt (test_link (thn (hc.run pins s3 σ H3 _ I3 q3) fun w' s4 ⟨z', H4, I4, e4, q4⟩ => thn (h2 pins s4 σ H4 y z' u w' _ I4 e2 e4 q4) fun d' s5 ⟨z2, H5, I5, e5, k2, f2, q5⟩ => ?_))
    subst f2
    cases e5
    refine wpAny_truthy_bool ?_
    cases k2 with
    | false =>
      obtain ⟨k', e', q'⟩ := q5
      cases e'
      exact ite_ff ⟨H5, I5, q'⟩
    | true =>
      refine ite_tt (test_last (thn (hd.run pins s5 σ H5 _ I5 q5) fun w2 s6 ⟨y2, H6, I6, e6, q6⟩ => thn (h3 pins s6 σ H6 z' y2 w' w2 _ I6 e4 e6 q6) fun d2 s7 ⟨y3, H7, I7, e7, k3, f3, q7⟩ => ?_))
      subst f3
      cases e7
      exact wpAny_truthy_bool ⟨H7, I7, q7⟩
end
/-- two rows alike -/
def Alike (C : Addr) : Addr → Addr → Hp → Prop := fun a b H => ∃ n ms ss, RowAt C H a n ms ss ∧ RowAt C H b n ms ss
/-- what a row's .marks promises -/
def spGetM (C : Addr) : Sp := fun vs H Q _ => ∃ (a : Addr) (n : Int) (ms ss : List Int), vs = [.ref a] ∧ RowAt C H a n ms ss ∧ ∀ p H', Same H H' → H p = none → IL H' p ms → Q (.ref p) H'
/-- what isinstance asks of the class -/
structure Ci (K : PySem.W.Frag) (C : Addr) : Prop where
  ha : PySem.W.findIn K (.ref C) "__class__" = some (some (.builtin "object.__class__"))
  hn : PySem.W.specialIn K (.builtin "object.__class__") "__get__" = some (some (.builtin "getset_descriptor.__get__"))
  ht : PySem.W.takesIn K (.builtin "object.__class__") = some true
  hm : PySem.W.mroIn K C (.type "object") = some true
section
variable {P : Program} {w : World} {K : PySem.W.Frag} {mg : Str → Option Value} {base : Heap}
theorem scG : FnScope ["self"] ["self"] (defScope sGetM) := ⟨rfl, rfl, rfl, by decide +kernel, rfl, by decide +kernel, by decide +kernel⟩
theorem ok_getM {f C : Addr} {fd : FuncData} (F : Fun K "marks" "Row.marks" sGetM f fd) (T : Bl mg) (R : Cl K mg C) : FnOk P w K mg base CX0 1 f fd ["self"] (spGetM C) := by
  refine F.ok scG (fun vs H Q E h => ?_) (fun cdv A outer s H vs Q E hr h => ?_)
  · obtain ⟨a, n, ms, ss, rfl, _⟩ := h
    rfl
  · obtain ⟨a, n, ms, ss, rfl, ⟨dx, l1, l2, ho, h1, h2⟩, k⟩ := h
    refine ⟨_, pss_one (ps_ret (pe_callTy call_list_of (by rfl) T.list (by decide +kernel) (pa_cons (pe_fld (pv 0) rfl) pa_nil))), ?_⟩
    refine ⟨_, rfl, a, C, dx, _, _, rfl, ho, R.cl, R.nM, fl_M _ _ _, l1, _, rfl, .inl (SqL.of h1), fun p hp => ?_⟩
    exact k p _ (same_new (Same.refl H) hp) hp upd_same
theorem scE : FnScope ["self", "other"] ["self", "other"] (defScope sEq) := ⟨rfl, rfl, rfl, by decide +kernel, rfl, by decide +kernel, by decide +kernel⟩
theorem ok_eq {f C : Addr} {fd : FuncData} (F : Fun K "__eq__" "Row.__eq__" sEq f fd) (T : Bl mg) (R : Cl K mg C) (N : Ci K C) : FnOk P w K mg base CX0 1 f fd ["self", "other"] (spEq (Alike C)) := by
  refine F.ok scE (fun vs H Q E h => ?_) (fun cdv A outer s H vs Q E hr h => ?_)
  · obtain ⟨a, b, rfl, _⟩ := h
    rfl
  · obtain ⟨a, b, rfl, ⟨n, ms, ss, ⟨dx, l1, l2, ho, h1, h2⟩, ⟨dy, m1, m2, hp, g1, g2⟩⟩, k⟩ := h
    refine ⟨_, pss_cons (ps_if (pt_not (pt_val (pe_callB call_isi (by rfl) T.isi (by decide +kernel) (pa_cons (pv 1) (pa_cons (pe_glob (by rfl) R.mgR (v := V.ref C) rfl) pa_nil))))) (pss_one (ps_ret pe_bl)) pss_nil)
      (pss_cons (ps_if (pt_cmpR op_ne (pe_fld (pv 0) rfl) (pe_fld (pv 1) rfl) (nomark _)) (pss_one (ps_ret pe_bl)) pss_nil)
      (pss_one (ps_ret (pe_and (pe_cmpR (op_eqD hr.units) (pe_fld (pv 0) rfl) (pe_fld (pv 1) rfl) (nomark _)) (pe_one (pe_cmpR (op_eqD hr.units) (pe_fld (pv 0) rfl) (pe_fld (pv 1) rfl) (nomark _))))))), ?_⟩
    refine ⟨_, rfl, _, _, _, _, true, rfl, ClsV.own _, .base (.ins hp R.cl N.ha N.hn N.ht N.hm), R.kit, _, rfl, ?_⟩
    refine ifF rfl ?_
    refine ⟨_, rfl, a, C, dx, _, _, rfl, ho, R.cl, R.nL, fl_L _ _ _, _, rfl, b, C, dy, _, _, rfl, hp, R.cl, R.nL, fl_L _ _ _, rfl, _, rfl, ?_⟩
    refine ifF (by simp) ?_
    refine ⟨_, rfl, a, C, dx, _, _, rfl, ho, R.cl, R.nM, fl_M _ _ _, _, rfl, b, C, dy, _, _, rfl, hp, R.cl, R.nM, fl_M _ _ _, _, _, dp_il h1, dp_il g1, shape_il _, shape_il _, _, rfl, ?_⟩
    refine ifT (eqv_il ms) ?_
    refine ⟨_, rfl, a, C, dx, _, _, rfl, ho, R.cl, R.nS, fl_S _ _ _, _, rfl, b, C, dy, _, _, rfl, hp, R.cl, R.nS, fl_S _ _ _, _, _, dp_il h2, dp_il g2, shape_il _, shape_il _, ?_⟩
    have z := k H Ext.rfl'
    rw [← eqv_il ss] at z
    exact z
end
end Cw
namespace Cw
open PySem L2
theorem same_ins {H H1 H' : Hp} {x dx C : Addr} (s : Same H H1) (nx : H1 x = none) (nd : H1 dx = none) (k : ∀ c o, upd (upd H1 dx (.own x)) x (.ins C dx []) c = some o → c ≠ x → H' c = some o) : Same H H' := fun c o e => by
  have z := s _ _ e
  refine k c o ?_ (ne_of_none z nx)
  rw [upd_ne (ne_of_none z nx), upd_ne (ne_of_none z nd)]
  exact z
theorem ints_app {ns : List Int} {z : Int} : ns.map V.int ++ [V.int z] = (ns ++ [z]).map V.int := by rw [List.map_append]; rfl
abbrev sJar : Stmt := top 52
abbrev sDip : Stmt := top 53
abbrev sThree : Stmt := top 54
abbrev sSmall : Stmt := top 0
abbrev sGreat : Stmt := top 0
def But (H H' : Hp) (b : Addr) : Prop := ∀ a o, H a = some o → a ≠ b → H' a = some o
theorem But.refl (H : Hp) (b : Addr) : But H H b := fun _ _ e _ => e
theorem But.trans {H H1 H2 : Hp} {b : Addr} (x : But H H1 b) (y : But H1 H2 b) : But H H2 b := fun a o e n => y a o (x a o e n) n
theorem But.of {H H1 : Hp} {b : Addr} (x : Same H H1) : But H H1 b := fun a o e _ => x a o e
theorem But.upd {H H1 : Hp} {b : Addr} {o : HO} (x : But H H1 b) : But H (upd H1 b o) b := fun a u e n => by
  rw [upd_ne n]
  exact x a u e n
theorem But.put {H H1 : Hp} {b p : Addr} {o : HO} (x : But H H1 b) (h : H p = none) : But H (L2.upd H1 p o) b := fun a u e n => by
  rw [upd_ne (ne_of_none e h)]
  exact x a u e n
theorem But.new {H H1 : Hp} {b p : Addr} {o : HO} (x : But H H1 b) (h : H1 p = none) : But H (L2.upd H1 p o) b := fun a u e n => by
  rw [upd_ne (ne_of_none (x a u e n) h)]
  exact x a u e n
def CPowW (i j : Int) : Prop := 0 ≤ j ∧ ((Builtin.Int.intBits i : Nat) : Int) * j ≤ 2 ^ 27
theorem op_powW {X : Cx} : OpR X (binaryOp .Pow) (rI CPowW fun i j => .int (i ^ j.toNat)) := opI fun _ _ _ _ _ _ _ hc q => PyProof.Rows.pow_int hc.1 hc.2 q
theorem cube_ok {i : Int} (h0 : 0 ≤ i) (h1 : i < 2 ^ 250) : CPowW i 3 := by
  have z : Builtin.Int.intBits i ≤ 250 := PyProof.Rows.intBits_le (k := 250) (by
    have e : ((2 ^ 250 : Nat) : Int) = 2 ^ 250 := by norm_cast
    omega)
  refine ⟨by decide, ?_⟩
  have e : (2 : Int) ^ 27 = 134217728 := by decide
  omega
/-- the draws: what is left of the cell, the stirred number, the turns; k more draws are surely allowed -/
def JarAt (H : Hp) (a : Addr) (k : Nat) : Prop := ∃ r m n : Int, H a = some (.lst [.int r, .int m, .int n]) ∧ 0 ≤ m ∧ m < 2 ^ 200 ∧ 0 ≤ n ∧ n + k ≤ 5000
theorem JarAt.mono {H : Hp} {a : Addr} {k j : Nat} (h : JarAt H a k) (l : j ≤ k) : JarAt H a j := by
  obtain ⟨r, m, n, e, h0, h1, h2, h3⟩ := h
  exact ⟨r, m, n, e, h0, h1, h2, by omega⟩
theorem JarAt.same {H H' : Hp} {a : Addr} {k : Nat} (h : JarAt H a k) (s : Same H H') : JarAt H' a k := by
  obtain ⟨r, m, n, e, q⟩ := h
  exact ⟨r, m, n, s _ _ e, q⟩
theorem JarAt.put {H : Hp} {a p : Addr} {o : HO} {k : Nat} (h : JarAt H a k) (n : a ≠ p) : JarAt (upd H p o) a k := by
  obtain ⟨r, m, i, e, q⟩ := h
  exact ⟨r, m, i, by rw [upd_ne n]; exact e, q⟩
theorem JarAt.ne {H : Hp} {a p : Addr} {k : Nat} (h : JarAt H a k) (n : H p = none) : a ≠ p := by
  obtain ⟨r, m, i, e, q⟩ := h
  exact ne_of_none e n
theorem JarAt.no {H : Hp} {a p : Addr} {o : HO} {k : Nat} (h : JarAt H a k) (e : H p = some o) (z : ∀ r m n : Int, o ≠ .lst [.int r, .int m, .int n]) : p ≠ a := fun x => by
  obtain ⟨r, m, i, f, q⟩ := h
  rw [x, f] at e
  exact z r m i (Option.some.inj e).symm
theorem pos47 : (0 : Int) < 10 ^ Int.toNat 47 + 91 := by decide +kernel
theorem pos46 : (0 : Int) < 10 ^ Int.toNat 46 + 79 := by decide +kernel
def spDip : Sp := fun vs H Q _ => ∃ (a : Addr) (k : Nat) (w : Int), vs = [.ref a, .int w] ∧ JarAt H a (k + 1) ∧ 0 < w ∧ w < 2 ^ 120 ∧ ∀ (v : Int) (H' : Hp), 0 ≤ v → v < w → JarAt H' a k → But H H' a → Q (.int v) H'
/-- the script's jar -/
def spJar (K : PySem.W.Frag) : Sp := fun vs H Q _ => ∃ (a : Addr) (ns : List Int) (i : Nat), vs = [.ref a, .int i] ∧ SqL K H a (ns.map V.int) ∧ i ≤ ns.length ∧ ns.length ≤ 63 ∧ ∀ p H', Same H H' → H p = none → JarAt H' p 5000 → Q (.ref p) H'
section
variable {P : Program} {w : World} {K : PySem.W.Frag} {mg : Str → Option Value} {base : Heap}
theorem scD : FnScope ["jar", "many", "digit", "mixed"] ["jar", "many"] (defScope sDip) := ⟨rfl, rfl, rfl, by decide +kernel, rfl, by decide +kernel, by decide +kernel⟩
theorem ok_dip {f : Addr} {fd : FuncData} (F : Fun K "_law_dip" "_law_dip" sDip f fd) (T : Bl mg) : FnOk P w K mg base CX0 1 f fd ["jar", "many"] spDip := by
  refine F.ok scD (fun vs H Q E h => ?_) (fun cdv A outer s H vs Q E hr h => ?_)
  · obtain ⟨a, k, w, rfl, _⟩ := h
    rfl
  · obtain ⟨a, k, w, rfl, ⟨r, m, n, hj, m0, m1, n0, n1⟩, w0, w1, q⟩ := h
    have wn : w.natAbs < 2 ^ 120 := by
      have e : ((2 ^ 120 : Nat) : Int) = 2 ^ 120 := by norm_cast
      omega
    have dv : ∀ i, CDivW i w := fun i => wide_div w0 wn (by decide) (by decide)
    refine ⟨_, pss_cons (ps_if (pt_cmpR op_gt (pe_ix ix_list (pv 0) pe_int (fun _ _ => rfl)) pe_int (nomark _))
        (pss_cons (ps_set (i := 2) scD.nd rfl (Or.inl rfl) (pe_op op_mod (pe_callTy call_int1 (by rfl) T.int (by decide +kernel) (pa_cons (pe_ix ix_list (pv 0) pe_int (fun _ _ => rfl)) pa_nil)) (pv 1)))
        (pss_cons (ps_asg (pe_op op_fdivW (pe_ix ix_list (pv 0) pe_int (fun _ _ => rfl)) (pv 1)) (pg_sub (pv 0) pe_int L2.set_list))
        (pss_one (ps_ret (pv 2))))) pss_nil)
      (pss_cons (ps_asg (pe_op op_add (pe_ix ix_list (pv 0) pe_int (fun _ _ => rfl)) pe_int) (pg_sub (pv 0) pe_int L2.set_list))
      (pss_cons (ps_set (i := 3) scD.nd rfl (Or.inl rfl) (pe_op op_mod (pe_callTy call_int1 (by rfl) T.int (by decide +kernel) (pa_cons (pe_op op_powW (pe_op op_add (pe_ix ix_list (pv 0) pe_int (fun _ _ => rfl)) (pe_op op_mul pe_int (pe_ix ix_list (pv 0) pe_int (fun _ _ => rfl)))) pe_int) pa_nil)) (pe_op op_add (pe_op op_pow pe_int pe_int) pe_int)))
      (pss_cons (ps_set (i := 3) scD.nd rfl (Or.inl rfl) (pe_op op_mod (pe_callTy call_int1 (by rfl) T.int (by decide +kernel) (pa_cons (pe_op op_powW (pe_op op_add (pv 3) (pe_op op_mul pe_int (pe_ix ix_list (pv 0) pe_int (fun _ _ => rfl)))) pe_int) pa_nil)) (pe_op op_add (pe_op op_pow pe_int pe_int) pe_int)))
      (pss_one (ps_ret (pe_op op_mod (pe_callTy call_int1 (by rfl) T.int (by decide +kernel) (pa_cons (pe_op op_fdivW (pv 3) pe_int) pa_nil)) (pv 1))))))), ?_⟩
    refine ⟨_, rfl, a, _, 0, _, rfl, rfl, SqL.of hj, rfl, _, _, rfl, rfl, _, rfl, ?_⟩
    by_cases hr0 : r > 0
    · refine ifT (decide_eq_true hr0) ?_
      refine ⟨_, rfl, a, _, 0, _, rfl, rfl, SqL.of hj, rfl, .inl ⟨_, rfl, _, rfl, _, _, rfl, rfl, w0, ?_⟩⟩
      refine ⟨_, rfl, a, _, 0, _, rfl, rfl, SqL.of hj, rfl, _, rfl, _, _, rfl, rfl, dv _, _, rfl, a, _, 0, 0, rfl, rfl, hj, rfl, ?_⟩
      refine ⟨_, rfl, ?_⟩
      exact q _ _ (Int.emod_nonneg _ (by omega)) (Int.emod_lt_of_pos _ w0) ⟨_, m, n, upd_same, m0, m1, n0, by omega⟩ (But.refl H a).upd
    · refine ifF (decide_eq_false hr0) ?_
      refine ⟨_, rfl, a, _, 2, _, rfl, rfl, SqL.of hj, rfl, _, _, rfl, rfl, _, rfl, a, _, 2, 2, rfl, rfl, hj, rfl, ?_⟩
      have hj2 : upd H a (.lst [.int r, .int m, .int (n + 1)]) a = some (.lst [.int r, .int m, .int (n + 1)]) := upd_same
      refine ⟨_, rfl, a, _, 1, _, rfl, rfl, SqL.of hj2, rfl, _, rfl, a, _, 2, _, rfl, rfl, SqL.of hj2, rfl, _, _, rfl, rfl, .inl ⟨by decide, by decide⟩, _, _, rfl, rfl, ?_⟩
      have e200 : (2 : Int) ^ 200 + 60000049 * 5001 < 2 ^ 250 := by decide +kernel
      refine ⟨_, _, rfl, rfl, cube_ok (by omega) (by omega), .inl ⟨_, rfl, _, _, rfl, rfl, ⟨by decide, by decide, by decide⟩, _, _, rfl, rfl, _, _, rfl, rfl, pos47, ?_⟩⟩
      generalize hx : ((m + 60000049 * (n + 1)) ^ Int.toNat 3) % (10 ^ Int.toNat 47 + 91) = x
      have x0 : 0 ≤ x := by
        rw [← hx]
        exact Int.emod_nonneg _ (by decide +kernel)
      have x1 : x < 10 ^ Int.toNat 47 + 91 := by
        rw [← hx]
        exact Int.emod_lt_of_pos _ (by decide +kernel)
      have e47 : (10 : Int) ^ Int.toNat 47 + 91 + 35000021 * 5001 < 2 ^ 250 := by decide +kernel
      refine ⟨_, rfl, _, rfl, a, _, 2, _, rfl, rfl, SqL.of hj2, rfl, _, _, rfl, rfl, .inl ⟨by decide, by decide⟩, _, _, rfl, rfl, _, _, rfl, rfl, cube_ok (by omega) (by omega), .inl ⟨_, rfl, _, _, rfl, rfl, ⟨by decide, by decide, by decide⟩, _, _, rfl, rfl, _, _, rfl, rfl, pos46, ?_⟩⟩
      refine ⟨_, rfl, _, _, rfl, rfl, wide_div (b := 31) (by decide) (by decide) (by decide) (by decide), .inl ⟨_, rfl, _, rfl, _, _, rfl, rfl, w0, ?_⟩⟩
      exact q _ _ (Int.emod_nonneg _ (by omega)) (Int.emod_lt_of_pos _ w0) ⟨r, m, n + 1, upd_same, m0, m1, by omega, by omega⟩ (But.refl H a).upd
end
end Cw
namespace Cw
open PySem L2
theorem at_of2 {α : Type} {xs : List α} {z : Int} {j : Nat} {v : α} (e : z = (j : Int)) (h : xs[j]? = some v) : atI xs z = some v := by
  rw [e]
  exact atI_nat h
theorem at_lt {α : Type} {xs : List α} {z : Int} (h0 : 0 ≤ z) (h1 : z < xs.length) : ∃ v, atI xs z = some v ∧ v ∈ xs := by
  have hz : z.toNat < xs.length := by omega
  have hj : z = ((z.toNat : Nat) : Int) := by omega
  exact ⟨xs[z.toNat], at_of2 hj (List.getElem?_eq_getElem hz), List.getElem_mem hz⟩
/-- one of three ints -/
theorem at3 {z x y u : Int} (h0 : 0 ≤ z) (h1 : z < 3) : ∃ v, atI [V.int x, V.int y, V.int u] z = some (V.int v) ∧ (v = x ∨ v = y ∨ v = u) := by
  obtain ⟨v, e, m⟩ := at_lt (xs := [V.int x, V.int y, V.int u]) h0 (by simpa using h1)
  simp only [List.mem_cons, List.not_mem_nil, or_false] at m
  rcases m with rfl | rfl | rfl
  · exact ⟨x, e, .inl rfl⟩
  · exact ⟨y, e, .inr (.inl rfl)⟩
  · exact ⟨u, e, .inr (.inr rfl)⟩
def spThree : Sp := fun vs H Q _ => ∃ (a : Addr) (k : Nat) (w : Int), vs = [.ref a, .int w] ∧ JarAt H a (k + 7) ∧ 0 < w ∧ w < 2 ^ 120 ∧
  ∀ (p : Addr) (H' : Hp) (l n g : Int), 1 ≤ l → l ≤ w → l ≤ n → n ≤ 2 * w + 3 → n ≤ g → g ≤ 3 * w + 6 → JarAt H' a k → But H H' a → H' p = some (.tup [.int l, .int n, .int g]) → H p = none → Q (.ref p) H'
theorem pos43 : (0 : Int) < 10 ^ Int.toNat 43 + 57 := by decide +kernel
section
variable {P : Program} {w : World} {K : PySem.W.Frag} {mg : Str → Option Value} {base : Heap}
theorem scJ : FnScope ["script", "k", "cell_here"] ["script", "k"] (defScope sJar) := ⟨rfl, rfl, rfl, by decide +kernel, rfl, by decide +kernel, by decide +kernel⟩
theorem ok_jar {f : Addr} {fd : FuncData} (F : Fun K "_law_jar" "_law_jar" sJar f fd) (T : Bl mg) : FnOk P w K mg base CX0 1 f fd ["script", "k"] (spJar K) := by
  refine F.ok scJ (fun vs H Q E h => ?_) (fun cdv A outer s H vs Q E hr h => ?_)
  · obtain ⟨a, ns, i, rfl, _⟩ := h
    rfl
  · obtain ⟨a, ns, i, rfl, hS, hi, hl, q⟩ := h
    refine ⟨_, pss_cons (ps_set (i := 2) scJ.nd rfl (Or.inl rfl) (pe_ifExp (pt_cmpR op_lt (pv 1) (pe_callB call_len_seq (by rfl) T.len PySem.boot_len (pa_cons (pv 0) pa_nil)) (nomark _))
        (pe_callB call_abs (by rfl) T.abs (by decide +kernel) (pa_cons (pe_ix ix_list (pv 0) (pv 1) (fun _ _ => rfl)) pa_nil)) pe_int))
      (pss_one (ps_ret (pe_lst (pa_cons (pe_callB (call_max2 rfl) (by rfl) T.max (by decide +kernel) (pa_cons pe_int (pa_cons (pe_op op_sub (pv 2) (pe_op op_pow pe_int pe_int)) pa_nil)))
        (pa_cons (pe_op op_add (pe_op op_mul (pe_op op_mod (pe_callTy call_int1 (by rfl) T.int (by decide +kernel) (pa_cons (pv 2) pa_nil)) (pe_op op_add (pe_op op_pow pe_int pe_int) pe_int)) pe_int) (pe_op op_mul pe_int (pv 1)))
        (pa_cons pe_int pa_nil)))))), ?_⟩
    have main : ∀ c : Int, 0 ≤ (c % (10 ^ Int.toNat 43 + 57)) * 101 + 70001 * (i : Int) ∧ (c % (10 ^ Int.toNat 43 + 57)) * 101 + 70001 * (i : Int) < 2 ^ 200 := fun c => by
      have x0 := Int.emod_nonneg c (b := 10 ^ Int.toNat 43 + 57) (by decide +kernel)
      have x1 := Int.emod_lt_of_pos c pos43
      have e : ((10 : Int) ^ Int.toNat 43 + 57) * 101 + 70001 * 64 < 2 ^ 200 := by decide +kernel
      omega
    refine ⟨_, rfl, _, rfl, a, _, rfl, .inl hS, _, _, rfl, rfl, _, rfl, ?_⟩
    by_cases hi2 : i < ns.length
    · refine ifT (decide_eq_true (by rw [List.length_map]; omega)) ?_
      have e1 : (ns.map V.int)[i]? = some (V.int ns[i]) := by
        rw [List.getElem?_map, List.getElem?_eq_getElem hi2]
        rfl
      refine ⟨_, rfl, _, rfl, a, _, _, _, rfl, rfl, hS, at_of2 (j := i) rfl e1, _, rfl, ?_⟩
      generalize (if ns[i] < 0 then -ns[i] else ns[i]) = c
      refine ⟨_, rfl, _, _, rfl, rfl, ⟨by decide, by decide, by decide⟩, _, _, rfl, rfl, _, _, rfl, ?_⟩
      refine ⟨_, rfl, .inl ⟨_, rfl, _, _, rfl, rfl, ⟨by decide, by decide, by decide⟩, _, _, rfl, rfl, _, _, rfl, rfl, pos43, _, _, rfl, rfl, .inr ⟨by decide, by decide⟩, _, rfl, _, _, rfl, rfl, .inl ⟨by decide, by decide⟩, _, _, rfl, rfl, ?_⟩⟩
      refine ⟨(by show 3 ≤ sizeLine; decide), fun p hp => ?_⟩
      exact q p _ (same_new (Same.refl H) hp) hp ⟨_, _, 0, upd_same, (main c).1, (main c).2, by decide, by decide⟩
    · refine ifF (decide_eq_false (by rw [List.length_map]; omega)) ?_
      refine ⟨_, rfl, _, _, rfl, rfl, ⟨by decide, by decide, by decide⟩, _, _, rfl, rfl, _, _, rfl, ?_⟩
      refine ⟨_, rfl, .inl ⟨_, rfl, _, _, rfl, rfl, ⟨by decide, by decide, by decide⟩, _, _, rfl, rfl, _, _, rfl, rfl, pos43, _, _, rfl, rfl, .inr ⟨by decide, by decide⟩, _, rfl, _, _, rfl, rfl, .inl ⟨by decide, by decide⟩, _, _, rfl, rfl, ?_⟩⟩
      refine ⟨(by show 3 ≤ sizeLine; decide), fun p hp => ?_⟩
      exact q p _ (same_new (Same.refl H) hp) hp ⟨_, _, 0, upd_same, (main 0).1, (main 0).2, by decide, by decide⟩
theorem scT : FnScope ["jar", "wide", "least", "normal"] ["jar", "wide"] (defScope sThree) := ⟨rfl, rfl, rfl, by decide +kernel, rfl, by decide +kernel, by decide +kernel⟩
theorem ok_three {f fD : Addr} {fd fdD : FuncData} (F : Fun K "_law_three" "_law_three" sThree f fd) (gD : mg "_law_dip" = some (.ref fD)) (kD : PySem.W.keepIn K (.ref fD) = true) (bD : Binds K fdD ["jar", "many"] []) (GD : FnOk P w K mg base CX0 1 fD fdD ["jar", "many"] spDip) :
    FnOk P w K mg base CX0 2 f fd ["jar", "wide"] spThree := by
  refine F.ok scT (fun vs H Q E h => ?_) (fun cdv A outer s H vs Q E hr h => ?_)
  · obtain ⟨a, k, w, rfl, _⟩ := h
    rfl
  · obtain ⟨a, k, w, rfl, J, w0, w1, q⟩ := h
    refine ⟨_, pss_cons (ps_set (i := 2) scT.nd rfl (Or.inl rfl) (pe_op op_add pe_int (pe_call GD hr rfl gD kD bD .nil pass0 (pa_cons (pv 0) (pa_cons (pv 1) pa_nil)))))
      (pss_cons (ps_set (i := 3) scT.nd rfl (Or.inl rfl) (pe_op op_add (pv 2) (pe_ix ix_list (pe_lst (pa_cons pe_int (pa_cons (pe_call GD hr rfl gD kD bD .nil pass0 (pa_cons (pv 0) (pa_cons (pv 1) pa_nil))) (pa_cons (pe_call GD hr rfl gD kD bD .nil pass0 (pa_cons (pv 0) (pa_cons pe_int pa_nil))) pa_nil))))
        (pe_call GD hr rfl gD kD bD .nil pass0 (pa_cons (pv 0) (pa_cons pe_int pa_nil))) (fun _ _ => rfl))))
      (pss_one (ps_ret (pe_tup (pa_cons (pv 2) (pa_cons (pv 3) (pa_cons (pe_op op_add (pv 3) (pe_ix ix_list (pe_lst (pa_cons pe_int (pa_cons (pe_call GD hr rfl gD kD bD .nil pass0 (pa_cons (pv 0) (pa_cons (pv 1) pa_nil))) (pa_cons (pe_op op_add pe_int (pe_call GD hr rfl gD kD bD .nil pass0 (pa_cons (pv 0) (pa_cons pe_int pa_nil)))) pa_nil))))
        (pe_call GD hr rfl gD kD bD .nil pass0 (pa_cons (pv 0) (pa_cons pe_int pa_nil))) (fun _ _ => rfl))) pa_nil))))))), ?_⟩
    have t3 : (0 : Int) < 3 ∧ (3 : Int) < 2 ^ 120 := ⟨by decide, by decide⟩
    refine ⟨_, rfl, _, rfl, a, k + 6, w, rfl, J, w0, w1, fun v1 H1 a1 b1 J1 B1 => ⟨_, _, rfl, rfl, ?_⟩⟩
    refine ⟨_, rfl, _, rfl, _, rfl, a, k + 5, w, rfl, J1, w0, w1, fun v2 H2 a2 b2 J2 B2 => ?_⟩
    refine ⟨_, rfl, a, k + 4, 3, rfl, J2, t3.1, t3.2, fun v3 H3 a3 b3 J3 B3 => ⟨(by show 3 ≤ sizeLine; decide), fun p hp => ?_⟩⟩
    have np : a ≠ p := J3.ne hp
    have Bp := ((B1.trans B2).trans B3).new (o := .lst [.int 0, .int v2, .int v3]) hp
    refine ⟨_, rfl, a, k + 3, 3, rfl, J3.put np, t3.1, t3.2, fun v4 H4 a4 b4 J4 B4 => ?_⟩
    obtain ⟨i1, e1, c1⟩ := at3 (x := 0) (y := v2) (u := v3) a4 b4
    refine ⟨p, _, _, _, rfl, rfl, SqL.of (B4 _ _ upd_same np.symm), e1, _, _, rfl, rfl, ?_⟩
    refine ⟨_, rfl, _, rfl, _, rfl, _, rfl, _, rfl, a, k + 2, w, rfl, J4, w0, w1, fun v5 H5 a5 b5 J5 B5 => ?_⟩
    refine ⟨_, rfl, a, k + 1, 3, rfl, J5, t3.1, t3.2, fun v6 H6 a6 b6 J6 B6 => ⟨_, _, rfl, rfl, (by show 3 ≤ sizeLine; decide), fun p2 hp2 => ?_⟩⟩
    have np2 : a ≠ p2 := J6.ne hp2
    have Bq := (((Bp.trans B4).trans B5).trans B6).new (o := .lst [.int 0, .int v5, .int (1 + v6)]) hp2
    refine ⟨_, rfl, a, k, 3, rfl, J6.put np2, t3.1, t3.2, fun v7 H7 a7 b7 J7 B7 => ?_⟩
    obtain ⟨i2, e2, c2⟩ := at3 (x := 0) (y := v5) (u := 1 + v6) a7 b7
    refine ⟨p2, _, _, _, rfl, rfl, SqL.of (B7 _ _ upd_same np2.symm), e2, _, _, rfl, rfl, (by show 3 ≤ sizeLine; decide), fun p3 hp3 => ?_⟩
    have Bz := (Bq.trans B7).new (o := .tup [.int (1 + v1), .int (1 + v1 + i1), .int (1 + v1 + i1 + i2)]) hp3
    have hH : H p3 = none := by
      cases e : H p3 with
      | none => rfl
      | some o =>
        have n : p3 ≠ a := fun x => by
          have z := J7.ne hp3
          exact z x.symm
        have z := (Bq.trans B7) _ _ e n
        rw [hp3] at z
        cases z
    refine q p3 _ (1 + v1) (1 + v1 + i1) (1 + v1 + i1 + i2) (by omega) (by omega) (by omega) (by omega) (by omega) (by omega) (J7.put (J7.ne hp3)) Bz upd_same hH
end
end Cw
namespace Cw
open PySem L2
abbrev sHeap : Stmt := top 0
/-! ## raw rows: a length, pairs of a place and a kind, three numbers -/
abbrev PrAt (H : Hp) : List Addr → List (Int × Int) → Prop := Paired (fun t (p : Int × Int) => H t = some (.tup [.int p.1, .int p.2]))
theorem PrAt.imp {H H' : Hp} : ∀ {ts : List Addr} {ps : List (Int × Int)}, PrAt H ts ps → (∀ t (p : Int × Int), H t = some (.tup [.int p.1, .int p.2]) → H' t = some (.tup [.int p.1, .int p.2])) → PrAt H' ts ps
  | _, _, .nil, _ => .nil
  | _, _, .cons h r, k => .cons (k _ _ h) (PrAt.imp r k)
theorem PrAt.app {H : Hp} : ∀ {ts us : List Addr} {ps qs : List (Int × Int)}, PrAt H ts ps → PrAt H us qs → PrAt H (ts ++ us) (ps ++ qs)
  | _, _, _, _, .nil, h => h
  | _, _, _, _, .cons a r, h => .cons a (PrAt.app r h)
theorem PrAt.len {H : Hp} : ∀ {ts : List Addr} {ps : List (Int × Int)}, PrAt H ts ps → ts.length = ps.length
  | _, _, .nil => rfl
  | _, _, .cons _ r => by rw [List.length_cons, List.length_cons, PrAt.len r]
theorem PrAt.get {H : Hp} : ∀ {ts : List Addr} {ps : List (Int × Int)} {i : Nat} {v : V}, PrAt H ts ps → (ts.map V.ref)[i]? = some v → ∃ t p, v = .ref t ∧ ps[i]? = some p ∧ H t = some (.tup [.int p.1, .int p.2])
  | _, _, 0, v, .cons (a := t) (b := p) a _, e => ⟨t, p, (Option.some.inj e).symm, rfl, a⟩
  | _, _, i + 1, v, .cons _ r, e => by
    obtain ⟨t, p, h1, h2, h3⟩ := PrAt.get (i := i) r e
    exact ⟨t, p, h1, h2, h3⟩
  | _, _, _, _, .nil, e => by simp at e
def RawAt (H : Hp) (p : Addr) (n : Int) (prs : List (Int × Int)) : Prop := ∃ l t ts, H p = some (.tup [.int n, .ref l, .ref t]) ∧ H l = some (.lst (ts.map V.ref)) ∧ PrAt H ts prs
theorem RawAt.imp {H H' : Hp} {p : Addr} {n : Int} {prs : List (Int × Int)} (r : RawAt H p n prs) (k : ∀ c o, H c = some o → (∀ r m n : Int, o ≠ .lst [.int r, .int m, .int n]) → H' c = some o) : RawAt H' p n prs := by
  obtain ⟨l, t, ts, h1, h2, h3⟩ := r
  refine ⟨l, t, ts, k _ _ h1 (fun _ _ _ z => nomatch z), k _ _ h2 (fun r m n z => ?_), h3.imp fun t p h => k _ _ h (fun _ _ _ z => nomatch z)⟩
  injection z with z
  cases ts with
  | nil => cases z
  | cons t ts => cases z
theorem RawAt.same {H H' : Hp} {p : Addr} {n : Int} {prs : List (Int × Int)} (r : RawAt H p n prs) (s : Same H H') : RawAt H' p n prs := r.imp fun c o e _ => s c o e
theorem RawAt.but {H H' : Hp} {p a : Addr} {k : Nat} {n : Int} {prs : List (Int × Int)} (r : RawAt H p n prs) (J : JarAt H a k) (s : But H H' a) : RawAt H' p n prs := r.imp fun c o e z => s c o e (J.no e z)
structure GoodP (n : Int) (prs : List (Int × Int)) : Prop where
  pos : 1 ≤ n
  len : prs.length ≤ 400
  rng : ∀ q ∈ prs, 1 ≤ q.1 ∧ q.1 ≤ n - 1 ∧ (q.2 = 1 ∨ q.2 = 2)
  asc : Asc (prs.map (·.1))
abbrev marksOf (prs : List (Int × Int)) : List Int := prs.map (·.1)
abbrev strictOf (prs : List (Int × Int)) : List Int := (prs.filter fun q => decide (q.2 = 2)).map (·.1)
theorem GoodP.good {n : Int} {prs : List (Int × Int)} (g : GoodP n prs) : Good n (marksOf prs) (strictOf prs) := by
  refine ⟨g.pos, by rw [List.length_map]; have := g.len; omega, fun x hx => ?_, g.asc, ?_, fun x hx => ?_⟩
  · obtain ⟨q, hq, rfl⟩ := List.mem_map.mp hx
    have := g.rng q hq
    exact ⟨this.1, this.2.1⟩
  · have z : List.Sublist (strictOf prs) (marksOf prs) := (List.filter_sublist).map _
    exact g.asc.sublist z
  · obtain ⟨q, hq, rfl⟩ := List.mem_map.mp hx
    exact List.mem_map.mpr ⟨q, (List.mem_filter.mp hq).1, rfl⟩
def spHeap (C : Addr) : Sp := fun vs H Q _ => ∃ (p : Addr) (n : Int) (prs : List (Int × Int)), vs = [.ref p] ∧ RawAt H p n prs ∧ GoodP n prs ∧ ∀ q H', Same H H' → RowNew C H H' q n (marksOf prs) (strictOf prs) → Q (.ref q) H'
theorem ref_at {ts : List Addr} {i : Nat} {x : V} (h : (ts.map V.ref)[i]? = some x) : i < ts.length := by
  have := (List.getElem?_eq_some_iff.mp h).1
  rwa [List.length_map] at this
theorem take_map2 {ps : List (Int × Int)} {i : Nat} {z : Int × Int} (h : ps[i]? = some z) : marksOf (ps.take (i + 1)) = marksOf (ps.take i) ++ [z.1] := by
  rw [List.take_add_one, h, marksOf, List.map_append]
  rfl
theorem take_fil2 {ps : List (Int × Int)} {i : Nat} {z : Int × Int} (h : ps[i]? = some z) : strictOf (ps.take (i + 1)) = strictOf (ps.take i) ++ (if z.2 = 2 then [z.1] else []) := by
  rw [List.take_add_one, h, strictOf, List.filter_append, List.map_append]
  congr 1
  show List.map _ (List.filter _ [z]) = _
  rw [List.filter_cons]
  by_cases c : z.2 = 2 <;> simp [c]
section
variable {P : Program} {w : World} {K : PySem.W.Frag} {mg : Str → Option Value} {base : Heap}
abbrev NH : List Str := ["raw", "spot", "kind"]
end
end Cw
namespace Cw
open PySem L2
/-! ## min of four whole numbers -/
theorem min4_args (vs : List Value) (h : vs.length = 4) : argsOk "min" ⟨vs, []⟩ := by
  match vs, h with
  | [p, q, r, s], _ => unfold argsOk; kernel_rfl
section
variable {P : Program} {w : World} {A : Around} {E : Value → Shared → Prop} {s : Shared}
/-- min of four values whose tuple is walked -/
theorem min4_walked {vs : List Value} (h4 : vs.length = 4) {Q : Value → Shared → Prop}
    (go : wpAny (model P w) A.in1 (pyIter (.ref s.heap.objs.size)) (fun it s1 => ∃ J fs ws k Pv Sv less, it = .ref J ∧ Walks P w A.in1 J fs ws k Pv Sv ∧ Sv 0 s1.heap ∧ (∀ d ∈ fs, d < s1.heap.objs.size) ∧ 0 < k ∧ CmpOf P w A.in1 .Lt Pv less ∧
      ∀ v h1 t1, Pv (argBest less (k - 1)) v → (∀ d o, d ∉ ws → s1.heap.get? d = some o → h1.get? d = some o) → Q v { s1 with heap := h1, toks := t1 }) E
      { s with heap := s.heap.push { cls := .type "tuple", data := .seq vs.toArray } }) :
    wpAny (model P w) A (call (.builtin "min") vs) Q E s := by
  match vs, h4 with
  | [p, q, r, u], _ =>
    refine call_function_tree F.kind_min F.plain_min F.entry_min (min4_args [p, q, r, u] rfl) (wpAny_bind (wpAny_of_eq (a := [none, none]) rfl (wpAny_bind (wpAny_newObj_type (wpAny_bind (wpAny_mono go (fun it s1 g => ?_) fun _ _ e => e))))))
    obtain ⟨J, fs, ws, k, Pv, Sv, less, e, wk, st, fr, k0, cmp, out⟩ := g
    subst e
    have new : s1.heap.objs.size ∉ fs := fun m => absurd (fr _ m) (Nat.lt_irrefl _)
    have nm : (toString "min" ++ toString ".loop" : String) = "min.loop" := by decide
    refine wpAny_bind (wpAny_newObj_type ?_)
    rw [nm]
    refine wpAny_pure ⟨plainId_quiet F.plain_min_loop _, codeAny_min_loop_first wk less cmp s1.heap.objs.size new k0 (wk.frame _ _ _ st fun d _ o e => Heap.get?_push_of_some _ e) (Heap.get?_push_size _ rfl) fun v h1 t1 pv keep =>
      out v h1 t1 pv fun d o nd e => keep d o nd (Nat.ne_of_lt (Heap.lt_size e)) (Heap.get?_push_of_some _ e)⟩
theorem min4_ints {a b c d : Int} {t u x y : Tok} {Q : Value → Shared → Prop} (nh : A.handled = none)
    (out : ∀ m r h1 t1, (∀ z o, s.heap.get? z = some o → h1.get? z = some o) → (m = a ∨ m = b ∨ m = c ∨ m = d) → m ≤ a → m ≤ b → m ≤ c → m ≤ d → Q (.int m r) { s with heap := h1, toks := t1 }) :
    wpAny (model P w) A (call (.builtin "min") [.int a t, .int b u, .int c x, .int d y]) Q E s := by
  obtain ⟨xs, hxs⟩ : ∃ xs : Array (Int × Tok), xs = #[(a, t), (b, u), (c, x), (d, y)] := ⟨_, rfl⟩
  have items : intItems xs = #[.int a t, .int b u, .int c x, .int d y] := by rw [hxs]; simp [intItems]
  have tup : (s.heap.push { cls := .type "tuple", data := .seq #[.int a t, .int b u, .int c x, .int d y] }).IsTuple s.heap.objs.size (intItems xs) := ⟨_, Heap.get?_push_size _ rfl, rfl, 0, by rw [items]⟩
  have size1 : (s.heap.push { cls := .type "tuple", data := .seq #[.int a t, .int b u, .int c x, .int d y] }).objs.size = s.heap.objs.size + 1 := Heap.size_push ..
  have four : (intItems xs).size = 4 := by rw [items]; rfl
  have lt0 : s.heap.objs.size < s.heap.objs.size + 1 := Nat.lt_succ_self _
  refine min4_walked (vs := [.int a t, .int b u, .int c x, .int d y]) rfl (wpAny_pyIter_tuple tup ⟨_, [_, s.heap.objs.size], [_], _, _, _, _, rfl, Walks.tuple (A := A.in1) nh _ s.heap.objs.size (by rw [size1]; exact Nat.ne_of_lt lt0) (intItems xs),
    ⟨⟨_, Heap.get?_push_size _ rfl, rfl, rfl⟩, tup.push _⟩, fun z hz => ?_, by rw [four]; decide, CmpOf.ints_lt (numAt xs) (fun _ _ => intItems_at), fun v h1 t1 pv keep => ?_⟩)
  · show z < ((s.heap.push _).push _).objs.size
    rw [Heap.size_push, size1]
    simp only [List.mem_cons, List.not_mem_nil, or_false] at hz
    rcases hz with rfl | rfl
    · rw [size1]; exact Nat.lt_succ_self _
    · exact Nat.lt_succ_of_lt lt0
  have kept : ∀ z o, s.heap.get? z = some o → h1.get? z = some o := fun z o e => keep z o (fun m => by
    have l := Heap.lt_size e
    rw [List.mem_singleton.mp m, size1] at l
    exact Nat.lt_irrefl _ (Nat.lt_of_succ_lt l)) (Heap.get?_push_of_some _ (Heap.get?_push_of_some _ e))
  have pv3 : (intItems xs)[argBest (fun i j => decide (numAt xs i < numAt xs j)) 3]? = some v := by
    have e3 : (intItems xs).size - 1 = 3 := by rw [four]
    rw [← e3]
    exact pv
  obtain ⟨j3, least⟩ := argBest_lt (numAt xs) 3
  obtain ⟨r, rfl⟩ := intItems_at pv3
  have at0 : numAt xs 0 = a := by rw [hxs]; rfl
  have at1 : numAt xs 1 = b := by rw [hxs]; rfl
  have at2 : numAt xs 2 = c := by rw [hxs]; rfl
  have at3 : numAt xs 3 = d := by rw [hxs]; rfl
  refine out _ r h1 t1 kept ?_ (at0 ▸ least 0 (by decide)) (at1 ▸ least 1 (by decide)) (at2 ▸ least 2 (by decide)) (at3 ▸ least 3 (by decide))
  generalize argBest (fun i j => decide (numAt xs i < numAt xs j)) 3 = j at j3 ⊢
  match j, j3 with
  | 0, _ => exact .inl at0
  | 1, _ => exact .inr (.inl at1)
  | 2, _ => exact .inr (.inr (.inl at2))
  | 3, _ => exact .inr (.inr (.inr at3))
  | j + 4, h => omega
end
theorem vals4 {x y z u : V} {us : List Value} (r : Vals [x, y, z, u] us) : ∃ a b c d, us = [a, b, c, d] ∧ RelV x a ∧ RelV y b ∧ RelV z c ∧ RelV u d := by
  cases r with
  | cons r1 r2 =>
    obtain ⟨b, c, d, rfl, r3, r4, r5⟩ := vals3 r2
    exact ⟨_, b, c, d, rfl, r1, r3, r4, r5⟩
theorem call_min4 {X : Cx} (hc : X.calm = true) : CallR X (.builtin "min") (fun xs H Q => ∃ a b c d, xs = [.int a, .int b, .int c, .int d] ∧ ∀ m, (m = a ∨ m = b ∨ m = c ∨ m = d) → m ≤ a → m ≤ b → m ≤ c → m ≤ d → Q (.int m) H) := by
  intro pins s σ H xs us Q I r h
  obtain ⟨a, b, c, d, rfl, q⟩ := h
  obtain ⟨u1, u2, u3, u4, rfl, ⟨t, rfl⟩, ⟨t2, rfl⟩, ⟨t3, rfl⟩, ⟨t4, rfl⟩⟩ := vals4 r
  exact min4_ints (I.ok.hd hc) fun m r h2 tk k e1 l1 l2 l3 l4 => ⟨.int m, H, I.kept k, ⟨_, rfl⟩, q m e1 l1 l2 l3 l4⟩
end Cw
namespace Cw
open PySem L2
abbrev sCSet : Stmt := top 15
abbrev sCPl : Stmt := top 16
abbrev sCSz : Stmt := top 18
abbrev sCLen : Stmt := top 19
abbrev sNext : Stmt := top 0
abbrev sWalk : Stmt := top 0
abbrev sWithin : Stmt := top 0
abbrev sCWk : Stmt := top 0
abbrev sStep : Stmt := top 24
abbrev sCuts : Stmt := top 25
abbrev sFM : Stmt := top 26
abbrev sCB : Stmt := top 27
abbrev sMeet : Stmt := top 0
/-! ## how many are before -/
def cb (ns : List Int) (z : Int) : Nat := (ns.filter fun x => decide (x < z)).length
def fm (ns : List Int) (z e : Int) : Int := (ns[cb ns z]?).getD e
theorem cb_le {ns : List Int} {z : Int} : cb ns z ≤ ns.length := List.length_filter_le _ _
theorem cb_at {ns : List Int} {z : Int} {k : Nat} (hk : k ≤ ns.length) (h1 : ∀ i, i < k → ∀ x, ns[i]? = some x → x < z) (h2 : ∀ i, k ≤ i → ∀ x, ns[i]? = some x → z ≤ x) : cb ns z = k := by
  have e : ns = ns.take k ++ ns.drop k := (List.take_append_drop k ns).symm
  unfold cb
  rw [e, List.filter_append, List.length_append]
  have a1 : (ns.take k).filter (fun x => decide (x < z)) = ns.take k := List.filter_eq_self.mpr fun x hx => by
    obtain ⟨i, hi, rfl⟩ := List.mem_iff_getElem.mp hx
    rw [List.length_take] at hi
    refine decide_eq_true (h1 i (by omega) _ ?_)
    rw [List.getElem_take]
    exact List.getElem?_eq_getElem (by omega)
  have a2 : (ns.drop k).filter (fun x => decide (x < z)) = [] := List.filter_eq_nil_iff.mpr fun x hx => by
    obtain ⟨i, hi, rfl⟩ := List.mem_iff_getElem.mp hx
    rw [List.length_drop] at hi
    have := h2 (k + i) (by omega) (ns.drop k)[i] (by rw [List.getElem_drop]; exact List.getElem?_eq_getElem (by omega))
    simp only [decide_eq_true_eq]
    omega
  rw [a1, a2, List.length_take]
  simp
  omega
theorem asc_ix {ns : List Int} (h : Asc ns) {i j : Nat} {x y : Int} (hij : i < j) (hx : ns[i]? = some x) (hy : ns[j]? = some y) : x < y := by
  obtain ⟨li, rfl⟩ := List.getElem?_eq_some_iff.mp hx
  obtain ⟨lj, rfl⟩ := List.getElem?_eq_some_iff.mp hy
  exact List.pairwise_iff_getElem.mp h i j li lj hij
/-- what stands on both sides of the number of those before -/
theorem cb_split {ns : List Int} (h : Asc ns) (z : Int) : (∀ i, i < cb ns z → ∀ x, ns[i]? = some x → x < z) ∧ (∀ i, cb ns z ≤ i → ∀ x, ns[i]? = some x → z ≤ x) := by
  induction ns with
  | nil => exact ⟨fun i _ x e => by simp at e, fun i _ x e => by simp at e⟩
  | cons a r ih =>
    obtain ⟨ha, hr⟩ := List.pairwise_cons.mp h
    obtain ⟨i1, i2⟩ := ih hr
    by_cases c : a < z
    · have e : cb (a :: r) z = cb r z + 1 := by
        unfold cb
        rw [List.filter_cons, if_pos (decide_eq_true c)]
        rfl
      rw [e]
      refine ⟨fun i hi x hx => ?_, fun i hi x hx => ?_⟩
      · cases i with
        | zero => cases hx; exact c
        | succ i => exact i1 i (by omega) x hx
      · cases i with
        | zero => omega
        | succ i => exact i2 i (by omega) x hx
    · have e : cb (a :: r) z = 0 := by
        unfold cb
        rw [List.filter_eq_nil_iff.mpr fun x hx => ?_]
        · rfl
        · rcases List.mem_cons.mp hx with rfl | hx
          · simpa using c
          · have := ha x hx
            simp only [decide_eq_true_eq]
            omega
      rw [e]
      refine ⟨fun i hi => by omega, fun i _ x hx => ?_⟩
      cases i with
      | zero => cases hx; omega
      | succ i =>
        have := ha x (List.mem_of_getElem? hx)
        omega
theorem fm_or {ns : List Int} (h : Asc ns) (z e : Int) : (fm ns z e ∈ ns ∧ z ≤ fm ns z e) ∨ (fm ns z e = e ∧ ∀ x ∈ ns, x < z) := by
  obtain ⟨h1, h2⟩ := cb_split h z
  unfold fm
  by_cases c : cb ns z < ns.length
  · have hg := List.getElem?_eq_getElem c
    rw [hg]
    exact .inl ⟨List.getElem_mem c, h2 _ (Nat.le_refl _) _ hg⟩
  · rw [List.getElem?_eq_none (by omega)]
    refine .inr ⟨rfl, fun x hx => ?_⟩
    obtain ⟨i, hi, rfl⟩ := List.mem_iff_getElem.mp hx
    exact h1 i (by omega) _ (List.getElem?_eq_getElem hi)
theorem fm_le {ns : List Int} (h : Asc ns) {z e x : Int} (hx : x ∈ ns) (hz : z ≤ x) : fm ns z e ≤ x := by
  obtain ⟨h1, h2⟩ := cb_split h z
  obtain ⟨i, hi, rfl⟩ := List.mem_iff_getElem.mp hx
  have hg := List.getElem?_eq_getElem hi
  have c : cb ns z ≤ i := by
    by_cases c : i < cb ns z
    · have := h1 i c _ hg
      omega
    · omega
  unfold fm
  by_cases d : cb ns z = i
  · rw [d, hg]
    exact Int.le_refl _
  · have l : cb ns z < ns.length := by omega
    rw [List.getElem?_eq_getElem l]
    have := asc_ix h (by omega : cb ns z < i) (List.getElem?_eq_getElem l) hg
    show ns[cb ns z] ≤ ns[i]
    omega
theorem fm_top {ns : List Int} (h : Asc ns) {z e : Int} (k : ∀ x ∈ ns, x ≤ e) : fm ns z e ≤ e := by
  rcases fm_or h z e with ⟨m, _⟩ | ⟨m, _⟩
  · exact k _ m
  · omega
theorem fm_mono {ns : List Int} (h : Asc ns) {z y e : Int} (k : ∀ x ∈ ns, x ≤ e) (hz : z ≤ y) : fm ns z e ≤ fm ns y e := by
  rcases fm_or h y e with ⟨m, l⟩ | ⟨m, _⟩
  · exact fm_le h m (by omega)
  · rw [m]
    exact fm_top h k
def spCB : Sp := fun vs H Q _ => ∃ (a : Addr) (ns : List Int) (z : Int), vs = [.ref a, .int z] ∧ IL H a ns ∧ ns.length ≤ 1000 ∧ Asc ns ∧ Q (.int (cb ns z)) H
def spFM : Sp := fun vs H Q _ => ∃ (a : Addr) (ns : List Int) (z e : Int), vs = [.ref a, .int z, .int e] ∧ IL H a ns ∧ ns.length ≤ 1000 ∧ Asc ns ∧ Q (.int (fm ns z e)) H
def muCB : St → Hp → Nat := fun σ _ => match σ with | [_, _, some (.int lo), some (.int hi), _] => (hi - lo).toNat | _ => 0
section
variable {P : Program} {w : World} {K : PySem.W.Frag} {mg : Str → Option Value} {base : Heap}
abbrev NCB : List Str := ["places", "place", "low", "high", "middle"]
theorem scCB : FnScope NCB ["places", "place"] (defScope sCB) := ⟨rfl, rfl, rfl, by decide +kernel, rfl, by decide +kernel, by decide +kernel⟩
theorem ok_cb {f : Addr} {fd : FuncData} (F : Fun K "count_before" "count_before" sCB f fd) (T : Bl mg) : FnOk P w K mg base CX0 1 f fd ["places", "place"] spCB := by
  refine F.ok scCB (fun vs H Q E h => ?_) (fun cdv A outer s H vs Q E hr h => ?_)
  · obtain ⟨a, ns, z, rfl, _⟩ := h
    rfl
  · obtain ⟨a, ns, z, rfl, hS, hl, ha, q⟩ := h
    refine ⟨_, pss_cons (ps_set (i := 2) scCB.nd rfl (Or.inl rfl) pe_int)
      (pss_cons (ps_set (i := 3) scCB.nd rfl (Or.inl rfl) (pe_callB call_len_seq (by rfl) T.len PySem.boot_len (pa_cons (pv 0) pa_nil)))
      (pss_cons (ps_while PassesOwn.never (pt_cmpR op_lt (pv 2) (pv 3) (nomark _))
        (pss_cons (ps_set (i := 4) scCB.nd rfl (Or.inl rfl) (pe_op op_fdiv (pe_op op_add (pv 2) (pv 3)) pe_int))
        (pss_one (ps_if (pt_cmpR op_lt (pe_ix (r := rIxL K) ix_list (pv 0) (pv 4) (fun _ _ => rfl)) (pv 1) (nomark _))
          (pss_one (ps_set (i := 2) scCB.nd rfl (Or.inl rfl) (pe_op op_add (pv 4) pe_int)))
          (pss_one (ps_set (i := 3) scCB.nd rfl (Or.inl rfl) (pv 4)))))))
      (pss_one (ps_ret (pv 2))))), ?_⟩
    refine ⟨_, rfl, a, _, rfl, .inl (SqL.of hS), ?_⟩
    rw [List.length_map]
    refine while_by (fun σ H' => ∃ (lo hi : Nat) (v : Option V), σ = [some (.ref a), some (.int z), some (.int lo), some (.int hi), v] ∧ H' = H ∧ lo ≤ hi ∧ hi ≤ ns.length ∧ (∀ i, i < lo → ∀ x, ns[i]? = some x → x < z) ∧ (∀ i, hi ≤ i → ∀ x, ns[i]? = some x → z ≤ x))
      muCB ⟨0, ns.length, none, rfl, rfl, Nat.zero_le _, Nat.le_refl _, fun i hi => absurd hi (Nat.not_lt_zero _), fun i hi x e => by rw [List.getElem?_eq_none hi] at e; cases e⟩ ?_
      (fun σ H Q Q' hQ h => by obtain ⟨x, e1, y, e2, i, j, e3, e4, k, e5, q⟩ := h; exact ⟨x, e1, y, e2, i, j, e3, e4, k, e5, hQ _ _ q⟩)
    rintro σ H' ⟨lo, hi, v, rfl, rfl, l1, l2, h1, h2⟩
    refine ⟨_, rfl, _, rfl, _, _, rfl, rfl, _, rfl, ?_⟩
    by_cases c : (lo : Int) < hi
    · refine ifT (decide_eq_true c) ?_
      refine ⟨_, rfl, _, rfl, _, _, rfl, rfl, _, _, rfl, rfl, ⟨by decide, by decide⟩, ?_⟩
      dsimp only
      obtain ⟨m, hm⟩ : ∃ m : Nat, ((lo : Int) + hi) / 2 = m := ⟨(lo + hi) / 2, by omega⟩
      have m1 : lo ≤ m := by omega
      have m2 : m < hi := by omega
      rw [hm]
      have ml : m < ns.length := by omega
      have hg := List.getElem?_eq_getElem ml
      refine ⟨_, rfl, _, rfl, a, _, _, V.int ns[m], rfl, rfl, SqL.of hS, at_of2 (j := m) rfl (by rw [List.getElem?_map, hg]; rfl), _, rfl, _, _, rfl, rfl, _, rfl, ?_⟩
      by_cases d : ns[m] < z
      · refine ifT (decide_eq_true d) ?_
        refine ⟨_, rfl, _, _, rfl, rfl, ⟨m + 1, hi, _, rfl, rfl, by omega, l2, fun i hi' x hx => ?_, h2⟩, ?_⟩
        · by_cases e : i = m
          · subst e
            rw [hg] at hx
            cases hx
            exact d
          · have := asc_ix ha (by omega : i < m) hx hg
            omega
        · show ((hi : Int) - ((m : Int) + 1)).toNat < ((hi : Int) - lo).toNat
          omega
      · refine ifF (decide_eq_false d) ?_
        refine ⟨_, rfl, ⟨lo, m, _, rfl, rfl, by omega, by omega, h1, fun i hi' x hx => ?_⟩, ?_⟩
        · by_cases e : i = m
          · subst e
            rw [hg] at hx
            cases hx
            omega
          · have := asc_ix ha (by omega : m < i) hg hx
            omega
        · show ((m : Int) - lo).toNat < ((hi : Int) - lo).toNat
          omega
    · refine ifF (decide_eq_false c) ?_
      refine ⟨_, rfl, ?_⟩
      have e : lo = hi := by omega
      subst e
      rw [← cb_at l2 h1 h2] at *
      exact q
abbrev NFM : List Str := ["marks", "place", "end", "at"]
theorem scFM : FnScope NFM ["marks", "place", "end"] (defScope sFM) := ⟨rfl, rfl, rfl, by decide +kernel, rfl, by decide +kernel, by decide +kernel⟩
theorem ok_fm {f fB : Addr} {fd fdB : FuncData} (F : Fun K "first_mark" "first_mark" sFM f fd) (T : Bl mg) (gB : mg "count_before" = some (.ref fB)) (kB : PySem.W.keepIn K (.ref fB) = true) (bB : Binds K fdB ["places", "place"] []) (GB : FnOk P w K mg base CX0 1 fB fdB ["places", "place"] spCB) :
    FnOk P w K mg base CX0 2 f fd ["marks", "place", "end"] spFM := by
  refine F.ok scFM (fun vs H Q E h => ?_) (fun cdv A outer s H vs Q E hr h => ?_)
  · obtain ⟨a, ns, z, e, rfl, _⟩ := h
    rfl
  · obtain ⟨a, ns, z, e, rfl, hS, hl, ha, q⟩ := h
    refine ⟨_, pss_cons (ps_set (i := 3) scFM.nd rfl (Or.inl rfl) (pe_call GB hr rfl gB kB bB .nil pass0 (pa_cons (pv 0) (pa_cons (pv 1) pa_nil))))
      (pss_one (ps_ret (pe_ifExp (pt_cmpR op_lt (pv 3) (pe_callB call_len_seq (by rfl) T.len PySem.boot_len (pa_cons (pv 0) pa_nil)) (nomark _)) (pe_ix (r := rIxL K) ix_list (pv 0) (pv 3) (fun _ _ => rfl)) (pv 2)))), ?_⟩
    refine ⟨_, rfl, _, rfl, a, ns, z, rfl, hS, hl, ha, ?_⟩
    refine ⟨_, rfl, _, rfl, a, _, rfl, .inl (SqL.of hS), _, _, rfl, rfl, _, rfl, ?_⟩
    rw [List.length_map]
    unfold fm at q
    by_cases c : cb ns z < ns.length
    · have hg := List.getElem?_eq_getElem c
      refine ifT (decide_eq_true (by omega)) ?_
      rw [hg] at q
      exact ⟨_, rfl, _, rfl, a, _, _, _, rfl, rfl, SqL.of hS, at_of2 (j := cb ns z) rfl (by rw [List.getElem?_map, hg]; rfl), q⟩
    · refine ifF (decide_eq_false (by omega)) ?_
      rw [List.getElem?_eq_none (by omega)] at q
      exact ⟨_, rfl, q⟩
end
end Cw
namespace Cw
open PySem L2
abbrev sGetL : Stmt := inClass sRow 1
abbrev sGetS : Stmt := inClass sRow 3
def spGetL (C : Addr) : Sp := fun vs H Q _ => ∃ (a : Addr) (n : Int) (ms ss : List Int), vs = [.ref a] ∧ RowAt C H a n ms ss ∧ Q (.int n) H
def spGetS (C : Addr) : Sp := fun vs H Q _ => ∃ (a : Addr) (n : Int) (ms ss : List Int), vs = [.ref a] ∧ RowAt C H a n ms ss ∧ ∀ p H', Same H H' → H p = none → IL H' p ss → Q (.ref p) H'
/-! ## the next cut -/
def nx (n : Int) (ms ss : List Int) (l m g p : Int) : Int := min (min (fm ss (p + l) n) (fm ms (p + m) n)) (min (p + g) n)
/-- settings -/
structure SetOk (l m g : Int) : Prop where
  l1 : 1 ≤ l
  lm : l ≤ m
  mg : m ≤ g
/-- what a step does -/
structure Stp (F : Int → Int) (n l : Int) : Prop where
  l1 : 1 ≤ l
  le : ∀ p, F p ≤ n
  ge : ∀ p, p + l ≤ F p ∨ F p = n
  mono : ∀ p q, p ≤ q → F p ≤ F q
theorem Stp.gt {F : Int → Int} {n l p : Int} (S : Stp F n l) (h : p < n) : p < F p := by
  have := S.ge p
  have := S.l1
  omega
theorem nx_stp {n l m g : Int} {ms ss : List Int} (G : Good n ms ss) (S : SetOk l m g) : Stp (nx n ms ss l m g) n l := by
  have k1 : ∀ x ∈ ms, x ≤ n := fun x hx => by have := G.rng x hx; omega
  have k2 : ∀ x ∈ ss, x ≤ n := fun x hx => k1 x (G.sub x hx)
  have s1 := S.l1
  have s2 := S.lm
  have s3 := S.mg
  refine ⟨s1, fun p => ?_, fun p => ?_, fun p q h => ?_⟩
  · unfold nx
    omega
  · have a := fm_or G.asc2 (p + l) n
    have b := fm_or G.asc (p + m) n
    unfold nx
    omega
  · have a := fm_mono G.asc2 k2 (z := p + l) (y := q + l) (by omega)
    have b := fm_mono G.asc k1 (z := p + m) (y := q + m) (by omega)
    unfold nx
    omega
/-! ## walks -/
def kc (F : Int → Int) (n s : Int) : Nat → Int
  | 0 => s
  | k + 1 => if kc F n s k < n then F (kc F n s k) else kc F n s k
def wl (F : Int → Int) (n s : Int) (m : Nat) : List Int := (List.range (m + 1)).map (kc F n s)
theorem wl_succ {F : Int → Int} {n s : Int} {m : Nat} : wl F n s (m + 1) = wl F n s m ++ [kc F n s (m + 1)] := by
  unfold wl
  rw [List.range_succ, List.map_append]
  rfl
theorem wl_len {F : Int → Int} {n s : Int} {m : Nat} : (wl F n s m).length = m + 1 := by
  unfold wl
  rw [List.length_map, List.length_range]
theorem kc_le {F : Int → Int} {n l s : Int} (S : Stp F n l) (h : s ≤ n) : ∀ k, kc F n s k ≤ n
  | 0 => h
  | k + 1 => by
    have i := kc_le S h k
    unfold kc
    by_cases c : kc F n s k < n
    · rw [if_pos c]
      exact S.le _
    · rw [if_neg c]
      exact i
theorem kc_ge {F : Int → Int} {n l s : Int} (S : Stp F n l) : ∀ k : Nat, kc F n s k < n → s + k * l ≤ kc F n s k
  | 0, _ => by
    show s + ((0 : Nat) : Int) * l ≤ s
    simp
  | k + 1, h => by
    by_cases c : kc F n s k < n
    · have e : kc F n s (k + 1) = F (kc F n s k) := if_pos c
      have i := kc_ge S k c
      have z := S.ge (kc F n s k)
      rw [e] at h ⊢
      have w : ((k + 1 : Nat) : Int) * l = k * l + l := by
        rw [Int.natCast_add, Int.add_mul]
        simp
      rw [w]
      omega
    · have e : kc F n s (k + 1) = kc F n s k := if_neg c
      omega
theorem kc_few {F : Int → Int} {n l s : Int} (S : Stp F n l) (h0 : 0 ≤ s) (b : n ≤ 200 * l) {k : Nat} (h : kc F n s k < n) : k < 200 := by
  have z := kc_ge S k h
  have l1 := S.l1
  by_cases c : k < 200
  · exact c
  · have w : (200 : Int) * l ≤ k * l := Int.mul_le_mul_of_nonneg_right (by omega) (by omega)
    omega
theorem kc_at {F : Int → Int} {n s : Int} {k : Nat} (h : kc F n s k < n) : kc F n s (k + 1) = F (kc F n s k) := if_pos h
theorem kc_end {F : Int → Int} {n s : Int} {m : Nat} (h : ¬ kc F n s m < n) : ∀ j, kc F n s (m + j) = kc F n s m
  | 0 => rfl
  | j + 1 => by
    have i := kc_end h j
    show (if kc F n s (m + j) < n then F (kc F n s (m + j)) else kc F n s (m + j)) = _
    rw [i, if_neg h]
/-- how many cuts a walk has -/
structure WkOk (F : Int → Int) (n s : Int) (m : Nat) : Prop where
  few : m ≤ 200
  fin : kc F n s m = n
  bef : ∀ i, i < m → kc F n s i < n
def spStep (C : Addr) : Sp := fun vs H Q _ => ∃ (r t : Addr) (n l m g p : Int) (ms ss : List Int), vs = [.ref r, .ref t, .int p] ∧ RowAt C H r n ms ss ∧ H t = some (.tup [.int l, .int m, .int g]) ∧ Good n ms ss ∧ ∀ H', Same H H' → Q (.int (nx n ms ss l m g p)) H'
def spCuts (C : Addr) : Sp := fun vs H Q _ => ∃ (r t : Addr) (n l m g p : Int) (ms ss : List Int), vs = [.ref r, .ref t, .int p] ∧ RowAt C H r n ms ss ∧ H t = some (.tup [.int l, .int m, .int g]) ∧ Good n ms ss ∧ SetOk l m g ∧ n ≤ 200 * l ∧ 0 ≤ p ∧ p ≤ n ∧
  ∀ q H' k, Same H H' → H q = none → WkOk (nx n ms ss l m g) n p k → IL H' q (wl (nx n ms ss l m g) n p k) → Q (.ref q) H'
/-- the getters -/
structure Gets (P : Program) (w : World) (K : PySem.W.Frag) (mg : Str → Option Value) (base : Heap) (C pL fL pM fM pS fS : Addr) (dL dM dS : FuncData) : Prop where
  hL : PropOf K C "length" pL fL
  bL : Binds K dL ["self"] []
  GL : FnOk P w K mg base CX0 1 fL dL ["self"] (spGetL C)
  hM : PropOf K C "marks" pM fM
  bM : Binds K dM ["self"] []
  GM : FnOk P w K mg base CX0 1 fM dM ["self"] (spGetM C)
  hS : PropOf K C "strict" pS fS
  bS : Binds K dS ["self"] []
  GS : FnOk P w K mg base CX0 1 fS dS ["self"] (spGetS C)
section
variable {P : Program} {w : World} {K : PySem.W.Frag} {mg : Str → Option Value} {base : Heap}
theorem scGL : FnScope ["self"] ["self"] (defScope sGetL) := ⟨rfl, rfl, rfl, by decide +kernel, rfl, by decide +kernel, by decide +kernel⟩
theorem ok_getL {f C : Addr} {fd : FuncData} (F : Fun K "length" "Row.length" sGetL f fd) (R : Cl K mg C) : FnOk P w K mg base CX0 1 f fd ["self"] (spGetL C) := by
  refine F.ok scGL (fun vs H Q E h => ?_) (fun cdv A outer s H vs Q E hr h => ?_)
  · obtain ⟨a, n, ms, ss, rfl, _⟩ := h
    rfl
  · obtain ⟨a, n, ms, ss, rfl, ⟨dx, l1, l2, ho, h1, h2⟩, k⟩ := h
    refine ⟨_, pss_one (ps_ret (pe_fld (pv 0) rfl)), ?_⟩
    exact ⟨_, rfl, a, C, dx, _, _, rfl, ho, R.cl, R.nL, fl_L _ _ _, k⟩
theorem scGS : FnScope ["self"] ["self"] (defScope sGetS) := ⟨rfl, rfl, rfl, by decide +kernel, rfl, by decide +kernel, by decide +kernel⟩
theorem ok_getS {f C : Addr} {fd : FuncData} (F : Fun K "strict" "Row.strict" sGetS f fd) (T : Bl mg) (R : Cl K mg C) : FnOk P w K mg base CX0 1 f fd ["self"] (spGetS C) := by
  refine F.ok scGS (fun vs H Q E h => ?_) (fun cdv A outer s H vs Q E hr h => ?_)
  · obtain ⟨a, n, ms, ss, rfl, _⟩ := h
    rfl
  · obtain ⟨a, n, ms, ss, rfl, ⟨dx, l1, l2, ho, h1, h2⟩, k⟩ := h
    refine ⟨_, pss_one (ps_ret (pe_callTy call_list_of (by rfl) T.list (by decide +kernel) (pa_cons (pe_fld (pv 0) rfl) pa_nil))), ?_⟩
    refine ⟨_, rfl, a, C, dx, _, _, rfl, ho, R.cl, R.nS, fl_S _ _ _, l2, _, rfl, .inl (SqL.of h2), fun p hp => ?_⟩
    exact k p _ (same_new (Same.refl H) hp) hp upd_same
abbrev NSt : List Str := ["row", "settings", "place", "least", "normal", "greatest", "strict", "either"]
theorem scSt : FnScope NSt ["row", "settings", "place"] (defScope sStep) := ⟨rfl, rfl, rfl, by decide +kernel, rfl, by decide +kernel, by decide +kernel⟩
theorem ok_step {f C fF pL fL pM fM pS fS : Addr} {fd fdF dL dM dS : FuncData} (F : Fun K "step" "step" sStep f fd) (T : Bl mg) (R : Cl K mg C) (Gs : Gets P w K mg base C pL fL pM fM pS fS dL dM dS)
    (gF : mg "first_mark" = some (.ref fF)) (kF : PySem.W.keepIn K (.ref fF) = true) (bF : Binds K fdF ["marks", "place", "end"] []) (GF : FnOk P w K mg base CX0 2 fF fdF ["marks", "place", "end"] spFM) :
    FnOk P w K mg base CX0 3 f fd ["row", "settings", "place"] (spStep C) := by
  refine F.ok scSt (fun vs H Q E h => ?_) (fun cdv A outer s H vs Q E hr h => ?_)
  · obtain ⟨r, t, n, l, m, g, p, ms, ss, rfl, _⟩ := h
    rfl
  · obtain ⟨r, t, n, l, m, g, p, ms, ss, rfl, hR, hT, G, q⟩ := h
    refine ⟨_, pss_cons (ps_asg (pv 1) (pg_tup (by rfl) (pgs_cons (pg_name (i := 3) scSt.nd rfl (Or.inl rfl)) (pgs_cons (pg_name (i := 4) scSt.nd rfl (Or.inl rfl)) (pgs_cons (pg_name (i := 5) scSt.nd rfl (Or.inl rfl)) pgs_nil)))))
      (pss_cons (ps_set (i := 6) scSt.nd rfl (Or.inl rfl) (pe_call GF hr rfl gF kF bF .nil pass0 (pa_cons (pe_prop (pv 0) R.cl Gs.hS Gs.GS hr Gs.bS .nil pass0 rfl) (pa_cons (pe_op op_add (pv 2) (pv 3)) (pa_cons (pe_prop (pv 0) R.cl Gs.hL Gs.GL hr Gs.bL .nil pass0 rfl) pa_nil)))))
      (pss_cons (ps_set (i := 7) scSt.nd rfl (Or.inl rfl) (pe_call GF hr rfl gF kF bF .nil pass0 (pa_cons (pe_prop (pv 0) R.cl Gs.hM Gs.GM hr Gs.bM .nil pass0 rfl) (pa_cons (pe_op op_add (pv 2) (pv 4)) (pa_cons (pe_prop (pv 0) R.cl Gs.hL Gs.GL hr Gs.bL .nil pass0 rfl) pa_nil)))))
      (pss_one (ps_ret (pe_callB (call_min4 rfl) (by rfl) T.min (by decide +kernel) (pa_cons (pv 6) (pa_cons (pv 7) (pa_cons (pe_op op_add (pv 2) (pv 5)) (pa_cons (pe_prop (pv 0) R.cl Gs.hL Gs.GL hr Gs.bL .nil pass0 rfl) pa_nil))))))))), ?_⟩
    have lm := G.len
    have ls := G.len2
    obtain ⟨dx, l1, l2, ho, h1, h2⟩ := id hR
    refine ⟨_, rfl, t, _, rfl, SqT.of hT, rfl, _, _, rfl, _, _, rfl, _, _, rfl, rfl, ?_⟩
    refine ⟨_, rfl, r, dx, _, rfl, ho, r, n, ms, ss, rfl, hR, fun p1 H1 s1 n1 i1 => ?_⟩
    have R1 := hR.same s1
    have o1 := s1 _ _ ho
    refine ⟨_, rfl, _, rfl, _, _, rfl, rfl, _, rfl, r, dx, _, rfl, o1, r, n, ms, ss, rfl, R1, ?_⟩
    refine ⟨p1, ss, p + l, n, rfl, i1, by omega, G.asc2, ?_⟩
    refine ⟨_, rfl, r, dx, _, rfl, o1, r, n, ms, ss, rfl, R1, fun p2 H2 s2 n2 i2 => ?_⟩
    have R2 := R1.same s2
    have o2 := s2 _ _ o1
    refine ⟨_, rfl, _, rfl, _, _, rfl, rfl, _, rfl, r, dx, _, rfl, o2, r, n, ms, ss, rfl, R2, ?_⟩
    refine ⟨p2, ms, p + m, n, rfl, i2, by omega, G.asc, ?_⟩
    refine ⟨_, rfl, _, rfl, _, rfl, _, rfl, _, _, rfl, rfl, _, rfl, r, dx, _, rfl, o2, r, n, ms, ss, rfl, R2, ?_⟩
    refine ⟨_, _, _, _, rfl, fun v e a b c d => ?_⟩
    have z : v = nx n ms ss l m g p := by
      unfold nx
      omega
    rw [z]
    exact q H2 (s1.trans s2)
end
end Cw
namespace Cw
open PySem L2
def spCSet : Sp := fun vs H Q _ => ∃ (t : Addr) (l m g : Int), vs = [.ref t] ∧ H t = some (.tup [.int l, .int m, .int g]) ∧ SetOk l m g ∧ ∀ H', Same H H' → Q .non H'
def spPl : Sp := fun vs H Q _ => ∃ p lo hi : Int, vs = [.int p, .int lo, .int hi] ∧ lo ≤ p ∧ p ≤ hi ∧ Q .non H
def spSz (C : Addr) : Sp := fun vs H Q _ => ∃ (r t : Addr) (n l m g : Int) (ms ss : List Int), vs = [.ref r, .ref t] ∧ RowAt C H r n ms ss ∧ H t = some (.tup [.int l, .int m, .int g]) ∧ n ≤ 200 * l ∧ Q .non H
def spLen : Sp := fun vs H Q _ => ∃ (t : Addr) (n l m g : Int), vs = [.int n, .ref t] ∧ H t = some (.tup [.int l, .int m, .int g]) ∧ n ≤ 200 * l ∧ Q .non H
def lastZ : List V → Int
  | [.int z] => z
  | _ :: x :: r => lastZ (x :: r)
  | _ => 0
theorem lastZ_app (z : Int) : ∀ xs : List V, lastZ (xs ++ [.int z]) = z
  | [] => rfl
  | [x] => by cases x <;> rfl
  | x :: y :: r => by
    have i := lastZ_app z (y :: r)
    show lastZ (x :: y :: (r ++ [V.int z])) = z
    cases x <;> exact i
def muCu (n : Int) (D : Addr) : St → Hp → Nat := fun _ H => (n - (match H D with | some (.lst xs) => lastZ xs | _ => 0)).toNat
theorem muCu_at {n z : Int} {D : Addr} {H : Hp} {σ : St} {xs : List V} (h : H D = some (.lst (xs ++ [.int z]))) : muCu n D σ H = (n - z).toNat := by
  unfold muCu
  rw [h]
  show (n - lastZ (xs ++ [V.int z])).toNat = _
  rw [lastZ_app]
section
variable {P : Program} {w : World} {K : PySem.W.Frag} {mg : Str → Option Value} {base : Heap}
abbrev NCS : List Str := ["settings", "least", "normal", "greatest", "number"]
theorem scCS : FnScope NCS ["settings"] (defScope sCSet) := ⟨rfl, rfl, rfl, by decide +kernel, rfl, by decide +kernel, by decide +kernel⟩
theorem ok_cset {f fI : Addr} {fd fdI : FuncData} (F : Fun K "check_settings" "check_settings" sCSet f fd) (T : Bl mg) (gI : mg "is_integer" = some (.ref fI)) (kI : PySem.W.keepIn K (.ref fI) = true) (bI : Binds K fdI ["thing"] []) (GI : FnOk P w K mg base CX0 1 fI fdI ["thing"] spOne) :
    FnOk P w K mg base CX0 2 f fd ["settings"] spCSet := by
  refine F.ok scCS (fun vs H Q E h => ?_) (fun cdv A outer s H vs Q E hr h => ?_)
  · obtain ⟨t, l, m, g, rfl, _⟩ := h
    rfl
  · obtain ⟨t, l, m, g, rfl, ht, S, k⟩ := h
    refine ⟨_, pss_cons (ps_if (PW.pt (pw_or (pt_not (pt_val (pe_callB call_isi (by rfl) T.isi (by decide +kernel) (pa_cons (pv 0) (pa_cons (pe_bltn (by rfl) T.tuple (by decide +kernel) (v := V.ty "tuple") rfl) pa_nil)))))
        (pw_or1 (pt_cmpR op_ne (pe_callB call_len_seq (by rfl) T.len PySem.boot_len (pa_cons (pv 0) pa_nil)) pe_int (nomark _))))) pss_never pss_nil)
      (pss_cons (ps_if (pt_not (pt_val (pe_callB (cr_all rfl) (by rfl) T.all (by decide +kernel) (pa_cons (pe_lc (own := [("number", 4)]) (g := gName 4) (tt := tYes) rfl scCS.nd
        (pi_tup (pv 0)) (blkOk_by (own := [("number", 4)]) (N := NCS) (sc := defScope sCSet) (by decide +kernel)) (fun _ _ _ _ _ => pg_name (i := 4) scCS.nd rfl (Or.inl rfl)) (fun _ _ _ _ _ => pts_nil)
        (fun _ _ _ _ _ => pe_call GI hr rfl gI kI bI .nil pass0 (pa_cons (pv 4) pa_nil))) pa_nil)))) pss_never pss_nil)
      (pss_cons (ps_asg (pv 0) (pg_tup (by rfl) (pgs_cons (pg_name (i := 1) scCS.nd rfl (Or.inl rfl)) (pgs_cons (pg_name (i := 2) scCS.nd rfl (Or.inl rfl)) (pgs_cons (pg_name (i := 3) scCS.nd rfl (Or.inl rfl)) pgs_nil)))))
      (pss_one (ps_if (pt_not (pt_chain3 op_le op_le op_le pe_int (pv 1) (pv 2) (pv 3))) pss_never pss_nil)))), ?_⟩
    refine ⟨_, rfl, _, _, _, _, true, rfl, ClsV.ty _, .base (.tup ht), kit_ty (by decide +kernel), _, rfl, ?_⟩
    refine ifF rfl ?_
    refine ⟨_, rfl, t, _, rfl, .inr (SqT.of ht), rfl, _, rfl, ?_⟩
    refine ifF (by simp) ?_
    refine ⟨_, rfl, t, rfl, ⟨_, SqT.of ht⟩, fun D hD => ?_⟩
    have nt : t ≠ D := ne_of_none ht hD
    refine lc_tup (K := K) (a := t) (xs := [.int l, .int m, .int g]) (fun i H' => Same H H' ∧ H' D = some (.lst (List.replicate i (V.bl true))))
      ⟨same_new (Same.refl H) hD, upd_same⟩ (fun i H' _ q => SqT.of (q.1 _ _ ht)) ?_ ?_
    · rintro i x H' hx ⟨s2, h3⟩
      have hi : i < 3 := (List.getElem?_eq_some_iff.mp hx).1
      obtain ⟨z, rfl⟩ : ∃ z, x = V.int z := by
        have m := List.mem_of_getElem? hx
        simp only [List.mem_cons, List.not_mem_nil, or_false] at m
        rcases m with rfl | rfl | rfl <;> exact ⟨_, rfl⟩
      refine ⟨rfl, ?_⟩
      unfold tYes
      refine iteT ?_
      refine ⟨_, rfl, _, rfl, ?_⟩
      refine ⟨_, h3, by rw [List.length_replicate]; exact small1000 (by omega), same_put s2 hD, ?_⟩
      rw [upd_same, List.replicate_succ']
    · rintro H' ⟨s2, h3⟩
      refine ⟨D, List.replicate 3 true, rfl, SqL.of (by rw [h3, List.map_replicate]; rfl), _, rfl, ?_⟩
      rw [all_true]
      refine ifF rfl ?_
      refine ⟨_, rfl, t, _, rfl, SqT.of (s2 _ _ ht), rfl, _, _, rfl, _, _, rfl, _, _, rfl, rfl, ?_⟩
      have l1 := S.l1
      have lm := S.lm
      have mg' := S.mg
      refine ⟨_, rfl, _, _, rfl, rfl, _, rfl, ?_⟩
      refine ifT (by simp [l1]) ?_
      refine ⟨_, rfl, _, _, rfl, rfl, _, rfl, ?_⟩
      refine ifT (by simp [lm]) ?_
      refine ⟨_, rfl, _, _, rfl, rfl, _, rfl, ?_⟩
      refine ifF (by simp [mg']) ?_
      exact k _ s2
theorem scPl : FnScope ["place", "low", "high"] ["place", "low", "high"] (defScope sCPl) := ⟨rfl, rfl, rfl, by decide +kernel, rfl, by decide +kernel, by decide +kernel⟩
theorem ok_pl {f fI : Addr} {fd fdI : FuncData} (F : Fun K "check_place" "check_place" sCPl f fd) (gI : mg "is_integer" = some (.ref fI)) (kI : PySem.W.keepIn K (.ref fI) = true) (bI : Binds K fdI ["thing"] []) (GI : FnOk P w K mg base CX0 1 fI fdI ["thing"] spOne) :
    FnOk P w K mg base CX0 2 f fd ["place", "low", "high"] spPl := by
  refine F.ok scPl (fun vs H Q E h => ?_) (fun cdv A outer s H vs Q E hr h => ?_)
  · obtain ⟨p, lo, hi, rfl, _⟩ := h
    rfl
  · obtain ⟨p, lo, hi, rfl, h1, h2, q⟩ := h
    refine ⟨_, pss_one (ps_if (PW.pt (pw_or (pt_not (pt_val (pe_call GI hr rfl gI kI bI .nil pass0 (pa_cons (pv 0) pa_nil)))) (pw_or1 (pt_not (pt_chain op_le op_le (pv 1) (pv 0) (pv 2)))))) pss_never pss_nil), ?_⟩
    refine ⟨_, rfl, _, rfl, _, rfl, ?_⟩
    refine ifF rfl ?_
    refine ⟨_, rfl, _, rfl, _, _, rfl, rfl, _, rfl, ?_⟩
    refine ifT (decide_eq_true h1) ?_
    refine ⟨_, rfl, _, _, rfl, rfl, _, rfl, ?_⟩
    refine ifF (by simp [h2]) ?_
    exact q
theorem scLn : FnScope ["length", "settings"] ["length", "settings"] (defScope sCLen) := ⟨rfl, rfl, rfl, by decide +kernel, rfl, by decide +kernel, by decide +kernel⟩
theorem ok_len {f : Addr} {fd : FuncData} {tok : Tok} (F : Fun K "check_length" "check_length" sCLen f fd) (gN : mg "MOST_PIECES" = some (.int 200 tok)) :
    FnOk P w K mg base CX0 1 f fd ["length", "settings"] spLen := by
  refine F.ok scLn (fun vs H Q E h => ?_) (fun cdv A outer s H vs Q E hr h => ?_)
  · obtain ⟨t, n, l, m, g, rfl, _⟩ := h
    rfl
  · obtain ⟨t, n, l, m, g, rfl, ht, hn, q⟩ := h
    refine ⟨_, pss_one (ps_if (pt_cmpR op_gt (pv 0) (pe_op op_mul (pe_glob (by rfl) gN (v := V.int 200) ⟨_, rfl⟩) (pe_ix ix_tup (pv 1) pe_int (fun _ _ => rfl))) (nomark _)) pss_never pss_nil), ?_⟩
    refine ⟨_, rfl, _, rfl, t, _, _, _, rfl, rfl, SqT.of ht, at_of2 (j := 0) rfl rfl, _, _, rfl, rfl, .inl ⟨by decide, by decide⟩, _, _, rfl, rfl, _, rfl, ?_⟩
    refine ifF (decide_eq_false (by omega)) ?_
    exact q
theorem scSz : FnScope ["row", "settings"] ["row", "settings"] (defScope sCSz) := ⟨rfl, rfl, rfl, by decide +kernel, rfl, by decide +kernel, by decide +kernel⟩
theorem ok_sz {f C fN pL fL pM fM pS fS : Addr} {fd fdN dL dM dS : FuncData} (F : Fun K "check_size" "check_size" sCSz f fd) (R : Cl K mg C) (Gs : Gets P w K mg base C pL fL pM fM pS fS dL dM dS)
    (gN : mg "check_length" = some (.ref fN)) (kN : PySem.W.keepIn K (.ref fN) = true) (bN : Binds K fdN ["length", "settings"] []) (GN : FnOk P w K mg base CX0 1 fN fdN ["length", "settings"] spLen) :
    FnOk P w K mg base CX0 3 f fd ["row", "settings"] (spSz C) := by
  refine F.ok scSz (fun vs H Q E h => ?_) (fun cdv A outer s H vs Q E hr h => ?_)
  · obtain ⟨r, t, n, l, m, g, ms, ss, rfl, _⟩ := h
    rfl
  · obtain ⟨r, t, n, l, m, g, ms, ss, rfl, hR, ht, hn, q⟩ := h
    have hr1 : Room 1 (A.deeper (PyProof.Rows.envOfC "check_size" (defScope sCSz) s.heap.objs.size f cdv)) := hr.mono (by decide)
    refine ⟨_, pss_one (ps_expr (pe_call GN hr1 rfl gN kN bN .nil pass0 (pa_cons (pe_prop (pv 0) R.cl Gs.hL Gs.GL hr Gs.bL .nil pass0 rfl) (pa_cons (pv 1) pa_nil)))), ?_⟩
    obtain ⟨dx, l1, l2, ho, _, _⟩ := id hR
    refine ⟨_, rfl, r, dx, _, rfl, ho, r, n, ms, ss, rfl, hR, ?_⟩
    exact ⟨_, rfl, t, n, l, m, g, rfl, ht, hn, q⟩
abbrev NCu : List Str := ["row", "settings", "start", "cuts"]
theorem scCu : FnScope NCu ["row", "settings", "start"] (defScope sCuts) := ⟨rfl, rfl, rfl, by decide +kernel, rfl, by decide +kernel, by decide +kernel⟩
theorem ok_cuts {f C fS pL fL pM fM pS fSs : Addr} {fd fdS dL dM dS : FuncData} (F : Fun K "cuts_from" "cuts_from" sCuts f fd) (R : Cl K mg C) (Gs : Gets P w K mg base C pL fL pM fM pS fSs dL dM dS)
    (gS : mg "step" = some (.ref fS)) (kS : PySem.W.keepIn K (.ref fS) = true) (bS : Binds K fdS ["row", "settings", "place"] []) (GS : FnOk P w K mg base CX0 3 fS fdS ["row", "settings", "place"] (spStep C)) :
    FnOk P w K mg base CX0 4 f fd ["row", "settings", "start"] (spCuts C) := by
  refine F.ok scCu (fun vs H Q E h => ?_) (fun cdv A outer s H vs Q E hr h => ?_)
  · obtain ⟨r, t, n, l, m, g, p, ms, ss, rfl, _⟩ := h
    rfl
  · obtain ⟨r, t, n, l, m, g, p, ms, ss, rfl, hR, ht, G, S, big, p0, pn, q⟩ := h
    have hr2 : Room 2 (A.deeper (PyProof.Rows.envOfC "cuts_from" (defScope sCuts) s.heap.objs.size f cdv)) := hr.mono (by decide)
    refine ⟨_, pss_cons (ps_set (i := 3) scCu.nd rfl (Or.inl rfl) (pe_lst (pa_cons (pv 2) pa_nil)))
      (pss_cons (ps_while PassesOwn.never (pt_cmpR op_lt (pe_ix (r := rIxL K) ix_list (pv 3) (pe_un un_neg pe_int) (fun _ _ => rfl)) (pe_prop (pv 0) R.cl Gs.hL Gs.GL hr2 Gs.bL .nil pass0 rfl) (nomark _))
        (pss_one (ps_expr (pe_bm PySem.F.plainAttrs_list PySem.F.slot_list_append PySem.F.type_list_append mt_append (pv 3) (pa_cons (pe_call GS hr rfl gS kS bS .nil pass0 (pa_cons (pv 0) (pa_cons (pv 1) (pa_cons (pe_ix (r := rIxL K) ix_list (pv 3) (pe_un un_neg pe_int) (fun _ _ => rfl)) pa_nil)))) pa_nil)))))
      (pss_one (ps_ret (pv 3)))), ?_⟩
    have ST := nx_stp G S
    refine ⟨_, rfl, (by show 1 ≤ sizeLine; decide), fun D hD => ?_⟩
    refine while_by (fun σ H' => ∃ k, σ = [some (.ref r), some (.ref t), some (.int p), some (.ref D)] ∧ Same H H' ∧ IL H' D (wl (nx n ms ss l m g) n p k) ∧ (∀ i, i < k → kc (nx n ms ss l m g) n p i < n))
      (muCu n D) ⟨0, rfl, same_new (Same.refl H) hD, upd_same, fun i hi => absurd hi (Nat.not_lt_zero _)⟩ ?_
      (fun σ H Q Q' hQ h => by repeat' (first | exact hQ _ _ h | (obtain ⟨x, h⟩ := h; refine ⟨x, ?_⟩)))
    rintro σ H' ⟨k, rfl, s1, hI, hb⟩
    have R1 := hR.same s1
    obtain ⟨dx, l1, l2, ho, _, _⟩ := id R1
    have kle := kc_le ST pn k
    have few : k ≤ 200 := by
      by_cases c : k = 0
      · omega
      · have := kc_few ST p0 big (hb (k - 1) (by omega))
        omega
    obtain ⟨xs, hxs⟩ : ∃ xs, (wl (nx n ms ss l m g) n p k).map V.int = xs ++ [V.int (kc (nx n ms ss l m g) n p k)] := by
      unfold wl
      rw [List.range_succ, List.map_append, List.map_append]
      exact ⟨_, rfl⟩
    have at1 : atI ((wl (nx n ms ss l m g) n p k).map V.int) (-1) = some (V.int (kc (nx n ms ss l m g) n p k)) := by
      rw [hxs]
      exact atI_last _ _
    refine ⟨_, rfl, _, rfl, D, _, _, _, rfl, rfl, SqL.of hI, at1, ?_⟩
    refine ⟨_, rfl, r, dx, _, rfl, ho, r, n, ms, ss, rfl, R1, _, _, rfl, rfl, _, rfl, ?_⟩
    by_cases c : kc (nx n ms ss l m g) n p k < n
    · refine ifT (decide_eq_true c) ?_
      have few2 : k < 200 := kc_few ST p0 big c
      refine ⟨_, rfl, .inl ⟨rfl, _, SqL.of hI⟩, ?_⟩
      refine ⟨_, rfl, _, rfl, _, rfl, _, rfl, D, _, _, _, rfl, rfl, SqL.of hI, at1, ?_⟩
      refine ⟨r, t, n, l, m, g, _, ms, ss, rfl, R1, s1 _ _ ht, G, fun H2 s2 => ?_⟩
      have hI2 := s2 _ _ hI
      have mu1 : muCu n D [some (.ref r), some (.ref t), some (.int p), some (.ref D)] H' = (n - kc (nx n ms ss l m g) n p k).toNat := muCu_at (hI.trans (by rw [hxs]))
      refine ⟨D, _, _, rfl, rfl, hI2, by rw [List.length_map, wl_len]; exact small1000 (by omega), ⟨k + 1, rfl, same_put (s1.trans s2) hD, ?_, fun i hi => ?_⟩, ?_⟩
      · show upd _ _ _ D = _
        rw [upd_same, wl_succ, kc_at c, List.map_append]
        rfl
      · by_cases e : i = k
        · rw [e]
          exact c
        · exact hb i (by omega)
      · rw [mu1, muCu_at upd_same]
        have := ST.gt c
        omega
    · refine ifF (decide_eq_false c) ?_
      exact ⟨_, rfl, q D H' k s1 hD ⟨few, by omega, hb⟩ hI⟩
end
end Cw
namespace Cw
open PySem L2
theorem kc_lt {F : Int → Int} {n l s : Int} {m : Nat} (S : Stp F n l) (w : WkOk F n s m) {i j : Nat} (hij : i < j) (hj : j ≤ m) : kc F n s i < kc F n s j := by
  induction j with
  | zero => omega
  | succ j ih =>
    have c := w.bef j (by omega)
    have e := S.gt c
    rw [kc_at c]
    by_cases d : i = j
    · rw [d]
      exact e
    · have := ih (by omega) (by omega)
      omega
theorem wl_asc {F : Int → Int} {n l s : Int} {m : Nat} (S : Stp F n l) (w : WkOk F n s m) : Asc (wl F n s m) := by
  unfold wl
  refine List.pairwise_map.mpr ?_
  refine (List.pairwise_lt_range (n := m + 1)).imp_of_mem fun {i j} hi hj hij => ?_
  rw [List.mem_range] at hj
  exact kc_lt S w hij (by omega)
theorem kc_mem {F : Int → Int} {n s : Int} {m : Nat} {x : Int} : x ∈ wl F n s m ↔ ∃ i, i ≤ m ∧ kc F n s i = x := by
  unfold wl
  rw [List.mem_map]
  constructor
  · rintro ⟨i, hi, rfl⟩
    exact ⟨i, by rw [List.mem_range] at hi; omega, rfl⟩
  · rintro ⟨i, hi, rfl⟩
    exact ⟨i, by rw [List.mem_range]; omega, rfl⟩
/-- all that the calls of a row with settings want -/
structure RwS (C : Addr) (H : Hp) (r t : Addr) (n l m g : Int) (ms ss : List Int) : Prop where
  row : RowAt C H r n ms ss
  tup : H t = some (.tup [.int l, .int m, .int g])
  good : Good n ms ss
  set : SetOk l m g
  big : n ≤ 200 * l
theorem RwS.same {C : Addr} {H H' : Hp} {r t : Addr} {n l m g : Int} {ms ss : List Int} (R : RwS C H r t n l m g ms ss) (s : Same H H') : RwS C H' r t n l m g ms ss := ⟨R.row.same s, s _ _ R.tup, R.good, R.set, R.big⟩
def spCW (C : Addr) : Sp := fun vs H Q _ => ∃ (r t c : Addr) (n l m g : Int) (ms ss ps : List Int), vs = [.ref r, .ref t, .ref c] ∧ RwS C H r t n l m g ms ss ∧ IL H c ps ∧ ps.length ≤ 1000 ∧ (∀ i, i < ps.length → (0 :: ps).getD i 0 ≤ ps.getD i 0 ∧ ps.getD i 0 ≤ n) ∧ ∀ H', Same H H' → Q .non H'
def spNext (C : Addr) : Sp := fun vs H Q _ => ∃ (r t : Addr) (n l m g p : Int) (ms ss : List Int), vs = [.ref r, .ref t, .int p] ∧ RwS C H r t n l m g ms ss ∧ 0 ≤ p ∧ p < n ∧ ∀ H', Same H H' → Q (.int (nx n ms ss l m g p)) H'
def spWalk (C : Addr) : Sp := fun vs H Q _ => ∃ (r t : Addr) (n l m g p : Int) (ms ss : List Int), vs = [.ref r, .ref t, .int p] ∧ RwS C H r t n l m g ms ss ∧ 0 ≤ p ∧ p ≤ n ∧
  ∀ q H' k, Same H H' → H q = none → WkOk (nx n ms ss l m g) n p k → IL H' q (wl (nx n ms ss l m g) n p k) → Q (.ref q) H'
def spWithin (C : Addr) : Sp := fun vs H Q _ => ∃ (r t : Addr) (n l m g p lo hi : Int) (ms ss : List Int), vs = [.ref r, .ref t, .int p, .int lo, .int hi] ∧ RwS C H r t n l m g ms ss ∧ 0 ≤ p ∧ p ≤ lo ∧ lo ≤ hi ∧ hi ≤ n ∧
  ∀ H' k, Same H H' → WkOk (nx n ms ss l m g) n p k → Q (.int ((cb (wl (nx n ms ss l m g) n p k) hi : Nat) - (cb (wl (nx n ms ss l m g) n p k) lo : Nat) : Int)) H'
section
variable {P : Program} {w : World} {K : PySem.W.Frag} {mg : Str → Option Value} {base : Heap}
abbrev NCW : List Str := ["row", "settings", "places", "low", "place"]
abbrev NWi : List Str := ["row", "settings", "start", "low", "high", "cuts"]
end
end Cw
namespace Cw
open PySem L2
theorem kc_up {F : Int → Int} {n l s : Int} (S : Stp F n l) {i : Nat} : ∀ j : Nat, kc F n s i ≤ kc F n s (i + j)
  | 0 => Int.le_refl _
  | j + 1 => by
    have h := kc_up S (i := i) (s := s) j
    by_cases c : kc F n s (i + j) < n
    · have e := S.gt c
      have k : kc F n s (i + (j + 1)) = F (kc F n s (i + j)) := kc_at c
      omega
    · have k : kc F n s (i + (j + 1)) = kc F n s (i + j) := if_neg c
      omega
theorem kc_wk {F : Int → Int} {n l s : Int} (S : Stp F n l) {i j : Nat} (h : i ≤ j) : kc F n s i ≤ kc F n s j := by
  have := kc_up S (s := s) (i := i) (j - i)
  rw [Nat.add_sub_cancel' h] at this
  exact this
structure Met (F : Int → Int) (n a b : Int) (i j : Nat) (x y : Int) : Prop where
  ex : kc F n a i = x
  ey : kc F n b j = y
  na : ∀ i', i' < i → ∀ j', kc F n a i' ≠ kc F n b j'
  nb : ∀ j', j' < j → ∀ i', kc F n b j' ≠ kc F n a i'
  pa : 0 < i → kc F n a (i - 1) < y
  pb : 0 < j → kc F n b (j - 1) < x
theorem Met.swap {F : Int → Int} {n a b : Int} {i j : Nat} {x y : Int} (M : Met F n a b i j x y) : Met F n b a j i y x := ⟨M.ey, M.ex, M.nb, M.na, M.pb, M.pa⟩
theorem Met.start {F : Int → Int} {n a b : Int} : Met F n a b 0 0 a b := ⟨rfl, rfl, fun _ h => absurd h (Nat.not_lt_zero _), fun _ h => absurd h (Nat.not_lt_zero _), fun h => absurd h (Nat.lt_irrefl _), fun h => absurd h (Nat.lt_irrefl _)⟩
theorem Met.next {F : Int → Int} {n l a b : Int} {i j : Nat} {x y : Int} (S : Stp F n l) (M : Met F n a b i j x y) (h : x < y) (hy : y ≤ n) : Met F n a b (i + 1) j (F x) y := by
  have c : kc F n a i < n := by rw [M.ex]; omega
  have e := S.gt c
  rw [M.ex] at e
  refine ⟨by rw [kc_at c, M.ex], M.ey, fun i' hi' j' z => ?_, M.nb, fun _ => by rw [Nat.add_sub_cancel, M.ex]; exact h, fun hj => by have := M.pb hj; omega⟩
  by_cases d : i' = i
  · rw [d, M.ex] at z
    by_cases f : j' < j
    · have w := kc_wk S (s := b) (show j' ≤ j - 1 by omega)
      have := M.pb (by omega)
      omega
    · have w := kc_wk S (s := b) (show j ≤ j' by omega)
      rw [M.ey] at w
      omega
  · exact M.na i' (by omega) j' z
/-- where two walks meet -/
def Mt (F : Int → Int) (n a b v : Int) : Prop := ∃ i j, kc F n a i = v ∧ kc F n b j = v ∧ (∀ i', i' < i → ∀ j', kc F n a i' ≠ kc F n b j') ∧ (∀ j', j' < j → ∀ i', kc F n b j' ≠ kc F n a i')
def spMeet (C : Addr) : Sp := fun vs H Q _ => ∃ (r t : Addr) (n l m g a b : Int) (ms ss : List Int), vs = [.ref r, .ref t, .int a, .int b] ∧ RwS C H r t n l m g ms ss ∧ 0 ≤ a ∧ a ≤ n ∧ 0 ≤ b ∧ b ≤ n ∧ ∀ H' v, Same H H' → Mt (nx n ms ss l m g) n a b v → Q (.int v) H'
def muMe (n : Int) : St → Hp → Nat := fun σ _ => match σ with | [_, _, some (.int x), some (.int y)] => (n - x).toNat + (n - y).toNat | _ => 0
section
variable {P : Program} {w : World} {K : PySem.W.Frag} {mg : Str → Option Value} {base : Heap}
abbrev NMe : List Str := ["row", "settings", "first", "second"]
end
end Cw
namespace Cw
open PySem L2
theorem take_fil {ns : List Int} {i : Nat} {z : Int} (h : ns[i]? = some z) (p : Int → Bool) : (ns.take (i + 1)).filter p = (ns.take i).filter p ++ (if p z = true then [z] else []) := by
  rw [List.take_add_one, h, List.filter_append]
  congr 1
  show List.filter p [z] = _
  rw [List.filter_cons]
  rfl
/-- a raw row with its three numbers -/
def RawS (H : Hp) (p : Addr) (n : Int) (prs : List (Int × Int)) (l m g : Int) : Prop := ∃ lp t ts, H p = some (.tup [.int n, .ref lp, .ref t]) ∧ H lp = some (.lst (ts.map V.ref)) ∧ PrAt H ts prs ∧ H t = some (.tup [.int l, .int m, .int g])
theorem RawS.raw {H : Hp} {p : Addr} {n : Int} {prs : List (Int × Int)} {l m g : Int} (r : RawS H p n prs l m g) : RawAt H p n prs := by
  obtain ⟨lp, t, ts, h1, h2, h3, _⟩ := r
  exact ⟨lp, t, ts, h1, h2, h3⟩
theorem RawS.but {H H' : Hp} {p a : Addr} {k : Nat} {n : Int} {prs : List (Int × Int)} {l m g : Int} (r : RawS H p n prs l m g) (J : JarAt H a k) (s : But H H' a) : RawS H' p n prs l m g := by
  obtain ⟨lp, t, ts, h1, h2, h3, h4⟩ := r
  refine ⟨lp, t, ts, s _ _ h1 (J.no h1 fun _ _ _ z => nomatch z), s _ _ h2 (J.no h2 fun r m n z => ?_), h3.imp fun t p h => s _ _ h (J.no h fun _ _ _ z => nomatch z), s _ _ h4 (J.no h4 fun _ _ _ z => nomatch z)⟩
  injection z with z
  cases ts with
  | nil => cases z
  | cons t ts => cases z
def spSmall : Sp := fun vs H Q _ => ∃ (a : Addr) (k : Nat) (mo : Int), vs = [.ref a, .int mo] ∧ 1 ≤ mo ∧ mo ≤ 40 ∧ JarAt H a (k + 60) ∧ ∀ (p : Addr) (H' : Hp) (n l m g : Int) (prs : List (Int × Int)), n ≤ mo → GoodP n prs → prs.length ≤ 39 → RawS H' p n prs l m g → SetOk l m g → n ≤ 200 * l → g ≤ 10000000000000000000000000000 → JarAt H' a k → But H H' a → Q (.ref p) H'
theorem asc_snoc {ms : List Int} {z : Int} (h : Asc ms) (k : ∀ x ∈ ms, x < z) : Asc (ms ++ [z]) := by
  rw [Asc, List.pairwise_append]
  refine ⟨h, List.pairwise_singleton _ _, fun x hx y hy => ?_⟩
  rw [List.mem_singleton.mp hy]
  exact k x hx
/-- what the loop has found: the pairs, all below the place i -/
structure Found (i : Int) (prs : List (Int × Int)) : Prop where
  rng : ∀ q ∈ prs, 1 ≤ q.1 ∧ q.1 < i ∧ (q.2 = 1 ∨ q.2 = 2)
  asc : Asc (prs.map (·.1))
theorem Found.nil (i : Int) : Found i [] := ⟨fun _ h => (nomatch h), List.Pairwise.nil⟩
theorem Found.up {i : Int} {prs : List (Int × Int)} (h : Found i prs) : Found (i + 1) prs := by
  refine ⟨fun q hq => ?_, h.asc⟩
  have := h.rng q hq
  omega
theorem Found.snoc {i : Int} {prs : List (Int × Int)} {z : Int} (h : Found i prs) (h0 : 1 ≤ i) (hz : z = 1 ∨ z = 2) : Found (i + 1) (prs ++ [(i, z)]) := by
  refine ⟨fun q hq => ?_, ?_⟩
  · rcases List.mem_append.mp hq with hq | hq
    · have := h.rng q hq
      omega
    · rw [List.mem_singleton.mp hq]
      refine ⟨h0, ?_, hz⟩
      show i < i + 1
      omega
  · rw [List.map_append]
    refine asc_snoc h.asc fun x hx => ?_
    obtain ⟨q, hq, rfl⟩ := List.mem_map.mp hx
    exact (h.rng q hq).2.1
section
variable {P : Program} {w : World} {K : PySem.W.Frag} {mg : Str → Option Value} {base : Heap}
abbrev NSm : List Str := ["jar", "most", "length", "way", "found", "spot", "kind"]
end
end Cw
namespace Cw
open PySem L2
def spGreat : Sp := fun vs H Q _ => ∃ (a : Addr) (k : Nat) (mo : Int), vs = [.ref a, .int mo] ∧ 1 ≤ mo ∧ mo ≤ 40 ∧ JarAt H a (k + 120) ∧ ∀ (p : Addr) (H' : Hp) (n l m g : Int) (prs : List (Int × Int)), GoodP n prs → prs.length ≤ 16 → RawS H' p n prs l m g → SetOk l m g → n ≤ 200 * l → g ≤ 10000000000000000000000000000 → JarAt H' a k → But H H' a → Q (.ref p) H'
theorem none_but {H H' : Hp} {a l : Addr} {k : Nat} (J : JarAt H' a k) (B : But H H' a) (h : H' l = none) : H l = none := none_of (fun c o e => by
  by_cases z : c = a
  · obtain ⟨r, m, n, e', _⟩ := J
    exact ⟨_, by rw [z]; exact e'⟩
  · exact ⟨o, B _ _ e z⟩) h
theorem at4 {z x y u v : Int} (h0 : 0 ≤ z) (h1 : z < 4) : ∃ r, atI [V.int x, V.int y, V.int u, V.int v] z = some (V.int r) := by
  obtain ⟨r, e, m⟩ := at_lt (xs := [V.int x, V.int y, V.int u, V.int v]) h0 (by simpa using h1)
  simp only [List.mem_cons, List.not_mem_nil, or_false] at m
  rcases m with rfl | rfl | rfl | rfl <;> exact ⟨_, e⟩
theorem at2b {x y : Int} (c : Bool) : ∃ r, atI [V.int x, V.int y] (if c = true then 1 else 0) = some (V.int r) := by
  cases c
  · exact ⟨x, rfl⟩
  · exact ⟨y, rfl⟩
section
variable {P : Program} {w : World} {K : PySem.W.Frag} {mg : Str → Option Value} {base : Heap}
abbrev NG : List Str := ["jar", "most", "three", "length", "spots", "spot", "turn", "gap", "inner", "one"]
end
end Cw
namespace Cw
open PySem L2
/-! ## walks beside one another -/
theorem kc_add {F : Int → Int} {n s : Int} {i : Nat} : ∀ k : Nat, kc F n s (i + k) = kc F n (kc F n s i) k
  | 0 => rfl
  | k + 1 => by
    have h := kc_add (F := F) (n := n) (s := s) (i := i) k
    show (if kc F n s (i + k) < n then F (kc F n s (i + k)) else kc F n s (i + k)) = (if kc F n (kc F n s i) k < n then F (kc F n (kc F n s i) k) else kc F n (kc F n s i) k)
    rw [h]
theorem WkOk.from {F : Int → Int} {n s : Int} {m i : Nat} (w : WkOk F n s m) (h : i ≤ m) : WkOk F n (kc F n s i) (m - i) := by
  refine ⟨by have := w.few; omega, ?_, fun k hk => ?_⟩
  · rw [← kc_add, Nat.add_sub_cancel' h]
    exact w.fin
  · rw [← kc_add]
    exact w.bef _ (by omega)
theorem WkOk.one {F : Int → Int} {n s : Int} {m k : Nat} (w : WkOk F n s m) (u : WkOk F n s k) : m = k := by
  rcases Nat.lt_trichotomy m k with h | h | h
  · have := u.bef _ h
    have := w.fin
    omega
  · exact h
  · have := w.bef _ h
    have := u.fin
    omega
theorem WkOk.later {F : Int → Int} {n s : Int} {m k : Nat} (w : WkOk F n s m) (h : m ≤ k) : kc F n s k = n := by
  have z := kc_end (F := F) (n := n) (s := s) (m := m) (by rw [w.fin]; omega) (k - m)
  rw [Nat.add_sub_cancel' h, w.fin] at z
  exact z
theorem fil_ge {F : Int → Int} {n l a v : Int} {m i : Nat} (S : Stp F n l) (w : WkOk F n a m) (hi : i ≤ m) (hv : kc F n a i = v) : (wl F n a m).filter (fun c => decide (c ≥ v)) = wl F n v (m - i) := by
  have e : m + 1 = i + (m - i + 1) := by omega
  unfold wl
  rw [e, List.range_add, List.map_append, List.filter_append, List.map_map]
  have z1 : ((List.range i).map (kc F n a)).filter (fun c => decide (c ≥ v)) = [] := List.filter_eq_nil_iff.mpr fun x hx => by
    obtain ⟨k, hk, rfl⟩ := List.mem_map.mp hx
    rw [List.mem_range] at hk
    have := kc_lt S w hk hi
    simp only [decide_eq_true_eq]
    omega
  have z2 : ((List.range (m - i + 1)).map (kc F n a ∘ (i + ·))).filter (fun c => decide (c ≥ v)) = (List.range (m - i + 1)).map (kc F n a ∘ (i + ·)) := List.filter_eq_self.mpr fun x hx => by
    obtain ⟨k, hk, rfl⟩ := List.mem_map.mp hx
    have := kc_wk S (s := a) (show i ≤ i + k by omega)
    refine decide_eq_true ?_
    show kc F n a (i + k) ≥ v
    omega
  rw [z1, z2, List.nil_append]
  refine List.map_congr_left fun k _ => ?_
  show kc F n a (i + k) = kc F n v k
  rw [kc_add, hv]
theorem mt_same {F : Int → Int} {n l a b v : Int} {m k : Nat} (S : Stp F n l) (M : Mt F n a b v) (w : WkOk F n a m) (u : WkOk F n b k) : (wl F n a m).filter (fun c => decide (c ≥ v)) = (wl F n b k).filter (fun c => decide (c ≥ v)) := by
  obtain ⟨i, j, e1, e2, na, nb⟩ := M
  have hi : i ≤ m := by
    by_cases c : i ≤ m
    · exact c
    · exact absurd (w.fin.trans u.fin.symm) (na m (by omega) k)
  have hj : j ≤ k := by
    by_cases c : j ≤ k
    · exact c
    · exact absurd (u.fin.trans w.fin.symm) (nb k (by omega) m)
  have w' := w.from hi
  have u' := u.from hj
  rw [e1] at w'
  rw [e2] at u'
  rw [fil_ge S w hi e1, fil_ge S u hj e2, w'.one u']
theorem mt_none {F : Int → Int} {n l a b v : Int} {m k : Nat} (S : Stp F n l) (M : Mt F n a b v) : (wl F n a m).filter (fun c => decide (c < v) && decide (c ∈ wl F n b k)) = [] := by
  obtain ⟨i, j, e1, e2, na, nb⟩ := M
  refine List.filter_eq_nil_iff.mpr fun x hx => ?_
  obtain ⟨i', _, rfl⟩ := kc_mem.mp hx
  simp only [Bool.and_eq_true, decide_eq_true_eq]
  rintro ⟨h1, h2⟩
  obtain ⟨j', _, e⟩ := kc_mem.mp h2
  by_cases c : i' < i
  · exact na i' c j' e.symm
  · have := kc_wk S (s := a) (show i ≤ i' by omega)
    omega
theorem turns {F : Int → Int} {n l a b : Int} (S : Stp F n l) (ab : a ≤ b) (bn : b ≤ n) (bF : b ≤ kc F n a 1) : ∀ k, kc F n a k ≤ kc F n b k ∧ kc F n b k ≤ kc F n a (k + 1)
  | 0 => ⟨ab, bF⟩
  | k + 1 => by
    obtain ⟨h1, h2⟩ := turns S ab bn bF k
    have st : ∀ p q, p ≤ q → q ≤ n → (if p < n then F p else p) ≤ (if q < n then F q else q) := fun p q h hq => by
      by_cases c : q < n
      · rw [if_pos c, if_pos (by omega)]
        exact S.mono _ _ h
      · rw [if_neg c]
        by_cases d : p < n
        · rw [if_pos d]
          have := S.le p
          omega
        · rw [if_neg d]
          exact h
    exact ⟨st _ _ h1 (kc_le S bn k), st _ _ h2 (kc_le S (by omega) (k + 1))⟩
/-- the number of cuts before z is the first index that is not -/
theorem cb_wl {F : Int → Int} {n l s z : Int} {m : Nat} (S : Stp F n l) (w : WkOk F n s m) (hz : z ≤ n) : z ≤ kc F n s (cb (wl F n s m) z) ∧ (∀ i, i < cb (wl F n s m) z → kc F n s i < z) ∧ cb (wl F n s m) z ≤ m := by
  obtain ⟨h1, h2⟩ := cb_split (wl_asc S w) z
  have g : ∀ i, i ≤ m → (wl F n s m)[i]? = some (kc F n s i) := fun i hi => by
    unfold wl
    rw [List.getElem?_map, List.getElem?_range (by omega)]
    rfl
  have c : cb (wl F n s m) z ≤ m := by
    by_cases c : cb (wl F n s m) z ≤ m
    · exact c
    · have := h1 m (by omega) _ (g m (Nat.le_refl _))
      have := w.fin
      omega
  exact ⟨h2 _ (Nat.le_refl _) _ (g _ c), fun i hi => h1 i hi _ (g i (by omega)), c⟩
theorem last_up {F : Int → Int} {n a b : Int} (ab : a ≤ b) : ∀ m, (∃ i, kc F n a i ≤ b ∧ b ≤ kc F n a (i + 1)) ∨ kc F n a m ≤ b
  | 0 => .inr ab
  | m + 1 => by
    rcases last_up ab m with h | h
    · exact .inl h
    · by_cases c : kc F n a (m + 1) ≤ b
      · exact .inr c
      · exact .inl ⟨m, h, by omega⟩
/-- how the numbers of cuts before a place differ, behind both starts -/
theorem cb_near {F : Int → Int} {n l a b : Int} {m k : Nat} (S : Stp F n l) (w : WkOk F n a m) (u : WkOk F n b k) (ab : a ≤ b) (bn : b < n) :
    ∃ i, ∀ z, b ≤ z → z ≤ n → i + cb (wl F n b k) z ≤ cb (wl F n a m) z ∧ cb (wl F n a m) z ≤ i + cb (wl F n b k) z + 1 := by
  obtain ⟨i, h1, h2⟩ : ∃ i, kc F n a i ≤ b ∧ b ≤ kc F n a (i + 1) := by
    rcases last_up (F := F) (n := n) ab m with h | h
    · exact h
    · have := w.fin
      omega
  refine ⟨i, fun z bz zn => ?_⟩
  have tn := turns S h1 (by omega) (by rw [← kc_add]; exact h2)
  obtain ⟨a1, a2, a3⟩ := cb_wl S w zn
  obtain ⟨b1, b2, b3⟩ := cb_wl S u zn
  generalize cb (wl F n a m) z = A at a1 a2 a3 ⊢
  generalize cb (wl F n b k) z = B at b1 b2 b3 ⊢
  constructor
  · by_cases c : i ≤ A
    · have t := (tn (A - i)).1
      rw [← kc_add, Nat.add_sub_cancel' c] at t
      by_cases d : A - i < B
      · have := b2 _ d
        omega
      · omega
    · exfalso
      have e1 := kc_wk S (s := a) (show A ≤ i by omega)
      have c1 : kc F n a A < n := by omega
      have e2 := S.gt c1
      rw [← kc_at c1] at e2
      have e3 := kc_wk S (s := a) (show A + 1 ≤ i by omega)
      omega
  · by_cases d : i + B + 1 < A
    · have t := (tn B).2
      have e := kc_add (F := F) (n := n) (s := a) (i := i) (B + 1)
      rw [← e] at t
      have := a2 (i + (B + 1)) (by omega)
      omega
    · omega
end Cw
namespace Cw
open PySem PySem.Spec PyProof.Rows L2
/-! ## defs of which it is known that no list's text is being made around them -/
structure FnG (P : Program) (w : World) (K : PySem.W.Frag) (mg : Str → Option Value) (base : Heap) (k : Nat) (f : Addr) (fd : FuncData) (ps : List Str) (sp : Sp) : Prop where
  len : ∀ vs H Q E, sp vs H Q E → vs.length = ps.length
  run : ∀ (A : Around) (outer : List Env) (s : Shared) (H : Hp) (args : Args) (us : List Value) (vs : List V) (Q : VK) (E : XK), Room k A → A.guards = some [] → Env0 P w K mg base A outer s H → BindsTo s fd args (ps.zip us) → Vals vs us → sp vs H Q E →
    codeAny (model P w) A (.call (.ref f) args) (CR CX0 outer P w H s Q E) s
theorem FnG.of {P : Program} {w : World} {K : PySem.W.Frag} {mg : Str → Option Value} {base : Heap} {k : Nat} {f : Addr} {fd : FuncData} {ps : List Str} {sp : Sp} (F : FnOk P w K mg base CX0 k f fd ps sp) : FnG P w K mg base k f fd ps sp :=
  ⟨F.len, fun A outer s H args us vs Q E hr _ => F.run A outer s H args us vs Q E hr⟩
section
variable {P : Program} {w : World} {K : PySem.W.Frag} {mg : Str → Option Value} {base : Heap}
theorem okG {x qual : Str} {st : Stmt} {f : Addr} {fd : FuncData} {N ps : List Str} {k : Nat} {sp : Sp} (F : Fun K x qual st f fd) (S : FnScope N ps (defScope st)) (len : ∀ vs H Q E, sp vs H Q E → vs.length = ps.length)
    (body : ∀ (cdv : Value) (A : Around) (outer : List Env) (s : Shared) (H : Hp) (vs : List V) (Q : VK) (E : XK), Room k (A.deeper (envOfC qual (defScope st) s.heap.objs.size f cdv)) → A.guards = some [] → sp vs H Q E →
      ∃ t, PSs (cxOf CX0 P w K mg base N qual (defScope st) f cdv A outer s H E).nox (defBody st) t ∧ t { nx := fun _ H' => Q .non H', rt := Q } (start N vs) H) : FnG P w K mg base (k + 1) f fd ps sp := by
  obtain ⟨oc, od, kV, doc, pm, an, cdv, ct, osl, rfl, look, hcd⟩ := F.ex
  refine ⟨len, fun A outer s H args us vs Q E room gu env bind rel prom => ?_⟩
  have here : K.In s.heap := env.mod.kin.keeps fun b o e => (env.bs b o e).1
  have free : s.heap.NoLimit := env.mod.nolimit.keeps fun b o e => (env.bs b o e).1
  have kinds : ∀ y ∈ ps.zip us, (defScope st).names.lookup y.1 = some .local ∨ ((defScope st).names.lookup y.1 = some .cell ∧ ((cellsFrom (s.heap.objs.size + 1) (defScope st).names []).lookup y.1).isSome = true) := fun y hy =>
    (S.par y.1 (List.of_mem_zip (show (y.1, y.2) ∈ ps.zip us from hy)).1).imp id fun z => ⟨z, PySem.W.cellsFrom_some _ _ _ (.inl z)⟩
  refine codeAny_call_function room.depth (here _ _ look) rfl S.co S.gen rfl (PySem.W.codeRec_of here hcd) (bind _ _ _ _ (wpAny_newFunctionEnv_cells S.kind kinds fun e he s1 ic => ?_))
  subst he
  obtain ⟨t, ht, hq⟩ := body cdv A outer s H vs Q E (room.deeper _) gu prom
  refine ⟨free.keeps ic.toInCall.keep, codeAny_func (wpAny_mono (ht.nox.run [] s1 (start N vs) H _ (inv_start S room.hd env (len _ _ _ _ prom) rel ic) hq) (fun fl s2 z => ?_) fun _ _ z => z)⟩
  cases fl with
  | ret u =>
    obtain ⟨v, _, H2, J, rv, qq⟩ := z
    exact ⟨v, H2, J.os, J.bare, J.base, J.hok, rv, qq⟩
  | next =>
    obtain ⟨_, H2, J, qq⟩ := z
    exact ⟨V.non, H2, J.os, J.bare, J.base, J.hok, rfl, qq⟩
  | brk =>
    obtain ⟨_, _, _, qq⟩ := z
    exact qq.elim
  | cont =>
    obtain ⟨_, _, _, qq⟩ := z
    exact qq.elim
end
section
variable {X : Cx} {k : Nat} {f : Addr} {fd : FuncData} {ps : List Str} {sp : Sp} {x : Str} {p pos : Pos} {e : Expr} {es : List Expr} {t : TA}
/-- a call of such a def where no list's text is being made -/
theorem pe_callG (F : FnG X.prog X.w X.K X.mg X.base k f fd ps sp) (room : Room k X.A) (gu : X.A.guards = some []) (gl : Gl X x) (hm : X.mg x = some (.ref f)) (kp : PySem.W.keepIn X.K (.ref f) = true) (bi : Binds X.K fd ps [])
    (ha : PA X (e :: es) t) (hdb : (x == ("__debug__" : Str)) = false := by decide) (he : starEach (e :: es) X.env = (false, eval e X.env) :: starEach es X.env := by rfl) (hpl : (backTo pos (starEach es X.env)).any (·.1) = false := by rfl) :
    PE X (.Call (.Name x p) (e :: es) [] pos) (tCall sp [] E0 t) := by
  refine ⟨fun pins s σ H Q I h => wpAny_Call_Name_kw (ld_glob I gl hm (PySem.W.callWith_K (h₀ := X.base) I.ok.mod.kin kp (thn (ha.run pos pins s σ H _ I h) fun us s1 ⟨vs, H1, I1, r, q⟩ => ⟨I1.kIn, ?_⟩) he hpl) hdb)⟩
  have q' : sp vs H1 Q E0 := by
    have z : sp (vs ++ []) H1 Q E0 := q
    rw [List.append_nil] at z
    exact z
  have many : us.length = ps.length := by rw [← r.length]; exact F.len _ _ _ _ q'
  refine wpAny_call (codeAny_mono (F.run X.A X.stack s1 H1 ⟨us, []⟩ us vs Q E0 room gu I1.env0 (by have z := bi s1 us I1.kIn (by rw [List.append_nil]; exact many); rw [List.append_nil] at z; exact z) r q') fun res s2 z => ?_)
  cases res with
  | error er => exact z.elim
  | ok fl =>
    cases fl with
    | ret u => exact I1.after z
    | next => exact z.elim
    | brk => exact z.elim
    | cont => exact z.elim
/-- repr of data: none of its lists is being shown around here -/
def rReprD (K : PySem.W.Frag) : List V → Hp → VK → Prop := fun xs H Q => ∃ a d, xs = [V.ref a] ∧ Dp K H (.ref a) d ∧ d.showable = true ∧ d.hasDict = false ∧ d.depth ≤ 60 ∧ d.shown.length ≤ sizeLine ∧ Q (.str d.shown) H
theorem call_reprD (gu : X.A.guards = some []) (hu : X.A.units + 64 < cLine) : CallR X (.builtin "repr") (rReprD X.K) := by
  intro pins s σ H xs us Q I r h
  obtain ⟨a, d, rfl, hd, sh, nd, dp, sz, q⟩ := h
  obtain ⟨u, rfl, rx⟩ := vals1 r
  obtain rfl : u = Value.ref a := rx
  obtain ⟨as, rd⟩ := Dp.reads I d (.ref a) (.ref a) hd rfl
  exact repr_of_reads' rd sh (fun z => by rw [nd] at z; cases z) gu (by omega) (fun _ _ e => e) (fun h' u tk keep => ⟨.str d.shown, H, I.kept keep, ⟨_, rfl⟩, q⟩) sz
end
end Cw
namespace Cw
open PySem PySem.Spec PyProof.Rows L2
/-- the law's call, its def being one of FnG; H tracks at most the script -/
theorem startG {P : Program} {w : World} {K : PySem.W.Frag} {mg mb : Str → Option Value} {k : Nat} {fa a : Addr} {fd : FuncData} {x : Str} {sp : Sp} {s1 : Shared} {vs : List Value} {ns : List Int}
    (kin : K.In s1.heap) (glob : s1.heap.Ns mainGlobals mg) (bns : s1.heap.Ns builtinsNs mb) (boot : ∀ y : Str, y ≠ "__name__" → mb y = bootBuiltins y) (lim : s1.heap.NoLimit) (gens : s1.gens = #[])
    (scr : s1.heap.get? a = some { cls := .type "list", data := .seq vs.toArray }) (room : Room k callerA)
    (F : ∀ base : Heap, K.In base → base.Ns mainGlobals mg → FnG P w K mg base k fa fd [x] sp) (bind : ∀ (s : Shared) (u : Value), BindsTo s fd ⟨[u], []⟩ [(x, u)])
    (H : Hp) (only : Only H) (prom : sp [.ref a] H (fun v _ => v = .bl true) E0) (hok : HOk P w H s1.heap) (at_ : ∀ b, H b ≠ none → b = a) (off : H a ≠ none → K.lookup a = none) :
    codeAny (model P w) callerA (.call (.ref fa) ⟨[.ref a], []⟩) (fun r s' => r = .ok (.ret (.bool true)) ∧ OldK s1.heap s'.heap ∧ s'.os = s1.os ∧ AllBare s'.gens) s1 := by
  have none_at : ∀ {b : Addr}, b ≠ a → H b = none := fun {b} nb => by
    cases z : H b with
    | none => rfl
    | some o => exact absurd (at_ b (by rw [z]; exact fun y => nomatch y)) nb
  have dicts : ∀ {b : Addr} {m : Str → Option Value}, s1.heap.Ns b m → (hidT s1.heap H).Ns b m := fun {b m} ⟨o, es, ep, e, d, r⟩ => by
    refine ⟨o, es, ep, hidT_get e (none_at fun z => ?_), d, r⟩
    rw [z, scr] at e
    cases e
    exact nomatch (show Data.seq vs.toArray _ = Data.dict es ep from d)
  have kin2 : K.In (hidT s1.heap H) := fun b o e => by
    refine hidT_get (kin b o e) ?_
    by_cases nb : b = a
    · subst nb
      cases z : H b with
      | none => rfl
      | some y =>
        rw [off (by rw [z]; exact fun y => nomatch y)] at e
        cases e
    · exact none_at nb
  obtain ⟨mc, lm1, lm2⟩ := lim
  have e0 : Env0 P w K mg (hidT s1.heap H) callerA [] s1 H := ⟨rfl, ⟨kin2, dicts glob, ⟨mb, dicts bns, boot⟩, ⟨mc, dicts lm1, lm2⟩⟩, fun _ _ e => of_hidT e, Nat.le_of_eq (hidT_size _ _), trivial, fun b hb => (List.not_mem_nil hb).elim, hok, .of_eq gens⟩
  refine codeAny_mono ((F _ kin2 (dicts glob)).run callerA [] s1 H ⟨[.ref a], []⟩ [.ref a] [.ref a] _ E0 room rfl e0 (bind s1 (.ref a)) (.cons rfl .nil) prom) fun res s2 z => ?_
  cases res with
  | error er => exact z.elim
  | ok fl =>
    cases fl with
    | next => exact z.elim
    | brk => exact z.elim
    | cont => exact z.elim
    | ret u =>
      obtain ⟨v, H2, os, bare, un, hok2, rel, q⟩ := z
      have qv : v = .bl true := q
      subst qv
      obtain rfl : u = Value.bool true := rel
      refine ⟨rfl, OldK.of_keep fun b o e => ?_, os, bare⟩
      rcases only b with nb | ⟨ob, xs, fz⟩
      · exact un.keep b o e nb (fun y => (List.not_mem_nil y).elim) (fun y => (List.not_mem_nil y).elim)
      · obtain ⟨h1, _⟩ := hok b _ fz
        obtain ⟨h2, _⟩ := hok2 b _ (un.frzs b ob _ fz)
        rw [e] at h1
        cases h1
        exact h2
theorem callG {P : Program} {w : World} {K : PySem.W.Frag} {mg mb : Str → Option Value} {k : Nat} {fa a : Addr} {fd : FuncData} {x : Str} {sp : Sp} {s1 : Shared} {vs : List Value} {ns : List Int}
    (kin : K.In s1.heap) (glob : s1.heap.Ns mainGlobals mg) (bns : s1.heap.Ns builtinsNs mb) (boot : ∀ y : Str, y ≠ "__name__" → mb y = bootBuiltins y) (lim : s1.heap.NoLimit) (gens : s1.gens = #[])
    (scr : s1.heap.get? a = some { cls := .type "list", data := .seq vs.toArray }) (nts : IntsAre vs ns) (few : ns.length ≤ sizeLine) (room : Room k callerA)
    (F : ∀ base : Heap, K.In base → base.Ns mainGlobals mg → FnG P w K mg base k fa fd [x] sp) (bind : ∀ (s : Shared) (u : Value), BindsTo s fd ⟨[u], []⟩ [(x, u)])
    (prom : ∀ H : Hp, Only H → SqL K H a (ns.map V.int) → sp [.ref a] H (fun v _ => v = .bl true) E0) :
    codeAny (model P w) callerA (.call (.ref fa) ⟨[.ref a], []⟩) (fun r s' => r = .ok (.ret (.bool true)) ∧ OldK s1.heap s'.heap ∧ s'.os = s1.os ∧ AllBare s'.gens) s1 := by
  have rel := vals_ints nts
  have many : vs.length = ns.length := nts.length
  cases hk : K.lookup a with
  | some o =>
    have e := kin a o hk
    rw [scr] at e
    cases e
    have on : Only fun _ => none := fun _ => .inl rfl
    exact startG (ns := ns) kin glob bns boot lim gens scr room F bind (fun _ => none) on (prom _ on (.inr ⟨_, vs.toArray, _, hk, rfl, rfl, rfl, by rw [List.size_toArray, many]; exact few, by simpa using rel⟩)) (fun _ _ z => nomatch z) (fun _ z => (z rfl).elim) fun z => (z rfl).elim
  | none =>
    obtain ⟨H, hH⟩ : ∃ H : Hp, H = fun b => if b = a then some (.frz { cls := .type "list", data := .seq vs.toArray } (.lst (ns.map V.int))) else none := ⟨_, rfl⟩
    have atA : H a = some (.frz { cls := .type "list", data := .seq vs.toArray } (.lst (ns.map V.int))) := by rw [hH]; exact if_pos rfl
    have els : ∀ b, b ≠ a → H b = none := fun b nb => by rw [hH]; exact if_neg nb
    have on : Only H := fun b => by
      by_cases nb : b = a
      · exact .inr ⟨_, _, by rw [nb]; exact atA⟩
      · exact .inl (els b nb)
    refine startG (ns := ns) kin glob bns boot lim gens scr room F bind H on (prom H on (.inl (.inr ⟨_, atA⟩))) (fun b u z => ?_) (fun b z => ?_) fun _ => hk
    · by_cases nb : b = a
      · subst nb
        rw [atA] at z
        cases z
        exact ⟨scr, by rw [List.length_map]; exact few, vs, _, rel, scr⟩
      · rw [els b nb] at z
        cases z
    · by_cases nb : b = a
      · exact nb
      · exact (z (els b nb)).elim
/-- the walk of a law whose def is one of FnG -/
theorem walkG {l : PySem.W.OpenLaw} {n k : Nat} {q : Program} {loose : List Str} {XP : (Str → Option Value) → Heap → Prop} {YP : World → Heap → Prop} {d : DefRec} {K : Params → PySem.W.Frag} {sp : World → Sp} {x : Str}
    (most : l.most = some n) (n2 : n ≤ sizeLine) (dfl : d.params.defaults = []) (room : Room k callerA) (hY : ∀ (w : World) (h : Heap), YP w h → (K w.params).In h)
    (F : ∀ (w : World) (mg : Str → Option Value) (fa : Addr) (h : Heap), (K w.params).In h → h.Ns mainGlobals mg → mg d.name = some (.ref fa) →
      ∃ fd : FuncData, (∀ (s : Shared) (u : Value), BindsTo s fd ⟨[u], []⟩ [(x, u)]) ∧ ∀ base : Heap, (K w.params).In base → base.Ns mainGlobals mg → FnG l.prog w (K w.params) mg base k fa fd [x] (sp w))
    (prom : ∀ (w : World) (H : Hp) (a : Addr) (ns : List Int), ns.length ≤ n → Only H → SqL (K w.params) H a (ns.map V.int) → sp w [.ref a] H (fun v _ => v = .bl true) E0) :
    PySem.W.WalkO q loose XP YP l.row.toRowW d [] (fun f vs => PySem.call f vs) := by
  refine Att.attach_call most dfl fun w s0 s1 mg mb fa o pm cd doc a vs ns G Y ho hd hcd hmg scr nts few gens => ?_
  have kin := hY w _ Y
  obtain ⟨fd, bi, FF⟩ := F w mg fa _ kin G.T.g hmg
  exact callG kin G.T.g G.T.b G.T.builtins G.T.nolimit gens scr nts (Nat.le_trans few n2) room FF bi fun H on hs => prom w H a ns few on hs
end Cw
namespace Cw
open PySem L2
def RowOff (C : Addr) (H : Hp) (a p : Addr) (n : Int) (ms ss : List Int) : Prop := ∃ dx l1 l2, H p = some (.ins C dx (flds n l1 l2)) ∧ IL H l1 ms ∧ IL H l2 ss ∧ l1 ≠ a ∧ l2 ≠ a
theorem RowNew.off {C : Addr} {H H' : Hp} {p a : Addr} {k : Nat} {n : Int} {ms ss : List Int} (r : RowNew C H H' p n ms ss) (J : JarAt H a k) : RowOff C H' a p n ms ss := by
  obtain ⟨dx, l1, l2, h1, h2, h3, n1, n2⟩ := r
  exact ⟨dx, l1, l2, h1, h2, h3, (J.ne n1).symm, (J.ne n2).symm⟩
theorem RowOff.at {C : Addr} {H : Hp} {p a : Addr} {n : Int} {ms ss : List Int} (r : RowOff C H a p n ms ss) : RowAt C H p n ms ss := by
  obtain ⟨dx, l1, l2, h1, h2, h3, _⟩ := r
  exact ⟨dx, l1, l2, h1, h2, h3⟩
theorem RowOff.but {C : Addr} {H H' : Hp} {p a : Addr} {k : Nat} {n : Int} {ms ss : List Int} (r : RowOff C H a p n ms ss) (J : JarAt H a k) (B : But H H' a) : RowOff C H' a p n ms ss := by
  obtain ⟨dx, l1, l2, h1, h2, h3, n1, n2⟩ := r
  exact ⟨dx, l1, l2, B _ _ h1 (J.no h1 fun _ _ _ z => nomatch z), B _ _ h2 n1, B _ _ h3 n2, n1, n2⟩
/-- a row and settings that stay while the jar is drawn from -/
structure RwO (C : Addr) (H : Hp) (a r t : Addr) (n l m g : Int) (ms ss : List Int) : Prop where
  row : RowOff C H a r n ms ss
  tup : H t = some (.tup [.int l, .int m, .int g])
  good : Good n ms ss
  set : SetOk l m g
  big : n ≤ 200 * l
theorem RwO.rws {C : Addr} {H : Hp} {a r t : Addr} {n l m g : Int} {ms ss : List Int} (R : RwO C H a r t n l m g ms ss) : RwS C H r t n l m g ms ss := ⟨R.row.at, R.tup, R.good, R.set, R.big⟩
theorem RwO.but {C : Addr} {H H' : Hp} {a r t : Addr} {k : Nat} {n l m g : Int} {ms ss : List Int} (R : RwO C H a r t n l m g ms ss) (J : JarAt H a k) (B : But H H' a) : RwO C H' a r t n l m g ms ss :=
  ⟨R.row.but J B, B _ _ R.tup (J.no R.tup fun _ _ _ z => nomatch z), R.good, R.set, R.big⟩
theorem inV_il {z : Int} {ns : List Int} : inV (.int z) (ns.map V.int) = decide (z ∈ ns) := by
  unfold inV
  induction ns with
  | nil => rfl
  | cons a r ih =>
    rw [List.map_cons, List.any_cons, ih]
    have e : eqV (.int a) (.int z) = decide (a = z) := by
      by_cases c : a = z
      · subst c; simp [eqV]
      · simp [eqV, c]
    rw [e]
    by_cases c : a = z
    · subst c; simp
    · have c' : ¬ z = a := fun h => c h.symm
      simp [c, c']
theorem flat_il {ns : List Int} : (ns.map V.int).all flatV = true := by
  rw [List.all_map]
  exact List.all_eq_true.mpr fun _ _ => rfl
theorem nx_reach {n l m g p : Int} {ms ss : List Int} : nx n ms ss l m g p ≤ p + g := by
  unfold nx
  omega
/-- a comprehension that takes some whole numbers of a list -/
theorem lc_fil {K : PySem.W.Frag} {a D : Addr} {ns : List Int} {g : TG} {tt : TT} {te : TE} {vs : List Nat} {σ : St} {H1 : Hp} {Qd : Hp → Prop} (f : Int → Bool)
    (ha : IL H1 a ns) (hD : H1 D = none) (few : ns.length ≤ 999)
    (step : ∀ (z : Int) (H : Hp) (A : V → Hp → Prop) (B : Hp → Prop), Same H1 H → (f z = true → A (.int z) H) → (f z = false → B H) →
      g (.int z) (wipe σ vs) H fun σ2 H2 => wipe σ2 vs = wipe σ vs ∧ tt σ2 H2 fun b H3 => if b = true then te σ2 H3 fun y H4 => A y H4 else B H3)
    (fin : ∀ (H : Hp), Same H1 H → IL H D (ns.filter f) → Qd H) :
    ∃ W : Nat → Nat → Hp → Prop, (∃ m, W 0 m (upd H1 D (HO.lst []))) ∧ ∀ (i m : Nat) (H : Hp), W i m H → (Itl K a).stop i H ∧ Qd H ∨ (Itl K a).go i H ∧ ∃ Nx : Hp → Prop, (∀ H', Nx H' → ∃ m', m' < m ∧ W (i + 1) m' H') ∧
      ∀ (x : V) (H' : Hp), (Itl K a).yld i H x H' → g x (wipe σ vs) H' fun σ2 H2 => wipe σ2 vs = wipe σ vs ∧ tt σ2 H2 fun b H3 => if b = true then te σ2 H3 fun y H4 => ∃ acc, H4 D = some (HO.lst acc) ∧ acc.length < sizeLine ∧ Nx (upd H4 D (HO.lst (acc ++ [y]))) else Nx H3 := by
  refine lc_list (K := K) (a := a) (xs := ns.map V.int) (fun i H' => Same H1 H' ∧ IL H' D ((ns.take i).filter f)) ⟨same_new (Same.refl H1) hD, upd_same⟩ (fun i H' _ z => SqL.of (z.1 _ _ ha)) ?_ ?_
  · rintro i x H' hx ⟨s1, hE⟩
    obtain ⟨z, rfl, hz⟩ := il_at hx
    have hil := (List.getElem?_eq_some_iff.mp hz).1
    have tk := take_fil hz f
    have ln : ((ns.take i).filter f).length ≤ 999 := by
      have z1 := List.length_filter_le f (ns.take i)
      rw [List.length_take] at z1
      omega
    refine step z H' _ _ s1 (fun c => ?_) (fun c => ?_)
    · refine ⟨_, hE, by rw [List.length_map]; exact small1000 (by omega), same_put s1 hD, ?_⟩
      show upd _ _ _ D = _
      rw [upd_same, ints_app, tk, if_pos c]
    · refine ⟨s1, ?_⟩
      show H' D = _
      rw [hE, tk, if_neg (by rw [c]; exact Bool.false_ne_true), List.append_nil]
  · rintro H ⟨s1, hE⟩
    rw [List.length_map, List.take_length] at hE
    exact fin H s1 hE
theorem near_at {ks : List Int} {z : Int} (h0 : 0 ≤ z) (h1 : z < (ks.map V.int).length) : ∃ v, atI (ks.map V.int) z = some (V.int v) ∧ v ∈ ks := by
  obtain ⟨v, e, m⟩ := at_lt h0 h1
  obtain ⟨y, hy, rfl⟩ := List.mem_map.mp m
  exact ⟨y, e, hy⟩
theorem refs_no {ts : List Addr} : ∀ r m n : Int, HO.lst (ts.map V.ref) ≠ .lst [.int r, .int m, .int n] := fun r m n z => by
  injection z with z
  cases ts with
  | nil => cases z
  | cons t ts => cases z
theorem same_but {H0 H1 H' : Hp} {p : Addr} (s : Same H0 H1) (n : H0 p = none) (b : But H1 H' p) : Same H0 H' := fun c o e => b c o (s c o e) (ne_of_none e n)
/-- what is said of == of rows -/
structure Eqs (P : Program) (w : World) (K : PySem.W.Frag) (mg : Str → Option Value) (base : Heap) (C fE : Addr) (fdE : FuncData) : Prop where
  ok : FnOk P w K mg base CX0 1 fE fdE ["self", "other"] (spEq (Alike C))
  hm : PySem.W.mroIn K C (.type "object") = some true
  hn : PySem.W.findIn K (.ref C) "__ne__" = some (some (.builtin "object.__ne__"))
  hs : PySem.W.findIn K (.ref C) "__eq__" = some (some (.ref fE))
  hf : PySem.W.isFn K (.ref fE) = true
  hb : Binds K fdE ["self", "other"] []
theorem alike_ins {C : Addr} {H : Hp} {a b : Addr} {n : Int} {ms ss : List Int} (r : RowAt C H a n ms ss) (q : RowAt C H b n ms ss) : DIns C (Alike C) (.ref a) (.ref b) H := by
  obtain ⟨dx, l1, l2, h1, h2, h3⟩ := id r
  obtain ⟨dy, m1, m2, g1, g2, g3⟩ := id q
  exact ⟨a, b, dx, dy, _, _, rfl, rfl, h1, g1, n, ms, ss, r, q⟩
end Cw
namespace Cw
open PySem L2
abbrev sSlow : Stmt := top 0
/-! ## the next cut, place by place -/
def Srv (prs : List (Int × Int)) (p m z : Int) : Prop := (z, 2) ∈ prs ∨ ((z, 1) ∈ prs ∧ z ≥ p + m)
theorem mem_marks {prs : List (Int × Int)} {n x : Int} (G : GoodP n prs) : x ∈ marksOf prs ↔ (x, 1) ∈ prs ∨ (x, 2) ∈ prs := by
  constructor
  · intro h
    obtain ⟨q, hq, rfl⟩ := List.mem_map.mp h
    obtain ⟨q1, q2⟩ := q
    rcases (G.rng _ hq).2.2 with e | e
    · exact .inl (by rw [show q2 = 1 from e] at hq; exact hq)
    · exact .inr (by rw [show q2 = 2 from e] at hq; exact hq)
  · rintro (h | h) <;> exact List.mem_map.mpr ⟨_, h, rfl⟩
theorem mem_strict {prs : List (Int × Int)} {x : Int} : x ∈ strictOf prs ↔ (x, 2) ∈ prs := by
  constructor
  · intro h
    obtain ⟨q, hq, rfl⟩ := List.mem_map.mp h
    obtain ⟨h1, h2⟩ := List.mem_filter.mp hq
    obtain ⟨q1, q2⟩ := q
    have e : q2 = 2 := of_decide_eq_true h2
    rw [e] at h1
    exact h1
  · intro h
    exact List.mem_map.mpr ⟨_, List.mem_filter.mpr ⟨h, decide_eq_true rfl⟩, rfl⟩
theorem nx_found {n l m g p z : Int} {prs : List (Int × Int)} (G : GoodP n prs) (S : SetOk l m g) (h1 : p + l ≤ z) (h2 : z < p + g) (h3 : z < n) (h : Srv prs p m z) (no : ∀ y, p + l ≤ y → y < z → ¬ Srv prs p m y) : nx n (marksOf prs) (strictOf prs) l m g p = z := by
  have l1 := S.l1
  have lm := S.lm
  have Gd := G.good
  have a : z ≤ fm (strictOf prs) (p + l) n := by
    rcases fm_or Gd.asc2 (p + l) n with ⟨k1, k2⟩ | ⟨k1, _⟩
    · by_cases c : fm (strictOf prs) (p + l) n < z
      · exact absurd (.inl (mem_strict.mp k1)) (no _ k2 c)
      · omega
    · omega
  have b : z ≤ fm (marksOf prs) (p + m) n := by
    rcases fm_or Gd.asc (p + m) n with ⟨k1, k2⟩ | ⟨k1, _⟩
    · by_cases c : fm (marksOf prs) (p + m) n < z
      · rcases (mem_marks G).mp k1 with k | k
        · exact absurd (.inr ⟨k, k2⟩) (no _ (by omega) c)
        · exact absurd (.inl k) (no _ (by omega) c)
      · omega
    · omega
  have c : fm (strictOf prs) (p + l) n ≤ z ∨ fm (marksOf prs) (p + m) n ≤ z := by
    rcases h with h | ⟨h, hz⟩
    · exact .inl (fm_le Gd.asc2 (mem_strict.mpr h) h1)
    · exact .inr (fm_le Gd.asc ((mem_marks G).mpr (.inl h)) hz)
  unfold nx
  omega
theorem nx_none {n l m g p : Int} {prs : List (Int × Int)} (G : GoodP n prs) (S : SetOk l m g) (no : ∀ y, p + l ≤ y → y < p + g → y < n → ¬ Srv prs p m y) : nx n (marksOf prs) (strictOf prs) l m g p = min (p + g) n := by
  have l1 := S.l1
  have lm := S.lm
  have Gd := G.good
  have a : min (p + g) n ≤ fm (strictOf prs) (p + l) n := by
    rcases fm_or Gd.asc2 (p + l) n with ⟨k1, k2⟩ | ⟨k1, _⟩
    · by_cases c : fm (strictOf prs) (p + l) n < min (p + g) n
      · exact absurd (.inl (mem_strict.mp k1)) (no _ k2 (by omega) (by omega))
      · omega
    · omega
  have b : min (p + g) n ≤ fm (marksOf prs) (p + m) n := by
    rcases fm_or Gd.asc (p + m) n with ⟨k1, k2⟩ | ⟨k1, _⟩
    · by_cases c : fm (marksOf prs) (p + m) n < min (p + g) n
      · rcases (mem_marks G).mp k1 with k | k
        · exact absurd (.inr ⟨k, k2⟩) (no _ (by omega) (by omega) (by omega))
        · exact absurd (.inl k) (no _ (by omega) (by omega) (by omega))
      · omega
    · omega
  unfold nx
  omega
/-! ## pairs as data -/
abbrev dP (q : Int × Int) : PyData := .tuple [.int q.1, .int q.2]
theorem dp_pair {K : PySem.W.Frag} {H : Hp} {t : Addr} {q : Int × Int} (h : H t = some (.tup [.int q.1, .int q.2])) : Dp K H (.ref t) (dP q) := .tup (SqT.of h) (.cons (.int _) (.cons (.int _) .nil))
theorem dps_pairs {K : PySem.W.Frag} {H : Hp} : ∀ {ts : List Addr} {ps : List (Int × Int)}, PrAt H ts ps → DpAll K H (ts.map V.ref) (ps.map dP)
  | _, _, .nil => .nil
  | _, _, .cons h r => .cons (dp_pair h) (dps_pairs r)
theorem lay_pairs : ∀ ps : List (Int × Int), PyData.canLayAll0 (ps.map dP) = true := fun ps => by
  induction ps with
  | nil => rfl
  | cons q r ih =>
    rw [List.map_cons]
    unfold PyData.canLayAll0
    rw [ih]
    rfl
theorem depth_pairs : ∀ ps : List (Int × Int), PyData.depthAll (ps.map dP) ≤ 3 := fun ps => by
  induction ps with
  | nil => exact Nat.zero_le _
  | cons q r ih =>
    rw [List.map_cons]
    unfold PyData.depthAll
    have e : PyData.depth (dP q) ≤ 3 := by
      have z : PyData.depth (dP q) = PyData.depth (.tuple [.int 0, .int 0]) := rfl
      rw [z]
      decide +kernel
    omega
theorem shape_pairs (ps : List (Int × Int)) : SeqAt.shaped (.list (ps.map dP)) = true := by
  have h1 : PyData.canLay0 (.list (ps.map dP)) = true := by
    unfold PyData.canLay0
    exact lay_pairs ps
  have h2 : PyData.depth (.list (ps.map dP)) ≤ 64 := by
    have z := depth_pairs ps
    unfold PyData.depth
    omega
  unfold SeqAt.shaped
  rw [h1, decide_eq_true h2]
  rfl
theorem shape_pair (q : Int × Int) : SeqAt.shaped (dP q) = true := by
  have z : SeqAt.shaped (dP q) = SeqAt.shaped (.tuple [.int 0, .int 0]) := rfl
  rw [z]
  decide +kernel
theorem any_pairs {q : Int × Int} {ps : List (Int × Int)} : ((ps.map dP).any fun z => PyData.eqv z (dP q)) = decide (q ∈ ps) := by
  induction ps with
  | nil => rfl
  | cons y r ih =>
    rw [List.map_cons, List.any_cons, ih]
    have e : PyData.eqv (dP y) (dP q) = decide (y = q) := by
      obtain ⟨y1, y2⟩ := y
      obtain ⟨q1, q2⟩ := q
      simp only [dP, PyData.eqv, PyData.eqvAll]
      by_cases c1 : y1 = q1 <;> by_cases c2 : y2 = q2 <;> simp [c1, c2]
    rw [e]
    by_cases c : y = q
    · subst c; simp
    · have c' : ¬ q = y := fun h => c h.symm
      simp [c, c']
def spSlow : Sp := fun vs H Q _ => ∃ (p : Addr) (n l m g z : Int) (prs : List (Int × Int)), vs = [.ref p, .int z] ∧ RawS H p n prs l m g ∧ GoodP n prs ∧ SetOk l m g ∧ -1000000 ≤ z ∧ z ≤ 1000000 ∧ n ≤ 1000 ∧ g ≤ 1000000 ∧
  ∀ H', Same H H' → Q (.int (nx n (marksOf prs) (strictOf prs) l m g z)) H'
section
variable {P : Program} {w : World} {K : PySem.W.Frag} {mg : Str → Option Value} {base : Heap}
abbrev NSl : List Str := ["raw", "spot", "length", "marked", "three", "goal"]
end
end Cw
namespace Cw
open PySem L2
theorem log_wide {i : Int} (h0 : 0 ≤ i) (h1 : i ≤ 1000000000000000000000000000000000) : i.natAbs.log2 < 1920 := by
  by_cases c : i.natAbs = 0
  · rw [c]; decide
  · have z : i.natAbs.log2 < 120 := (Nat.log2_lt c).mpr (by
      have e : (2 : Nat) ^ 120 = 1329227995784915872903807060280344576 := by decide +kernel
      rw [e]; omega)
    omega
theorem shown_wide {i : Int} (h0 : 0 ≤ i) (h1 : i ≤ 1000000000000000000000000000000000) : (PyData.shown (.int i)).length ≤ 1921 := by
  have e := int_text_length_le (k := 1920) (by decide) (log_wide h0 h1)
  simp only [PyData.shown]
  rw [PySem.ofString_length]
  exact e
def Wide (ns : List Int) : Prop := ns.length ≤ 900 ∧ ∀ x ∈ ns, 0 ≤ x ∧ x ≤ 1000000000000000000000000000000000
theorem all_show : ∀ {ns : List Int}, (∀ x ∈ ns, 0 ≤ x ∧ x ≤ 1000000000000000000000000000000000) → PyData.showableAll (ns.map PyData.int) = true ∧ PyData.hasDictAll (ns.map PyData.int) = false ∧ PyData.depthAll (ns.map PyData.int) ≤ 2 ∧
    ((PyData.shownAll (ns.map PyData.int)).map (·.length)).sum ≤ 1921 * ns.length ∧ (PyData.shownAll (ns.map PyData.int)).length = ns.length
  | [], _ => ⟨rfl, rfl, Nat.zero_le _, Nat.zero_le _, rfl⟩
  | x :: r, h => by
    obtain ⟨i1, i2, i3, i4, i5⟩ := all_show (ns := r) fun y hy => h y (List.mem_cons_of_mem _ hy)
    obtain ⟨x0, x1⟩ := h x (List.mem_cons_self ..)
    have sx := shown_wide x0 x1
    simp only [List.map_cons, PyData.showableAll, PyData.showable, PyData.hasDictAll, PyData.hasDict, PyData.depthAll, PyData.depth, PyData.shownAll, List.sum_cons, List.length_cons, i1, i2, i5, decide_eq_true (log_wide x0 x1)]
    refine ⟨rfl, rfl, by omega, ?_, trivial⟩
    omega
def Txt (K : PySem.W.Frag) (H : Hp) (p : Addr) (d : PyData) : Prop := Dp K H (.ref p) d ∧ d.showable = true ∧ d.hasDict = false ∧ d.depth ≤ 60 ∧ d.shown.length ≤ sizeLine
theorem txt_il {K : PySem.W.Frag} {H : Hp} {p : Addr} {ns : List Int} (h : IL H p ns) (wm : Wide ns) : Txt K H p (.list (ns.map PyData.int)) := by
  obtain ⟨a1, a2, a3, a4, a5⟩ := all_show wm.2
  refine ⟨dp_il h, ?_, ?_, ?_, ?_⟩
  · simp only [PyData.showable, a1]
  · simp only [PyData.hasDict, a2]
  · simp only [PyData.depth]
    omega
  · have zm := listText_len_le (PyData.shownAll (ns.map PyData.int))
    simp only [PyData.shown]
    have w1 := wm.1
    rw [sizeLine_eq]
    omega
/-! ## the least cut from a place on; how many lie between two places -/
theorem RawS.same {H H' : Hp} {p : Addr} {n : Int} {prs : List (Int × Int)} {l m g : Int} (r : RawS H p n prs l m g) (s : Same H H') : RawS H' p n prs l m g := by
  obtain ⟨lp, t, ts, h1, h2, h3, h4⟩ := r
  exact ⟨lp, t, ts, s _ _ h1, s _ _ h2, h3.imp fun _ _ h => s _ _ h, s _ _ h4⟩
abbrev sOthers : Stmt := top 0
def spOthers : Sp := fun vs H Q _ => ∃ (a p : Addr) (k : Nat) (n l m g : Int) (prs : List (Int × Int)), vs = [.ref a, .ref p] ∧ JarAt H a (k + 1 + 1 + 1) ∧ RawS H p n prs l m g ∧ SetOk l m g ∧ g ≤ 40 ∧
  ∀ (q : Addr) (H' : Hp) (us : List Addr), H' q = some (.lst (us.map V.ref)) → us.length = 4 → q ≠ a → (∀ u ∈ us, ∃ l' m' g' : Int, SetOk l' m' g' ∧ g' ≤ 1000 ∧ RawS H' u n prs l' m' g') → JarAt H' a k → But H H' a → Q (.ref q) H'
section
variable {P : Program} {w : World} {K : PySem.W.Frag} {mg : Str → Option Value} {base : Heap}
abbrev NOs : List Str := ["jar", "raw", "least", "normal", "greatest", "some", "three"]
end
end Cw
namespace Cw
open PySem L2
abbrev sJoin : Stmt := top 21
abbrev sEarly : Stmt := top 30
abbrev sLate : Stmt := top 31
abbrev sLM : Stmt := top 32
/-! ## the places that come to a cut -/
def lm (ns : List Int) (c o : Int) : Int := if cb ns c > 0 then (ns[cb ns c - 1]?).getD o else o
theorem lm_or {ns : List Int} (h : Asc ns) (c o : Int) : (lm ns c o ∈ ns ∧ lm ns c o < c ∧ ∀ x ∈ ns, x < c → x ≤ lm ns c o) ∨ (lm ns c o = o ∧ ∀ x ∈ ns, c ≤ x) := by
  obtain ⟨h1, h2⟩ := cb_split h c
  have l := cb_le (ns := ns) (z := c)
  unfold lm
  by_cases p : cb ns c > 0
  · rw [if_pos p]
    have hi : cb ns c - 1 < ns.length := by omega
    have hg := List.getElem?_eq_getElem hi
    rw [hg]
    refine .inl ⟨List.getElem_mem hi, h1 _ (by omega) _ hg, fun x hx xc => ?_⟩
    obtain ⟨i, hi', rfl⟩ := List.mem_iff_getElem.mp hx
    have gi := List.getElem?_eq_getElem hi'
    show ns[i] ≤ ns[cb ns c - 1]
    by_cases d : i < cb ns c - 1
    · have := asc_ix h d gi hg
      omega
    · by_cases e : i = cb ns c - 1
      · subst e
        exact Int.le_refl _
      · have := h2 i (by omega) _ gi
        omega
  · rw [if_neg p]
    refine .inr ⟨rfl, fun x hx => ?_⟩
    obtain ⟨i, hi', rfl⟩ := List.mem_iff_getElem.mp hx
    exact h2 i (by omega) _ (List.getElem?_eq_getElem hi')
def er (ms ss : List Int) (l m g c : Int) : Int := max (c - g) (max (lm ss c (c - g) + 1 - l) (lm ms c (c - g) + 1 - m))
def ltst (n : Int) (ms ss : List Int) (l m g c : Int) : Int := if c = n then n - 1 else er ms ss l m g (c + 1) - 1
theorem fm_iff {ns : List Int} (h : Asc ns) {z n c : Int} (hc : c ≤ n) : c ≤ fm ns z n ↔ ∀ x ∈ ns, z ≤ x → c ≤ x := by
  constructor
  · intro k x hx hz
    have := fm_le h hx hz (e := n)
    omega
  · intro k
    rcases fm_or h z n with ⟨m1, m2⟩ | ⟨m1, _⟩
    · exact k _ m1 m2
    · omega
theorem er_iff {n l m g c p : Int} {ms ss : List Int} (G : Good n ms ss) (S : SetOk l m g) (hc : c ≤ n) : c ≤ nx n ms ss l m g p ↔ er ms ss l m g c ≤ p := by
  have l1 := S.l1
  have l2 := S.lm
  have a := fm_iff G.asc2 (z := p + l) hc
  have b := fm_iff G.asc (z := p + m) hc
  have key : c ≤ nx n ms ss l m g p ↔ (c ≤ fm ss (p + l) n ∧ c ≤ fm ms (p + m) n ∧ c ≤ p + g) := by
    unfold nx
    omega
  rw [key, a, b]
  have s1 : (∀ x ∈ ss, p + l ≤ x → c ≤ x) ↔ (lm ss c (c - g) < p + l ∨ ∀ x ∈ ss, c ≤ x) := by
    constructor
    · intro k
      rcases lm_or G.asc2 c (c - g) with ⟨m1, m2, _⟩ | ⟨_, m2⟩
      · by_cases d : p + l ≤ lm ss c (c - g)
        · have := k _ m1 d
          omega
        · exact .inl (by omega)
      · exact .inr m2
    · intro k x hx hz
      rcases k with k | k
      · by_cases d : x < c
        · rcases lm_or G.asc2 c (c - g) with ⟨_, _, m3⟩ | ⟨_, m2⟩
          · have := m3 x hx d
            omega
          · exact m2 x hx
        · omega
      · exact k x hx
  have s2 : (∀ x ∈ ms, p + m ≤ x → c ≤ x) ↔ (lm ms c (c - g) < p + m ∨ ∀ x ∈ ms, c ≤ x) := by
    constructor
    · intro k
      rcases lm_or G.asc c (c - g) with ⟨m1, m2, _⟩ | ⟨_, m2⟩
      · by_cases d : p + m ≤ lm ms c (c - g)
        · have := k _ m1 d
          omega
        · exact .inl (by omega)
      · exact .inr m2
    · intro k x hx hz
      rcases k with k | k
      · by_cases d : x < c
        · rcases lm_or G.asc c (c - g) with ⟨_, _, m3⟩ | ⟨_, m2⟩
          · have := m3 x hx d
            omega
          · exact m2 x hx
        · omega
      · exact k x hx
  rw [s1, s2]
  have o1 : (∀ x ∈ ss, c ≤ x) → lm ss c (c - g) = c - g := fun k => by
    rcases lm_or G.asc2 c (c - g) with ⟨m1, m2, _⟩ | ⟨m1, _⟩
    · have := k _ m1
      omega
    · exact m1
  have o2 : (∀ x ∈ ms, c ≤ x) → lm ms c (c - g) = c - g := fun k => by
    rcases lm_or G.asc c (c - g) with ⟨m1, m2, _⟩ | ⟨m1, _⟩
    · have := k _ m1
      omega
    · exact m1
  have n1 : lm ss c (c - g) ≠ c - g ∨ True := .inr trivial
  unfold er
  constructor
  · rintro ⟨h1, h2, h3⟩
    have k1 : lm ss c (c - g) + 1 - l ≤ p := by
      rcases h1 with h | h
      · omega
      · have := o1 h
        omega
    have k2 : lm ms c (c - g) + 1 - m ≤ p := by
      rcases h2 with h | h
      · omega
      · have := o2 h
        omega
    omega
  · intro h
    exact ⟨.inl (by omega), .inl (by omega), by omega⟩
theorem ltst_iff {n l m g c p : Int} {ms ss : List Int} (G : Good n ms ss) (S : SetOk l m g) (hc : c ≤ n) : (p < n ∧ nx n ms ss l m g p ≤ c) ↔ p ≤ ltst n ms ss l m g c := by
  have ST := nx_stp G S
  unfold ltst
  by_cases e : c = n
  · rw [if_pos e]
    have := ST.le p
    omega
  · rw [if_neg e]
    have k := er_iff G S (c := c + 1) (p := p) (by omega)
    have z := ST.ge p
    have z1 := ST.le p
    have l1 := S.l1
    constructor
    · rintro ⟨h1, h2⟩
      by_cases d : er ms ss l m g (c + 1) ≤ p
      · have := k.mpr d
        omega
      · omega
    · intro h
      have h2 : nx n ms ss l m g p ≤ c := by
        by_cases d : c + 1 ≤ nx n ms ss l m g p
        · have := k.mp d
          omega
        · omega
      exact ⟨by omega, h2⟩
theorem max3_int {a b c : Int} : nuMax3 (.int a) (.int b) (.int c) = some (.int (max a (max b c))) := by
  have e1 : ∀ x y : Int, nuMax2 (.int x) (.int y) = some (.int (max x y)) := fun x y => by
    show some (if decide (x < y) = true then V.int y else V.int x) = _
    by_cases c : x < y
    · rw [if_pos (decide_eq_true c)]
      congr 2
      omega
    · rw [if_neg (by simpa using c)]
      congr 2
      omega
  show (nuMax2 (.int a) (.int b)).bind (fun z => nuMax2 z (.int c)) = _
  rw [e1]
  show nuMax2 (.int (max a b)) (.int c) = _
  rw [e1]
  congr 2
  omega
def spLM : Sp := fun vs H Q _ => ∃ (a : Addr) (ns : List Int) (z o : Int), vs = [.ref a, .int z, .int o] ∧ IL H a ns ∧ ns.length ≤ 1000 ∧ Asc ns ∧ Q (.int (lm ns z o)) H
def spEarly (C : Addr) : Sp := fun vs H Q _ => ∃ (r t : Addr) (n l m g c : Int) (ms ss : List Int), vs = [.ref r, .ref t, .int c] ∧ RowAt C H r n ms ss ∧ H t = some (.tup [.int l, .int m, .int g]) ∧ Good n ms ss ∧ ∀ H', Same H H' → Q (.int (er ms ss l m g c)) H'
def spLate (C : Addr) : Sp := fun vs H Q _ => ∃ (r t : Addr) (n l m g c : Int) (ms ss : List Int), vs = [.ref r, .ref t, .int c] ∧ RowAt C H r n ms ss ∧ H t = some (.tup [.int l, .int m, .int g]) ∧ Good n ms ss ∧ ∀ H', Same H H' → Q (.int (ltst n ms ss l m g c)) H'
section
variable {P : Program} {w : World} {K : PySem.W.Frag} {mg : Str → Option Value} {base : Heap}
abbrev NLM : List Str := ["marks", "place", "otherwise", "at"]
theorem scLM : FnScope NLM ["marks", "place", "otherwise"] (defScope sLM) := ⟨rfl, rfl, rfl, by decide +kernel, rfl, by decide +kernel, by decide +kernel⟩
theorem ok_lm {f fB : Addr} {fd fdB : FuncData} (F : Fun K "last_mark" "last_mark" sLM f fd) (gB : mg "count_before" = some (.ref fB)) (kB : PySem.W.keepIn K (.ref fB) = true) (bB : Binds K fdB ["places", "place"] []) (GB : FnOk P w K mg base CX0 1 fB fdB ["places", "place"] spCB) :
    FnOk P w K mg base CX0 2 f fd ["marks", "place", "otherwise"] spLM := by
  refine F.ok scLM (fun vs H Q E h => ?_) (fun cdv A outer s H vs Q E hr h => ?_)
  · obtain ⟨a, ns, z, e, rfl, _⟩ := h
    rfl
  · obtain ⟨a, ns, z, e, rfl, hS, hl, ha, q⟩ := h
    refine ⟨_, pss_cons (ps_set (i := 3) scLM.nd rfl (Or.inl rfl) (pe_call GB hr rfl gB kB bB .nil pass0 (pa_cons (pv 0) (pa_cons (pv 1) pa_nil))))
      (pss_one (ps_ret (pe_ifExp (pt_cmpR op_gt (pv 3) pe_int (nomark _)) (pe_ix (r := rIxL K) ix_list (pv 0) (pe_op op_sub (pv 3) pe_int) (fun _ _ => rfl)) (pv 2)))), ?_⟩
    refine ⟨_, rfl, _, rfl, a, ns, z, rfl, hS, hl, ha, ?_⟩
    refine ⟨_, rfl, _, _, rfl, rfl, _, rfl, ?_⟩
    have l := cb_le (ns := ns) (z := z)
    unfold lm at q
    by_cases c : cb ns z > 0
    · have hi : cb ns z - 1 < ns.length := by omega
      have hg := List.getElem?_eq_getElem hi
      refine ifT (decide_eq_true (by omega)) ?_
      rw [if_pos c, hg] at q
      exact ⟨_, rfl, _, rfl, _, _, rfl, rfl, a, _, _, _, rfl, rfl, SqL.of hS, at_of2 (j := cb ns z - 1) (by omega) (by rw [List.getElem?_map, hg]; rfl), q⟩
    · refine ifF (decide_eq_false (by omega)) ?_
      rw [if_neg c] at q
      exact ⟨_, rfl, q⟩
abbrev NEr : List Str := ["row", "settings", "cut", "least", "normal", "greatest", "strict", "either"]
theorem scEr : FnScope NEr ["row", "settings", "cut"] (defScope sEarly) := ⟨rfl, rfl, rfl, by decide +kernel, rfl, by decide +kernel, by decide +kernel⟩
theorem ok_early {f C fF pL fL pM fM pS fS : Addr} {fd fdF dL dM dS : FuncData} (F : Fun K "earliest" "earliest" sEarly f fd) (T : Bl mg) (R : Cl K mg C) (Gs : Gets P w K mg base C pL fL pM fM pS fS dL dM dS)
    (gF : mg "last_mark" = some (.ref fF)) (kF : PySem.W.keepIn K (.ref fF) = true) (bF : Binds K fdF ["marks", "place", "otherwise"] []) (GF : FnOk P w K mg base CX0 2 fF fdF ["marks", "place", "otherwise"] spLM) :
    FnOk P w K mg base CX0 3 f fd ["row", "settings", "cut"] (spEarly C) := by
  refine F.ok scEr (fun vs H Q E h => ?_) (fun cdv A outer s H vs Q E hr h => ?_)
  · obtain ⟨r, t, n, l, m, g, c, ms, ss, rfl, _⟩ := h
    rfl
  · obtain ⟨r, t, n, l, m, g, c, ms, ss, rfl, hR, hT, G, q⟩ := h
    refine ⟨_, pss_cons (ps_asg (pv 1) (pg_tup (by rfl) (pgs_cons (pg_name (i := 3) scEr.nd rfl (Or.inl rfl)) (pgs_cons (pg_name (i := 4) scEr.nd rfl (Or.inl rfl)) (pgs_cons (pg_name (i := 5) scEr.nd rfl (Or.inl rfl)) pgs_nil)))))
      (pss_cons (ps_set (i := 6) scEr.nd rfl (Or.inl rfl) (pe_call GF hr rfl gF kF bF .nil pass0 (pa_cons (pe_prop (pv 0) R.cl Gs.hS Gs.GS hr Gs.bS .nil pass0 rfl) (pa_cons (pv 2) (pa_cons (pe_op op_sub (pv 2) (pv 5)) pa_nil)))))
      (pss_cons (ps_set (i := 7) scEr.nd rfl (Or.inl rfl) (pe_call GF hr rfl gF kF bF .nil pass0 (pa_cons (pe_prop (pv 0) R.cl Gs.hM Gs.GM hr Gs.bM .nil pass0 rfl) (pa_cons (pv 2) (pa_cons (pe_op op_sub (pv 2) (pv 5)) pa_nil)))))
      (pss_one (ps_ret (pe_callB (call_max3Nu rfl) (by rfl) T.max (by decide +kernel) (pa_cons (pe_op op_sub (pv 2) (pv 5)) (pa_cons (pe_op op_sub (pe_op op_add (pv 6) pe_int) (pv 3)) (pa_cons (pe_op op_sub (pe_op op_add (pv 7) pe_int) (pv 4)) pa_nil)))))))), ?_⟩
    have lm' := G.len
    have ls := G.len2
    obtain ⟨dx, l1, l2, ho, h1, h2⟩ := id hR
    refine ⟨_, rfl, t, _, rfl, SqT.of hT, rfl, _, _, rfl, _, _, rfl, _, _, rfl, rfl, ?_⟩
    refine ⟨_, rfl, r, dx, _, rfl, ho, r, n, ms, ss, rfl, hR, fun p1 H1 s1 n1 i1 => ?_⟩
    have R1 := hR.same s1
    have o1 := s1 _ _ ho
    refine ⟨_, rfl, _, rfl, _, rfl, _, _, rfl, rfl, p1, ss, c, c - g, rfl, i1, by omega, G.asc2, ?_⟩
    refine ⟨_, rfl, r, dx, _, rfl, o1, r, n, ms, ss, rfl, R1, fun p2 H2 s2 n2 i2 => ?_⟩
    refine ⟨_, rfl, _, rfl, _, rfl, _, _, rfl, rfl, p2, ms, c, c - g, rfl, i2, by omega, G.asc, ?_⟩
    refine ⟨_, rfl, _, rfl, _, _, rfl, rfl, _, rfl, _, _, rfl, rfl, _, rfl, _, _, rfl, rfl, _, rfl, _, _, rfl, rfl, _, rfl, _, _, rfl, rfl, ?_⟩
    exact ⟨_, _, _, _, rfl, max3_int, q H2 (s1.trans s2)⟩
theorem scLt : FnScope ["row", "settings", "cut"] ["row", "settings", "cut"] (defScope sLate) := ⟨rfl, rfl, rfl, by decide +kernel, rfl, by decide +kernel, by decide +kernel⟩
theorem ok_late {f C fF pL fL pM fM pS fS : Addr} {fd fdF dL dM dS : FuncData} (F : Fun K "latest" "latest" sLate f fd) (R : Cl K mg C) (Gs : Gets P w K mg base C pL fL pM fM pS fS dL dM dS)
    (gF : mg "earliest" = some (.ref fF)) (kF : PySem.W.keepIn K (.ref fF) = true) (bF : Binds K fdF ["row", "settings", "cut"] []) (GF : FnOk P w K mg base CX0 3 fF fdF ["row", "settings", "cut"] (spEarly C)) :
    FnOk P w K mg base CX0 4 f fd ["row", "settings", "cut"] (spLate C) := by
  refine F.ok scLt (fun vs H Q E h => ?_) (fun cdv A outer s H vs Q E hr h => ?_)
  · obtain ⟨r, t, n, l, m, g, c, ms, ss, rfl, _⟩ := h
    rfl
  · obtain ⟨r, t, n, l, m, g, c, ms, ss, rfl, hR, hT, G, q⟩ := h
    have hr2 : Room 2 (A.deeper (PyProof.Rows.envOfC "latest" (defScope sLate) s.heap.objs.size f cdv)) := hr.mono (by decide)
    refine ⟨_, pss_cons (ps_if (pt_cmpR op_eq (pv 2) (pe_prop (pv 0) R.cl Gs.hL Gs.GL hr2 Gs.bL .nil pass0 rfl) (nomark _)) (pss_one (ps_ret (pe_op op_sub (pe_prop (pv 0) R.cl Gs.hL Gs.GL hr2 Gs.bL .nil pass0 rfl) pe_int))) pss_nil)
      (pss_one (ps_ret (pe_op op_sub (pe_call GF hr rfl gF kF bF .nil pass0 (pa_cons (pv 0) (pa_cons (pv 1) (pa_cons (pe_op op_add (pv 2) pe_int) pa_nil)))) pe_int))), ?_⟩
    obtain ⟨dx, l1, l2, ho, _, _⟩ := id hR
    refine ⟨_, rfl, _, rfl, r, dx, _, rfl, ho, r, n, ms, ss, rfl, hR, rfl, _, rfl, ?_⟩
    unfold ltst at q
    by_cases e : c = n
    · refine ifT (decide_eq_true (by rw [e])) ?_
      rw [if_pos e] at q
      exact ⟨_, rfl, r, dx, _, rfl, ho, r, n, ms, ss, rfl, hR, _, _, rfl, rfl, q H (Same.refl H)⟩
    · refine ifF (decide_eq_false (fun z => e (V.int.inj z))) ?_
      rw [if_neg e] at q
      exact ⟨_, rfl, _, rfl, _, rfl, _, _, rfl, rfl, r, t, n, l, m, g, c + 1, ms, ss, rfl, hR, hT, G, fun H1 s1 => ⟨_, _, rfl, rfl, q H1 s1⟩⟩
end
end Cw
namespace Cw
open PySem L2
def In1 (p : Int) (q : Int × Int) : Prop := q.1 ≤ p ∧ p ≤ q.2
def InR (p : Int) (qs : List (Int × Int)) : Prop := ∃ q ∈ qs, In1 p q
theorem inR_snoc {p : Int} {qs : List (Int × Int)} {q : Int × Int} : InR p (qs ++ [q]) ↔ InR p qs ∨ In1 p q := by
  unfold InR
  constructor
  · rintro ⟨x, hx, h⟩
    rcases List.mem_append.mp hx with hx | hx
    · exact .inl ⟨x, hx, h⟩
    · rw [List.mem_singleton.mp hx] at h
      exact .inr h
  · rintro (⟨x, hx, h⟩ | h)
    · exact ⟨x, List.mem_append_left _ hx, h⟩
    · exact ⟨q, List.mem_append_right _ (List.mem_singleton.mpr rfl), h⟩
/-- what joined_ranges is passed: lows that do not fall -/
structure Prs (qs : List (Int × Int)) : Prop where
  up : qs.Pairwise (fun a b => a.1 ≤ b.1)
  ok : ∀ q ∈ qs, q.1 ≤ q.2
/-- what it has found so far -/
structure Fnd (done found : List (Int × Int)) : Prop where
  same : ∀ p, InR p found ↔ InR p done
  lows : ∀ q ∈ found, ∃ d ∈ done, q.1 = d.1
  ok : ∀ q ∈ found, q.1 ≤ q.2
  tops : ∀ q ∈ found, ∃ d ∈ done, q.2 = d.2
  few : found.length ≤ done.length
theorem Fnd.nil : Fnd [] [] := ⟨fun _ => Iff.rfl, fun _ h => (nomatch h), fun _ h => (nomatch h), fun _ h => (nomatch h), Nat.le_refl _⟩
theorem Fnd.add {done found : List (Int × Int)} {q : Int × Int} (F : Fnd done found) (hq : q.1 ≤ q.2) : Fnd (done ++ [q]) (found ++ [q]) := by
  refine ⟨fun p => by rw [inR_snoc, inR_snoc, F.same], fun x hx => ?_, fun x hx => ?_, fun x hx => ?_, by rw [List.length_append, List.length_append]; have := F.few; omega⟩
  · rcases List.mem_append.mp hx with hx | hx
    · obtain ⟨d, hd, e⟩ := F.lows x hx
      exact ⟨d, List.mem_append_left _ hd, e⟩
    · exact ⟨q, List.mem_append_right _ (List.mem_singleton.mpr rfl), by rw [List.mem_singleton.mp hx]⟩
  · rcases List.mem_append.mp hx with hx | hx
    · exact F.ok x hx
    · rw [List.mem_singleton.mp hx]
      exact hq
  · rcases List.mem_append.mp hx with hx | hx
    · obtain ⟨d, hd, e⟩ := F.tops x hx
      exact ⟨d, List.mem_append_left _ hd, e⟩
    · exact ⟨q, List.mem_append_right _ (List.mem_singleton.mpr rfl), by rw [List.mem_singleton.mp hx]⟩
theorem Fnd.join {done found : List (Int × Int)} {z q : Int × Int} (F : Fnd done (found ++ [z])) (hq : q.1 ≤ q.2) (up : ∀ d ∈ done, d.1 ≤ q.1) (near : q.1 ≤ z.2 + 1) : Fnd (done ++ [q]) (found ++ [(z.1, if q.2 > z.2 then q.2 else z.2)]) := by
  have hz := F.ok z (List.mem_append_right _ (List.mem_singleton.mpr rfl))
  obtain ⟨d0, hd0, e0⟩ := F.lows z (List.mem_append_right _ (List.mem_singleton.mpr rfl))
  have zq := up d0 hd0
  obtain ⟨d1, hd1, e1⟩ := F.tops z (List.mem_append_right _ (List.mem_singleton.mpr rfl))
  have one : ∀ p, In1 p (z.1, if q.2 > z.2 then q.2 else z.2) ↔ In1 p z ∨ In1 p q := fun p => by
    unfold In1
    dsimp only
    split <;> omega
  refine ⟨fun p => ?_, fun x hx => ?_, fun x hx => ?_, fun x hx => ?_, ?_⟩
  · have s := F.same p
    rw [inR_snoc] at s
    rw [inR_snoc, inR_snoc, one, ← s]
    constructor
    · rintro (h | h | h)
      · exact .inl (.inl h)
      · exact .inl (.inr h)
      · exact .inr h
    · rintro ((h | h) | h)
      · exact .inl h
      · exact .inr (.inl h)
      · exact .inr (.inr h)
  · rcases List.mem_append.mp hx with hx | hx
    · obtain ⟨d, hd, e⟩ := F.lows x (List.mem_append_left _ hx)
      exact ⟨d, List.mem_append_left _ hd, e⟩
    · rw [List.mem_singleton.mp hx]
      exact ⟨d0, List.mem_append_left _ hd0, e0⟩
  · rcases List.mem_append.mp hx with hx | hx
    · exact F.ok x (List.mem_append_left _ hx)
    · rw [List.mem_singleton.mp hx]
      show z.1 ≤ (if q.2 > z.2 then q.2 else z.2)
      split <;> omega
  · rcases List.mem_append.mp hx with hx | hx
    · obtain ⟨d, hd, e⟩ := F.tops x (List.mem_append_left _ hx)
      exact ⟨d, List.mem_append_left _ hd, e⟩
    · rw [List.mem_singleton.mp hx]
      show ∃ d ∈ done ++ [q], (if q.2 > z.2 then q.2 else z.2) = d.2
      split
      · exact ⟨q, List.mem_append_right _ (List.mem_singleton.mpr rfl), rfl⟩
      · exact ⟨d1, List.mem_append_left _ hd1, e1⟩
  · have := F.few
    rw [List.length_append] at this ⊢
    rw [List.length_append]
    exact Nat.le_trans this (by simp)
/-- .. and no two of them touch -/
structure FndC (done found : List (Int × Int)) : Prop where
  base : Fnd done found
  gap : found.Pairwise fun a b => a.2 + 1 < b.1
theorem FndC.nil : FndC [] [] := ⟨Fnd.nil, List.Pairwise.nil⟩
theorem FndC.add {done found : List (Int × Int)} {q : Int × Int} (F : FndC done found) (hq : q.1 ≤ q.2) (far : ∀ x ∈ found, x.2 + 1 < q.1) : FndC (done ++ [q]) (found ++ [q]) := by
  refine ⟨F.base.add hq, List.pairwise_append.mpr ⟨F.gap, List.pairwise_singleton _ _, fun x hx y hy => ?_⟩⟩
  rw [List.mem_singleton.mp hy]
  exact far x hx
theorem FndC.join {done found : List (Int × Int)} {z q : Int × Int} (F : FndC done (found ++ [z])) (hq : q.1 ≤ q.2) (up : ∀ d ∈ done, d.1 ≤ q.1) (near : q.1 ≤ z.2 + 1) : FndC (done ++ [q]) (found ++ [(z.1, if q.2 > z.2 then q.2 else z.2)]) := by
  obtain ⟨g1, _, g3⟩ := List.pairwise_append.mp F.gap
  refine ⟨F.base.join hq up near, List.pairwise_append.mpr ⟨g1, List.pairwise_singleton _ _, fun x hx y hy => ?_⟩⟩
  rw [List.mem_singleton.mp hy]
  exact g3 x hx z (List.mem_singleton.mpr rfl)
theorem PrAt.last {H : Hp} : ∀ {ts : List Addr} {ps : List (Int × Int)}, PrAt H ts ps → ps ≠ [] → ∃ ts' t ps' z, ts = ts' ++ [t] ∧ ps = ps' ++ [z] ∧ PrAt H ts' ps' ∧ H t = some (.tup [.int z.1, .int z.2])
  | _, _, .nil, ne => absurd rfl ne
  | _, _, .cons (a := t) (b := z) h .nil, _ => ⟨[], t, [], z, rfl, rfl, .nil, h⟩
  | _, _, .cons (a := t) (b := z) h (.cons h2 r), _ => by
    obtain ⟨ts', t', ps', z', e1, e2, k1, k2⟩ := PrAt.last (.cons h2 r) (by simp)
    rw [e1, e2]
    exact ⟨t :: ts', t', z :: ps', z', rfl, rfl, .cons h k1, k2⟩
theorem take_map3 {α : Type} {ps : List α} {i : Nat} {z : α} (h : ps[i]? = some z) : ps.take (i + 1) = ps.take i ++ [z] := by
  rw [List.take_add_one, h]
  rfl
def spJoin : Sp := fun vs H Q _ => ∃ (a : Addr) (ts : List Addr) (qs : List (Int × Int)), vs = [.ref a] ∧ H a = some (.lst (ts.map V.ref)) ∧ PrAt H ts qs ∧ Prs qs ∧ qs.length ≤ 900 ∧ ∀ q H' us rs, Same H H' → H q = none → H' q = some (.lst (us.map V.ref)) → PrAt H' us rs → FndC qs rs → Q (.ref q) H'
section
variable {P : Program} {w : World} {K : PySem.W.Frag} {mg : Str → Option Value} {base : Heap}
abbrev NJo : List Str := ["pairs", "found", "low", "high", "begin", "end"]
theorem scJo : FnScope NJo ["pairs"] (defScope sJoin) := ⟨rfl, rfl, rfl, by decide +kernel, rfl, by decide +kernel, by decide +kernel⟩
theorem ok_join {f : Addr} {fd : FuncData} (F : Fun K "joined_ranges" "joined_ranges" sJoin f fd) (T : Bl mg) : FnOk P w K mg base CX0 1 f fd ["pairs"] spJoin := by
  refine F.ok scJo (fun vs H Q E h => ?_) (fun cdv A outer s H vs Q E hr h => ?_)
  · obtain ⟨a, ts, qs, rfl, _⟩ := h
    rfl
  · obtain ⟨a, ts, qs, rfl, hA, hp, S, few, q⟩ := h
    refine ⟨_, pss_cons (ps_set (i := 1) scJo.nd rfl (Or.inl rfl) (pe_lst pa_nil))
      (pss_cons (ps_for PassesOwn.never rfl (pi_list (pv 0)) (pg_tup rfl (pgs_cons (pg_name (i := 2) scJo.nd rfl (Or.inl rfl)) (pgs_cons (pg_name (i := 3) scJo.nd rfl (Or.inl rfl)) pgs_nil)))
        (pss_one (ps_if (PW.pt (pw_and (pt_cmpR op_gt (pe_callB call_len_seq (by rfl) T.len PySem.boot_len (pa_cons (pv 1) pa_nil)) pe_int (nomark _))
              (pw_and1 (pt_cmpR op_le (pv 2) (pe_op op_add (pe_ix (r := rIxT K) ix_tup (pe_ix (r := rIxL K) ix_list (pv 1) (pe_un un_neg pe_int) (fun _ _ => rfl)) pe_int (fun _ _ => rfl)) pe_int) (nomark _)))))
            (pss_cons (ps_asg (pe_bm0 PySem.F.plainAttrs_list PySem.F.slot_list_pop PySem.F.type_list_pop mt_pop (pv 1)) (pg_tup rfl (pgs_cons (pg_name (i := 4) scJo.nd rfl (Or.inl rfl)) (pgs_cons (pg_name (i := 5) scJo.nd rfl (Or.inl rfl)) pgs_nil))))
              (pss_one (ps_expr (pe_bm PySem.F.plainAttrs_list PySem.F.slot_list_append PySem.F.type_list_append mt_append (pv 1) (pa_cons (pe_tup (pa_cons (pv 4) (pa_cons (pe_callB (call_max2 rfl) (by rfl) T.max (by decide +kernel) (pa_cons (pv 5) (pa_cons (pv 3) pa_nil))) pa_nil))) pa_nil)))))
            (pss_one (ps_expr (pe_bm PySem.F.plainAttrs_list PySem.F.slot_list_append PySem.F.type_list_append mt_append (pv 1) (pa_cons (pe_tup (pa_cons (pv 2) (pa_cons (pv 3) pa_nil))) pa_nil)))))))
      (pss_one (ps_ret (pv 1)))), ?_⟩
    have lt := hp.len
    refine ⟨Nat.zero_le _, fun D hD => ?_⟩
    have naD : a ≠ D := ne_of_none hA hD
    refine ⟨_, rfl, a, rfl, ⟨_, SqL.of (by rw [upd_ne naD]; exact hA)⟩, for_list (xs := ts.map V.ref) (fun i σ H' => ∃ (v2 v3 v4 v5 : Option V) (us : List Addr) (rs : List (Int × Int)), σ = [some (.ref a), some (.ref D), v2, v3, v4, v5] ∧ Same H H' ∧ H' D = some (.lst (us.map V.ref)) ∧ PrAt H' us rs ∧ FndC (qs.take i) rs)
      ⟨_, _, _, _, [], [], rfl, same_new (Same.refl H) hD, upd_same, .nil, FndC.nil⟩ (fun i σ H' _ ⟨v2, v3, v4, v5, us, rs, _, z⟩ => SqL.of (z.1 _ _ hA)) ?_ ?_⟩
    · rintro i x σ H' hx ⟨v2, v3, v4, v5, us, rs, rfl, s1, hU, hP, FN⟩
      obtain ⟨t, z, rfl, hz, ht⟩ := hp.get hx
      have il := ref_at hx
      have tk := take_map3 hz
      have zok := S.ok z (List.mem_of_getElem? hz)
      have zup : ∀ d ∈ qs.take i, d.1 ≤ z.1 := fun d hd => by
        obtain ⟨j, hj, rfl⟩ := List.mem_iff_getElem.mp hd
        rw [List.length_take] at hj
        obtain ⟨li, e⟩ := List.getElem?_eq_some_iff.mp hz
        rw [List.getElem_take, ← e]
        exact List.pairwise_iff_getElem.mp S.up j i (by omega) li (by omega)
      have ul : us.length ≤ 900 := by
        rw [hP.len]
        have := FN.base.few
        rw [List.length_take] at this
        omega
      have addit : (∀ x ∈ rs, x.2 + 1 < z.1) → ∀ (w4 w5 : Option V), ∀ u, H' u = none → ∃ (v2 v3 v4 v5 : Option V) (us' : List Addr) (rs' : List (Int × Int)), [some (V.ref a), some (V.ref D), some (V.int z.1), some (V.int z.2), w4, w5] = [some (V.ref a), some (V.ref D), v2, v3, v4, v5] ∧ Same H (upd (upd H' u (.tup [.int z.1, .int z.2])) D (.lst (us.map V.ref ++ [.ref u]))) ∧ (upd (upd H' u (.tup [.int z.1, .int z.2])) D (.lst (us.map V.ref ++ [.ref u]))) D = some (.lst (us'.map V.ref)) ∧ PrAt (upd (upd H' u (.tup [.int z.1, .int z.2])) D (.lst (us.map V.ref ++ [.ref u]))) us' rs' ∧ FndC (qs.take (i + 1)) rs' := fun far w4 w5 u hu => by
        have nu : D ≠ u := ne_of_none hU hu
        refine ⟨_, _, _, _, us ++ [u], rs ++ [z], rfl, same_put (same_new s1 hu) hD, by rw [upd_same, List.map_append]; rfl, PrAt.app (hP.imp fun v p e => ?_) (.cons ?_ .nil), by rw [tk]; exact FN.add zok far⟩
        · rw [upd_ne (ne_of e hU (by intro y; cases y)), upd_ne (ne_of_none e hu)]
          exact e
        · rw [upd_ne (Ne.symm nu)]
          exact upd_same
      refine ⟨t, _, rfl, SqT.of (s1 _ _ ht), rfl, _, _, rfl, _, _, rfl, rfl, ?_⟩
      refine ⟨_, rfl, D, _, rfl, .inl (SqL.of hU), _, _, rfl, rfl, _, rfl, ?_⟩
      by_cases c : rs = []
      · have u0 : us = [] := by
          have := hP.len
          rw [c] at this
          exact List.length_eq_zero_iff.mp this
        refine ifF (decide_eq_false (by rw [u0]; simp)) ?_
        refine ifF rfl ?_
        refine ⟨_, rfl, .inl ⟨rfl, _, SqL.of hU⟩, _, rfl, _, rfl, (by show 2 ≤ sizeLine; decide), fun u hu => ?_⟩
        exact ⟨D, _, _, rfl, rfl, by rw [upd_ne (ne_of_none hU hu)]; exact hU, by rw [List.length_map]; exact small1000 (by omega), addit (fun x hx => by rw [c] at hx; cases hx) _ _ u hu⟩
      · obtain ⟨us', t', rs', y, rfl, rfl, hP', hy⟩ := hP.last c
        refine ifT (decide_eq_true (by rw [List.length_map, List.length_append]; simp)) ?_
        have at1 : atI ((us' ++ [t']).map V.ref) (-1) = some (V.ref t') := by
          rw [List.map_append]
          exact atI_last _ _
        refine ⟨_, rfl, _, rfl, _, rfl, D, _, _, _, rfl, rfl, SqL.of hU, at1, t', _, _, _, rfl, rfl, SqT.of hy, at_of2 (j := 1) rfl rfl, _, _, rfl, rfl, _, _, rfl, rfl, _, rfl, ?_⟩
        by_cases d : z.1 ≤ y.2 + 1
        · refine ifT (decide_eq_true d) ?_
          have dl : ((us' ++ [t']).map V.ref).dropLast = us'.map V.ref := by rw [List.map_append]; exact List.dropLast_concat
          have la : ((us' ++ [t']).map V.ref)[((us' ++ [t']).map V.ref).length - 1]? = some (V.ref t') := by
            rw [List.map_append, List.length_append]
            simp
          refine ⟨_, rfl, .inl ⟨rfl, _, SqL.of hU⟩, D, _, V.ref t', rfl, rfl, hU, la, ?_⟩
          have ntD : t' ≠ D := ne_of hy hU (by intro y; cases y)
          refine ⟨t', _, rfl, SqT.of (by rw [upd_ne ntD]; exact hy), rfl, _, _, rfl, _, _, rfl, rfl, ?_⟩
          rw [dl]
          have hU2 : upd H' D (.lst (us'.map V.ref)) D = some (.lst (us'.map V.ref)) := upd_same
          have hP2 : PrAt (upd H' D (.lst (us'.map V.ref))) us' rs' := hP'.imp fun v p e => by
            rw [upd_ne (ne_of e hU (by intro y; cases y))]
            exact e
          have s2 : Same H (upd H' D (.lst (us'.map V.ref))) := same_put s1 hD
          generalize upd H' D (.lst (us'.map V.ref)) = H2 at hU2 hP2 s2 ⊢
          refine ⟨_, rfl, .inl ⟨rfl, _, SqL.of hU2⟩, _, rfl, _, rfl, _, rfl, _, _, rfl, (by show 2 ≤ sizeLine; decide), fun u hu => ?_⟩
          have nu : D ≠ u := ne_of_none hU2 hu
          rw [List.length_append] at ul
          refine ⟨D, _, _, rfl, rfl, by rw [upd_ne nu]; exact hU2, by rw [List.length_map]; exact small1000 (by omega), _, _, _, _, us' ++ [u], rs' ++ [(y.1, if z.2 > y.2 then z.2 else y.2)], rfl, same_put (same_new s2 hu) hD, by rw [upd_same, List.map_append]; rfl, PrAt.app (hP2.imp fun v p e => ?_) (.cons ?_ .nil), by rw [tk]; exact FN.join zok zup d⟩
          · rw [upd_ne (ne_of e hU2 (by intro y; cases y)), upd_ne (ne_of_none e hu)]
            exact e
          · rw [upd_ne (Ne.symm nu)]
            exact upd_same
        · refine ifF (decide_eq_false d) ?_
          refine ⟨_, rfl, .inl ⟨rfl, _, SqL.of hU⟩, _, rfl, _, rfl, (by show 2 ≤ sizeLine; decide), fun u hu => ?_⟩
          exact ⟨D, _, _, rfl, rfl, by rw [upd_ne (ne_of_none hU hu)]; exact hU, by rw [List.length_map]; exact small1000 (by omega), addit (fun x hx => by
            rcases List.mem_append.mp hx with hx | hx
            · have g := (List.pairwise_append.mp FN.gap).2.2 x hx y (List.mem_singleton.mpr rfl)
              have o := FN.base.ok y (List.mem_append_right _ (List.mem_singleton.mpr rfl))
              omega
            · rw [List.mem_singleton.mp hx]
              omega) _ _ u hu⟩
    · rintro σ H' ⟨v2, v3, v4, v5, us, rs, rfl, s1, hU, hP, FN⟩
      rw [List.length_map, lt, List.take_length] at FN
      exact ⟨_, rfl, q D H' us rs s1 hD hU hP FN⟩
end
end Cw
namespace Cw
open PySem L2
/-! ## stretches: places whose next cuts make one range -/
structure StOk (W : Int → Int) (low high last x y : Int) : Prop where
  lo : low ≤ last
  hi : last ≤ high
  img : ∀ z, (∃ p, low ≤ p ∧ p ≤ last ∧ W p = z) ↔ x ≤ z ∧ z ≤ y
  ne : x ≤ y
theorem stretch_far {n l m g low high : Int} {ms ss : List Int} (G : Good n ms ss) (S : SetOk l m g) (lh : low ≤ high) (h : nx n ms ss l m g low < fm ms (nx n ms ss l m g low) n) :
    StOk (nx n ms ss l m g) low high (min high (fm ms (nx n ms ss l m g low) n - g)) (nx n ms ss l m g low) (min high (fm ms (nx n ms ss l m g low) n - g) + g) := by
  have l1 := S.l1
  have lm := S.lm
  have mg := S.mg
  have none : ∀ x ∈ ms, nx n ms ss l m g low ≤ x → fm ms (nx n ms ss l m g low) n ≤ x := fun x hx hz => fm_le G.asc hx hz
  have fn : fm ms (nx n ms ss l m g low) n ≤ n := by
    rcases fm_or G.asc (nx n ms ss l m g low) n with ⟨a, _⟩ | ⟨a, _⟩
    · have := G.rng _ a
      omega
    · omega
  have sub : ∀ x ∈ ss, x ∈ ms := G.sub
  have c : nx n ms ss l m g low = low + g := by
    have no : nx n ms ss l m g low ∉ ms := fun hx => by
      have := none _ hx (Int.le_refl _)
      omega
    have e := fm_or G.asc2 (low + l) n
    have e2 := fm_or G.asc (low + m) n
    by_cases c1 : nx n ms ss l m g low = low + g
    · exact c1
    · exfalso
      have d : nx n ms ss l m g low = fm ss (low + l) n ∨ nx n ms ss l m g low = fm ms (low + m) n ∨ nx n ms ss l m g low = n := by
        unfold nx at c1 ⊢
        omega
      rcases d with d | d | d
      · rcases e with ⟨a, _⟩ | ⟨a, _⟩
        · exact no (by rw [d]; exact sub _ a)
        · omega
      · rcases e2 with ⟨a, _⟩ | ⟨a, _⟩
        · exact no (by rw [d]; exact a)
        · omega
      · omega
  have same : ∀ p, low ≤ p → p ≤ fm ms (nx n ms ss l m g low) n - g → nx n ms ss l m g p = p + g := fun p h1 h2 => by
    have s1 : p + g ≤ fm ss (p + l) n := by
      rcases fm_or G.asc2 (p + l) n with ⟨a, b⟩ | ⟨a, _⟩
      · by_cases u : fm ss (p + l) n < nx n ms ss l m g low
        · have z := fm_le G.asc2 (e := n) (z := low + l) a (by omega)
          have : nx n ms ss l m g low ≤ fm ss (low + l) n := by unfold nx; omega
          omega
        · have := none _ (sub _ a) (by omega)
          omega
      · omega
    have s2 : p + g ≤ fm ms (p + m) n := by
      rcases fm_or G.asc (p + m) n with ⟨a, b⟩ | ⟨a, _⟩
      · by_cases u : fm ms (p + m) n < nx n ms ss l m g low
        · have z := fm_le G.asc (e := n) (z := low + m) a (by omega)
          have : nx n ms ss l m g low ≤ fm ms (low + m) n := by unfold nx; omega
          omega
        · have := none _ a (by omega)
          omega
      · omega
    unfold nx
    omega
  refine ⟨by omega, by omega, fun z => ⟨?_, fun hz => ?_⟩, by omega⟩
  · rintro ⟨p, h1, h2, rfl⟩
    have := same p h1 (by omega)
    omega
  · exact ⟨z - g, by omega, by omega, by rw [same (z - g) (by omega) (by omega)]; omega⟩
theorem stretch_at {n l m g low high : Int} {ms ss : List Int} (G : Good n ms ss) (S : SetOk l m g) (lh : low ≤ high) (hn : high < n) :
    StOk (nx n ms ss l m g) low high (min high (ltst n ms ss l m g (nx n ms ss l m g low))) (nx n ms ss l m g low) (nx n ms ss l m g low) := by
  have ST := nx_stp G S
  have cn := ST.le low
  have lt := (ltst_iff (p := low) G S cn).mp ⟨by omega, Int.le_refl _⟩
  have up : ∀ p, p ≤ ltst n ms ss l m g (nx n ms ss l m g low) → nx n ms ss l m g p ≤ nx n ms ss l m g low := fun p h => ((ltst_iff G S cn).mpr h).2
  refine ⟨by omega, by omega, fun z => ⟨?_, fun hz => ?_⟩, Int.le_refl _⟩
  · rintro ⟨p, h1, h2, rfl⟩
    have a := up p (by omega)
    have b := ST.mono low p h1
    omega
  · exact ⟨low, Int.le_refl _, by omega, by omega⟩
end Cw
namespace Cw
open PySem L2
/-! ## ranges that do not touch are told by their members -/
structure Canon (rs : List (Int × Int)) : Prop where
  ok : ∀ q ∈ rs, q.1 ≤ q.2
  gap : rs.Pairwise fun a b => a.2 + 1 < b.1
theorem inR_cons {p : Int} {a : Int × Int} {r : List (Int × Int)} : InR p (a :: r) ↔ In1 p a ∨ InR p r := by
  constructor
  · rintro ⟨q, hq, h⟩
    rcases List.mem_cons.mp hq with rfl | hq
    · exact .inl h
    · exact .inr ⟨q, hq, h⟩
  · rintro (h | ⟨q, hq, h⟩)
    · exact ⟨a, List.mem_cons_self .., h⟩
    · exact ⟨q, List.mem_cons_of_mem _ hq, h⟩
theorem Canon.tail {a : Int × Int} {r : List (Int × Int)} (c : Canon (a :: r)) : Canon r := ⟨fun q hq => c.ok q (List.mem_cons_of_mem _ hq), (List.pairwise_cons.mp c.gap).2⟩
theorem Canon.far {a : Int × Int} {r : List (Int × Int)} (c : Canon (a :: r)) {p : Int} (h : InR p r) : a.2 + 1 < p := by
  obtain ⟨q, hq, h1, _⟩ := h
  have := (List.pairwise_cons.mp c.gap).1 q hq
  omega
theorem canon_eq : ∀ {rs ts : List (Int × Int)}, Canon rs → Canon ts → (∀ p, InR p rs ↔ InR p ts) → rs = ts
  | [], [], _, _, _ => rfl
  | [], b :: t, _, ct, h => by
    have hb := ct.ok b (List.mem_cons_self ..)
    obtain ⟨q, hq, _⟩ := (h b.1).mpr (inR_cons.mpr (.inl ⟨Int.le_refl _, hb⟩))
    cases hq
  | a :: r, [], cr, _, h => by
    have ha := cr.ok a (List.mem_cons_self ..)
    obtain ⟨q, hq, _⟩ := (h a.1).mp (inR_cons.mpr (.inl ⟨Int.le_refl _, ha⟩))
    cases hq
  | a :: r, b :: t, cr, ct, h => by
    have ha := cr.ok a (List.mem_cons_self ..)
    have hb := ct.ok b (List.mem_cons_self ..)
    have low : ∀ {c : Int × Int} {s : List (Int × Int)}, Canon (c :: s) → ∀ p, InR p (c :: s) → c.1 ≤ p := fun {c s} k p hp => by
      have hc := k.ok c (List.mem_cons_self ..)
      rcases inR_cons.mp hp with hp | hp
      · exact hp.1
      · have := k.far hp
        omega
    have e1 : a.1 = b.1 := by
      have x := low ct a.1 ((h a.1).mp (inR_cons.mpr (.inl ⟨Int.le_refl _, ha⟩)))
      have y := low cr b.1 ((h b.1).mpr (inR_cons.mpr (.inl ⟨Int.le_refl _, hb⟩)))
      omega
    have e2 : a.2 = b.2 := by
      rcases Int.lt_trichotomy a.2 b.2 with c | c | c
      · rcases inR_cons.mp ((h (a.2 + 1)).mpr (inR_cons.mpr (.inl ⟨by omega, by omega⟩))) with z | z
        · have := z.2
          omega
        · have := cr.far z
          omega
      · exact c
      · rcases inR_cons.mp ((h (b.2 + 1)).mp (inR_cons.mpr (.inl ⟨by omega, by omega⟩))) with z | z
        · have := z.2
          omega
        · have := ct.far z
          omega
    have e : a = b := Prod.ext e1 e2
    subst e
    rw [canon_eq cr.tail ct.tail fun p => ⟨fun hp => ?_, fun hp => ?_⟩]
    · have f := cr.far hp
      rcases inR_cons.mp ((h p).mp (inR_cons.mpr (.inr hp))) with z | z
      · have := z.2
        omega
      · exact z
    · have f := ct.far hp
      rcases inR_cons.mp ((h p).mpr (inR_cons.mpr (.inr hp))) with z | z
      · have := z.2
        omega
      · exact z
end Cw
namespace Cw
open PySem L2
/-! ## how many stretches there can be -/
def cnt (W : Int → Int) (ms : List Int) (p : Int) : Nat := (ms.filter fun x => decide (W p ≤ x)).length
def pot (W : Int → Int) (n : Int) (ms : List Int) (p : Int) : Nat := 2 * cnt W ms p + (if W p < fm ms (W p) n then 1 else 0)
theorem fil_le {f g : Int → Bool} (h : ∀ x, f x = true → g x = true) : ∀ ms : List Int, (ms.filter f).length ≤ (ms.filter g).length
  | [] => Nat.le_refl _
  | a :: r => by
    have ih := fil_le h r
    rw [List.filter_cons, List.filter_cons]
    by_cases c : f a = true
    · rw [if_pos c, if_pos (h a c)]
      simp only [List.length_cons]
      omega
    · rw [if_neg c]
      split
      · simp only [List.length_cons]
        omega
      · exact ih
theorem fil_lt {f g : Int → Bool} (h : ∀ x, f x = true → g x = true) {z : Int} (hf : f z = false) (hg : g z = true) : ∀ {ms : List Int}, z ∈ ms → (ms.filter f).length < (ms.filter g).length
  | [], hz => nomatch hz
  | a :: r, hz => by
    rw [List.filter_cons, List.filter_cons]
    by_cases e : z = a
    · subst e
      rw [hf, if_neg (by simp), if_pos hg, List.length_cons]
      exact Nat.lt_succ_of_le (fil_le h r)
    · have ih := fil_lt h hf hg ((List.mem_cons.mp hz).resolve_left e)
      by_cases c : f a = true
      · rw [if_pos c, if_pos (h a c)]
        simp only [List.length_cons]
        omega
      · rw [if_neg c]
        split
        · simp only [List.length_cons]
          omega
        · exact ih
theorem cnt_le {W : Int → Int} {ms : List Int} {p q : Int} (h : W p ≤ W q) : cnt W ms q ≤ cnt W ms p :=
  fil_le (fun x hx => decide_eq_true (by have := of_decide_eq_true hx; omega)) ms
theorem cnt_lt {W : Int → Int} {ms : List Int} {p q z : Int} (h : W p ≤ z) (h2 : z < W q) (hz : z ∈ ms) : cnt W ms q < cnt W ms p :=
  fil_lt (fun x hx => decide_eq_true (by have := of_decide_eq_true hx; omega)) (decide_eq_false (by omega)) (decide_eq_true h) hz
theorem cnt_top {W : Int → Int} {ms : List Int} {p : Int} : cnt W ms p ≤ ms.length := List.length_filter_le _ _
theorem pot_le {W : Int → Int} {n : Int} {ms : List Int} {p : Int} : pot W n ms p ≤ 2 * cnt W ms p + 1 := by
  unfold pot
  split <;> omega
theorem nx_kinds {n l m g p : Int} {ms ss : List Int} (G : Good n ms ss) : nx n ms ss l m g p = n ∨ nx n ms ss l m g p = p + g ∨ nx n ms ss l m g p ∈ ms := by
  have a := fm_or G.asc2 (p + l) n
  have b := fm_or G.asc (p + m) n
  have d : nx n ms ss l m g p = fm ss (p + l) n ∨ nx n ms ss l m g p = fm ms (p + m) n ∨ nx n ms ss l m g p = p + g ∨ nx n ms ss l m g p = n := by
    unfold nx
    omega
  rcases d with d | d | d | d
  · rcases a with ⟨h, _⟩ | ⟨h, _⟩
    · exact .inr (.inr (by rw [d]; exact G.sub _ h))
    · exact .inl (d.trans h)
  · rcases b with ⟨h, _⟩ | ⟨h, _⟩
    · exact .inr (.inr (by rw [d]; exact h))
    · exact .inl (d.trans h)
  · exact .inr (.inl d)
  · exact .inl d
theorem pot_far {n l m g low high : Int} {ms ss : List Int} (G : Good n ms ss) (S : SetOk l m g) (hn : high < n) (lh : low ≤ high) (h : nx n ms ss l m g low < fm ms (nx n ms ss l m g low) n) (b : min high (fm ms (nx n ms ss l m g low) n - g) < high) :
    pot (nx n ms ss l m g) n ms (min high (fm ms (nx n ms ss l m g low) n - g) + 1) < pot (nx n ms ss l m g) n ms low := by
  have ST := nx_stp G S
  have st := stretch_far (high := high) G S lh h
  have e : min high (fm ms (nx n ms ss l m g low) n - g) + 1 = fm ms (nx n ms ss l m g low) n - g + 1 := by omega
  have lo := st.lo
  have p1 : pot (nx n ms ss l m g) n ms low = 2 * cnt (nx n ms ss l m g) ms low + 1 := by
    unfold pot
    rw [if_pos h]
  rw [p1]
  have kinds := nx_kinds (l := l) (m := m) (g := g) (p := fm ms (nx n ms ss l m g low) n - g + 1) G
  have mono := ST.mono low (fm ms (nx n ms ss l m g low) n - g + 1) (by omega)
  have le := ST.le (fm ms (nx n ms ss l m g low) n - g + 1)
  have fle : ∀ {x : Int}, x ∈ ms → nx n ms ss l m g low ≤ x → fm ms (nx n ms ss l m g low) n ≤ x := fun hx hz => fm_le G.asc hx hz
  have mn : ∀ x ∈ ms, x < n := fun x hx => by
    have := G.rng x hx
    omega
  have top := fm_top G.asc (z := nx n ms ss l m g low) (e := n) fun x hx => by have := mn x hx; omega
  have af : fm ms (nx n ms ss l m g low) n ≤ nx n ms ss l m g (fm ms (nx n ms ss l m g low) n - g + 1) := by
    rcases kinds with k | k | k
    · omega
    · omega
    · exact fle k mono
  rw [e]
  rcases fm_or G.asc (nx n ms ss l m g low) n with ⟨hm, _⟩ | ⟨hm, _⟩
  · by_cases c : nx n ms ss l m g (fm ms (nx n ms ss l m g low) n - g + 1) = fm ms (nx n ms ss l m g low) n
    · have c1 := cnt_le (W := nx n ms ss l m g) (ms := ms) mono
      have : pot (nx n ms ss l m g) n ms (fm ms (nx n ms ss l m g low) n - g + 1) = 2 * cnt (nx n ms ss l m g) ms (fm ms (nx n ms ss l m g low) n - g + 1) := by
        unfold pot
        rw [c]
        have : fm ms (fm ms (nx n ms ss l m g low) n) n ≤ fm ms (nx n ms ss l m g low) n := fm_le G.asc hm (Int.le_refl _)
        rw [if_neg (by omega)]
        rfl
      omega
    · have c1 := cnt_lt (W := nx n ms ss l m g) (ms := ms) (p := low) (q := fm ms (nx n ms ss l m g low) n - g + 1) (z := fm ms (nx n ms ss l m g low) n) (by omega) (by omega) hm
      have := pot_le (W := nx n ms ss l m g) (n := n) (ms := ms) (p := fm ms (nx n ms ss l m g low) n - g + 1)
      omega
  · have w : nx n ms ss l m g (fm ms (nx n ms ss l m g low) n - g + 1) = n := by omega
    have c0 : cnt (nx n ms ss l m g) ms (fm ms (nx n ms ss l m g low) n - g + 1) = 0 := by
      unfold cnt
      rw [List.filter_eq_nil_iff.mpr fun x hx => ?_]
      · rfl
      · rw [w]
        have := mn x hx
        simp only [decide_eq_true_eq]
        omega
    unfold pot
    rw [c0, w]
    have : fm ms n n ≤ n := fm_top G.asc fun x hx => by have := mn x hx; omega
    rw [if_neg (by omega)]
    omega
theorem pot_at {n l m g low high : Int} {ms ss : List Int} (G : Good n ms ss) (S : SetOk l m g) (hn : high < n) (h : ¬ nx n ms ss l m g low < fm ms (nx n ms ss l m g low) n) (b : min high (ltst n ms ss l m g (nx n ms ss l m g low)) < high) :
    pot (nx n ms ss l m g) n ms (min high (ltst n ms ss l m g (nx n ms ss l m g low)) + 1) < pot (nx n ms ss l m g) n ms low := by
  have ST := nx_stp G S
  have cn := ST.le low
  have e : min high (ltst n ms ss l m g (nx n ms ss l m g low)) + 1 = ltst n ms ss l m g (nx n ms ss l m g low) + 1 := by omega
  have more : ¬ (ltst n ms ss l m g (nx n ms ss l m g low) + 1 < n ∧ nx n ms ss l m g (ltst n ms ss l m g (nx n ms ss l m g low) + 1) ≤ nx n ms ss l m g low) := fun z => by
    have := (ltst_iff G S cn).mp z
    omega
  have up : nx n ms ss l m g low < nx n ms ss l m g (ltst n ms ss l m g (nx n ms ss l m g low) + 1) := by omega
  have le := ST.le (ltst n ms ss l m g (nx n ms ss l m g low) + 1)
  have hm : nx n ms ss l m g low ∈ ms := by
    rcases fm_or G.asc (nx n ms ss l m g low) n with ⟨k, k2⟩ | ⟨k, _⟩
    · have : fm ms (nx n ms ss l m g low) n = nx n ms ss l m g low := by omega
      rw [← this]
      exact k
    · omega
  rw [e]
  have c1 := cnt_lt (W := nx n ms ss l m g) (ms := ms) (p := low) (q := ltst n ms ss l m g (nx n ms ss l m g low) + 1) (z := nx n ms ss l m g low) (Int.le_refl _) up hm
  have := pot_le (W := nx n ms ss l m g) (n := n) (ms := ms) (p := ltst n ms ss l m g (nx n ms ss l m g low) + 1)
  unfold pot at this ⊢
  omega
end Cw
namespace Cw
open PySem L2
abbrev sStr : Stmt := top 29
def spStretch (C : Addr) : Sp := fun vs H Q _ => ∃ (r t : Addr) (n l m g lo hi : Int) (ms ss : List Int), vs = [.ref r, .ref t, .int lo, .int hi] ∧ RowAt C H r n ms ss ∧ H t = some (.tup [.int l, .int m, .int g]) ∧ Good n ms ss ∧ SetOk l m g ∧ lo ≤ hi ∧ hi < n ∧
  ∀ (q u : Addr) (H' : Hp) (last x y : Int), Same H H' → H' q = some (.tup [.int last, .ref u]) → H' u = some (.tup [.int x, .int y]) → StOk (nx n ms ss l m g) lo hi last x y → (last < hi → pot (nx n ms ss l m g) n ms (last + 1) < pot (nx n ms ss l m g) n ms lo) → Q (.ref q) H'
section
variable {P : Program} {w : World} {K : PySem.W.Frag} {mg : Str → Option Value} {base : Heap}
abbrev NSx : List Str := ["row", "settings", "low", "high", "cut", "after", "last"]
theorem scSx : FnScope NSx ["row", "settings", "low", "high"] (defScope sStr) := ⟨rfl, rfl, rfl, by decide +kernel, rfl, by decide +kernel, by decide +kernel⟩
theorem ok_stretch {f C fS fF fL pL fGL pM fGM pS fGS : Addr} {fd fdS fdF fdL dL dM dS : FuncData} (F : Fun K "stretch" "stretch" sStr f fd) (T : Bl mg) (R : Cl K mg C) (Gs : Gets P w K mg base C pL fGL pM fGM pS fGS dL dM dS)
    (gS : mg "step" = some (.ref fS)) (kS : PySem.W.keepIn K (.ref fS) = true) (bS : Binds K fdS ["row", "settings", "place"] []) (GS : FnOk P w K mg base CX0 3 fS fdS ["row", "settings", "place"] (spStep C))
    (gF : mg "first_mark" = some (.ref fF)) (kF : PySem.W.keepIn K (.ref fF) = true) (bF : Binds K fdF ["marks", "place", "end"] []) (GF : FnOk P w K mg base CX0 2 fF fdF ["marks", "place", "end"] spFM)
    (gL : mg "latest" = some (.ref fL)) (kL : PySem.W.keepIn K (.ref fL) = true) (bL : Binds K fdL ["row", "settings", "cut"] []) (GL : FnOk P w K mg base CX0 4 fL fdL ["row", "settings", "cut"] (spLate C)) :
    FnOk P w K mg base CX0 5 f fd ["row", "settings", "low", "high"] (spStretch C) := by
  refine F.ok scSx (fun vs H Q E h => ?_) (fun cdv A outer s H vs Q E hr h => ?_)
  · obtain ⟨r, t, n, l, m, g, lo, hi, ms, ss, rfl, _⟩ := h
    rfl
  · obtain ⟨r, t, n, l, m, g, lo, hi, ms, ss, rfl, hR, hT, G, S, lh, hn, q⟩ := h
    have hr2 : Room 2 (A.deeper (PyProof.Rows.envOfC "stretch" (defScope sStr) s.heap.objs.size f cdv)) := hr.mono (by decide)
    have hr3 : Room 3 (A.deeper (PyProof.Rows.envOfC "stretch" (defScope sStr) s.heap.objs.size f cdv)) := hr.mono (by decide)
    have hr4 : Room 4 (A.deeper (PyProof.Rows.envOfC "stretch" (defScope sStr) s.heap.objs.size f cdv)) := hr.mono (by decide)
    refine ⟨_, (pss_cons (ps_set (i := 4) scSx.nd rfl (Or.inl rfl) (pe_call GS hr3 rfl gS kS bS .nil pass0 (pa_cons (pv 0) (pa_cons (pv 1) (pa_cons (pv 2) pa_nil)))))
        (pss_cons (ps_set (i := 5) scSx.nd rfl (Or.inl rfl) (pe_call GF hr2 rfl gF kF bF .nil pass0 (pa_cons (pe_prop (pv 0) R.cl Gs.hM Gs.GM hr2 Gs.bM .nil pass0 rfl) (pa_cons (pv 4) (pa_cons (pe_prop (pv 0) R.cl Gs.hL Gs.GL hr2 Gs.bL .nil pass0 rfl) pa_nil)))))
        (pss_cons (ps_if (pt_cmpR op_gt (pv 5) (pv 4) (nomark _)) (pss_cons (ps_set (i := 6) scSx.nd rfl (Or.inl rfl) (pe_callB (call_min2 rfl) (by rfl) T.min (by decide +kernel) (pa_cons (pv 3) (pa_cons (pe_op op_sub (pv 5) (pe_ix ix_tup (pv 1) pe_int (fun _ _ => rfl))) pa_nil))))
        (pss_one (ps_ret (pe_tup (pa_cons (pv 6) (pa_cons (pe_tup (pa_cons (pv 4) (pa_cons (pe_op op_add (pv 6) (pe_ix ix_tup (pv 1) pe_int (fun _ _ => rfl))) pa_nil))) pa_nil)))))) pss_nil)
        (pss_one (ps_ret (pe_tup (pa_cons (pe_callB (call_min2 rfl) (by rfl) T.min (by decide +kernel) (pa_cons (pv 3) (pa_cons (pe_call GL hr4 rfl gL kL bL .nil pass0 (pa_cons (pv 0) (pa_cons (pv 1) (pa_cons (pv 4) pa_nil)))) pa_nil))) (pa_cons (pe_tup (pa_cons (pv 4) (pa_cons (pv 4) pa_nil))) pa_nil)))))))), ?_⟩
    have lms := G.len
    refine ⟨_, rfl, _, rfl, _, rfl, r, t, n, l, m, g, lo, ms, ss, rfl, hR, hT, G, fun H1 s1 => ?_⟩
    have R1 := hR.same s1
    have t1 := s1 _ _ hT
    obtain ⟨dx, l1, l2, ho, h1, h2⟩ := id R1
    try dsimp only [L2.start, List.set, List.map, List.append, List.replicate, List.length]
    refine ⟨_, rfl, r, dx, _, rfl, ho, r, n, ms, ss, rfl, R1, fun p2 H2 s2 n2 i2 => ?_⟩
    have R2 := R1.same s2
    have t2 := s2 _ _ t1
    have o2 := s2 _ _ ho
    refine ⟨_, rfl, _, rfl, r, dx, _, rfl, o2, r, n, ms, ss, rfl, R2, ?_⟩
    refine ⟨p2, ms, nx n ms ss l m g lo, n, rfl, i2, by omega, G.asc, ?_⟩
    have s12 := s1.trans s2
    try dsimp only [L2.start, List.set, List.map, List.append, List.replicate, List.length]
    refine ⟨_, rfl, _, rfl, _, _, rfl, rfl, _, rfl, ?_⟩
    by_cases c : nx n ms ss l m g lo < fm ms (nx n ms ss l m g lo) n
    · refine ifT (decide_eq_true c) ?_
      have st := stretch_far (high := hi) G S lh c
      refine ⟨_, rfl, _, rfl, _, rfl, t, _, _, _, rfl, rfl, SqT.of t2, at_of2 (j := 2) rfl rfl, _, _, rfl, rfl, _, _, rfl, ?_⟩
      have e : (if fm ms (nx n ms ss l m g lo) n - g < hi then fm ms (nx n ms ss l m g lo) n - g else hi) = min hi (fm ms (nx n ms ss l m g lo) n - g) := by split <;> omega
      rw [e]
      try dsimp only [L2.start, List.set, List.map, List.append, List.replicate, List.length]
      refine ⟨_, rfl, _, rfl, _, rfl, _, rfl, t, _, _, _, rfl, rfl, SqT.of t2, at_of2 (j := 2) rfl rfl, _, _, rfl, rfl, (by show 2 ≤ sizeLine; decide), fun u hu => ⟨(by show 2 ≤ sizeLine; decide), fun y hy => ?_⟩⟩
      dsimp only at hy ⊢
      have s3 := same_new (o := .tup [.int (nx n ms ss l m g lo), .int (min hi (fm ms (nx n ms ss l m g lo) n - g) + g)]) (Same.refl H2) hu
      have u1 : upd H2 u (.tup [.int (nx n ms ss l m g lo), .int (min hi (fm ms (nx n ms ss l m g lo) n - g) + g)]) u = _ := upd_same
      exact q y u _ _ _ _ (same_new (s12.trans s3) hy) upd_same (same_new (Same.refl _) hy _ _ u1) st (pot_far G S hn lh c)
    · refine ifF (decide_eq_false c) ?_
      have st := stretch_at (high := hi) G S lh hn
      try dsimp only [L2.start, List.set, List.map, List.append, List.replicate, List.length]
      refine ⟨_, rfl, _, rfl, _, rfl, _, rfl, r, t, n, l, m, g, _, ms, ss, rfl, R2, t2, G, fun H3 s3 => ⟨_, _, rfl, ?_⟩⟩
      have e : (if ltst n ms ss l m g (nx n ms ss l m g lo) < hi then ltst n ms ss l m g (nx n ms ss l m g lo) else hi) = min hi (ltst n ms ss l m g (nx n ms ss l m g lo)) := by split <;> omega
      rw [e]
      refine ⟨_, rfl, _, rfl, (by show 2 ≤ sizeLine; decide), fun u hu => ⟨(by show 2 ≤ sizeLine; decide), fun y hy => ?_⟩⟩
      dsimp only at hy ⊢
      have s4 := same_new (o := .tup [.int (nx n ms ss l m g lo), .int (nx n ms ss l m g lo)]) (Same.refl H3) hu
      have u1 : upd H3 u (.tup [.int (nx n ms ss l m g lo), .int (nx n ms ss l m g lo)]) u = _ := upd_same
      exact q y u _ _ _ _ (same_new ((s12.trans s3).trans s4) hy) upd_same (same_new (Same.refl _) hy _ _ u1) st (pot_at G S hn c)
end
end Cw
namespace Cw
open PySem L2
/-! ## what the loops of next_ranges have found -/
/-- before a place low of the range from beg on; got: the next cuts of the ranges before; i: how many these are -/
structure NrK (W : Int → Int) (n : Int) (ms : List Int) (got : Int → Prop) (i : Nat) (beg low high : Int) (ps : List (Int × Int)) : Prop where
  mem : ∀ z, InR z ps ↔ got z ∨ ∃ p, beg ≤ p ∧ p < low ∧ W p = z
  prs : Prs ps
  under : ∀ d ∈ ps, ∀ p, low ≤ p → d.1 ≤ W p
  more : low ≤ high → ps.length + pot W n ms low ≤ 2 * ms.length + 2 * i + 1
  few : ps.length + 2 * cnt W ms low ≤ 2 * ms.length + 2 * i + 2
  up : beg ≤ low
theorem NrK.start {W : Int → Int} {n : Int} {ms : List Int} {got : Int → Prop} {i : Nat} {b beg high : Int} {ps : List (Int × Int)} (mono : W b ≤ W beg) (mem : ∀ z, InR z ps ↔ got z) (prs : Prs ps) (under : ∀ d ∈ ps, ∀ p, b ≤ p → d.1 ≤ W p)
    (few : ps.length + 2 * cnt W ms b ≤ 2 * ms.length + 2 * i) (h : b ≤ beg) : NrK W n ms got i beg beg high ps := by
  have c := cnt_le (ms := ms) mono
  have p := pot_le (W := W) (n := n) (ms := ms) (p := beg)
  exact ⟨fun z => by
    rw [mem]
    constructor
    · exact .inl
    · rintro (h | ⟨p, h1, h2, _⟩)
      · exact h
      · omega, prs, fun d hd p hp => under d hd p (by omega), fun _ => by omega, by omega, Int.le_refl _⟩
theorem NrK.step {W : Int → Int} {got : Int → Prop} {n l beg low high last x y : Int} {i : Nat} {ms : List Int} {ps : List (Int × Int)} (ST : Stp W n l) (N : NrK W n ms got i beg low high ps) (st : StOk W low high last x y)
    (dec : last < high → pot W n ms (last + 1) < pot W n ms low) (lh : low ≤ high) : NrK W n ms got i beg (last + 1) high (ps ++ [(x, y)]) := by
  have lo := st.lo
  have up := N.up
  have more := N.more lh
  have cl := cnt_le (ms := ms) (ST.mono low (last + 1) (by omega))
  obtain ⟨p0, q1, q2, ex⟩ := (st.img x).mpr ⟨Int.le_refl _, st.ne⟩
  have len : (ps ++ [(x, y)]).length = ps.length + 1 := by
    rw [List.length_append]
    rfl
  refine ⟨fun z => ?_, ⟨?_, ?_⟩, ?_, fun h => ?_, ?_, by omega⟩
  · rw [inR_snoc, N.mem]
    constructor
    · rintro ((h | ⟨p, h1, h2, h3⟩) | h)
      · exact .inl h
      · exact .inr ⟨p, h1, by omega, h3⟩
      · obtain ⟨p, h1, h2, h3⟩ := (st.img z).mpr h
        exact .inr ⟨p, by omega, by omega, h3⟩
    · rintro (h | ⟨p, h1, h2, h3⟩)
      · exact .inl (.inl h)
      · by_cases c : p < low
        · exact .inl (.inr ⟨p, h1, c, h3⟩)
        · exact .inr ((st.img z).mp ⟨p, by omega, by omega, h3⟩)
  · refine List.pairwise_append.mpr ⟨N.prs.up, List.pairwise_singleton _ _, fun d hd e he => ?_⟩
    rw [List.mem_singleton.mp he]
    have := N.under d hd p0 q1
    show d.1 ≤ x
    omega
  · intro q hq
    rcases List.mem_append.mp hq with hq | hq
    · exact N.prs.ok q hq
    · rw [List.mem_singleton.mp hq]
      exact st.ne
  · intro d hd p hp
    rcases List.mem_append.mp hd with hd | hd
    · exact N.under d hd p (by omega)
    · rw [List.mem_singleton.mp hd]
      show x ≤ W p
      have := ST.mono p0 p (by omega)
      omega
  · rw [len]
    have := dec (by omega)
    omega
  · rw [len]
    have : 2 * cnt W ms low ≤ pot W n ms low := by
      unfold pot
      omega
    omega
end Cw
namespace Cw
open PySem L2
abbrev sNr : Stmt := top 34
/-- ranges of places, none touching another -/
structure RgsOk (n : Int) (qs : List (Int × Int)) : Prop where
  rng : ∀ q ∈ qs, 0 ≤ q.1 ∧ q.1 ≤ q.2 ∧ q.2 ≤ n
  gap : qs.Pairwise fun a b => a.2 + 1 < b.1
/-- ranges that ascend; they may begin before the row, and be empty -/
structure RgsN (n : Int) (qs : List (Int × Int)) : Prop where
  top : ∀ q ∈ qs, q.2 ≤ n
  gap : qs.Pairwise fun a b => a.2 < b.1 ∧ a.1 ≤ b.1
theorem RgsOk.n {n : Int} {qs : List (Int × Int)} (R : RgsOk n qs) : RgsN n qs :=
  ⟨fun q hq => (R.rng q hq).2.2, (List.Pairwise.imp_of_mem (fun {a b} ha hb h => by have := R.rng a ha; omega) R.gap)⟩
def spNr (C : Addr) : Sp := fun vs H Q _ => ∃ (r t a : Addr) (n l m g : Int) (ms ss : List Int) (ts : List Addr) (qs : List (Int × Int)), vs = [.ref r, .ref t, .ref a] ∧ RowAt C H r n ms ss ∧ H t = some (.tup [.int l, .int m, .int g]) ∧ Good n ms ss ∧ SetOk l m g ∧ H a = some (.lst (ts.map V.ref)) ∧ PrAt H ts qs ∧ RgsN n qs ∧ 2 * ms.length + 2 * qs.length ≤ 900 ∧
  ∀ (q : Addr) (H' : Hp) (us : List Addr) (rs : List (Int × Int)), Same H H' → H q = none → H' q = some (.lst (us.map V.ref)) → PrAt H' us rs → Canon rs → (∀ z, InR z rs ↔ ∃ p, InR p qs ∧ p < n ∧ nx n ms ss l m g p = z) → rs.length ≤ 2 * ms.length + 2 * qs.length → Q (.ref q) H'
def muNr : St → Hp → Nat := fun σ _ => match σ with | [_, _, _, _, _, _, some (.int lo), some (.int hi), _, _] => (hi + 1 - lo).toNat | _ => 0
section
variable {P : Program} {w : World} {K : PySem.W.Frag} {mg : Str → Option Value} {base : Heap}
abbrev NNr : List Str := ["row", "settings", "ranges", "pairs", "begin", "end", "low", "high", "last", "pair"]
theorem scNr : FnScope NNr ["row", "settings", "ranges"] (defScope sNr) := ⟨rfl, rfl, rfl, by decide +kernel, rfl, by decide +kernel, by decide +kernel⟩
theorem ok_nr {f C fS fJ pL fGL pM fGM pS fGS : Addr} {fd fdS fdJ dL dM dS : FuncData} (F : Fun K "next_ranges" "next_ranges" sNr f fd) (T : Bl mg) (R : Cl K mg C) (Gs : Gets P w K mg base C pL fGL pM fGM pS fGS dL dM dS)
    (gS : mg "stretch" = some (.ref fS)) (kS : PySem.W.keepIn K (.ref fS) = true) (bS : Binds K fdS ["row", "settings", "low", "high"] []) (GS : FnOk P w K mg base CX0 5 fS fdS ["row", "settings", "low", "high"] (spStretch C))
    (gJ : mg "joined_ranges" = some (.ref fJ)) (kJ : PySem.W.keepIn K (.ref fJ) = true) (bJ : Binds K fdJ ["pairs"] []) (GJ : FnOk P w K mg base CX0 1 fJ fdJ ["pairs"] spJoin) :
    FnOk P w K mg base CX0 6 f fd ["row", "settings", "ranges"] (spNr C) := by
  refine F.ok scNr (fun vs H Q E h => ?_) (fun cdv A outer s H vs Q E hr h => ?_)
  · obtain ⟨r, t, a, n, l, m, g, ms, ss, ts, qs, rfl, _⟩ := h
    rfl
  · obtain ⟨r, t, a, n, l, m, g, ms, ss, ts, qs, rfl, hR, hT, G, S, hA, hq, RG, n8, q⟩ := h
    have hr1 : Room 1 (A.deeper (PyProof.Rows.envOfC "next_ranges" (defScope sNr) s.heap.objs.size f cdv)) := hr.mono (by decide)
    have hr2 : Room 2 (A.deeper (PyProof.Rows.envOfC "next_ranges" (defScope sNr) s.heap.objs.size f cdv)) := hr.mono (by decide)
    have hr5 : Room 5 (A.deeper (PyProof.Rows.envOfC "next_ranges" (defScope sNr) s.heap.objs.size f cdv)) := hr.mono (by decide)
    refine ⟨_, (pss_cons (ps_set (i := 3) scNr.nd rfl (Or.inl rfl) (pe_lst pa_nil))
        (pss_cons (ps_for PassesOwn.never rfl (pi_list (pv 2)) (pg_tup rfl (pgs_cons (pg_name (i := 4) scNr.nd rfl (Or.inl rfl)) (pgs_cons (pg_name (i := 5) scNr.nd rfl (Or.inl rfl)) pgs_nil)))
        (pss_cons (ps_set (i := 6) scNr.nd rfl (Or.inl rfl) (pv 4))
        (pss_cons (ps_set (i := 7) scNr.nd rfl (Or.inl rfl) (pe_callB (call_min2 rfl) (by rfl) T.min (by decide +kernel) (pa_cons (pv 5) (pa_cons (pe_op op_sub (pe_prop (pv 0) R.cl Gs.hL Gs.GL hr2 Gs.bL .nil pass0 rfl) pe_int) pa_nil))))
        (pss_one (ps_while PassesOwn.never (pt_cmpR op_le (pv 6) (pv 7) (nomark _)) (pss_cons (ps_asg (pe_call GS hr5 rfl gS kS bS .nil pass0 (pa_cons (pv 0) (pa_cons (pv 1) (pa_cons (pv 6) (pa_cons (pv 7) pa_nil))))) (pg_tup rfl (pgs_cons (pg_name (i := 8) scNr.nd rfl (Or.inl rfl)) (pgs_cons (pg_name (i := 9) scNr.nd rfl (Or.inl rfl)) pgs_nil))))
        (pss_cons (ps_expr (pe_bm PySem.F.plainAttrs_list PySem.F.slot_list_append PySem.F.type_list_append mt_append (pv 3) (pa_cons (pv 9) pa_nil)))
        (pss_one (ps_set (i := 6) scNr.nd rfl (Or.inl rfl) (pe_op op_add (pv 8) pe_int))))))))))
        (pss_one (ps_ret (pe_call GJ hr1 rfl gJ kJ bJ .nil pass0 (pa_cons (pv 3) pa_nil)))))), ?_⟩
    have lt := hq.len
    have ST := nx_stp G S
    generalize hW : nx n ms ss l m g = W at ST q
    refine ⟨Nat.zero_le _, fun D hD => ?_⟩
    have naD : a ≠ D := ne_of_none hA hD
    refine ⟨_, rfl, a, rfl, ⟨_, SqL.of (by rw [upd_ne naD]; exact hA)⟩, for_list (xs := ts.map V.ref) (fun i σ H' => ∃ (v4 v5 v6 v7 v8 v9 : Option V) (us : List Addr) (ps : List (Int × Int)) (b : Int), σ = [some (.ref r), some (.ref t), some (.ref a), some (.ref D), v4, v5, v6, v7, v8, v9] ∧ Same H H' ∧ H' D = some (.lst (us.map V.ref)) ∧ PrAt H' us ps ∧
        (∀ z, InR z ps ↔ ∃ p, InR p (qs.take i) ∧ p < n ∧ W p = z) ∧ Prs ps ∧ (∀ d ∈ ps, ∀ p, b ≤ p → d.1 ≤ W p) ∧ ps.length + 2 * cnt W ms b ≤ 2 * ms.length + 2 * i ∧ ∀ j y, i ≤ j → qs[j]? = some y → b ≤ y.1)
      ⟨_, _, _, _, _, _, [], [], (qs.head?.map (·.1)).getD 0, rfl, same_new (Same.refl H) hD, upd_same, .nil, fun z => ⟨fun h => (by obtain ⟨_, h, _⟩ := h; cases h), fun h => (by obtain ⟨_, h, _⟩ := h; obtain ⟨_, h, _⟩ := h; cases h)⟩, ⟨List.Pairwise.nil, fun _ h => (nomatch h)⟩, fun _ h => (nomatch h), by have := cnt_top (W := W) (ms := ms) (p := (qs.head?.map (·.1)).getD 0); simp; omega, fun j y _ hy => by
        cases qs with
        | nil => cases hy
        | cons a r =>
          show a.1 ≤ y.1
          cases j with
          | zero => cases hy; exact Int.le_refl _
          | succ j => exact ((List.pairwise_cons.mp RG.gap).1 y (List.mem_of_getElem? hy)).2⟩
      (fun i σ H' _ z => by obtain ⟨_, _, _, _, _, _, _, _, _, _, z, _⟩ := z; exact SqL.of (z _ _ hA)) ?_ ?_⟩
    · rintro i x σ H1 hx ⟨v4, v5, v6, v7, v8, v9, us, ps, b, rfl, s1, hU, hP, mem, prs, under, few, ahead⟩
      obtain ⟨u, y, rfl, hy, hu⟩ := hq.get hx
      have rg := RG.top y (List.mem_of_getElem? hy)
      have by1 := ahead i y (Nat.le_refl _) hy
      have R1 := hR.same s1
      obtain ⟨dx, l1, l2, ho, _, _⟩ := id R1
      refine ⟨u, _, rfl, SqT.of (s1 _ _ hu), rfl, _, _, rfl, _, _, rfl, rfl, ?_⟩
      try dsimp only [L2.start, List.set, List.map, List.append, List.replicate, List.length]
      refine ⟨_, rfl, _, rfl, _, rfl, r, dx, _, rfl, ho, r, n, ms, ss, rfl, R1, _, _, rfl, rfl, _, _, rfl, ?_⟩
      have e : (if n - 1 < y.2 then n - 1 else y.2) = min y.2 (n - 1) := by split <;> omega
      rw [e]
      try dsimp only [L2.start, List.set, List.map, List.append, List.replicate, List.length]
      refine while_by (fun σ H' => ∃ (v8 v9 : Option V) (low : Int) (us : List Addr) (ps : List (Int × Int)), σ = [some (.ref r), some (.ref t), some (.ref a), some (.ref D), some (.int y.1), some (.int y.2), some (.int low), some (.int (min y.2 (n - 1))), v8, v9] ∧ Same H H' ∧ H' D = some (.lst (us.map V.ref)) ∧ PrAt H' us ps ∧
          NrK W n ms (fun z => ∃ p, InR p (qs.take i) ∧ p < n ∧ W p = z) i y.1 low (min y.2 (n - 1)) ps ∧ low ≤ max y.1 (min y.2 (n - 1) + 1))
        muNr ⟨_, _, y.1, us, ps, rfl, s1, hU, hP, NrK.start (ST.mono _ _ by1) mem prs under few by1, by omega⟩ ?_
        (fun σ H Q Q' hQ h => by repeat' (first | exact hQ _ _ h | (obtain ⟨x, h⟩ := h; refine ⟨x, ?_⟩)))
      rintro σ H2 ⟨v8, v9, low, us, ps, rfl, s2, hU2, hP2, N, lim⟩
      refine ⟨_, rfl, _, rfl, _, _, rfl, rfl, _, rfl, ?_⟩
      by_cases c : low ≤ min y.2 (n - 1)
      · refine ifT (decide_eq_true c) ?_
        refine ⟨_, rfl, _, rfl, _, rfl, _, rfl, r, t, n, l, m, g, low, min y.2 (n - 1), ms, ss, rfl, hR.same s2, s2 _ _ hT, G, S, c, by omega, fun q2 u2 H3 last x' y' s3 g1 g2 st dec => ?_⟩
        rw [hW] at st dec
        have hU3 := s3 _ _ hU2
        have N2 := N.step ST st dec c
        have lo := st.lo
        have hi := st.hi
        have pl : ps.length ≤ 901 := by
          have := N.few
          have il := (List.getElem?_eq_some_iff.mp hy).1
          omega
        refine ⟨q2, _, rfl, SqT.of g1, rfl, _, _, rfl, _, _, rfl, rfl, ?_⟩
        try dsimp only [L2.start, List.set, List.map, List.append, List.replicate, List.length]
        refine ⟨_, rfl, .inl ⟨rfl, _, SqL.of hU3⟩, _, rfl, D, _, _, rfl, rfl, hU3, by rw [List.length_map, hP2.len]; exact small1000 (by omega), ?_⟩
        try dsimp only [L2.start, List.set, List.map, List.append, List.replicate, List.length]
        refine ⟨_, rfl, _, _, rfl, rfl, ⟨_, _, last + 1, us ++ [u2], ps ++ [(x', y')], rfl, same_put (s2.trans s3) hD, by rw [upd_same, List.map_append]; rfl, PrAt.app (hP2.imp fun v p e => ?_) (.cons ?_ .nil), N2, by omega⟩, ?_⟩
        · rw [upd_ne (ne_of (s3 _ _ e) hU3 (by intro y; cases y))]
          exact s3 _ _ e
        · rw [upd_ne (ne_of g2 hU3 (by intro y; cases y))]
          exact g2
        · show (min y.2 (n - 1) + 1 - (last + 1)).toNat < (min y.2 (n - 1) + 1 - low).toNat
          omega
      · refine ifF (decide_eq_false c) ?_
        have tk := take_map3 hy
        refine ⟨_, _, _, _, _, _, us, ps, low, rfl, s2, hU2, hP2, fun z => ?_, N.prs, N.under, by have := N.few; omega, fun j y2 hj hy2 => ?_⟩
        · rw [N.mem, tk]
          have up := N.up
          constructor
          · rintro (⟨p, h1, h2, h3⟩ | ⟨p, h1, h2, h3⟩)
            · exact ⟨p, inR_snoc.mpr (.inl h1), h2, h3⟩
            · exact ⟨p, inR_snoc.mpr (.inr ⟨h1, by omega⟩), by omega, h3⟩
          · rintro ⟨p, h1, h2, h3⟩
            rcases inR_snoc.mp h1 with h1 | ⟨h1, h4⟩
            · exact .inl ⟨p, h1, h2, h3⟩
            · refine .inr ⟨p, h1, ?_, h3⟩
              have := h4
              omega
        · obtain ⟨li, ei⟩ := List.getElem?_eq_some_iff.mp hy
          obtain ⟨lj, ej⟩ := List.getElem?_eq_some_iff.mp hy2
          have := List.pairwise_iff_getElem.mp RG.gap i j li lj (by omega)
          rw [ei, ej] at this
          omega
    · rintro σ H1 ⟨v4, v5, v6, v7, v8, v9, us, ps, b, rfl, s1, hU, hP, mem, prs, under, few, _⟩
      rw [List.length_map, lt, List.take_length] at mem
      refine ⟨_, rfl, D, us, ps, rfl, hU, hP, prs, by rw [List.length_map, lt] at few; omega, fun q' H2 us' rs s2 nq h1 h2 fc => ?_⟩
      exact q q' H2 us' rs (s1.trans s2) (s1.free nq) h1 h2 ⟨fc.base.ok, fc.gap⟩ (fun z => (fc.base.same z).trans (mem z)) (by have := fc.base.few; rw [List.length_map, lt] at few; omega)
end
end Cw
namespace Cw
open PySem L2
abbrev sEn : Stmt := top 45
abbrev abv (ms : List Int) (p : Int) : List Int := ms.filter fun x => decide (x > p)
/-- what the entries at p are: p, and the next cuts of the places less than g before p, by the marks above p -/
def Ent (n : Int) (ms ss : List Int) (l m g p z : Int) : Prop := z = p ∨ ∃ y, p - g < y ∧ y < p ∧ nx n (abv ms p) (abv ss p) l m g y = z
theorem abv_good {n p : Int} {ms ss : List Int} (G : Good n ms ss) : Good n (abv ms p) (abv ss p) := by
  have lm : (abv ms p).length ≤ ms.length := List.length_filter_le _ _
  have z := G.len
  exact { pos := G.pos, asc := G.asc.filter _, asc2 := G.asc2.filter _, len := (by show _ ≤ 400; omega), rng := fun x hx => G.rng x (List.mem_filter.mp hx).1, sub := fun x hx => List.mem_filter.mpr ⟨G.sub x (List.mem_filter.mp hx).1, (List.mem_filter.mp hx).2⟩ }
/-- an entry lies from p on, up to the end -/
theorem Ent.rng {n p z l m g : Int} {ms ss : List Int} (G : Good n ms ss) (S : SetOk l m g) (pn : p ≤ n) (e : Ent n ms ss l m g p z) : p ≤ z ∧ z ≤ n := by
  rcases e with rfl | ⟨y, h1, h2, rfl⟩
  · omega
  · have ST := nx_stp (abv_good (p := p) G) S
    have le := ST.le y
    refine ⟨?_, le⟩
    rcases nx_kinds (l := l) (m := m) (g := g) (p := y) (abv_good (p := p) G) with k | k | k
    · omega
    · omega
    · have := of_decide_eq_true (List.mem_filter.mp k).2
      omega
theorem Ent.gt {n p y l m g : Int} {ms ss : List Int} (G : Good n ms ss) (pn : p < n) (h : p - g < y) : p < nx n (abv ms p) (abv ss p) l m g y := by
  rcases nx_kinds (l := l) (m := m) (g := g) (p := y) (abv_good (p := p) G) with k | k | k
  · omega
  · omega
  · have := of_decide_eq_true (List.mem_filter.mp k).2
    omega
def spEnt (C : Addr) : Sp := fun vs H Q _ => ∃ (r t : Addr) (n l m g p : Int) (ms ss : List Int), vs = [.ref r, .ref t, .int p] ∧ RowAt C H r n ms ss ∧ H t = some (.tup [.int l, .int m, .int g]) ∧ Good n ms ss ∧ SetOk l m g ∧ 0 ≤ p ∧ p < n ∧ 2 * ms.length ≤ 800 ∧
  ∀ (q : Addr) (H' : Hp) (us : List Addr) (rs : List (Int × Int)), Same H H' → H q = none → H' q = some (.lst (us.map V.ref)) → PrAt H' us rs → Canon rs → (∀ z, InR z rs ↔ Ent n ms ss l m g p z) → rs.length ≤ 2 * ms.length + 3 → Q (.ref q) H'
theorem rowAt_len {C : Addr} {H : Hp} {r : Addr} {n : Int} {ms ss : List Int} (R : RowAt C H r n ms ss) : ∃ dx l1 l2, H r = some (.ins C dx (flds n l1 l2)) := by
  obtain ⟨dx, l1, l2, h, _⟩ := R
  exact ⟨dx, l1, l2, h⟩
section
variable {P : Program} {w : World} {K : PySem.W.Frag} {mg : Str → Option Value} {base : Heap}
abbrev NEn : List Str := ["row", "settings", "place", "marks", "strict", "before", "mark"]
theorem scEn : FnScope NEn ["row", "settings", "place"] (defScope sEn) := ⟨rfl, rfl, rfl, by decide +kernel, rfl, by decide +kernel, by decide +kernel⟩
theorem ok_ent {f C fN fJ pL fGL pM fGM pS fGS fI : Addr} {fd fdN fdJ dL dM dS fdI : FuncData} (F : Fun K "entries_at" "entries_at" sEn f fd) (R : Cl K mg C) (Gs : Gets P w K mg base C pL fGL pM fGM pS fGS dL dM dS) (M : Mk K C fI) (bI : Binds K fdI NI []) (GI : FnOk P w K mg base CX0 5 fI fdI NI (spInit C))
    (gN : mg "next_ranges" = some (.ref fN)) (kN : PySem.W.keepIn K (.ref fN) = true) (bN : Binds K fdN ["row", "settings", "ranges"] []) (GN : FnOk P w K mg base CX0 6 fN fdN ["row", "settings", "ranges"] (spNr C))
    (gJ : mg "joined_ranges" = some (.ref fJ)) (kJ : PySem.W.keepIn K (.ref fJ) = true) (bJ : Binds K fdJ ["pairs"] []) (GJ : FnOk P w K mg base CX0 1 fJ fdJ ["pairs"] spJoin) :
    FnOk P w K mg base CX0 8 f fd ["row", "settings", "place"] (spEnt C) := by
  refine F.ok scEn (fun vs H Q E h => ?_) (fun cdv A outer s H vs Q E hr h => ?_)
  · obtain ⟨r, t, n, l, m, g, p, ms, ss, rfl, _⟩ := h
    rfl
  · obtain ⟨r, t, n, l, m, g, p, ms, ss, rfl, hR, hT, G, S, p0, pn, few, q⟩ := h
    refine ⟨_, (pss_cons (ps_setLc (i := 3) (own := [("mark", 6)]) (g := (gName 6)) rfl scEn.nd rfl rfl (sw_true rfl rfl rfl (by decide +kernel)) (pi_list (pe_prop (pv 0) R.cl Gs.hM Gs.GM (hr.mono (by decide)) Gs.bM .nil pass0 rfl)) (blkOk_by (own := [("mark", 6)]) (N := NEn) (sc := defScope sEn) (by decide +kernel)) (fun _ _ _ _ _ => (pg_name (i := 6) scEn.nd rfl (Or.inl rfl))) (fun _ _ _ _ _ => (pts_one (pt_cmpR op_gt (pv 6) (pv 2) (nomark _)))) (fun _ _ _ _ _ => (pv 6)))
        (pss_cons (ps_setLc (i := 4) (own := [("mark", 6)]) (g := (gName 6)) rfl scEn.nd rfl rfl (sw_true rfl rfl rfl (by decide +kernel)) (pi_list (pe_prop (pv 0) R.cl Gs.hS Gs.GS (hr.mono (by decide)) Gs.bS .nil pass0 rfl)) (blkOk_by (own := [("mark", 6)]) (N := NEn) (sc := defScope sEn) (by decide +kernel)) (fun _ _ _ _ _ => (pg_name (i := 6) scEn.nd rfl (Or.inl rfl))) (fun _ _ _ _ _ => (pts_one (pt_cmpR op_gt (pv 6) (pv 2) (nomark _)))) (fun _ _ _ _ _ => (pv 6)))
        (pss_cons (ps_set (i := 5) scEn.nd rfl (Or.inl rfl) (pe_lst (pa_cons (pe_tup (pa_cons (pe_op op_add (pe_op op_sub (pv 2) (pe_ix (r := rIxT K) ix_tup (pv 1) pe_int (fun _ _ => rfl))) pe_int) (pa_cons (pe_op op_sub (pv 2) pe_int) pa_nil))) pa_nil)))
        (pss_one (ps_ret (pe_call GJ (hr.mono (by decide)) rfl gJ kJ bJ .nil pass0 (pa_cons (pe_op op_cat (pe_lst (pa_cons (pe_tup (pa_cons (pv 2) (pa_cons (pv 2) pa_nil))) pa_nil)) (pe_call GN (hr.mono (by decide)) rfl gN kN bN .nil pass0 (pa_cons (pe_make M GI (hr.mono (by decide)) rfl R.mgR bI .nil pass0 (pa_cons (pe_prop (pv 0) R.cl Gs.hL Gs.GL (hr.mono (by decide)) Gs.bL .nil pass0 rfl) (pa_cons (pv 3) (pa_cons (pv 4) pa_nil)))) (pa_cons (pv 1) (pa_cons (pv 5) pa_nil))))) pa_nil))))))), ?_⟩
    have lms := G.len
    have l2 := G.len2
    have GA := abv_good (p := p) G
    obtain ⟨dx, x1, x2, ho⟩ := rowAt_len hR
    refine ⟨_, rfl, r, dx, _, rfl, ho, r, n, ms, ss, rfl, hR, fun a1 H1 s1 n1 i1 => ⟨a1, rfl, ⟨_, SqL.of i1⟩, fun D1 hD1 => ?_⟩⟩
    refine lc_fil (K := K) (fun x => decide (x > p)) i1 hD1 (by omega) ?_ ?_
    · intro x H' A B s ka kb
      refine ⟨rfl, ?_⟩
      refine ⟨_, rfl, _, rfl, _, _, rfl, rfl, _, rfl, ?_⟩
      by_cases c : x > p
      · refine ifT (decide_eq_true c) ?_
        exact ⟨_, rfl, ka (decide_eq_true c)⟩
      · exact ifF (decide_eq_false c) (kb (decide_eq_false c))
    intro H2 s2 f1
    have s12 := s1.trans s2
    obtain ⟨dx, x1, x2, ho⟩ := rowAt_len (hR.same s12)
    try dsimp only [L2.start, List.set, List.map, List.append, List.replicate, List.length]
    refine ⟨_, rfl, r, dx, _, rfl, ho, r, n, ms, ss, rfl, hR.same s12, fun a2 H3 s3 n3 i3 => ⟨a2, rfl, ⟨_, SqL.of i3⟩, fun D2 hD2 => ?_⟩⟩
    refine lc_fil (K := K) (fun x => decide (x > p)) i3 hD2 (by omega) ?_ ?_
    · intro x H' A B s ka kb
      refine ⟨rfl, ?_⟩
      refine ⟨_, rfl, _, rfl, _, _, rfl, rfl, _, rfl, ?_⟩
      by_cases c : x > p
      · refine ifT (decide_eq_true c) ?_
        exact ⟨_, rfl, ka (decide_eq_true c)⟩
      · exact ifF (decide_eq_false c) (kb (decide_eq_false c))
    intro H4 s4 f2
    have s34 := s3.trans s4
    have s14 := s12.trans s34
    have f1 := s34 _ _ f1
    try dsimp only [L2.start, List.set, List.map, List.append, List.replicate, List.length]
    -- before
    refine ⟨_, rfl, _, rfl, t, _, _, _, rfl, rfl, SqT.of (s14 _ _ hT), at_of2 (j := 2) rfl rfl, _, _, rfl, rfl, _, _, rfl, rfl, _, rfl, _, _, rfl, rfl, (by show 2 ≤ sizeLine; decide), fun u1 hu1 => ?_⟩
    have t1 := same_new (o := .tup [.int (p - g + 1), .int (p - 1)]) (Same.refl H4) hu1
    have k1 : upd H4 u1 (.tup [.int (p - g + 1), .int (p - 1)]) u1 = some (.tup [.int (p - g + 1), .int (p - 1)]) := upd_same
    generalize upd H4 u1 (.tup [.int (p - g + 1), .int (p - 1)]) = H5 at t1 k1 ⊢
    refine ⟨(by show 1 ≤ sizeLine; decide), fun u2 hu2 => ?_⟩
    have t2 := same_new (o := .lst [.ref u1]) (Same.refl H5) hu2
    have k2 : upd H5 u2 (.lst [.ref u1]) u2 = some (.lst ([u1].map V.ref)) := upd_same
    generalize upd H5 u2 (.lst [.ref u1]) = H6 at t2 k2 ⊢
    try dsimp only [L2.start, List.set, List.map, List.append, List.replicate, List.length]
    -- the place alone
    refine ⟨_, rfl, _, rfl, (by show 2 ≤ sizeLine; decide), fun u3 hu3 => ?_⟩
    have t3 := same_new (o := .tup [.int p, .int p]) (Same.refl H6) hu3
    have k3 : upd H6 u3 (.tup [.int p, .int p]) u3 = some (.tup [.int p, .int p]) := upd_same
    generalize upd H6 u3 (.tup [.int p, .int p]) = H7 at t3 k3 ⊢
    refine ⟨(by show 1 ≤ sizeLine; decide), fun u4 hu4 => ?_⟩
    have t4 := same_new (o := .lst [.ref u3]) (Same.refl H7) hu4
    have k4 : upd H7 u4 (.lst [.ref u3]) u4 = some (.lst ([u3].map V.ref)) := upd_same
    generalize upd H7 u4 (.lst [.ref u3]) = H8 at t4 k4 ⊢
    have t34 := t3.trans t4
    have t24 := t2.trans t34
    have t14 := t1.trans t24
    have s18 := s14.trans t14
    have f1 := t14 _ _ f1
    have f2 := t14 _ _ f2
    have k1 := t24 _ _ k1
    have k2 := t34 _ _ k2
    have k3 := t4 _ _ k3
    -- the row of the marks above
    obtain ⟨dx, x1, x2, ho⟩ := rowAt_len (hR.same s18)
    refine ⟨_, rfl, r, dx, _, rfl, ho, r, n, ms, ss, rfl, hR.same s18, _, rfl, _, rfl, ?_⟩
    refine fun x dx nx' nd ne => ?_
    have sx : Same H8 (upd (upd H8 dx (.own x)) x (.ins C dx [])) := same_new (same_new (Same.refl H8) nd) (by rw [upd_ne (Ne.symm ne)]; exact nx')
    refine ⟨x, dx, D1, D2, n, _, _, rfl, upd_same, sx _ _ f1, sx _ _ f2, GA, fun H9 row kp => ⟨rfl, ?_⟩⟩
    have s9 : Same H8 H9 := same_ins (Same.refl H8) nx' nd kp
    have rm := row.at
    have s19 := s18.trans s9
    have al : (abv ms p).length ≤ ms.length := List.length_filter_le _ _
    refine ⟨_, rfl, _, rfl, x, t, u2, n, l, m, g, _, _, [u1], [(p - g + 1, p - 1)], rfl, rm, s19 _ _ hT, GA, S, s9 _ _ k2, .cons (s9 _ _ k1) .nil, ⟨fun q hq => by rw [List.mem_singleton.mp hq]; show p - 1 ≤ n; omega, List.pairwise_singleton _ _⟩, by show 2 * (abv ms p).length + 2 * 1 ≤ 900; omega, fun b H10 us rs s10 nb hb hr can mem fewr => ?_⟩
    have k4 := s10 _ _ (s9 _ _ k4)
    have k3 := s10 _ _ (s9 _ _ k3)
    have fewr : rs.length ≤ 2 * (abv ms p).length + 2 * 1 := fewr
    have rl : rs.length ≤ 802 := by omega
    refine ⟨u4, b, _, _, rfl, rfl, k4, hb, by rw [List.length_map, List.length_map, hr.len]; show 1 + rs.length ≤ sizeLine; rw [sizeLine_eq]; omega, fun c hc => ?_⟩
    have t5 := same_new (o := .lst ([u3].map V.ref ++ us.map V.ref)) (Same.refl H10) hc
    have k5 : upd H10 c (.lst ([u3].map V.ref ++ us.map V.ref)) c = some (.lst ((u3 :: us).map V.ref)) := upd_same
    have nc : H c = none := (s19.trans s10).free hc
    have z5 := (s19.trans s10).trans t5
    have hr5 : PrAt (upd H10 c (.lst ([u3].map V.ref ++ us.map V.ref))) (u3 :: us) ((p, p) :: rs) := .cons (t5 _ _ k3) (hr.imp fun _ _ h => t5 _ _ h)
    have mem2 : ∀ z, InR z ((p, p) :: rs) ↔ Ent n ms ss l m g p z := fun z => by
      rw [inR_cons, mem]
      unfold Ent In1
      dsimp only
      constructor
      · rintro (h | ⟨y, ⟨q, hq, h1, h2⟩, h3, h4⟩)
        · exact .inl (by omega)
        · rw [List.mem_singleton.mp hq] at h1 h2
          have h1 : p - g + 1 ≤ y := h1
          have h2 : y ≤ p - 1 := h2
          exact .inr ⟨y, by omega, by omega, h4⟩
      · rintro (h | ⟨y, h1, h2, h3⟩)
        · exact .inl (by omega)
        · exact .inr ⟨y, ⟨_, List.mem_singleton.mpr rfl, by show p - g + 1 ≤ y; omega, by show y ≤ p - 1; omega⟩, by omega, h3⟩
    generalize upd H10 c (.lst ([u3].map V.ref ++ us.map V.ref)) = H11 at k5 z5 hr5 t5 ⊢
    have prs : Prs ((p, p) :: rs) := by
      refine ⟨List.pairwise_cons.mpr ⟨fun q hq => ?_, (List.Pairwise.imp_of_mem (fun {a b} ha hb h => by have := can.ok a ha; omega) can.gap)⟩, fun q hq => ?_⟩
      · obtain ⟨y, ⟨q2, hq2, h1, _⟩, _, h3⟩ := (mem q.1).mp ⟨q, hq, Int.le_refl _, can.ok q hq⟩
        rw [List.mem_singleton.mp hq2] at h1
        have h1 : p - g + 1 ≤ y := h1
        have e : nx n (abv ms p) (abv ss p) l m g y = q.1 := h3
        have := Ent.gt (l := l) (m := m) (g := g) (y := y) G pn (by omega)
        show p ≤ q.1
        omega
      · rcases List.mem_cons.mp hq with rfl | hq
        · exact Int.le_refl _
        · exact can.ok q hq
    refine ⟨c, u3 :: us, (p, p) :: rs, rfl, k5, hr5, prs, by rw [List.length_cons]; omega, fun b2 H12 us2 rs2 s12' nb2 h1 h2 FC => ?_⟩
    exact q b2 H12 us2 rs2 (z5.trans s12') (z5.free nb2) h1 h2 ⟨FC.base.ok, FC.gap⟩ (fun z => (FC.base.same z).trans (mem2 z)) (by
      have a := FC.base.few
      rw [List.length_cons] at a
      omega)
end
end Cw
namespace Cw
open PySem L2
abbrev sStarts : Stmt := top 38
/-- p comes to c in j steps -/
def Rj (F : Int → Int) (n c : Int) : Nat → Int → Prop
  | 0, p => p = c
  | j + 1, p => p < n ∧ Rj F n c j (F p)
theorem kc_one {F : Int → Int} {n p : Int} (h : p < n) (k : Nat) : kc F n p (k + 1) = kc F n (F p) k := by
  have e := kc_add (F := F) (n := n) (s := p) (i := 1) k
  have e1 : kc F n p 1 = F p := kc_at (k := 0) h
  rw [e1, Nat.add_comm] at e
  exact e
theorem rj_kc {F : Int → Int} {n l c : Int} (S : Stp F n l) : ∀ (p : Int), p ≤ n → ((∃ i, Rj F n c i p) ↔ ∃ k, kc F n p k = c) := by
  intro p hp
  constructor
  · rintro ⟨i, h⟩
    refine ⟨i, ?_⟩
    induction i generalizing p with
    | zero => exact h
    | succ i ih =>
      rw [kc_one h.1]
      exact ih (F p) (S.le p) h.2
  · rintro ⟨k, h⟩
    induction k generalizing p with
    | zero => exact ⟨0, h⟩
    | succ k ih =>
      by_cases d : p < n
      · rw [kc_one d] at h
        obtain ⟨i, hi⟩ := ih (F p) (S.le p) h
        exact ⟨i + 1, d, hi⟩
      · have e := kc_end (F := F) (n := n) (s := p) (m := 0) d (k + 1)
        rw [Nat.zero_add, h] at e
        exact ⟨0, e.symm⟩
/-- what the loop of starts_with keeps -/
structure Bas (F : Int → Int) (n l c : Int) (j : Nat) (lo hi : Int) (prs : List (Int × Int)) : Prop where
  cov : ∀ p, 0 ≤ p → (InR p prs ↔ ∃ i, i < j ∧ Rj F n c i p)
  cur : ∀ p, 0 ≤ p → ((lo ≤ p ∧ p ≤ hi) ↔ Rj F n c j p)
  lo0 : 0 ≤ lo
  lon : lo ≤ n
  hin : hi ≤ n
  hb : hi + j * l ≤ n + l
  lt : 1 ≤ j → hi < n
  ups : prs.Pairwise (fun a b => b.1 ≤ a.1)
  above : ∀ q ∈ prs, lo ≤ q.1
  ok : ∀ q ∈ prs, q.1 ≤ q.2 ∧ q.2 ≤ n
  len : prs.length = j
theorem Bas.start {F : Int → Int} {n l c : Int} (h0 : 0 ≤ c) (hn : c ≤ n) (l1 : 1 ≤ l) : Bas F n l c 0 c c [] := by
  refine ⟨fun p _ => ⟨fun ⟨q, hq, _⟩ => (nomatch hq), fun ⟨i, hi, _⟩ => absurd hi (Nat.not_lt_zero _)⟩, fun p _ => ?_, h0, hn, hn, ?_, fun h => absurd h (by decide), .nil, fun _ h => (nomatch h), fun _ h => (nomatch h), rfl⟩
  · show (c ≤ p ∧ p ≤ c) ↔ p = c
    omega
  · simp
    omega
theorem Bas.next {n l m g c : Int} {ms ss : List Int} {j : Nat} {lo hi : Int} {prs : List (Int × Int)} (G : Good n ms ss) (S : SetOk l m g) (B : Bas (nx n ms ss l m g) n l c j lo hi prs) (h : lo ≤ hi) :
    Bas (nx n ms ss l m g) n l c (j + 1) (if 0 > er ms ss l m g lo then 0 else er ms ss l m g lo) (ltst n ms ss l m g hi) (prs ++ [(lo, hi)]) := by
  have ST := nx_stp G S
  have l1 := S.l1
  have lo0 := B.lo0
  have lon := B.lon
  have hin := B.hin
  have eL : ∀ p, lo ≤ nx n ms ss l m g p ↔ er ms ss l m g lo ≤ p := fun p => er_iff G S B.lon
  have eH : ∀ p, (p < n ∧ nx n ms ss l m g p ≤ hi) ↔ p ≤ ltst n ms ss l m g hi := fun p => ltst_iff G S B.hin
  have top := (eH (ltst n ms ss l m g hi)).mpr (Int.le_refl _)
  have gt := ST.gt top.1
  have ge := ST.ge (ltst n ms ss l m g hi)
  have low : er ms ss l m g lo ≤ lo := by
    refine (eL lo).mp ?_
    have := ST.ge lo
    omega
  have mul : ((j + 1 : Nat) : Int) * l = j * l + l := by
    rw [Int.natCast_add, Int.add_mul]
    simp
  refine ⟨fun p hp => ?_, fun p hp => ?_, by split <;> omega, by split <;> omega, by omega, ?_, fun _ => top.1, ?_, fun q hq => ?_, fun q hq => ?_, by rw [List.length_append, B.len]; rfl⟩
  · rw [inR_snoc, B.cov p hp]
    have cu := B.cur p hp
    constructor
    · rintro (⟨i, hi', h⟩ | h)
      · exact ⟨i, by omega, h⟩
      · exact ⟨j, by omega, cu.mp h⟩
    · rintro ⟨i, hi', h⟩
      by_cases e : i = j
      · subst e
        exact .inr (cu.mpr h)
      · exact .inl ⟨i, by omega, h⟩
  · show _ ↔ (p < n ∧ Rj (nx n ms ss l m g) n c j (nx n ms ss l m g p))
    constructor
    · rintro ⟨h1, h2⟩
      obtain ⟨pn, up⟩ := (eH p).mpr h2
      have e1 : er ms ss l m g lo ≤ p := by
        split at h1 <;> omega
      have := ST.gt pn
      exact ⟨pn, (B.cur _ (by omega)).mp ⟨(eL p).mpr e1, up⟩⟩
    · rintro ⟨pn, r⟩
      have := ST.gt pn
      obtain ⟨h1, h2⟩ := (B.cur _ (by omega)).mpr r
      have e1 := (eL p).mp h1
      exact ⟨by split <;> omega, (eH p).mp ⟨pn, h2⟩⟩
  · rw [mul]
    have hb := B.hb
    by_cases e : 1 ≤ j
    · have := B.lt e
      omega
    · have j0 : j = 0 := by omega
      subst j0
      simp
      omega
  · rw [List.pairwise_append]
    refine ⟨B.ups, List.pairwise_singleton _ _, fun x hx y hy => ?_⟩
    rw [List.mem_singleton.mp hy]
    exact B.above x hx
  · have cap : (if 0 > er ms ss l m g lo then 0 else er ms ss l m g lo) ≤ lo := by split <;> omega
    rcases List.mem_append.mp hq with hq | hq
    · have := B.above q hq
      omega
    · rw [List.mem_singleton.mp hq]
      exact cap
  · rcases List.mem_append.mp hq with hq | hq
    · exact B.ok q hq
    · rw [List.mem_singleton.mp hq]
      exact ⟨h, hin⟩
/-- what a basin is -/
structure BasOk (F : Int → Int) (n c : Int) (rs : List (Int × Int)) : Prop where
  at_ : ∀ p, 0 ≤ p → p ≤ n → (InR p rs ↔ ∃ k, kc F n p k = c)
  bnd : ∀ q ∈ rs, 0 ≤ q.1 ∧ q.1 ≤ q.2 ∧ q.2 ≤ n
  few : rs.length ≤ 202
  can : Canon rs
theorem inR_rev {p : Int} {qs : List (Int × Int)} : InR p qs.reverse ↔ InR p qs := by
  unfold InR
  simp
theorem Bas.done {n l m g c : Int} {ms ss : List Int} {j : Nat} {lo hi : Int} {prs rs : List (Int × Int)} (G : Good n ms ss) (S : SetOk l m g) (B : Bas (nx n ms ss l m g) n l c j lo hi prs) (h : hi < lo) (FC : FndC prs.reverse rs) (few : j ≤ 202) : BasOk (nx n ms ss l m g) n c rs := by
  have ST := nx_stp G S
  have F := FC.base
  have none_ : ∀ i p, 0 ≤ p → ¬ Rj (nx n ms ss l m g) n c (j + i) p := by
    intro i
    induction i with
    | zero =>
      intro p hp r
      have := (B.cur p hp).mpr r
      omega
    | succ i ih =>
      rintro p hp ⟨pn, r⟩
      have := ST.gt pn
      exact ih _ (by omega) r
  refine ⟨fun p p0 pn => ?_, fun q hq => ?_, ?_, F.ok, FC.gap⟩
  · rw [F.same, inR_rev, B.cov p p0, ← rj_kc ST p pn]
    constructor
    · rintro ⟨i, _, r⟩
      exact ⟨i, r⟩
    · rintro ⟨i, r⟩
      refine ⟨i, ?_, r⟩
      by_cases d : i < j
      · exact d
      · refine absurd ?_ (none_ (i - j) p p0)
        rw [Nat.add_sub_cancel' (by omega)]
        exact r
  · obtain ⟨d, hd, e⟩ := F.lows q hq
    obtain ⟨d2, hd2, e2⟩ := F.tops q hq
    have a := B.above d (List.mem_reverse.mp hd)
    have b := (B.ok d2 (List.mem_reverse.mp hd2)).2
    have o := F.ok q hq
    have := B.lo0
    omega
  · have := F.few
    rw [List.length_reverse, B.len] at this
    omega
theorem PrAt.rev {H : Hp} : ∀ {ts : List Addr} {ps : List (Int × Int)}, PrAt H ts ps → PrAt H ts.reverse ps.reverse
  | _, _, .nil => .nil
  | _, _, .cons a r => by
    rw [List.reverse_cons, List.reverse_cons]
    exact PrAt.app (PrAt.rev r) (.cons a .nil)
def spStarts (C : Addr) : Sp := fun vs H Q _ => ∃ (r t : Addr) (n l m g c : Int) (ms ss : List Int), vs = [.ref r, .ref t, .int c] ∧ RwS C H r t n l m g ms ss ∧ 0 ≤ c ∧ c ≤ n ∧
  ∀ q H' us rs, Same H H' → H q = none → H' q = some (.lst (us.map V.ref)) → PrAt H' us rs → BasOk (nx n ms ss l m g) n c rs → Q (.ref q) H'
def muSw : St → Hp → Nat := fun σ _ => match σ with | [_, _, _, _, _, some (.int hi)] => (hi + 1).toNat | _ => 0
section
variable {P : Program} {w : World} {K : PySem.W.Frag} {mg : Str → Option Value} {base : Heap}
abbrev NSw : List Str := ["row", "settings", "cut", "found", "low", "high"]
theorem scSw : FnScope NSw ["row", "settings", "cut"] (defScope sStarts) := ⟨rfl, rfl, rfl, by decide +kernel, rfl, by decide +kernel, by decide +kernel⟩
theorem ok_starts {f C fE fL fJ : Addr} {fd fdE fdL fdJ : FuncData} (F : Fun K "starts_with" "starts_with" sStarts f fd) (T : Bl mg)
    (gE : mg "earliest" = some (.ref fE)) (kE : PySem.W.keepIn K (.ref fE) = true) (bE : Binds K fdE ["row", "settings", "cut"] []) (GE : FnOk P w K mg base CX0 3 fE fdE ["row", "settings", "cut"] (spEarly C))
    (gL : mg "latest" = some (.ref fL)) (kL : PySem.W.keepIn K (.ref fL) = true) (bL : Binds K fdL ["row", "settings", "cut"] []) (GL : FnOk P w K mg base CX0 4 fL fdL ["row", "settings", "cut"] (spLate C))
    (gJ : mg "joined_ranges" = some (.ref fJ)) (kJ : PySem.W.keepIn K (.ref fJ) = true) (bJ : Binds K fdJ ["pairs"] []) (GJ : FnOk P w K mg base CX0 1 fJ fdJ ["pairs"] spJoin) :
    FnOk P w K mg base CX0 5 f fd ["row", "settings", "cut"] (spStarts C) := by
  refine F.ok scSw (fun vs H Q E h => ?_) (fun cdv A outer s H vs Q E hr h => ?_)
  · obtain ⟨r, t, n, l, m, g, c, ms, ss, rfl, _⟩ := h
    rfl
  · obtain ⟨r, t, n, l, m, g, c, ms, ss, rfl, hR, c0, cn, q⟩ := h
    have hr3 : Room 3 (A.deeper (PyProof.Rows.envOfC "starts_with" (defScope sStarts) s.heap.objs.size f cdv)) := hr.mono (by decide)
    have hr1 : Room 1 (A.deeper (PyProof.Rows.envOfC "starts_with" (defScope sStarts) s.heap.objs.size f cdv)) := hr.mono (by decide)
    refine ⟨_, pss_cons (ps_set (i := 3) scSw.nd rfl (Or.inl rfl) (pe_lst pa_nil))
      (pss_cons (ps_asg2 (pv 2) (pg_name (i := 4) scSw.nd rfl (Or.inl rfl)) (pg_name (i := 5) scSw.nd rfl (Or.inl rfl)))
      (pss_cons (ps_while PassesOwn.never (pt_cmpR op_le (pv 4) (pv 5) (nomark _))
        (pss_cons (ps_expr (pe_bm PySem.F.plainAttrs_list PySem.F.slot_list_append PySem.F.type_list_append mt_append (pv 3) (pa_cons (pe_tup (pa_cons (pv 4) (pa_cons (pv 5) pa_nil))) pa_nil)))
        (pss_cons (ps_set (i := 4) scSw.nd rfl (Or.inl rfl) (pe_callB (call_max2 rfl) (by rfl) T.max (by decide +kernel) (pa_cons (pe_call GE hr3 rfl gE kE bE .nil pass0 (pa_cons (pv 0) (pa_cons (pv 1) (pa_cons (pv 4) pa_nil)))) (pa_cons pe_int pa_nil))))
        (pss_one (ps_set (i := 5) scSw.nd rfl (Or.inl rfl) (pe_call GL hr rfl gL kL bL .nil pass0 (pa_cons (pv 0) (pa_cons (pv 1) (pa_cons (pv 5) pa_nil)))))))))
      (pss_one (ps_ret (pe_call GJ hr1 rfl gJ kJ bJ .nil pass0 (pa_cons (pe_revL (pv 3)) pa_nil)))))), ?_⟩
    have l1 := hR.set.l1
    have big := hR.big
    refine ⟨Nat.zero_le _, fun D hD => ?_⟩
    refine ⟨_, rfl, ?_⟩
    refine while_by (fun σ H' => ∃ (j : Nat) (lo hi : Int) (ts : List Addr) (prs : List (Int × Int)), σ = [some (.ref r), some (.ref t), some (.int c), some (.ref D), some (.int lo), some (.int hi)] ∧ Same H H' ∧ H' D = some (.lst (ts.map V.ref)) ∧ PrAt H' ts prs ∧ Bas (nx n ms ss l m g) n l c j lo hi prs ∧ j ≤ 202)
      muSw ⟨0, c, c, [], [], rfl, same_new (Same.refl H) hD, upd_same, .nil, Bas.start c0 cn l1, by decide⟩ ?_ (fun σ H Q Q' hQ h => by repeat' (first | exact hQ _ _ h | (obtain ⟨x, h⟩ := h; refine ⟨x, ?_⟩)))
    rintro σ H' ⟨j, lo, hi, ts, prs, rfl, s1, hT, hP, B, j2⟩
    refine ⟨_, rfl, _, rfl, _, _, rfl, rfl, _, rfl, ?_⟩
    by_cases d : lo ≤ hi
    · refine ifT (decide_eq_true d) ?_
      have jl : j ≤ 201 := by
        have hb := B.hb
        have lo0 := B.lo0
        by_cases e : j ≤ 201
        · exact e
        · have w : (202 : Int) * l ≤ j * l := Int.mul_le_mul_of_nonneg_right (by omega) (by omega)
          omega
      have tl : ts.length ≤ 201 := by
        rw [hP.len, B.len]
        exact jl
      have N := B.next hR.good hR.set d
      refine ⟨_, rfl, .inl ⟨rfl, _, SqL.of hT⟩, _, rfl, _, rfl, (by show 2 ≤ sizeLine; decide), fun u hu => ?_⟩
      have nu : D ≠ u := ne_of_none hT hu
      refine ⟨D, _, _, rfl, rfl, by rw [upd_ne nu]; exact hT, by rw [List.length_map]; exact small1000 (by omega), ?_⟩
      have hT2 : upd (upd H' u (.tup [.int lo, .int hi])) D (.lst (ts.map V.ref ++ [.ref u])) D = some (.lst ((ts ++ [u]).map V.ref)) := by
        rw [upd_same, List.map_append]
        rfl
      have hP2 : PrAt (upd (upd H' u (.tup [.int lo, .int hi])) D (.lst (ts.map V.ref ++ [.ref u]))) (ts ++ [u]) (prs ++ [(lo, hi)]) := by
        refine PrAt.app (hP.imp fun v p e => ?_) (.cons ?_ .nil)
        · rw [upd_ne (ne_of e hT (by intro y; cases y)), upd_ne (ne_of_none e hu)]
          exact e
        · rw [upd_ne (Ne.symm nu)]
          exact upd_same
      have s2 : Same H (upd (upd H' u (.tup [.int lo, .int hi])) D (.lst (ts.map V.ref ++ [.ref u]))) := same_put (same_new s1 hu) hD
      generalize upd (upd H' u (.tup [.int lo, .int hi])) D (.lst (ts.map V.ref ++ [.ref u])) = H2 at hT2 hP2 s2 ⊢
      have R2 := hR.same s2
      refine ⟨_, rfl, _, rfl, _, rfl, r, t, n, l, m, g, lo, ms, ss, rfl, R2.row, R2.tup, R2.good, fun H3 s3 => ⟨_, _, rfl, ?_⟩⟩
      have R3 := R2.same s3
      refine ⟨_, rfl, _, rfl, _, rfl, r, t, n, l, m, g, hi, ms, ss, rfl, R3.row, R3.tup, R3.good, fun H4 s4 => ?_⟩
      have s34 := s3.trans s4
      refine ⟨⟨j + 1, _, _, ts ++ [u], _, rfl, s2.trans s34, s34 _ _ hT2, hP2.imp fun _ _ e => s34 _ _ e, N, by omega⟩, ?_⟩
      show (ltst n ms ss l m g hi + 1).toNat < (hi + 1).toNat
      have k := (ltst_iff hR.good hR.set B.hin (p := ltst n ms ss l m g hi)).mpr (Int.le_refl _)
      have := (nx_stp hR.good hR.set).gt k.1
      have := B.lo0
      omega
    · refine ifF (decide_eq_false d) ?_
      refine ⟨_, rfl, D, _, rfl, SqL.of hT, fun p2 hp2 => ?_⟩
      have s2 := same_new (o := .lst ((ts.map V.ref).reverse)) (Same.refl H') hp2
      refine ⟨p2, ts.reverse, prs.reverse, rfl, by rw [upd_same, List.map_reverse], (hP.rev).imp fun _ _ e => s2 _ _ e, ⟨List.pairwise_reverse.mpr B.ups, fun x hx => (B.ok x (List.mem_reverse.mp hx)).1⟩, by rw [List.length_reverse, B.len]; omega, fun y H3 us rs s3 ny hy hr' FN => ?_⟩
      have s23 := s2.trans s3
      exact q y H3 us rs (s1.trans s23) ((s1.trans s2).free ny) hy hr' (B.done hR.good hR.set (by omega) FN j2)
end
end Cw
namespace Cw
open PySem PySem.Spec PyProof.Rows L2
open LamX (Tabs ExtN CodeO TabB)
/-! ## a lambda of one parameter handed to a def of one's own, which calls it -/
/-- x0 is its only own name -/
structure LamP (x0 : Str) (around scope : Scope) : Prop where
  knd : scope.kind = .function
  coo : scope.isCoroutine = false
  gnr : scope.isGenerator = false
  here : scope.names.lookup x0 = some .local
  noc : ∀ y ∈ scope.names, y.2 ≠ .cell
  one : ∀ y ∈ scope.names, y.2 = .local → y.1 = x0
  fre : ∀ y ∈ scope.names, y.2 = .free → around.names.lookup y.1 = some .cell ∨ around.names.lookup y.1 = some .free
def lamPB (x0 : Str) (around scope : Scope) : Bool :=
  decide (scope.kind = .function) && !scope.isCoroutine && !scope.isGenerator && decide (scope.names.lookup x0 = some .local) &&
    scope.names.all fun y => !decide (y.2 = .cell) && (!decide (y.2 = .local) || decide (y.1 = x0)) && (!decide (y.2 = .free) || decide (around.names.lookup y.1 = some .cell) || decide (around.names.lookup y.1 = some .free))
theorem lamP_by {x0 : Str} {around scope : Scope} (h : lamPB x0 around scope = true) : LamP x0 around scope := by
  unfold lamPB at h
  simp only [Bool.and_eq_true, Bool.or_eq_true, Bool.not_eq_true', decide_eq_true_eq, decide_eq_false_iff_not, List.all_eq_true] at h
  obtain ⟨⟨⟨⟨a1, a2⟩, a3⟩, a4⟩, a5⟩ := h
  refine ⟨a1, a2, a3, a4, fun y hy => (a5 y hy).1.1, fun y hy e => ?_, fun y hy e => ?_⟩
  · rcases (a5 y hy).1.2 with z | z
    · exact absurd e z
    · exact z
  · rcases (a5 y hy).2 with (z | z) | z
    · exact absurd e z
    · exact .inl z
    · exact .inr z
theorem LamP.caught {x0 : Str} {X : Cx} {scope : Scope} (lp : LamP x0 X.env.scope scope) (fine : X.Ok) : ∀ y ∈ scope.names, y.2 = .free → ∃ c, X.env.cells.lookup y.1 = some c := fun y hy e =>
  fine.has _ ((lp.fre y hy e).imp id id)
abbrev clo (X : Cx) (scope : Scope) : List (Str × Addr) := cloFrom X.env.cells scope.names []
abbrev lmEnv (X : Cx) (scope : Scope) (lo f c' : Addr) : Env := PySem.W.envX (X.env.qual ++ "<lambda>") scope lo f (.ref c') (clo X scope)
/-- where the lambda's body stands -/
def lmCx (X : Cx) (x0 : Str) (A : Around) (outer : List Env) (s : Shared) (H : Hp) (scope : Scope) (f c' : Addr) : Cx :=
  { prog := X.prog, w := X.w, K := X.K, mg := X.mg, base := X.base, A := A.deeper (lmEnv X scope s.heap.objs.size f c'), N := X.N ++ [x0], s_0 := s, H_0 := H, env := lmEnv X scope s.heap.objs.size f c', outer := outer,
    stack := lmEnv X scope s.heap.objs.size f c' :: outer, ex := [], fn := fun _ => false, calm := true, pn := [], xe := fun _ _ => False }
/-- what a def may do with the f that it got: calls of it, at most j deep -/
structure Act (P : Program) (w : World) (K : PySem.W.Frag) (mg : Str → Option Value) (base : Heap) (j : Nat) (outer : List Env) (s : Shared) (H : Hp) (f : Addr) (tl : V → Hp → VK → Prop) : Prop where
  off : H f = none
  nfr : f ∉ frs outer
  fn : ∃ oc od fd sl, s.heap.get? f = some ⟨oc, od, .func fd, sl⟩
  go : ∀ (A' : Around) (e : Env) (s1 : Shared) (HZ : Hp) (v : V) (u : Value) (Q : VK), Room (j + 1) A' → Env0 P w K mg base A' (e :: outer) s1 HZ → Un (frs outer) [] H HZ s.heap s1.heap → ExtN H HZ → RelV v u → tl v HZ Q →
    codeAny (model P w) A' (.call (.ref f) ⟨[u], []⟩) (CR CX0 (e :: outer) P w HZ s1 Q E0) s1
/-- the def g keeps its promise sp of a first argument and of something to call -/
structure FnHof (P : Program) (w : World) (K : PySem.W.Frag) (mg : Str → Option Value) (base : Heap) (j k : Nat) (g : Addr) (fd : FuncData) (ps : List Str) (sp : V → (V → Hp → VK → Prop) → Hp → VK → Prop) : Prop where
  run : ∀ (A : Around) (outer : List Env) (s : Shared) (H : Hp) (args : Args) (u : Value) (v : V) (f : Addr) (Q : VK) (tl : V → Hp → VK → Prop), Room k A → Env0 P w K mg base A outer s H → BindsTo s fd args (ps.zip [u, .ref f]) → RelV v u →
    Act P w K mg base j outer s H f tl → sp v tl H Q → codeAny (model P w) A (.call (.ref g) args) (CR CX0 outer P w H s Q E0) s
section
variable {P : Program} {w : World} {K : PySem.W.Frag} {mg : Str → Option Value} {base : Heap}
theorem okH {x qual : Str} {st : Stmt} {g : Addr} {fd : FuncData} {N : List Str} {a b : Str} {j k : Nat} {sp : V → (V → Hp → VK → Prop) → Hp → VK → Prop} (F : Fun K x qual st g fd) (S : FnScope N [a, b] (defScope st))
    (body : ∀ (cdv : Value) (A : Around) (outer : List Env) (s : Shared) (H : Hp) (v : V) (f : Addr) (Q : VK) (tl : V → Hp → VK → Prop), Room k (A.deeper (envOfC qual (defScope st) s.heap.objs.size g cdv)) → Act P w K mg base j outer s H f tl → sp v tl H Q →
      ∃ t, PSs (cxOf CX0 P w K mg base N qual (defScope st) g cdv A outer s H E0).nox (defBody st) t ∧ t { nx := fun _ H' => Q .non H', rt := Q } (start N [v, .ref f]) H) : FnHof P w K mg base j (k + 1) g fd [a, b] sp := by
  obtain ⟨oc, od, kV, doc, pm, an, cdv, ct, osl, rfl, look, hcd⟩ := F.ex
  refine ⟨fun A outer s H args u v f Q tl room env bind rel act prom => ?_⟩
  have vals : Vals [v, .ref f] [u, .ref f] := .cons rel (.cons rfl .nil)
  have here : K.In s.heap := env.mod.kin.keeps fun b o e => (env.bs b o e).1
  have free : s.heap.NoLimit := env.mod.nolimit.keeps fun b o e => (env.bs b o e).1
  have kinds : ∀ y ∈ [a, b].zip [u, Value.ref f], (defScope st).names.lookup y.1 = some .local ∨ ((defScope st).names.lookup y.1 = some .cell ∧ ((cellsFrom (s.heap.objs.size + 1) (defScope st).names []).lookup y.1).isSome = true) := fun y hy =>
    (S.par y.1 (List.of_mem_zip (show (y.1, y.2) ∈ [a, b].zip [u, Value.ref f] from hy)).1).imp id fun z => ⟨z, PySem.W.cellsFrom_some _ _ _ (.inl z)⟩
  refine codeAny_call_function room.depth (here _ _ look) rfl S.co S.gen rfl (PySem.W.codeRec_of here hcd) (bind _ _ _ _ (wpAny_newFunctionEnv_cells S.kind kinds fun e he s1 ic => ?_))
  subst he
  obtain ⟨t, ht, hq⟩ := body cdv A outer s H v f Q tl (room.deeper _) act prom
  refine ⟨free.keeps ic.toInCall.keep, codeAny_func (wpAny_mono (ht.nox.run [] s1 (start N [v, .ref f]) H _ (inv_start S room.hd env rfl vals ic) hq) (fun fl s2 z => ?_) fun _ _ z => z)⟩
  cases fl with
  | ret u2 =>
    obtain ⟨v2, _, H2, J, rv, qq⟩ := z
    exact ⟨v2, H2, J.os, J.bare, J.base, J.hok, rv, qq⟩
  | next =>
    obtain ⟨_, H2, J, qq⟩ := z
    exact ⟨V.non, H2, J.os, J.bare, J.base, J.hok, rfl, qq⟩
  | brk =>
    obtain ⟨_, _, _, qq⟩ := z
    exact qq.elim
  | cont =>
    obtain ⟨_, _, _, qq⟩ := z
    exact qq.elim
/-- f(e), within the def that got f in its slot i -/
theorem pe_act {N : List Str} {qual : Str} {sc : Scope} {g f : Addr} {cdv : Value} {A : Around} {outer : List Env} {s : Shared} {H : Hp} {j i : Nat} {a : Str} {e : Expr} {ta : TA} {tl : V → Hp → VK → Prop} {p1 p2 : Pos}
    (act : Act P w K mg base j outer s H f tl) (room : Room (j + 1) (A.deeper (envOfC qual sc s.heap.objs.size g cdv)))
    (ha : PA (cxOf CX0 P w K mg base N qual sc g cdv A outer s H E0).nox [e] ta) (hN : N[i]? = some a) (vis : Vis sc a) (n1 : (a == ("__debug__" : Str)) = false := by decide) (n2 : (a == ("__classdict__" : Str)) = false := by decide)
    (ne : starEach [e] (envOfC qual sc s.heap.objs.size g cdv) = (false, eval e (envOfC qual sc s.heap.objs.size g cdv)) :: starEach [] (envOfC qual sc s.heap.objs.size g cdv) := by rfl) :
    PE (cxOf CX0 P w K mg base N qual sc g cdv A outer s H E0).nox (.Call (.Name a p1) [e] [] p2)
      (fun σZ HZ Q => σZ[i]? = some (some (.ref f)) ∧ ta σZ HZ fun vs H1 => ∃ v, vs = [v] ∧ ExtN H H1 ∧ tl v H1 Q) := by
  refine ⟨fun pins sZ σZ HZ Q IZ ⟨hs, ht⟩ => ?_⟩
  refine wpAny_Call_Name_kw (thn ((pe_var (pos := p1) (i := i) hN vis n1 n2).run pins sZ σZ HZ (fun v H1 => v = .ref f ∧ H1 = HZ) IZ ⟨.ref f, hs, rfl, rfl⟩) fun u s1 ⟨v, H1, I1, r1, e1, e2⟩ => ?_)
  subst e1 e2
  obtain rfl : u = Value.ref f := r1
  obtain ⟨oc, od, fd, sl, of⟩ := act.fn
  have keep : ∀ {pins : List (Addr × Obj)} {σ : L2.St} {H2 : Hp} {s2 : Shared}, Inv (cxOf CX0 P w K mg base N qual sc g cdv A outer s H E0).nox pins σ H2 s2 → s2.heap.get? f = some ⟨oc, od, .func fd, sl⟩ := fun I => I.base.keep f _ of act.off act.nfr (fun z => nomatch (show f ∈ ([] : List Addr) from z))
  refine PySem.W.callWith_F ⟨_, _, _, _, keep I1⟩ (thn (ha.run p2 pins s1 σZ _ _ I1 ht) fun us s2 ⟨vs, H2, I2, rv, q2⟩ => ⟨⟨_, _, _, _, keep I2⟩, ?_⟩) ne rfl
  obtain ⟨v, rfl, ex, q⟩ := q2
  cases rv with
  | cons r rest =>
    cases rest with
    | nil =>
      refine wpAny_call (codeAny_mono (act.go _ _ s2 H2 v _ Q room I2.env0 I2.base ex r q) fun res s3 z => ?_)
      cases res with
      | error er => exact z.elim
      | ok fl =>
        cases fl with
        | ret u => exact I2.after z
        | next => exact z.elim
        | brk => exact z.elim
        | cont => exact z.elim
end
section
variable {X : Cx} {pins : List (Addr × Obj)} {σ : L2.St} {H HZ : Hp} {s s1 : Shared}
theorem clo_in {scope : Scope} {x0 : Str} (lp : LamP x0 X.env.scope scope) (fine : X.Ok) {y : Str} {c : Addr} (e : (clo X scope).lookup y = some c) : X.env.cells.lookup y = some c := by
  rcases cloFrom_mem (PySem.mem_of_lookup e) with z | ⟨z1, z2⟩
  · cases z
  · obtain ⟨c1, z3⟩ := lp.caught fine _ z1 rfl
    have z3 : X.env.cells.lookup y = some c1 := z3
    rw [z2, z3]
    rfl
theorem clo_has {scope : Scope} {y : Str} (h : scope.names.lookup y = some .free) : ∃ c, (clo X scope).lookup y = some c :=
  mem_lookup (cloFrom_has (cells := X.env.cells) (acc := []) (PySem.mem_of_lookup h))
theorem lm_start {x0 : Str} {A : Around} {outer : List Env} {scope : Scope} {f c' : Addr} {h1 : Heap} {tk : Nat} {v : V} {u : Value} (I : Inv X pins σ H s) (lp : LamP x0 X.env.scope scope) (new : x0 ∉ X.N) (e0 : Env0 X.prog X.w X.K X.mg X.base A outer s1 HZ) (hd : A.handled = none)
    (un : Un (frs X.stack) [] H HZ s.heap s1.heap) (rel : RelV v u) (hns : h1.Ns s1.heap.objs.size fun y => [(x0, u)].reverse.lookup y) (kp : ∀ b o, s1.heap.get? b = some o → h1.get? b = some o) :
    Inv (lmCx X x0 A outer s1 HZ scope f c') [] (σ ++ [some v]) HZ { s1 with heap := h1, toks := tk } := by
  have celled : ∀ {c : Addr} {z : Option Value}, H c = none → s.heap.IsCell c z → h1.IsCell c z := fun {c z} n ⟨o, ho, hd⟩ => by
    obtain ⟨sl, q⟩ := un.any ho n (by simp)
    exact ⟨_, kp _ _ q, hd⟩
  have none_ : ∀ b : Addr, b ∉ (lmCx X x0 A outer s1 HZ scope f c').ex := fun b z => absurd (show b ∈ ([] : List Addr) from z) (by simp)
  refine ⟨⟨e0.mod, lp.knd, rfl, rfl, Nat.le_refl _, fun y z c a1 a2 => I.ok.inj y z c (clo_in lp I.ok a1) (clo_in lp I.ok a2), fun y hy => ?_, fun y c z _ => ?_, fun _ => hd, Around.frames_deeper e0.frames, .inr ⟨rfl, rfl⟩, fun b z => absurd z (none_ b), e0.bs, e0.bsz, fun b _ _ => none_ b,
      fun b z => absurd z (none_ b), e0.funs, e0.frf⟩,
    rfl, e0.bare, Un.kept kp, ⟨_, hns, fun i y z a1 a2 a3 => ?_⟩, fun y c e => ?_, e0.hok.fresh (Nat.le_refl _), fun y c e => ?_, fun q hq => absurd (show q ∈ ([] : List (Addr × Obj)) ++ [] from hq) (by simp), e0.hok.kept kp, ?_⟩
  · rcases (show scope.names.lookup y = some .cell ∨ scope.names.lookup y = some .free from hy) with hy | hy
    · exact absurd rfl (lp.noc _ (PySem.mem_of_lookup hy))
    · exact clo_has hy
  · exact absurd (show false = true from z) (by decide)
  · have a1 : (X.N ++ [x0])[i]? = some y := a1
    have a3 : Vis scope y := a3
    have len := I.len
    by_cases c : i < X.N.length
    · rw [List.getElem?_append_left c] at a1
      rw [List.getElem?_append_left (by omega)] at a2
      have fr : scope.names.lookup y = some .free := by
        rcases a3 with k | k | k
        · exact absurd (by rw [← lp.one _ (PySem.mem_of_lookup k) rfl]; exact List.mem_of_getElem? a1) new
        · exact absurd rfl (lp.noc _ (PySem.mem_of_lookup k))
        · exact k
      obtain ⟨m, _, hl⟩ := I.loc
      have over := lp.fre _ (PySem.mem_of_lookup fr) rfl
      obtain ⟨w', r, q⟩ := hl i y z a1 a2 (over.elim (fun k => .inr (.inl k)) (fun k => .inr (.inr k)))
      obtain ⟨c2, h2⟩ := clo_has (X := X) fr
      refine ⟨w', r, .inr ⟨.inr fr, c2, h2, ?_⟩⟩
      have c1 := clo_in lp I.ok h2
      rcases q with ⟨k', _⟩ | ⟨_, c3, e', z'⟩
      · have k' : X.env.scope.names.lookup y = some .local := k'
        rcases over with k2 | k2 <;> rw [show X.env.scope.names.lookup y = _ from k2] at k' <;> cases k'
      · rw [c1] at e'
        cases e'
        exact celled (I.freeC y _ c1) z'
    · have b : i < (X.N ++ [x0]).length := (List.getElem?_eq_some_iff.mp a1).1
      have e : i = X.N.length := by
        rw [List.length_append, List.length_singleton] at b
        omega
      subst e
      have ey : y = x0 := by
        rw [List.getElem?_append_right (Nat.le_refl _), Nat.sub_self] at a1
        exact (Option.some.inj a1).symm
      have ez : z = v := by
        rw [List.getElem?_append_right (by omega), show X.N.length - σ.length = 0 by omega] at a2
        exact (Option.some.inj (Option.some.inj a2)).symm
      subst ey ez
      exact ⟨u, rel, .inl ⟨lp.here, by simp⟩⟩
  · obtain ⟨z, y'⟩ := I.cell y c (clo_in lp I.ok e)
    exact ⟨z, celled (I.freeC y c (clo_in lp I.ok e)) y'⟩
  · obtain ⟨z, o, ho, hd⟩ := I.cell y c (clo_in lp I.ok e)
    exact un.free c o ho (I.freeC y c (clo_in lp I.ok e)) (by simp)
  · show (σ ++ [some v]).length = (X.N ++ [x0]).length
    rw [List.length_append, List.length_append, I.len]
    rfl
/-- the lambda that has been made may be called -/
theorem lm_act {x0 : Str} {f c' : Addr} {pm ctv : Value} {params : Arguments} {body : Expr} {scope : Scope} {j : Nat} {tb : TE} (I : Inv X pins σ H s) (lp : LamP x0 X.env.scope scope) (new : x0 ∉ X.N)
    (hf : s.heap.get? f = some (PySem.W.kla_obj "<lambda>" (X.env.qual ++ "<lambda>") params body scope (clo X scope) pm c' ctv)) (hfn : H f = none) (hfr : f ∉ frs X.stack) (hc : H c' = some (CodeO c' (X.env.qual ++ "<lambda>")))
    (bind : ∀ u : Value, bindArgs (PySem.W.kla_fn "<lambda>" (X.env.qual ++ "<lambda>") params body scope (clo X scope) pm (.ref c') ctv) ⟨[u], []⟩ = pure [(x0, u)])
    (hbody : ∀ (A : Around) (outer : List Env) (s : Shared) (H : Hp), Room j (A.deeper (lmEnv X scope s.heap.objs.size f c')) → PE (lmCx X x0 A outer s H scope f c') body tb) :
    Act X.prog X.w X.K X.mg X.base j X.stack s H f fun v HZ Q => tb (σ ++ [some v]) HZ Q := by
  refine ⟨hfn, hfr, ⟨_, _, _, _, hf⟩, fun A' e s1 HZ v u Q room e0 un ex rel ht => ?_⟩
  have of1 := un.keep f _ hf hfn hfr (fun z => nomatch (show f ∈ ([] : List Addr) from z))
  have hcz := ex _ _ hc LamX.codeO_ne
  obtain ⟨⟨oc, vs, t, hoc, hdc, hvc⟩, _, _⟩ := e0.hok c' _ hcz
  have lim : s1.heap.NoLimit := e0.mod.nolimit.keeps fun b o e => (e0.bs b o e).1
  refine PySem.W.kla_callFunE room.depth of1 rfl lp.coo lp.gnr rfl ⟨c', oc, vs, t, rfl, hoc, hdc, hvc⟩ ?_
  rw [bind u]
  refine wpAny_pure (wpAny_newFunctionEnv (fun y hy => lp.noc y hy) (fun y hy => by rw [List.mem_singleton.mp hy]; exact lp.here) (fun h1 hns hsb => ⟨lim.fresh _ hsb, ?_⟩) lp.knd)
  have kp : ∀ b o, s1.heap.get? b = some o → h1.get? b = some o := fun b o e => hsb.extBut b o (Nat.ne_of_lt (Heap.lt_size e)) (Heap.get?_push_of_some _ e)
  have J := lm_start (f := f) (c' := c') (tk := s1.toks + [(x0, u)].length) I lp new e0 room.hd un rel hns kp
  refine PySem.W.kla_codeExpr (wpAny_mono ((hbody _ _ s1 HZ (room.deeper _)).run [] _ _ HZ Q J ht) (fun y s2 ⟨w', H', J', rv, q⟩ => ⟨w', H', J'.os, J'.bare, J'.base, J'.hok, rv, q⟩) fun _ _ z => z.elim)
def tLam1 (T : List (Addr × Str)) (sp : V → (V → Hp → VK → Prop) → Hp → VK → Prop) (te tb : TE) : TE := fun σ H Q => te σ H fun v H1 => Tabs T H1 ∧ ∀ H2, ExtN H1 H2 → Tabs T H2 → sp v (fun z H' Q' => tb (σ ++ [some z]) H' Q') H2 Q
/-- g(e, lambda x0: body) -/
theorem pe_lam1 {T : List (Addr × Str)} {sp : V → (V → Hp → VK → Prop) → Hp → VK → Prop} {x x0 : Str} {g c Pt : Addr} {fdg : FuncData} {j k : Nat} {gps : List Str} {params : Arguments} {body e : Expr} {scope : Scope} {te tb : TE} {p lpos pos : Pos}
    (G : FnHof X.prog X.w X.K X.mg X.base j k g fdg gps sp) (hr : Room k X.A) (hg : Gl X x) (hm : X.mg x = some (.ref g)) (hk : PySem.W.keepIn X.K (.ref g) = true) (hb : Binds X.K fdg gps []) (two : gps.length = 2)
    (TB : TabB X.base X.mg c Pt) (hcode : X.env.code = .ref c) (hmT : (Pt, X.env.qual ++ "<lambda>") ∈ T) (hu : ∀ q ∈ T, q.1 = Pt → q.2 = X.env.qual ++ "<lambda>") (lp : LamP x0 X.env.scope scope) (new : x0 ∉ X.N) (hdef : defaultsOf params X.env = ([], []))
    (bind : ∀ (q : Str) (cl : List (Str × Addr)) (pm cv ctv u : Value), bindArgs (PySem.W.kla_fn "<lambda>" q params body scope cl pm cv ctv) ⟨[u], []⟩ = pure [(x0, u)]) (he : PE X e te)
    (hbody : ∀ (A : Around) (outer : List Env) (s : Shared) (H : Hp) (f c' : Addr), Room j (A.deeper (lmEnv X scope s.heap.objs.size f c')) → PE (lmCx X x0 A outer s H scope f c') body tb)
    (hdb : (x == ("__debug__" : Str)) = false := by decide) (n1 : starEach [e, .Lambda params body scope lpos] X.env = (false, eval e X.env) :: starEach [.Lambda params body scope lpos] X.env := by rfl) :
    PE X (.Call (.Name x p) [e, .Lambda params body scope lpos] [] pos) (tLam1 T sp te tb) := by
  refine ⟨fun pins s σ H Q I h => ?_⟩
  refine wpAny_Call_Name_kw (ld_glob I hg hm ?_ hdb)
  refine PySem.W.callWith_K (h₀ := X.base) I.ok.mod.kin hk ?_ n1 (by rfl)
  rw [n1]
  show wpAny _ _ (spliced ((false, eval e X.env) :: (false, eval (.Lambda params body scope lpos) X.env) :: backTo pos (starEach [] X.env))) _ _ s
  refine Calls.spliced_cons (thn (he.run pins s σ H _ I h) fun u s1 ⟨v, H1, I1, rv, hT, q⟩ => ?_)
  refine Calls.spliced_cons (LamX.lam_make2 I1 TB hcode hmT hu hT hdef (lp.caught I1.ok) fun f c' pm' ctv H2 s2 I2 eN T2 hf hfn hfr hco => ?_)
  refine Calls.spliced_nil ⟨I2.kIn, ?_⟩
  have act := lm_act (j := j) I2 lp new hf hfn hfr hco (fun u => bind _ _ _ _ _ u) (fun A outer s H hr2 => hbody A outer s H f c' hr2)
  have bb : BindsTo s2 fdg ⟨[u, .ref f], []⟩ (gps.zip [u, .ref f]) := by
    have z := hb s2 [u, .ref f] I2.kIn (by rw [two]; rfl)
    exact z
  refine wpAny_call (codeAny_mono (G.run _ _ s2 H2 _ u v f Q _ hr I2.env0 bb rv act (q H2 eN T2)) fun res s3 z => ?_)
  cases res with
  | error er => exact z.elim
  | ok fl =>
    cases fl with
    | ret u => exact I2.after z
    | next => exact z.elim
    | brk => exact z.elim
    | cont => exact z.elim
end
end Cw
namespace Cw
open PySem L2
open LamX (Tabs ExtN TabB)
abbrev sLo : Stmt := top 22
abbrev sAH : Stmt := top 40
abbrev sFI : Stmt := top 41
abbrev sFC : Stmt := top 39
/-! ## which places of ranges are not among others -/
def AscR (qs : List (Int × Int)) : Prop := qs.Pairwise fun a b => a.2 < b.1
theorem Canon.asc {qs : List (Int × Int)} (c : Canon qs) : AscR qs := c.gap.imp fun h => by omega
/-- where a look through the others is -/
structure Scan (os done : List (Int × Int)) (low pl : Int) : Prop where
  up : low ≤ pl
  cov : ∀ p, low ≤ p → p < pl → InR p os
  off : ¬ InR pl done
theorem Scan.start {os : List (Int × Int)} {low : Int} : Scan os [] low low := ⟨Int.le_refl _, fun p h1 h2 => by omega, fun ⟨_, h, _⟩ => (nomatch h)⟩
theorem Scan.hit {os done : List (Int × Int)} {low pl : Int} {y : Int × Int} (S : Scan os done low pl) (hy : y ∈ os) (far : ∀ x ∈ done, x.2 + 1 < y.1) (h1 : y.1 ≤ pl) (h2 : pl ≤ y.2) : Scan os (done ++ [y]) low (y.2 + 1) := by
  have up := S.up
  refine ⟨by omega, fun p a b => ?_, fun h => ?_⟩
  · by_cases c : p < pl
    · exact S.cov p a c
    · exact ⟨y, hy, by omega, by omega⟩
  · rcases inR_snoc.mp h with ⟨x, hx, z1, z2⟩ | ⟨z1, z2⟩
    · have := far x hx
      omega
    · omega
theorem Scan.miss {os done : List (Int × Int)} {low pl : Int} {y : Int × Int} (S : Scan os done low pl) (h : ¬ (y.1 ≤ pl ∧ pl ≤ y.2)) : Scan os (done ++ [y]) low pl := by
  refine ⟨S.up, S.cov, fun z => ?_⟩
  rcases inR_snoc.mp z with z | z
  · exact S.off z
  · exact h z
def spLo : Sp := fun vs H Q _ => ∃ (a b : Addr) (ts us : List Addr) (qs os : List (Int × Int)), vs = [.ref a, .ref b] ∧ H a = some (.lst (ts.map V.ref)) ∧ PrAt H ts qs ∧ H b = some (.lst (us.map V.ref)) ∧ PrAt H us os ∧ AscR qs ∧ Canon os ∧
  ((∀ p, InR p qs → InR p os) → Q .non H) ∧ ∀ z, InR z qs → ¬ InR z os → (∀ p, InR p qs → ¬ InR p os → z ≤ p) → Q (.int z) H
/-- all walks from places of the ranges have the cut -/
def AllCut (W : Int → Int) (n : Int) (qs : List (Int × Int)) (c : Int) : Prop := ∀ p, InR p qs → ∃ k, kc W n p k = c
def spAH (C : Addr) : Sp := fun vs H Q _ => ∃ (r t a : Addr) (n l m g c : Int) (ms ss : List Int) (ts : List Addr) (qs : List (Int × Int)), vs = [.ref r, .ref t, .int c, .ref a] ∧ RwS C H r t n l m g ms ss ∧ 0 ≤ c ∧ c ≤ n ∧ H a = some (.lst (ts.map V.ref)) ∧ PrAt H ts qs ∧ AscR qs ∧ (∀ p, InR p qs → 0 ≤ p ∧ p ≤ n) ∧
  ∀ (H' : Hp) (b : Bool), Same H H' → (b = true ↔ AllCut (nx n ms ss l m g) n qs c) → Q (.bl b) H'
/-- first_index: it is told what holds says of each number -/
def spFI : V → (V → Hp → VK → Prop) → Hp → VK → Prop := fun v tl H Q => ∃ (many : Nat) (f : Nat → Bool), v = .int many ∧ 1 ≤ many ∧ many ≤ 300 ∧ (∀ i j, i ≤ j → f i = true → f j = true) ∧ f (many - 1) = true ∧
  (∀ (i : Nat) (H1 : Hp) (Q1 : VK), i < many → Same H H1 → (∀ H2, Same H1 H2 → Q1 (.bl (f i)) H2) → tl (.int i) H1 Q1) ∧ ∀ (k : Nat) (H' : Hp), k < many → f k = true → (∀ i, i < k → f i = false) → Same H H' → Q (.int k) H'
def muFI : St → Hp → Nat := fun σ _ => match σ with | [_, _, some (.int lo), some (.int hi), _] => (hi - lo).toNat | _ => 0
def spFC (C : Addr) (T : List (Addr × Str)) : Sp := fun vs H Q _ => ∃ (r t c a : Addr) (n l m g s : Int) (k : Nat) (ms ss : List Int) (ts : List Addr) (qs : List (Int × Int)), vs = [.ref r, .ref t, .ref c, .ref a] ∧ RwS C H r t n l m g ms ss ∧ 0 ≤ s ∧ s ≤ n ∧ IL H c (wl (nx n ms ss l m g) n s k) ∧ WkOk (nx n ms ss l m g) n s k ∧
  H a = some (.lst (ts.map V.ref)) ∧ PrAt H ts qs ∧ AscR qs ∧ (∀ p, InR p qs → 0 ≤ p ∧ p ≤ n) ∧ Tabs T H ∧
  ∀ (i : Nat) (H' : Hp), i ≤ k → AllCut (nx n ms ss l m g) n qs (kc (nx n ms ss l m g) n s i) → (∀ j, j < i → ¬ AllCut (nx n ms ss l m g) n qs (kc (nx n ms ss l m g) n s j)) → ExtN H H' → Tabs T H' → Q (.int i) H'
theorem ends_at {F : Int → Int} {n l p : Int} (S : Stp F n l) (h : p ≤ n) : ∃ k, kc F n p k = n := by
  obtain ⟨d, hd⟩ : ∃ d : Nat, (n - p).toNat = d := ⟨_, rfl⟩
  induction d using Nat.strongRecOn generalizing p with
  | ind d ih =>
    by_cases c : p < n
    · have gt := S.gt c
      have le := S.le p
      obtain ⟨k, hk⟩ := ih _ (by omega) le rfl
      refine ⟨1 + k, ?_⟩
      rw [kc_add]
      have e1 : kc F n p 1 = F p := kc_at (k := 0) c
      rw [e1]
      exact hk
    · exact ⟨0, by show p = n; omega⟩
theorem AllCut.end {F : Int → Int} {n l : Int} {qs : List (Int × Int)} (S : Stp F n l) (h : ∀ p, InR p qs → 0 ≤ p ∧ p ≤ n) : AllCut F n qs n := fun p hp => ends_at S (h p hp).2
theorem AllCut.next {F : Int → Int} {n s : Int} {qs : List (Int × Int)} {i : Nat} (h : AllCut F n qs (kc F n s i)) : AllCut F n qs (kc F n s (i + 1)) := fun p hp => by
  obtain ⟨k, hk⟩ := h p hp
  refine ⟨k + 1, ?_⟩
  show (if kc F n p k < n then F (kc F n p k) else kc F n p k) = (if kc F n s i < n then F (kc F n s i) else kc F n s i)
  rw [hk]
theorem AllCut.mono {F : Int → Int} {n s : Int} {qs : List (Int × Int)} {i : Nat} (h : AllCut F n qs (kc F n s i)) : ∀ d : Nat, AllCut F n qs (kc F n s (i + d))
  | 0 => h
  | d + 1 => (AllCut.mono h d).next
theorem kc_in {F : Int → Int} {n l s : Int} (S : Stp F n l) (h : s ≤ n) (h0 : 0 ≤ s) : ∀ i : Nat, 0 ≤ kc F n s i ∧ kc F n s i ≤ n := fun i => ⟨by
  induction i with
  | zero => exact h0
  | succ i ih =>
    by_cases c : kc F n s i < n
    · have := S.gt c
      rw [kc_at c]
      omega
    · have e : kc F n s (i + 1) = kc F n s i := if_neg c
      rw [e]
      exact ih, kc_le S h i⟩
section
variable {P : Program} {w : World} {K : PySem.W.Frag} {mg : Str → Option Value} {base : Heap}
abbrev NLo : List Str := ["ranges", "others", "low", "high", "place", "begin", "end"]
theorem scLo : FnScope NLo ["ranges", "others"] (defScope sLo) := ⟨rfl, rfl, rfl, by decide +kernel, rfl, by decide +kernel, by decide +kernel⟩
theorem ok_lo {f : Addr} {fd : FuncData} (F : Fun K "least_outside" "least_outside" sLo f fd) :
    FnOk P w K mg base CX0 1 f fd ["ranges", "others"] (spLo) := by
  refine F.ok scLo (fun vs H Q E h => ?_) (fun cdv A outer s H vs Q E hr h => ?_)
  · obtain ⟨a, b, ts, us, qs, os, rfl, _⟩ := h
    rfl
  · obtain ⟨a, b, ts, us, qs, os, rfl, hA, hq, hB, ho, asc, can, qn, qz⟩ := h
    refine ⟨_, (pss_cons (ps_for PassesOwn.never rfl (pi_list (pv 0)) (pg_tup rfl (pgs_cons (pg_name (i := 2) scLo.nd rfl (Or.inl rfl)) (pgs_cons (pg_name (i := 3) scLo.nd rfl (Or.inl rfl)) pgs_nil)))
        (pss_cons (ps_set (i := 4) scLo.nd rfl (Or.inl rfl) (pv 2))
        (pss_cons (ps_for PassesOwn.never rfl (pi_list (pv 1)) (pg_tup rfl (pgs_cons (pg_name (i := 5) scLo.nd rfl (Or.inl rfl)) (pgs_cons (pg_name (i := 6) scLo.nd rfl (Or.inl rfl)) pgs_nil)))
        (pss_one (ps_if (pt_chain op_le op_le (pv 5) (pv 4) (pv 6)) (pss_one (ps_set (i := 4) scLo.nd rfl (Or.inl rfl) (pe_op op_add (pv 6) pe_int))) pss_nil)))
        (pss_one (ps_if (pt_cmpR op_le (pv 4) (pv 3) (nomark _)) (pss_one (ps_ret (pv 4))) pss_nil)))))
        (pss_one (ps_ret pe_non))), ?_⟩
    have lt := hq.len
    have lu := ho.len
    refine ⟨_, rfl, a, rfl, ⟨_, SqL.of hA⟩, for_list (xs := ts.map V.ref) (fun i σ H' => ∃ (v2 v3 v4 v5 v6 : Option V), σ = [some (.ref a), some (.ref b), v2, v3, v4, v5, v6] ∧ H' = H ∧ ∀ p, InR p (qs.take i) → InR p os) ⟨_, _, _, _, _, rfl, rfl, fun p h => (by obtain ⟨_, h, _⟩ := h; cases h)⟩
      (fun i σ H' _ z => by obtain ⟨_, _, _, _, _, _, rfl, _⟩ := z; exact SqL.of hA) ?_ ?_⟩
    · rintro i x σ H' hx ⟨v2, v3, v4, v5, v6, rfl, rfl, done⟩
      obtain ⟨u, y, rfl, hy, hu⟩ := hq.get hx
      refine ⟨u, _, rfl, SqT.of hu, rfl, _, _, rfl, _, _, rfl, rfl, ?_⟩
      try dsimp only [L2.start, List.set, List.map, List.append, List.replicate, List.length]
      refine ⟨_, rfl, ?_⟩
      refine ⟨_, rfl, b, rfl, ⟨_, SqL.of hB⟩, for_list (xs := us.map V.ref) (fun j σ H1 => ∃ (v5 v6 : Option V) (pl : Int), σ = [some (.ref a), some (.ref b), some (.int y.1), some (.int y.2), some (.int pl), v5, v6] ∧ H1 = H' ∧ Scan os (os.take j) y.1 pl) ⟨_, _, y.1, rfl, rfl, Scan.start⟩
        (fun j σ H1 _ z => by obtain ⟨_, _, _, _, rfl, _⟩ := z; exact SqL.of hB) ?_ ?_⟩
      · rintro j x2 σ H1 hx2 ⟨v5, v6, pl, rfl, rfl, S⟩
        obtain ⟨u2, z, rfl, hz, hu2⟩ := ho.get hx2
        have tk := take_map3 hz
        have far : ∀ x ∈ os.take j, x.2 + 1 < z.1 := fun x hx => by
          obtain ⟨e, he, rfl⟩ := List.mem_iff_getElem.mp hx
          rw [List.length_take] at he
          obtain ⟨li, e2⟩ := List.getElem?_eq_some_iff.mp hz
          rw [List.getElem_take, ← e2]
          exact List.pairwise_iff_getElem.mp can.gap e j (by omega) li (by omega)
        refine ⟨u2, _, rfl, SqT.of hu2, rfl, _, _, rfl, _, _, rfl, rfl, ?_⟩
        try dsimp only [L2.start, List.set, List.map, List.append, List.replicate, List.length]
        refine ⟨_, rfl, _, rfl, _, _, rfl, rfl, _, rfl, ?_⟩
        by_cases c1 : z.1 ≤ pl
        · refine ifT (decide_eq_true c1) ?_
          refine ⟨_, rfl, _, _, rfl, rfl, _, rfl, ?_⟩
          by_cases c2 : pl ≤ z.2
          · refine ifT (decide_eq_true c2) ?_
            exact ⟨_, rfl, _, _, rfl, rfl, _, _, z.2 + 1, rfl, rfl, by rw [tk]; exact S.hit (List.mem_of_getElem? hz) far c1 c2⟩
          · refine ifF (decide_eq_false c2) ?_
            exact ⟨_, _, pl, rfl, rfl, by rw [tk]; exact S.miss fun h => c2 h.2⟩
        · refine ifF (decide_eq_false c1) ?_
          first
            | exact ⟨_, _, pl, rfl, rfl, by rw [tk]; exact S.miss fun h => c1 h.1⟩
            | exact ⟨_, rfl, ifF rfl ⟨_, _, pl, rfl, rfl, by rw [tk]; exact S.miss fun h => c1 h.1⟩⟩
            | exact ifF rfl ⟨_, _, pl, rfl, rfl, by rw [tk]; exact S.miss fun h => c1 h.1⟩
      · rintro σ H1 ⟨v5, v6, pl, rfl, rfl, S⟩
        rw [List.length_map, lu, List.take_length] at S
        have tk := take_map3 hy
        have up := S.up
        try dsimp only [L2.start, List.set, List.map, List.append, List.replicate, List.length]
        refine ⟨_, rfl, _, rfl, _, _, rfl, rfl, _, rfl, ?_⟩
        by_cases c : pl ≤ y.2
        · refine ifT (decide_eq_true c) ?_
          refine ⟨_, rfl, qz pl ⟨y, List.mem_of_getElem? hy, up, c⟩ S.off fun p hp np => ?_⟩
          by_cases d : pl ≤ p
          · exact d
          · exfalso
            obtain ⟨w, hw, w1, w2⟩ := hp
            obtain ⟨e, he, e2⟩ := List.mem_iff_getElem.mp hw
            obtain ⟨li, e3⟩ := List.getElem?_eq_some_iff.mp hy
            rcases Nat.lt_trichotomy e i with q | q | q
            · refine np (done p ⟨w, ?_, w1, w2⟩)
              exact List.mem_iff_getElem.mpr ⟨e, by rw [List.length_take]; omega, by rw [List.getElem_take]; exact e2⟩
            · subst q
              rw [e3] at e2
              subst e2
              exact np (S.cov p w1 (by omega))
            · have z := List.pairwise_iff_getElem.mp asc i e li he q
              rw [e3, e2] at z
              omega
        · refine ifF (decide_eq_false c) ?_
          refine ⟨_, _, _, _, _, rfl, rfl, fun p hp => ?_⟩
          rw [tk] at hp
          rcases inR_snoc.mp hp with hp | ⟨z1, z2⟩
          · exact done p hp
          · exact S.cov p z1 (by omega)
    · rintro σ H' ⟨v2, v3, v4, v5, v6, rfl, rfl, done⟩
      rw [List.length_map, lt, List.take_length] at done
      exact qn done
abbrev NAH : List Str := ["row", "settings", "cut", "ranges"]
theorem scAH : FnScope NAH ["row", "settings", "cut", "ranges"] (defScope sAH) := ⟨rfl, rfl, rfl, by decide +kernel, rfl, by decide +kernel, by decide +kernel⟩
theorem ok_ah {f C fS fL : Addr} {fd fdS fdL : FuncData} (F : Fun K "all_have" "all_have" sAH f fd)
    (gS : mg "starts_with" = some (.ref fS)) (kS : PySem.W.keepIn K (.ref fS) = true) (bS : Binds K fdS ["row", "settings", "cut"] []) (GS : FnOk P w K mg base CX0 5 fS fdS ["row", "settings", "cut"] (spStarts C))
    (gL : mg "least_outside" = some (.ref fL)) (kL : PySem.W.keepIn K (.ref fL) = true) (bL : Binds K fdL ["ranges", "others"] []) (GL : FnOk P w K mg base CX0 1 fL fdL ["ranges", "others"] spLo) :
    FnOk P w K mg base CX0 6 f fd ["row", "settings", "cut", "ranges"] (spAH C) := by
  refine F.ok scAH (fun vs H Q E h => ?_) (fun cdv A outer s H vs Q E hr h => ?_)
  · obtain ⟨r, t, a, n, l, m, g, c, ms, ss, ts, qs, rfl, _⟩ := h
    rfl
  · obtain ⟨r, t, a, n, l, m, g, c, ms, ss, ts, qs, rfl, hR, c0, cn, hA, hq, asc, rng, q⟩ := h
    refine ⟨_, (pss_one (ps_ret (pe_cmpR op_isN (pe_call GL (hr.mono (by decide)) rfl gL kL bL .nil pass0 (pa_cons (pv 3) (pa_cons (pe_call GS (hr.mono (by decide)) rfl gS kS bS .nil pass0 (pa_cons (pv 0) (pa_cons (pv 1) (pa_cons (pv 2) pa_nil)))) pa_nil))) pe_non (nomark _)))), ?_⟩
    refine ⟨_, rfl, _, rfl, _, rfl, _, rfl, r, t, n, l, m, g, c, ms, ss, rfl, hR, c0, cn, fun b H1 us rs s1 nb hb hr B => ?_⟩
    refine ⟨a, b, ts, us, qs, rs, rfl, s1 _ _ hA, hq.imp fun _ _ h => s1 _ _ h, hb, hr, asc, B.can, fun all => ?_, fun z h1 h2 _ => ?_⟩
    · refine ⟨rfl, ?_⟩
      exact q H1 _ s1 ⟨fun _ p hp => (B.at_ p (rng p hp).1 (rng p hp).2).mp (all p hp), fun _ => by rw [decide_eq_true rfl]⟩
    · refine ⟨rfl, ?_⟩
      exact q H1 _ s1 ⟨fun e => (by rw [decide_eq_false (fun y => nomatch y)] at e; cases e), fun all => absurd ((B.at_ z (rng z h1).1 (rng z h1).2).mpr (all z h1)) h2⟩
abbrev NFI : List Str := ["many", "holds", "low", "high", "middle"]
theorem scFI : FnScope NFI ["many", "holds"] (defScope sFI) := ⟨rfl, rfl, rfl, by decide +kernel, rfl, by decide +kernel, by decide +kernel⟩
theorem ok_fi {f : Addr} {fd : FuncData} (F : Fun K "first_index" "first_index" sFI f fd) : FnHof P w K mg base 6 8 f fd ["many", "holds"] spFI := by
  refine okH F scFI (fun cdv A outer s H v f Q tl hr act h => ?_)
  obtain ⟨many, fv, rfl, m1, m3, mono, last, hold, q⟩ := h
  refine ⟨_, (pss_cons (ps_set (i := 2) scFI.nd rfl (Or.inl rfl) pe_int)
      (pss_cons (ps_set (i := 3) scFI.nd rfl (Or.inl rfl) (pe_op op_sub (pv 0) pe_int))
      (pss_cons (ps_while PassesOwn.never (pt_cmpR op_lt (pv 2) (pv 3) (nomark _))
        (pss_cons (ps_set (i := 4) scFI.nd rfl (Or.inl rfl) (pe_op op_fdiv (pe_op op_add (pv 2) (pv 3)) pe_int))
        (pss_one (ps_if (pt_val (pe_act (i := 1) act hr (pa_cons (pv 4) pa_nil) rfl (.inl rfl))) (pss_one (ps_set (i := 3) scFI.nd rfl (Or.inl rfl) (pv 4))) (pss_one (ps_set (i := 2) scFI.nd rfl (Or.inl rfl) (pe_op op_add (pv 4) pe_int)))))))
      (pss_one (ps_ret (pv 2)))))), ?_⟩
  refine ⟨_, rfl, _, _, rfl, rfl, ?_⟩
  try dsimp only [L2.start, List.set, List.map, List.append, List.replicate, List.length]
  refine while_by (fun σ H' => ∃ (lo hi : Nat) (v : Option V), σ = [some (.int many), some (.ref f), some (.int lo), some (.int hi), v] ∧ Same H H' ∧ lo ≤ hi ∧ hi < many ∧ fv hi = true ∧ ∀ i, i < lo → fv i = false)
    muFI ⟨0, many - 1, none, ?_, Same.refl H, Nat.zero_le _, by omega, last, fun i hi => absurd hi (Nat.not_lt_zero _)⟩ ?_
    (fun σ H Q Q' hQ h => by repeat' (first | exact hQ _ _ h | (obtain ⟨x, h⟩ := h; refine ⟨x, ?_⟩)))
  · have e : ((many - 1 : Nat) : Int) = (many : Int) - 1 := by omega
    rw [e]
    rfl
  rintro σ H' ⟨lo, hi, v, rfl, s1, l1, l2, top, low⟩
  refine ⟨_, rfl, _, rfl, _, _, rfl, rfl, _, rfl, ?_⟩
  by_cases c : (lo : Int) < hi
  · refine ifT (decide_eq_true c) ?_
    refine ⟨_, rfl, _, rfl, _, _, rfl, rfl, _, _, rfl, rfl, ⟨by decide, by decide⟩, ?_⟩
    dsimp only
    obtain ⟨m, hm⟩ : ∃ m : Nat, ((lo : Int) + hi) / 2 = m := ⟨(lo + hi) / 2, by omega⟩
    have a1 : lo ≤ m := by omega
    have a2 : m < hi := by omega
    rw [hm]
    refine ⟨rfl, _, rfl, _, rfl, ExtN.of s1, hold m H' _ (by omega) s1 fun H2 s2 => ⟨_, rfl, ?_⟩⟩
    cases d : fv m with
    | true =>
      refine ifT rfl ?_
      refine ⟨_, rfl, ⟨lo, m, _, rfl, s1.trans s2, a1, by omega, d, low⟩, ?_⟩
      show ((m : Int) - lo).toNat < ((hi : Int) - lo).toNat
      omega
    | false =>
      refine ifF rfl ?_
      refine ⟨_, rfl, _, _, rfl, rfl, ⟨m + 1, hi, _, rfl, s1.trans s2, by omega, l2, top, fun i hi' => ?_⟩, ?_⟩
      · cases e : fv i with
        | false => rfl
        | true =>
          have := mono i m (by omega) e
          rw [d] at this
          cases this
      · show ((hi : Int) - ((m : Int) + 1)).toNat < ((hi : Int) - lo).toNat
        omega
  · refine ifF (decide_eq_false c) ?_
    have e : lo = hi := by omega
    subst e
    exact ⟨_, rfl, q lo H' l2 top low s1⟩
theorem okC {x qual : Str} {st : Stmt} {f c : Addr} {fd : FuncData} {N ps : List Str} {k : Nat} {sp : Sp} (F : Fun K x qual st f fd) (code : fd.code = .ref c) (S : FnScope N ps (defScope st)) (len : ∀ vs H Q E, sp vs H Q E → vs.length = ps.length)
    (body : ∀ (A : Around) (outer : List Env) (s : Shared) (H : Hp) (vs : List V) (Q : VK) (E : XK), Room k (A.deeper (PyProof.Rows.envOfC qual (defScope st) s.heap.objs.size f (.ref c))) → sp vs H Q E →
      ∃ t, PSs (cxOf CX0 P w K mg base N qual (defScope st) f (.ref c) A outer s H E).nox (defBody st) t ∧ t { nx := fun _ H' => Q .non H', rt := Q } (start N vs) H) : FnOk P w K mg base CX0 (k + 1) f fd ps sp := by
  obtain ⟨oc, od, kV, doc, pm, an, cdv, ct, osl, rfl, look, hcd⟩ := id F.ex
  have e : cdv = .ref c := code
  subst e
  refine fn_of look hcd S len fun A outer s H vs Q E hr h => ?_
  obtain ⟨t, a, b⟩ := body A outer s H vs Q E hr h
  exact ⟨t, a.nox, b⟩
abbrev NFC : List Str := ["row", "settings", "cuts", "ranges"]
theorem scFC : FnScope NFC NFC (defScope sFC) := ⟨rfl, rfl, rfl, by decide +kernel, rfl, by decide +kernel, by decide +kernel⟩
theorem ok_fc {f C cT pT fI fH : Addr} {fd fdI fdH : FuncData} {T : List (Addr × Str)} (F : Fun K "first_common" "first_common" sFC f fd) (T' : Bl mg) (code : fd.code = .ref cT) (TB : TabB base mg cT pT) (mT : (pT, ("first_common.<locals>.<lambda>" : Str)) ∈ T) (uT : ∀ q ∈ T, q.1 = pT → q.2 = ("first_common.<locals>.<lambda>" : Str))
    (gI : mg "first_index" = some (.ref fI)) (kI : PySem.W.keepIn K (.ref fI) = true) (bI : Binds K fdI ["many", "holds"] []) (GI : FnHof P w K mg base 6 8 fI fdI ["many", "holds"] spFI)
    (gH : mg "all_have" = some (.ref fH)) (kH : PySem.W.keepIn K (.ref fH) = true) (bH : Binds K fdH ["row", "settings", "cut", "ranges"] []) (GH : FnOk P w K mg base CX0 6 fH fdH ["row", "settings", "cut", "ranges"] (spAH C)) :
    FnOk P w K mg base CX0 9 f fd NFC (spFC C T) := by
  refine okC F code scFC (fun vs H Q E h => ?_) (fun A outer s H vs Q E hr h => ?_)
  · obtain ⟨r, t, c, a, n, l, m, g, s, k, ms, ss, ts, qs, rfl, _⟩ := h
    rfl
  · obtain ⟨r, t, c, a, n, l, m, g, st, k, ms, ss, ts, qs, rfl, hR, s0, sn, hC, wk, hA, hq, asc, rng, hT, q⟩ := h
    refine ⟨_, (pss_one (ps_ret (pe_lam1 (T := T) (x0 := "at") GI hr rfl gI kI bI rfl TB rfl mT uT (lamP_by (show lamPB "at" (defScope sFC) _ = true from by decide +kernel)) (show ("at" : Str) ∉ NFC from by decide +kernel) rfl (fun _ _ _ _ _ _ => rfl)
      (pe_callB call_len_seq (by rfl) T'.len PySem.boot_len (pa_cons (pv 2) pa_nil))
      (fun A outer s H f c' hr2 => pe_call GH hr2 rfl gH kH bH .nil pass0 (pa_cons (pv 0) (pa_cons (pv 1) (pa_cons (pe_ix (r := rIxL K) ix_list (pv 2) (pv 4) (fun _ _ => rfl)) (pa_cons (pv 3) pa_nil)))))))), ?_⟩
    classical
    have ST := nx_stp hR.good hR.set
    generalize hW : nx n ms ss l m g = W at ST q hC wk
    refine ⟨_, rfl, c, _, rfl, .inl (SqL.of hC), ?_⟩
    rw [List.length_map, wl_len]
    refine ⟨hT, fun H2 e2 T2 => ?_⟩
    have wf := wk.few
    have ext : ∀ {b : Addr} {o : HO}, H b = some o → (∀ ps, o ≠ .tbl ps) → H2 b = some o := fun h n => e2 _ _ h n
    have hC2 : IL H2 c (wl W n st k) := ext hC fun _ z => nomatch z
    have hA2 := ext hA fun _ z => nomatch z
    have hq2 : PrAt H2 ts qs := hq.imp fun _ _ h => ext h fun _ z => nomatch z
    have R2 : RwS C H2 r t n l m g ms ss := by
      obtain ⟨dx, l1, l2, h1, h2, h3⟩ := hR.row
      exact ⟨⟨dx, l1, l2, ext h1 (fun _ z => nomatch z), ext h2 (fun _ z => nomatch z), ext h3 (fun _ z => nomatch z)⟩, ext hR.tup (fun _ z => nomatch z), hR.good, hR.set, hR.big⟩
    have last : kc W n st (k + 1 - 1) = n := by
      rw [Nat.add_sub_cancel]
      exact wk.fin
    refine ⟨k + 1, fun i => decide (AllCut W n qs (kc W n st i)), rfl, by omega, by omega, fun i j ij h => ?_, ?_, fun i H3 Q1 ik s3 h1 => ?_, fun i H3 ik h1 h2 s3 => ?_⟩
    · have z := AllCut.mono (of_decide_eq_true h) (j - i)
      rw [Nat.add_sub_cancel' ij] at z
      exact decide_eq_true z
    · refine decide_eq_true ?_
      rw [last]
      exact AllCut.end ST rng
    · have ki := kc_in ST sn s0 i
      refine ⟨_, rfl, _, rfl, _, rfl, _, rfl, c, _, _, _, rfl, rfl, SqL.of (s3 _ _ hC2), at_of2 (j := i) rfl (by unfold wl; rw [List.getElem?_map, List.getElem?_map, List.getElem?_range (by omega)]; rfl), _, rfl, ?_⟩
      refine ⟨r, t, a, n, l, m, g, _, ms, ss, ts, qs, rfl, R2.same s3, ki.1, ki.2, s3 _ _ hA2, hq2.imp fun _ _ h => s3 _ _ h, asc, rng, fun H4 b s4 hb => ?_⟩
      rw [hW] at hb
      have e : b = decide (AllCut W n qs (kc W n st i)) := by
        cases b with
        | true => exact (decide_eq_true (hb.mp rfl)).symm
        | false => exact (decide_eq_false fun z => by have := hb.mpr z; cases this).symm
      rw [e]
      exact h1 H4 s4
    · exact q i H3 (by omega) (of_decide_eq_true h1) (fun j hj => of_decide_eq_false (h2 j hj)) (e2.trans (ExtN.of s3)) (T2.ext s3)
end
end Cw
namespace Cw
open PySem L2
open LamX (Tabs ExtN TabB)
abbrev sCI : Stmt := top 44
def spCI (C : Addr) : Sp := fun vs H Q _ => ∃ (r t : Addr) (n l m g p : Int) (ms ss : List Int), vs = [.ref r, .ref t, .int p] ∧ RwS C H r t n l m g ms ss ∧ 0 ≤ p ∧ p < n ∧ ∀ H', Same H H' → Q .non H'
theorem RwS.ext {C : Addr} {H H' : Hp} {r t : Addr} {n l m g : Int} {ms ss : List Int} (R : RwS C H r t n l m g ms ss) (e : ExtN H H') : RwS C H' r t n l m g ms ss := by
  obtain ⟨dx, l1, l2, h1, h2, h3⟩ := R.row
  exact ⟨⟨dx, l1, l2, e _ _ h1 (fun _ z => nomatch z), e _ _ h2 (fun _ z => nomatch z), e _ _ h3 (fun _ z => nomatch z)⟩, e _ _ R.tup (fun _ z => nomatch z), R.good, R.set, R.big⟩
theorem IL.ext {H H' : Hp} {a : Addr} {ns : List Int} (h : IL H a ns) (e : ExtN H H') : IL H' a ns := e _ _ h fun _ z => nomatch z
theorem PrAt.ext {H H' : Hp} {ts : List Addr} {ps : List (Int × Int)} (h : PrAt H ts ps) (e : ExtN H H') : PrAt H' ts ps := h.imp fun _ _ h => e _ _ h fun _ z => nomatch z
/-- all walks from entries have the cut -/
def AllE (n : Int) (ms ss : List Int) (l m g p c : Int) : Prop := ∀ z, Ent n ms ss l m g p z → ∃ k, kc (nx n ms ss l m g) n z k = c
/-- the i-th cut from p on is the first sure one -/
structure Sure (n : Int) (ms ss : List Int) (l m g p : Int) (i : Nat) : Prop where
  all : AllE n ms ss l m g p (kc (nx n ms ss l m g) n p i)
  none : ∀ j, j < i → ¬ AllE n ms ss l m g p (kc (nx n ms ss l m g) n p j)
/-- the least entry whose walk comes together with that from p there and not before -/
structure Apart (n : Int) (ms ss : List Int) (l m g p : Int) (i : Nat) (v : Int) : Prop where
  ent : Ent n ms ss l m g p v
  zero : i = 0 → v = p
  late : 0 < i → ∀ k, kc (nx n ms ss l m g) n v k ≠ kc (nx n ms ss l m g) n p (i - 1)
  least : 0 < i → ∀ z, Ent n ms ss l m g p z → (∀ k, kc (nx n ms ss l m g) n z k ≠ kc (nx n ms ss l m g) n p (i - 1)) → v ≤ z
theorem Sure.one {n l m g p : Int} {ms ss : List Int} {i j : Nat} (a : Sure n ms ss l m g p i) (b : Sure n ms ss l m g p j) : i = j := by
  rcases Nat.lt_trichotomy i j with h | h | h
  · exact absurd a.all (b.none i h)
  · exact h
  · exact absurd b.all (a.none j h)
abbrev sSC : Stmt := top 43
def spSC (C : Addr) (T : List (Addr × Str)) : Sp := fun vs H Q _ => ∃ (r t : Addr) (n l m g p : Int) (ms ss : List Int), vs = [.ref r, .ref t, .int p] ∧ RwS C H r t n l m g ms ss ∧ 0 ≤ p ∧ p < n ∧ 2 * ms.length ≤ 800 ∧ Tabs T H ∧
  ∀ (H' : Hp) (i : Nat), Sure n ms ss l m g p i → ExtN H H' → Tabs T H' → Q (.int (kc (nx n ms ss l m g) n p i)) H'
section
variable {P : Program} {w : World} {K : PySem.W.Frag} {mg : Str → Option Value} {base : Heap}
abbrev NCI : List Str := ["row", "settings", "place"]
theorem scCI : FnScope NCI ["row", "settings", "place"] (defScope sCI) := ⟨rfl, rfl, rfl, by decide +kernel, rfl, by decide +kernel, by decide +kernel⟩
theorem ok_ci {f C fA fB fZ pL fGL pM fGM pS fGS : Addr} {fd fdA fdB fdZ dL dM dS : FuncData} (F : Fun K "check_inner" "check_inner" sCI f fd) (R : Cl K mg C) (Gs : Gets P w K mg base C pL fGL pM fGM pS fGS dL dM dS)
    (gA : mg "check_settings" = some (.ref fA)) (kA : PySem.W.keepIn K (.ref fA) = true) (bA : Binds K fdA ["settings"] []) (GA : FnOk P w K mg base CX0 2 fA fdA ["settings"] spCSet)
    (gB : mg "check_place" = some (.ref fB)) (kB : PySem.W.keepIn K (.ref fB) = true) (bB : Binds K fdB ["place", "low", "high"] []) (GB : FnOk P w K mg base CX0 2 fB fdB ["place", "low", "high"] spPl)
    (gZ : mg "check_size" = some (.ref fZ)) (kZ : PySem.W.keepIn K (.ref fZ) = true) (bZ : Binds K fdZ ["row", "settings"] []) (GZ : FnOk P w K mg base CX0 3 fZ fdZ ["row", "settings"] (spSz C)) :
    FnOk P w K mg base CX0 4 f fd ["row", "settings", "place"] (spCI C) := by
  refine F.ok scCI (fun vs H Q E h => ?_) (fun cdv A outer s H vs Q E hr h => ?_)
  · obtain ⟨r, t, n, l, m, g, p, ms, ss, rfl, _⟩ := h
    rfl
  · obtain ⟨r, t, n, l, m, g, p, ms, ss, rfl, hR, p0, pn, q⟩ := h
    refine ⟨_, (pss_cons (ps_expr (pe_call GA (hr.mono (by decide)) rfl gA kA bA .nil pass0 (pa_cons (pv 1) pa_nil)))
        (pss_cons (ps_expr (pe_call GB (hr.mono (by decide)) rfl gB kB bB .nil pass0 (pa_cons (pv 2) (pa_cons pe_int (pa_cons (pe_op op_sub (pe_prop (pv 0) R.cl Gs.hL Gs.GL (hr.mono (by decide)) Gs.bL .nil pass0 rfl) pe_int) pa_nil)))))
        (pss_one (ps_expr (pe_call GZ (hr.mono (by decide)) rfl gZ kZ bZ .nil pass0 (pa_cons (pv 0) (pa_cons (pv 1) pa_nil))))))), ?_⟩
    refine ⟨_, rfl, t, l, m, g, rfl, hR.tup, hR.set, fun H1 s1 => ?_⟩
    have R1 := hR.same s1
    obtain ⟨dx, x1, x2, ho⟩ := rowAt_len R1.row
    refine ⟨_, rfl, _, rfl, r, dx, _, rfl, ho, r, n, ms, ss, rfl, R1.row, _, _, rfl, rfl, p, 0, n - 1, rfl, p0, by omega, ?_⟩
    refine ⟨_, rfl, _, rfl, r, t, n, l, m, g, ms, ss, rfl, R1.row, R1.tup, R1.big, q H1 s1⟩
abbrev NSC : List Str := ["row", "settings", "place", "cuts"]
theorem scSC : FnScope NSC ["row", "settings", "place"] (defScope sSC) := ⟨rfl, rfl, rfl, by decide +kernel, rfl, by decide +kernel, by decide +kernel⟩
theorem ok_sc {f C fI fU fX fE : Addr} {fd fdI fdU fdX fdE : FuncData} {T : List (Addr × Str)} (F : Fun K "sure_cut" "sure_cut" sSC f fd)
    (gI : mg "check_inner" = some (.ref fI)) (kI : PySem.W.keepIn K (.ref fI) = true) (bI : Binds K fdI ["row", "settings", "place"] []) (GI : FnOk P w K mg base CX0 4 fI fdI ["row", "settings", "place"] (spCI C))
    (gU : mg "cuts_from" = some (.ref fU)) (kU : PySem.W.keepIn K (.ref fU) = true) (bU : Binds K fdU ["row", "settings", "start"] []) (GU : FnOk P w K mg base CX0 4 fU fdU ["row", "settings", "start"] (spCuts C))
    (gX : mg "first_common" = some (.ref fX)) (kX : PySem.W.keepIn K (.ref fX) = true) (bX : Binds K fdX ["row", "settings", "cuts", "ranges"] []) (GX : FnOk P w K mg base CX0 9 fX fdX ["row", "settings", "cuts", "ranges"] (spFC C T))
    (gE : mg "entries_at" = some (.ref fE)) (kE : PySem.W.keepIn K (.ref fE) = true) (bE : Binds K fdE ["row", "settings", "place"] []) (GE : FnOk P w K mg base CX0 8 fE fdE ["row", "settings", "place"] (spEnt C)) :
    FnOk P w K mg base CX0 10 f fd ["row", "settings", "place"] (spSC C T) := by
  refine F.ok scSC (fun vs H Q E h => ?_) (fun cdv A outer s H vs Q E hr h => ?_)
  · obtain ⟨r, t, n, l, m, g, p, ms, ss, rfl, _⟩ := h
    rfl
  · obtain ⟨r, t, n, l, m, g, p, ms, ss, rfl, hR, p0, pn, few, hT, q⟩ := h
    refine ⟨_, (pss_cons (ps_expr (pe_call GI (hr.mono (by decide)) rfl gI kI bI .nil pass0 (pa_cons (pv 0) (pa_cons (pv 1) (pa_cons (pv 2) pa_nil)))))
        (pss_cons (ps_set (i := 3) scSC.nd rfl (Or.inl rfl) (pe_call GU (hr.mono (by decide)) rfl gU kU bU .nil pass0 (pa_cons (pv 0) (pa_cons (pv 1) (pa_cons (pv 2) pa_nil)))))
        (pss_one (ps_ret (pe_ix (r := rIxL K) ix_list (pv 3) (pe_call GX (hr.mono (by decide)) rfl gX kX bX .nil pass0 (pa_cons (pv 0) (pa_cons (pv 1) (pa_cons (pv 3) (pa_cons (pe_call GE (hr.mono (by decide)) rfl gE kE bE .nil pass0 (pa_cons (pv 0) (pa_cons (pv 1) (pa_cons (pv 2) pa_nil)))) pa_nil))))) (fun _ _ => rfl)))))), ?_⟩
    have G := hR.good
    have S := hR.set
    refine ⟨_, rfl, _, rfl, _, rfl, r, t, n, l, m, g, p, ms, ss, rfl, hR, p0, pn, fun H1 s1 => ?_⟩
    have R1 := hR.same s1
    refine ⟨_, rfl, _, rfl, _, rfl, r, t, n, l, m, g, p, ms, ss, rfl, R1.row, R1.tup, G, S, R1.big, p0, by omega, fun c H2 k s2 nc wk ic => ?_⟩
    have R2 := R1.same s2
    try dsimp only [L2.start, List.set, List.map, List.append, List.replicate, List.length]
    refine ⟨_, rfl, _, rfl, _, rfl, _, rfl, _, rfl, _, rfl, _, rfl, r, t, n, l, m, g, p, ms, ss, rfl, R2.row, R2.tup, G, S, p0, pn, few, fun a H3 us rs s3 na ha hr3 can mem _ => ?_⟩
    have R3 := R2.same s3
    have s13 := (s1.trans s2).trans s3
    have ic := s3 _ _ ic
    refine ⟨r, t, c, a, n, l, m, g, p, k, ms, ss, us, rs, rfl, R3, p0, by omega, ic, wk, ha, hr3, can.asc, fun z hz => ?_, hT.ext s13, fun i H4 ik all none e4 T4 => ?_⟩
    · have := Ent.rng G S (by omega) ((mem z).mp hz)
      omega
    · refine ⟨c, _, _, _, rfl, rfl, SqL.of (IL.ext ic e4), at_of2 (j := i) rfl (by unfold wl; rw [List.getElem?_map, List.getElem?_map, List.getElem?_range (by omega)]; rfl), ?_⟩
      exact q H4 i ⟨fun z hz => all z ((mem z).mpr hz), fun j hj h => none j hj fun z hz => h z ((mem z).mp hz)⟩ ((ExtN.of s13).trans e4) T4
end
end Cw
namespace Cw
open PySem L2
abbrev sPF : Stmt := top 17
abbrev sSV : Stmt := top 49
abbrev sMF : Stmt := top 50
abbrev sFW : Stmt := top 47
abbrev sHM : Stmt := top 48
abbrev sDu : Stmt := top 55
abbrev sMkd : Stmt := top 56
/-- how many marks take many walks away if each takes at most so many -/
def mk4 (many each : Int) : Option Int := if many = 0 then some 0 else if each = 0 then none else some ((many + each - 1) / each)
def oV : Option Int → V
  | some x => .int x
  | none => .non
abbrev svOf (b : Bool) (l m : Int) : Int := if b = true then l else m
theorem div_ok {i b : Int} (b0 : 0 < b) (b1 : b < 2 ^ 110) : CDivW i b := wide_div b0 (b := 110) (by
  have e : ((2 ^ 110 : Nat) : Int) = 2 ^ 110 := by norm_cast
  omega) (by decide) (by decide)
def spPF : Sp := fun vs H Q _ => ∃ p lo : Int, vs = [.int p, .int lo] ∧ lo ≤ p ∧ Q .non H
def spSV : Sp := fun vs H Q _ => ∃ (t : Addr) (l m g : Int) (b : Bool), vs = [.ref t, .bl b] ∧ H t = some (.tup [.int l, .int m, .int g]) ∧ Q (.int (svOf b l m)) H
def spMF : Sp := fun vs H Q _ => ∃ a b : Int, vs = [.int a, .int b] ∧ 0 ≤ a ∧ a < 2 ^ 110 ∧ 0 ≤ b ∧ b < 2 ^ 110 ∧ Q (oV (mk4 a b)) H
def spFW : Sp := fun vs H Q _ => ∃ (t : Addr) (l m g : Int) (b : Bool), vs = [.ref t, .bl b] ∧ H t = some (.tup [.int l, .int m, .int g]) ∧ SetOk l m g ∧ g < 2 ^ 110 ∧ ∀ H', Same H H' → Q (oV (mk4 (g - 1) (g - svOf b l m))) H'
/-- the marks that help -/
def hms (p g step : Int) (k : Nat) : List Int := (List.range k).map fun (i : Nat) => p + g + (0 + (i : Int)) * step
def spHM : Sp := fun vs H Q _ => ∃ (t : Addr) (l m g p : Int) (b : Bool) (k : Nat), vs = [.ref t, .int p, .bl b] ∧ H t = some (.tup [.int l, .int m, .int g]) ∧ SetOk l m g ∧ g < 2 ^ 110 ∧ 0 ≤ p ∧ mk4 (g - 1) (g - svOf b l m) = some (k : Int) ∧ k ≤ 400 ∧
  ∀ q H', Same H H' → H q = none → IL H' q (hms p g (svOf b l m) k) → Q (.ref q) H'
def spDu : Sp := fun vs H Q _ => ∃ (t : Addr) (l m g : Int) (b : Bool), vs = [.ref t, .bl b] ∧ H t = some (.tup [.int l, .int m, .int g]) ∧ SetOk l m g ∧ g < 2 ^ 110 ∧ Q (oV (mk4 (g - 1) (g - svOf b l m))) H
def spMkd (C : Addr) : Sp := fun vs H Q _ => ∃ (n : Int) (a : Addr) (b : Bool) (ms : List Int), vs = [.int n, .ref a, .bl b] ∧ IL H a ms ∧ Good n ms ms ∧ ∀ q H', Same H H' → RowAt C H' q n ms (if b = true then ms else []) → Q (.ref q) H'
theorem sv_in {b : Bool} {l m g : Int} (S : SetOk l m g) : 1 ≤ svOf b l m ∧ svOf b l m ≤ g := by
  have h1 := S.l1
  have h2 := S.lm
  have h3 := S.mg
  cases b
  · exact ⟨by show 1 ≤ m; omega, by show m ≤ g; omega⟩
  · exact ⟨by show 1 ≤ l; omega, by show l ≤ g; omega⟩
section
variable {P : Program} {w : World} {K : PySem.W.Frag} {mg : Str → Option Value} {base : Heap}
abbrev NPF : List Str := ["place", "low"]
theorem scPF : FnScope NPF ["place", "low"] (defScope sPF) := ⟨rfl, rfl, rfl, by decide +kernel, rfl, by decide +kernel, by decide +kernel⟩
theorem ok_pf {f fI : Addr} {fd fdI : FuncData} (F : Fun K "check_place_from" "check_place_from" sPF f fd)
    (gI : mg "is_integer" = some (.ref fI)) (kI : PySem.W.keepIn K (.ref fI) = true) (bI : Binds K fdI ["thing"] []) (GI : FnOk P w K mg base CX0 1 fI fdI ["thing"] spOne) :
    FnOk P w K mg base CX0 2 f fd ["place", "low"] (spPF) := by
  refine F.ok scPF (fun vs H Q E h => ?_) (fun cdv A outer s H vs Q E hr h => ?_)
  · obtain ⟨p, lo, rfl, _⟩ := h
    rfl
  · obtain ⟨p, lo, rfl, p0, q⟩ := h
    refine ⟨_, (pss_one (ps_if (PW.pt (pw_or (pt_not (pt_truth (pe_call GI (hr.mono (by decide)) rfl gI kI bI .nil pass0 (pa_cons (pv 0) pa_nil)) (by intro _; rfl))) (pw_or1 (pt_cmpR op_lt (pv 0) (pv 1) (nomark _))))) pss_never pss_nil)), ?_⟩
    refine ⟨_, rfl, _, rfl, _, rfl, ?_⟩
    refine ifF rfl ?_
    refine ⟨_, rfl, _, rfl, _, _, rfl, rfl, _, rfl, ?_⟩
    refine ifF (decide_eq_false (by omega)) ?_
    exact q
abbrev NSV : List Str := ["settings", "is_strict"]
theorem scSV : FnScope NSV ["settings", "is_strict"] (defScope sSV) := ⟨rfl, rfl, rfl, by decide +kernel, rfl, by decide +kernel, by decide +kernel⟩
theorem ok_sv {f : Addr} {fd : FuncData} (F : Fun K "serving_from" "serving_from" sSV f fd) :
    FnOk P w K mg base CX0 1 f fd ["settings", "is_strict"] (spSV) := by
  refine F.ok scSV (fun vs H Q E h => ?_) (fun cdv A outer s H vs Q E hr h => ?_)
  · obtain ⟨t, l, m, g, b, rfl, _⟩ := h
    rfl
  · obtain ⟨t, l, m, g, b, rfl, ht, q⟩ := h
    refine ⟨_, (pss_one (ps_ret (pe_ifExp (pt_val (pv 1)) (pe_ix (r := rIxT K) ix_tup (pv 0) pe_int (fun _ _ => rfl)) (pe_ix (r := rIxT K) ix_tup (pv 0) pe_int (fun _ _ => rfl))))), ?_⟩
    refine ⟨_, rfl, _, rfl, ?_⟩
    cases b
    · refine ifF rfl ?_
      exact ⟨_, rfl, t, _, _, _, rfl, rfl, SqT.of ht, at_of2 (j := 1) rfl rfl, q⟩
    · refine ifT rfl ?_
      exact ⟨_, rfl, t, _, _, _, rfl, rfl, SqT.of ht, at_of2 (j := 0) rfl rfl, q⟩
abbrev NMF : List Str := ["many", "each"]
theorem scMF : FnScope NMF ["many", "each"] (defScope sMF) := ⟨rfl, rfl, rfl, by decide +kernel, rfl, by decide +kernel, by decide +kernel⟩
theorem ok_mf {f : Addr} {fd : FuncData} (F : Fun K "marks_for" "marks_for" sMF f fd) :
    FnOk P w K mg base CX0 1 f fd ["many", "each"] (spMF) := by
  refine F.ok scMF (fun vs H Q E h => ?_) (fun cdv A outer s H vs Q E hr h => ?_)
  · obtain ⟨a, b, rfl, _⟩ := h
    rfl
  · obtain ⟨a, b, rfl, a0, a1, b0, b1, q⟩ := h
    refine ⟨_, (pss_cons (ps_if (pt_cmpR op_eq (pv 0) pe_int (nomark _)) (pss_one (ps_ret pe_int)) pss_nil)
        (pss_cons (ps_if (pt_cmpR op_eq (pv 1) pe_int (nomark _)) (pss_one (ps_ret pe_non)) pss_nil)
        (pss_one (ps_ret (pe_op op_fdivW (pe_op op_sub (pe_op op_add (pv 0) (pv 1)) pe_int) (pv 1)))))), ?_⟩
    refine ⟨_, rfl, rfl, _, rfl, ?_⟩
    unfold mk4 at q
    by_cases c : a = 0
    · refine ifT (decide_eq_true (by rw [c])) ?_
      rw [if_pos c] at q
      exact q
    · refine ifF (decide_eq_false fun z => c (V.int.inj z)) ?_
      rw [if_neg c] at q
      refine ⟨_, rfl, rfl, _, rfl, ?_⟩
      by_cases c2 : b = 0
      · refine ifT (decide_eq_true (by rw [c2])) ?_
        rw [if_pos c2] at q
        exact q
      · refine ifF (decide_eq_false fun z => c2 (V.int.inj z)) ?_
        rw [if_neg c2] at q
        exact ⟨_, rfl, _, rfl, _, _, rfl, rfl, _, _, rfl, rfl, _, rfl, _, _, rfl, rfl, div_ok (by omega) b1, q⟩
abbrev NFW : List Str := ["settings", "is_strict"]
theorem scFW : FnScope NFW ["settings", "is_strict"] (defScope sFW) := ⟨rfl, rfl, rfl, by decide +kernel, rfl, by decide +kernel, by decide +kernel⟩
theorem ok_fw {f fS fV fM : Addr} {fd fdS fdV fdM : FuncData} (F : Fun K "fewest_marks" "fewest_marks" sFW f fd)
    (gS : mg "check_settings" = some (.ref fS)) (kS : PySem.W.keepIn K (.ref fS) = true) (bS : Binds K fdS ["settings"] []) (GS : FnOk P w K mg base CX0 2 fS fdS ["settings"] spCSet)
    (gV : mg "serving_from" = some (.ref fV)) (kV : PySem.W.keepIn K (.ref fV) = true) (bV : Binds K fdV ["settings", "is_strict"] []) (GV : FnOk P w K mg base CX0 1 fV fdV ["settings", "is_strict"] spSV)
    (gM : mg "marks_for" = some (.ref fM)) (kM : PySem.W.keepIn K (.ref fM) = true) (bM : Binds K fdM ["many", "each"] []) (GM : FnOk P w K mg base CX0 1 fM fdM ["many", "each"] spMF) :
    FnOk P w K mg base CX0 3 f fd ["settings", "is_strict"] (spFW) := by
  refine F.ok scFW (fun vs H Q E h => ?_) (fun cdv A outer s H vs Q E hr h => ?_)
  · obtain ⟨t, l, m, g, b, rfl, _⟩ := h
    rfl
  · obtain ⟨t, l, m, g, b, rfl, ht, S, big, q⟩ := h
    refine ⟨_, (pss_cons (ps_expr (pe_call GS (hr.mono (by decide)) rfl gS kS bS .nil pass0 (pa_cons (pv 0) pa_nil)))
        (pss_one (ps_ret (pe_call GM (hr.mono (by decide)) rfl gM kM bM .nil pass0 (pa_cons (pe_op op_sub (pe_ix (r := rIxT K) ix_tup (pv 0) pe_int (fun _ _ => rfl)) pe_int) (pa_cons (pe_op op_sub (pe_ix (r := rIxT K) ix_tup (pv 0) pe_int (fun _ _ => rfl)) (pe_call GV (hr.mono (by decide)) rfl gV kV bV .nil pass0 (pa_cons (pv 0) (pa_cons (pv 1) pa_nil)))) pa_nil)))))), ?_⟩
    have e := sv_in (b := b) S
    refine ⟨_, rfl, t, l, m, g, rfl, ht, S, fun H1 s1 => ?_⟩
    have ht1 := s1 _ _ ht
    refine ⟨_, rfl, t, _, _, _, rfl, rfl, SqT.of ht1, at_of2 (j := 2) rfl rfl, _, _, rfl, rfl, ?_⟩
    refine ⟨_, rfl, t, _, _, _, rfl, rfl, SqT.of ht1, at_of2 (j := 2) rfl rfl, _, rfl, _, rfl, t, l, m, g, b, rfl, ht1, _, _, rfl, rfl, ?_⟩
    exact ⟨g - 1, g - svOf b l m, rfl, by omega, by omega, by omega, by omega, q H1 s1⟩
abbrev NHM : List Str := ["settings", "place", "is_strict", "between", "many", "number"]
theorem scHM : FnScope NHM ["settings", "place", "is_strict"] (defScope sHM) := ⟨rfl, rfl, rfl, by decide +kernel, rfl, by decide +kernel, by decide +kernel⟩
theorem ok_hm {f fS fP fV fM : Addr} {fd fdS fdP fdV fdM : FuncData} (F : Fun K "helping_marks" "helping_marks" sHM f fd) {tok : Tok} (T : Bl mg) (gMM : mg "MOST_MARKS" = some (.int 400 tok))
    (gS : mg "check_settings" = some (.ref fS)) (kS : PySem.W.keepIn K (.ref fS) = true) (bS : Binds K fdS ["settings"] []) (GS : FnOk P w K mg base CX0 2 fS fdS ["settings"] spCSet)
    (gP : mg "check_place_from" = some (.ref fP)) (kP : PySem.W.keepIn K (.ref fP) = true) (bP : Binds K fdP ["place", "low"] []) (GP : FnOk P w K mg base CX0 2 fP fdP ["place", "low"] spPF)
    (gV : mg "serving_from" = some (.ref fV)) (kV : PySem.W.keepIn K (.ref fV) = true) (bV : Binds K fdV ["settings", "is_strict"] []) (GV : FnOk P w K mg base CX0 1 fV fdV ["settings", "is_strict"] spSV)
    (gM : mg "marks_for" = some (.ref fM)) (kM : PySem.W.keepIn K (.ref fM) = true) (bM : Binds K fdM ["many", "each"] []) (GM : FnOk P w K mg base CX0 1 fM fdM ["many", "each"] spMF) :
    FnOk P w K mg base CX0 3 f fd ["settings", "place", "is_strict"] (spHM) := by
  refine F.ok scHM (fun vs H Q E h => ?_) (fun cdv A outer s H vs Q E hr h => ?_)
  · obtain ⟨t, l, m, g, p, b, k, rfl, _⟩ := h
    rfl
  · obtain ⟨t, l, m, g, p, b, k, rfl, ht, S, big, p0, hk, k4, q⟩ := h
    refine ⟨_, (pss_cons (ps_expr (pe_call GS (hr.mono (by decide)) rfl gS kS bS .nil pass0 (pa_cons (pv 0) pa_nil)))
        (pss_cons (ps_expr (pe_call GP (hr.mono (by decide)) rfl gP kP bP .nil pass0 (pa_cons (pv 1) (pa_cons pe_int pa_nil))))
        (pss_cons (ps_set (i := 3) scHM.nd rfl (Or.inr rfl) (pe_call GV (hr.mono (by decide)) rfl gV kV bV .nil pass0 (pa_cons (pv 0) (pa_cons (pv 2) pa_nil))))
        (pss_cons (ps_set (i := 4) scHM.nd rfl (Or.inl rfl) (pe_call GM (hr.mono (by decide)) rfl gM kM bM .nil pass0 (pa_cons (pe_op op_sub (pe_ix (r := rIxT K) ix_tup (pv 0) pe_int (fun _ _ => rfl)) pe_int) (pa_cons (pe_op op_sub (pe_ix (r := rIxT K) ix_tup (pv 0) pe_int (fun _ _ => rfl)) (pv 3)) pa_nil))))
        (pss_cons (ps_if (PW.pt (pw_or (pt_cmpR op_isN (pv 4) pe_non (nomark _)) (pw_or1 (pt_cmpR op_gt (pv 4) (pe_glob (by rfl) gMM (v := V.int 400) ⟨_, rfl⟩) (nomark _))))) pss_never pss_nil)
        (pss_one (ps_ret (pe_lc (own := [("number", 5)]) (g := (gName 5)) (tt := tYes) rfl scHM.nd (pi_range1 (by rfl) T.range (pa_cons (pv 4) pa_nil)) (blkOk_by (own := [("number", 5)]) (N := NHM) (sc := defScope sHM) (by decide +kernel)) (fun _ _ _ _ _ => (pg_name (i := 5) scHM.nd rfl (Or.inl rfl))) (fun _ _ _ _ _ => pts_nil) (fun _ _ _ _ _ => (pe_op op_add (pe_op op_add (pv 1) (pe_ix (r := rIxT K) ix_tup (pv 0) pe_int (fun _ _ => rfl))) (pe_op op_mul (pv 5) (pv 3)))))))))))), ?_⟩
    have e := sv_in (b := b) S
    refine ⟨_, rfl, t, l, m, g, rfl, ht, S, fun H1 s1 => ?_⟩
    have ht1 := s1 _ _ ht
    refine ⟨_, rfl, p, 0, rfl, p0, ?_⟩
    refine ⟨_, rfl, _, rfl, t, l, m, g, b, rfl, ht1, ?_⟩
    try dsimp only [L2.start, List.set, List.map, List.append, List.replicate, List.length]
    refine ⟨_, rfl, t, _, _, _, rfl, rfl, SqT.of ht1, at_of2 (j := 2) rfl rfl, _, _, rfl, rfl, ?_⟩
    refine ⟨_, rfl, t, _, _, _, rfl, rfl, SqT.of ht1, at_of2 (j := 2) rfl rfl, _, rfl, _, _, rfl, rfl, ?_⟩
    refine ⟨g - 1, g - svOf b l m, rfl, by omega, by omega, by omega, by omega, ?_⟩
    rw [hk]
    try dsimp only [L2.start, List.set, List.map, List.append, List.replicate, List.length]
    refine ⟨_, rfl, rfl, _, rfl, ?_⟩
    refine ifF rfl ?_
    refine ⟨_, rfl, _, _, rfl, rfl, _, rfl, ?_⟩
    refine ifF (decide_eq_false (by omega)) ?_
    refine ⟨_, rfl, _, rfl, by omega, by omega, fun D hD => ?_⟩
    refine lc_range (lo := 0) (n := Int.toNat _) (fun i H' => Same H1 H' ∧ IL H' D (hms p g (svOf b l m) i)) ⟨same_new (Same.refl H1) hD, upd_same⟩ ?_ ?_
    · rintro i H2 hi ⟨s2, hE⟩
      refine ⟨rfl, ?_⟩
      unfold tYes
      refine iteT ?_
      refine ⟨_, rfl, _, rfl, t, _, _, _, rfl, rfl, SqT.of (s2 _ _ ht1), at_of2 (j := 2) rfl rfl, _, _, rfl, rfl, _, rfl, _, rfl, _, _, rfl, rfl, .inl ⟨by omega, by omega⟩, _, _, rfl, rfl, ?_⟩
      refine ⟨_, hE, by unfold hms; rw [List.length_map, List.length_map, List.length_range]; exact small1000 (by omega), same_put s2 hD, ?_⟩
      show upd _ _ _ D = _
      rw [upd_same, ints_app]
      unfold hms
      simp only [List.range_succ, List.map_append]
      rfl
    · rintro H2 ⟨s2, hE⟩
      exact q D H2 (s1.trans s2) (s1.free hD) hE
abbrev NDu : List Str := ["three", "strong", "spread"]
theorem scDu : FnScope NDu ["three", "strong"] (defScope sDu) := ⟨rfl, rfl, rfl, by decide +kernel, rfl, by decide +kernel, by decide +kernel⟩
theorem ok_du {f : Addr} {fd : FuncData} (F : Fun K "_law_due" "_law_due" sDu f fd) (T : Bl mg) :
    FnOk P w K mg base CX0 1 f fd ["three", "strong"] (spDu) := by
  refine F.ok scDu (fun vs H Q E h => ?_) (fun cdv A outer s H vs Q E hr h => ?_)
  · obtain ⟨t, l, m, g, b, rfl, _⟩ := h
    rfl
  · obtain ⟨t, l, m, g, b, rfl, ht, S, big, q⟩ := h
    refine ⟨_, (pss_cons (ps_set (i := 2) scDu.nd rfl (Or.inl rfl) (pe_op op_sub (pe_ix (r := rIxT K) ix_tup (pv 0) pe_int (fun _ _ => rfl)) (pe_ix (r := rIxT K) ix_tup (pv 0) (pe_callTy call_int1 (by rfl) T.int (by decide +kernel) (pa_cons (pe_not (pv 1)) pa_nil)) (fun _ _ => rfl))))
        (pss_cons (ps_if (pt_cmpR op_eq (pe_ix (r := rIxT K) ix_tup (pv 0) pe_int (fun _ _ => rfl)) pe_int (nomark _)) (pss_one (ps_ret pe_int)) pss_nil)
        (pss_one (ps_ret (pe_ifExp (pt_cmpR op_eq (pv 2) pe_int (nomark _)) pe_non (pe_op op_fdivW (pe_op op_sub (pe_op op_add (pe_op op_sub (pe_ix (r := rIxT K) ix_tup (pv 0) pe_int (fun _ _ => rfl)) pe_int) (pv 2)) pe_int) (pv 2))))))), ?_⟩
    have e := sv_in (b := b) S
    have eg : (V.int g = V.int 1) ↔ g - 1 = 0 := by
      rw [V.int.injEq]
      omega
    unfold mk4 at q
    have rest : ∀ H', (H' = H) → tSeq (tIfS (tTest (tOp rEq (tOp (rIxT K) (tVar 0) (tC (V.int 2))) (tC (V.int 1)))) (tRet (tC (V.int 0))) tNext)
      (tRet
        (tIf (tTest (tOp rEq (tVar 2) (tC (V.int 0)))) (tC V.non)
          (tOp (rI CDivW fun i j => V.int (i / j))
            (tOp (rI0 fun i j => V.int (i - j))
              (tOp (rI0 fun i j => V.int (i + j))
                (tOp (rI0 fun i j => V.int (i - j)) (tOp (rIxT K) (tVar 0) (tC (V.int 2))) (tC (V.int 1))) (tVar 2))
              (tC (V.int 1)))
            (tVar 2)))) { nx := fun x H' => Q V.non H', rt := Q } [some (.ref t), some (.bl b), some (.int (g - svOf b l m))] H' := fun H' eH => by
      subst eH
      refine ⟨_, rfl, t, _, _, _, rfl, rfl, SqT.of ht, at_of2 (j := 2) rfl rfl, rfl, _, rfl, ?_⟩
      by_cases c : g - 1 = 0
      · refine ifT (decide_eq_true (eg.mpr c)) ?_
        rw [if_pos c] at q
        exact q
      · refine ifF (decide_eq_false fun z => c (eg.mp z)) ?_
        rw [if_neg c] at q
        refine ⟨_, rfl, rfl, _, rfl, ?_⟩
        by_cases c2 : g - svOf b l m = 0
        · refine ifT (decide_eq_true (by rw [c2])) ?_
          rw [if_pos c2] at q
          exact q
        · refine ifF (decide_eq_false fun z => c2 (V.int.inj z)) ?_
          rw [if_neg c2] at q
          exact ⟨_, rfl, t, _, _, _, rfl, rfl, SqT.of ht, at_of2 (j := 2) rfl rfl, _, _, rfl, rfl, _, rfl, _, _, rfl, rfl, _, _, rfl, rfl, _, rfl, _, _, rfl, rfl, div_ok (by omega) (by omega), q⟩
    refine ⟨_, rfl, t, _, _, _, rfl, rfl, SqT.of ht, at_of2 (j := 2) rfl rfl, _, rfl, _, rfl, _, rfl, .inr ⟨_, rfl, ?_⟩⟩
    cases b
    · exact ⟨t, _, _, _, rfl, rfl, SqT.of ht, at_of2 (j := 1) rfl rfl, _, _, rfl, rfl, rest H rfl⟩
    · exact ⟨t, _, _, _, rfl, rfl, SqT.of ht, at_of2 (j := 0) rfl rfl, _, _, rfl, rfl, rest H rfl⟩
abbrev NMkd : List Str := ["length", "spots", "strong"]
theorem scMkd : FnScope NMkd ["length", "spots", "strong"] (defScope sMkd) := ⟨rfl, rfl, rfl, by decide +kernel, rfl, by decide +kernel, by decide +kernel⟩
theorem ok_mkd {f C fN : Addr} {fd fdN : FuncData} (F : Fun K "_law_marked" "_law_marked" sMkd f fd) (R : Cl K mg C) (M : Mk K C fN) (bN : Binds K fdN NI []) (GN : FnOk P w K mg base CX0 5 fN fdN NI (spInit C)) :
    FnOk P w K mg base CX0 7 f fd ["length", "spots", "strong"] (spMkd C) := by
  refine F.ok scMkd (fun vs H Q E h => ?_) (fun cdv A outer s H vs Q E hr h => ?_)
  · obtain ⟨n, a, b, ms, rfl, _⟩ := h
    rfl
  · obtain ⟨n, a, b, ms, rfl, hA, G, q⟩ := h
    refine ⟨_, (pss_one (ps_ret (pe_make M GN (hr.mono (by decide)) rfl R.mgR bN .nil pass0 (pa_cons (pv 0) (pa_cons (pv 1) (pa_cons (pe_ifExp (pt_val (pv 2)) (pv 1) (pe_lst pa_nil)) pa_nil)))))), ?_⟩
    have gg : Good n ms (if b = true then ms else []) := by
      cases b
      · exact { pos := G.pos, len := G.len, rng := G.rng, asc := G.asc, asc2 := List.Pairwise.nil, sub := fun x h => (nomatch h) }
      · exact G
    refine ⟨_, rfl, _, rfl, _, rfl, _, rfl, ?_⟩
    have fin : ∀ (H1 : Hp) (a2 : Addr), Same H H1 → IL H1 a2 (if b = true then ms else []) → ∀ x dx : Addr, H1 x = none → H1 dx = none → dx ≠ x → spInit C [.ref x, .int n, .ref a, .ref a2] (upd (upd H1 dx (.own x)) x (.ins C dx [])) (fun v H2 => v = .non ∧ Q (.ref x) H2) E0 := fun H1 a2 s1 i2 x dx nx nd ne => by
      have s3 : Same H1 (upd (upd H1 dx (.own x)) x (.ins C dx [])) := same_new (same_new (Same.refl H1) nd) (by rw [upd_ne (Ne.symm ne)]; exact nx)
      exact ⟨x, dx, a, a2, n, _, _, rfl, upd_same, s3 _ _ (s1 _ _ hA), s3 _ _ i2, gg, fun H3 row kp => ⟨rfl, q x H3 (s1.trans (same_ins (Same.refl H1) nx nd kp)) row.at⟩⟩
    cases b
    · refine ifF rfl ?_
      refine ⟨Nat.zero_le _, fun e he x dx nx nd ne => ?_⟩
      exact fin _ e (same_new (Same.refl H) he) upd_same x dx nx nd ne
    · refine ifT rfl ?_
      exact ⟨_, rfl, fun x dx nx nd ne => fin H a (Same.refl H) hA x dx nx nd ne⟩
end
end Cw
namespace Cw
open PySem L2
/-! ## rows whose marks are all of one strength -/
structure NxP (n : Int) (ms ss : List Int) (l m g p v : Int) : Prop where
  top : v ≤ n
  far : v ≤ p + g
  st : ∀ x ∈ ss, p + l ≤ x → v ≤ x
  pl : ∀ x ∈ ms, p + m ≤ x → v ≤ x
  is : v = n ∨ v = p + g ∨ (v ∈ ss ∧ p + l ≤ v) ∨ (v ∈ ms ∧ p + m ≤ v)
theorem nx_props {n l m g p : Int} {ms ss : List Int} (G : Good n ms ss) : NxP n ms ss l m g p (nx n ms ss l m g p) := by
  have a := fm_or G.asc2 (p + l) n
  have b := fm_or G.asc (p + m) n
  refine ⟨by unfold nx; omega, by unfold nx; omega, fun x hx h => ?_, fun x hx h => ?_, ?_⟩
  · have := fm_le G.asc2 (e := n) hx h
    unfold nx
    omega
  · have := fm_le G.asc (e := n) hx h
    unfold nx
    omega
  · have d : nx n ms ss l m g p = fm ss (p + l) n ∨ nx n ms ss l m g p = fm ms (p + m) n ∨ nx n ms ss l m g p = p + g ∨ nx n ms ss l m g p = n := by
      unfold nx
      omega
    rcases d with d | d | d | d
    · rcases a with ⟨h, h2⟩ | ⟨h, _⟩
      · exact .inr (.inr (.inl (by rw [d]; exact ⟨h, h2⟩)))
      · exact .inl (d.trans h)
    · rcases b with ⟨h, h2⟩ | ⟨h, _⟩
      · exact .inr (.inr (.inr (by rw [d]; exact ⟨h, h2⟩)))
      · exact .inl (d.trans h)
    · exact .inr (.inl d)
    · exact .inl d
structure NxS (n : Int) (ms : List Int) (st g p v : Int) : Prop where
  top : v ≤ n
  far : v ≤ p + g
  mks : ∀ x ∈ ms, p + st ≤ x → v ≤ x
  is : v = n ∨ v = p + g ∨ (v ∈ ms ∧ p + st ≤ v)
theorem NxS.one {n st g p u v : Int} {ms : List Int} (a : NxS n ms st g p u) (b : NxS n ms st g p v) : u = v := by
  have h1 : u ≤ v := by
    rcases b.is with d | d | ⟨d, d2⟩
    · rw [d]; exact a.top
    · rw [d]; exact a.far
    · exact a.mks _ d d2
  have h2 : v ≤ u := by
    rcases a.is with d | d | ⟨d, d2⟩
    · rw [d]; exact b.top
    · rw [d]; exact b.far
    · exact b.mks _ d d2
  omega
abbrev ssOf (b : Bool) (ms : List Int) : List Int := if b = true then ms else []
theorem nx_s {n l m g p : Int} {ms : List Int} {b : Bool} (G : Good n ms (ssOf b ms)) (S : SetOk l m g) : NxS n ms (svOf b l m) g p (nx n ms (ssOf b ms) l m g p) := by
  have P := nx_props (l := l) (m := m) (g := g) (p := p) G
  have lm := S.lm
  cases b
  · refine ⟨P.top, P.far, fun x hx h => P.pl x hx h, ?_⟩
    rcases P.is with d | d | ⟨d, _⟩ | d
    · exact .inl d
    · exact .inr (.inl d)
    · cases d
    · exact .inr (.inr d)
  · refine ⟨P.top, P.far, fun x hx h => P.st x hx h, ?_⟩
    rcases P.is with d | d | d | ⟨d, d2⟩
    · exact .inl d
    · exact .inr (.inl d)
    · exact .inr (.inr d)
    · exact .inr (.inr ⟨d, by show p + l ≤ _; omega⟩)
theorem nxs_is {n l m g p v : Int} {ms : List Int} {b : Bool} (G : Good n ms (ssOf b ms)) (S : SetOk l m g) (h : NxS n ms (svOf b l m) g p v) : nx n ms (ssOf b ms) l m g p = v := (nx_s G S).one h
theorem abv_all {ms : List Int} {p : Int} (h : ∀ x ∈ ms, p < x) : abv ms p = ms := List.filter_eq_self.mpr fun x hx => decide_eq_true (h x hx)
/-- the entries where all marks lie behind those of the empty row -/
theorem ent_s {n l m g p z : Int} {ms : List Int} {b : Bool} (G : Good n ms (ssOf b ms)) (S : SetOk l m g) (far : ∀ x ∈ ms, p + g ≤ x) (np : p + g < n) :
    Ent n ms (ssOf b ms) l m g p z ↔ p ≤ z ∧ z < p + g := by
  have l1 := S.l1
  have e := sv_in (b := b) S
  have a1 : abv ms p = ms := abv_all fun x hx => by have := far x hx; omega
  have a2 : abv (ssOf b ms) p = ssOf b ms := abv_all fun x hx => by have := far x (G.sub x hx); omega
  unfold Ent
  rw [a1, a2]
  constructor
  · rintro (rfl | ⟨y, h1, h2, rfl⟩)
    · have := S.lm
      have := S.mg
      omega
    · have N := nx_s (p := y) G S
      have := N.far
      refine ⟨?_, by omega⟩
      rcases N.is with d | d | ⟨d, _⟩
      · omega
      · omega
      · have := far _ d
        omega
  · rintro ⟨h1, h2⟩
    by_cases c : z = p
    · exact .inl c
    · refine .inr ⟨z - g, by omega, by omega, nxs_is G S ⟨by omega, by omega, fun x hx _ => by have := far x hx; omega, .inr (.inl (by omega))⟩⟩
/-! ## a mark takes few walks away -/
def cost (g st z m : Int) : Int := max 0 (min (z - (m - g + 1)) (g - st))
def csum (g st z : Int) : List Int → Int
  | [] => 0
  | m :: r => cost g st z m + csum g st z r
theorem csum_mono {g st z : Int} : ∀ (xs : List Int), csum g st z xs ≤ csum g st (z + 1) xs
  | [] => Int.le_refl _
  | m :: r => by
    have := csum_mono (g := g) (st := st) (z := z) r
    unfold csum cost
    omega
theorem csum_hit {g st z m : Int} : ∀ {xs : List Int}, m ∈ xs → cost g st z m + 1 ≤ cost g st (z + 1) m → csum g st z xs + 1 ≤ csum g st (z + 1) xs
  | x :: r, h, c => by
    have mo := csum_mono (g := g) (st := st) (z := z) r
    unfold csum
    rcases List.mem_cons.mp h with rfl | h
    · omega
    · have := csum_hit h c
      have : cost g st z x ≤ cost g st (z + 1) x := by
        unfold cost
        omega
      omega
theorem csum_nn {g st z : Int} : ∀ (xs : List Int), 0 ≤ csum g st z xs
  | [] => Int.le_refl _
  | m :: r => by
    have := csum_nn (g := g) (st := st) (z := z) r
    unfold csum cost
    omega
theorem csum_le {g st z : Int} (h : st ≤ g) : ∀ (xs : List Int), csum g st z xs ≤ (xs.length : Int) * (g - st)
  | [] => by simp [csum]
  | m :: r => by
    have i := csum_le (z := z) h r
    have e : ((m :: r).length : Int) * (g - st) = (r.length : Int) * (g - st) + (g - st) := by
      rw [List.length_cons]
      push_cast
      rw [Int.add_mul, Int.one_mul]
    rw [e]
    unfold csum
    have : cost g st z m ≤ g - st := by
      unfold cost
      omega
    omega
/-- x is the first cut not before z of the walk from an entry -/
def FirstAt (n : Int) (ms ss : List Int) (l m g p z x : Int) : Prop := z ≤ x ∧ ∃ e k, Ent n ms ss l m g p e ∧ kc (nx n ms ss l m g) n e k = x ∧ ∀ j, j < k → kc (nx n ms ss l m g) n e j < z
theorem first_le {n l m g p c z x : Int} {ms ss : List Int} (ST : Stp (nx n ms ss l m g) n l) (all : AllE n ms ss l m g p c) (zc : z ≤ c) (h : FirstAt n ms ss l m g p z x) : x ≤ c := by
  obtain ⟨_, e, k, he, rfl, bef⟩ := h
  obtain ⟨i, hi⟩ := all e he
  by_cases d : i < k
  · have := bef i d
    omega
  · have := kc_wk ST (s := e) (show k ≤ i by omega)
    omega
theorem first_near {n l m g p z x : Int} {ms : List Int} {b : Bool} (G : Good n ms (ssOf b ms)) (S : SetOk l m g) (far : ∀ x ∈ ms, p + g ≤ x) (np : p + g < n) (pz : p ≤ z) (h : FirstAt n ms (ssOf b ms) l m g p z x) : x < z + g := by
  obtain ⟨_, e, k, he, rfl, bef⟩ := h
  have er := (ent_s G S far np).mp he
  cases k with
  | zero => show e < _; omega
  | succ k =>
    have h1 := bef k (by omega)
    have F := (nx_s (p := kc (nx n ms (ssOf b ms) l m g) n e k) G S).far
    by_cases c : kc (nx n ms (ssOf b ms) l m g) n e k < n
    · rw [kc_at c]
      omega
    · have e1 : kc (nx n ms (ssOf b ms) l m g) n e (k + 1) = kc (nx n ms (ssOf b ms) l m g) n e k := if_neg c
      rw [e1]
      have := S.l1
      have := S.lm
      have := S.mg
      omega
theorem apart_many {n l m g p c : Int} {ms : List Int} {b : Bool} (G : Good n ms (ssOf b ms)) (S : SetOk l m g) (far : ∀ x ∈ ms, p + g ≤ x) (np : p + g < n) (cn : c < n) (all : AllE n ms (ssOf b ms) l m g p c) :
    ∀ N : Nat, p + N ≤ c → ∃ L : List Int, L.Nodup ∧ (∀ x ∈ L, FirstAt n ms (ssOf b ms) l m g p (p + N) x) ∧ g ≤ (L.length : Int) + csum g (svOf b l m) (p + N) (ms.filter fun x => decide (x ≤ c))
  | 0, _ => by
    refine ⟨(List.range g.toNat).map fun (i : Nat) => p + (i : Int), ?_, fun x hx => ?_, ?_⟩
    · refine List.pairwise_map.mpr (List.pairwise_lt_range.imp fun {i j} h => ?_)
      show p + (i : Int) ≠ p + (j : Int)
      omega
    · obtain ⟨i, hi, rfl⟩ := List.mem_map.mp hx
      have hi := List.mem_range.mp hi
      refine ⟨by show p + ((0 : Nat) : Int) ≤ _; omega, p + (i : Int), 0, (ent_s G S far np).mpr ⟨by omega, by omega⟩, rfl, fun j hj => absurd hj (by omega)⟩
    · have := csum_nn (g := g) (st := svOf b l m) (z := p + ((0 : Nat) : Int)) (ms.filter fun x => decide (x ≤ c))
      rw [List.length_map, List.length_range]
      have := S.l1
      have := S.lm
      have := S.mg
      omega
  | N + 1, h => by
    obtain ⟨L, nd, at_, len⟩ := apart_many G S far np cn all N (by omega)
    have ST := nx_stp G S
    rw [show p + ((N + 1 : Nat) : Int) = p + (N : Int) + 1 by omega] at *
    generalize hz : p + (N : Int) = z at at_ len h
    have pz : p ≤ z := by omega
    have mo := csum_mono (g := g) (st := svOf b l m) (z := z) (ms.filter fun x => decide (x ≤ c))
    have keep : ∀ x, x ≠ z → FirstAt n ms (ssOf b ms) l m g p z x → FirstAt n ms (ssOf b ms) l m g p (z + 1) x := fun x ne f => by
      obtain ⟨h1, e, k, he, hk, bef⟩ := f
      exact ⟨by omega, e, k, he, hk, fun j hj => by have := bef j hj; omega⟩
    by_cases hin : z ∈ L
    · have el : (L.erase z).length = L.length - 1 := List.length_erase_of_mem hin
      have pos : 0 < L.length := List.length_pos_of_mem hin
      have nde := nd.erase z
      have ate : ∀ x ∈ L.erase z, FirstAt n ms (ssOf b ms) l m g p (z + 1) x := fun x hx => by
        obtain ⟨h1, h2⟩ := (List.Nodup.mem_erase_iff nd).mp hx
        exact keep x h1 (at_ x h2)
      have atv : FirstAt n ms (ssOf b ms) l m g p (z + 1) (nx n ms (ssOf b ms) l m g z) := by
        obtain ⟨h1, e, k, he, hk, bef⟩ := at_ z hin
        have gt := ST.gt (p := z) (by omega)
        refine ⟨by omega, e, k + 1, he, by rw [kc_at (by omega), hk], fun j hj => ?_⟩
        by_cases d : j = k
        · rw [d, hk]
          omega
        · have := bef j (by omega)
          omega
      by_cases hv : nx n ms (ssOf b ms) l m g z ∈ L.erase z
      · refine ⟨L.erase z, nde, ate, ?_⟩
        have NS := nx_s (p := z) G S
        obtain ⟨h1, h2⟩ := (List.Nodup.mem_erase_iff nd).mp hv
        have near := first_near G S far np pz (at_ _ h2)
        have le := first_le ST all (by omega) (at_ _ h2)
        have hit : nx n ms (ssOf b ms) l m g z ∈ ms ∧ z + svOf b l m ≤ nx n ms (ssOf b ms) l m g z := by
          rcases NS.is with d | d | d
          · omega
          · omega
          · exact d
        have := csum_hit (g := g) (st := svOf b l m) (z := z) (xs := ms.filter fun x => decide (x ≤ c)) (List.mem_filter.mpr ⟨hit.1, decide_eq_true le⟩) (by
          have := hit.2
          unfold cost
          omega)
        omega
      · refine ⟨nx n ms (ssOf b ms) l m g z :: L.erase z, List.nodup_cons.mpr ⟨hv, nde⟩, fun x hx => ?_, ?_⟩
        · rcases List.mem_cons.mp hx with rfl | hx
          · exact atv
          · exact ate x hx
        · rw [List.length_cons]
          omega
    · exact ⟨L, nd, fun x hx => keep x (fun e => hin (e ▸ hx)) (at_ x hx), by omega⟩
/-- what comes together at a cut before the end wants so many marks up to it -/
theorem few_apart {n l m g p c : Int} {ms : List Int} {b : Bool} (G : Good n ms (ssOf b ms)) (S : SetOk l m g) (far : ∀ x ∈ ms, p + g ≤ x) (np : p + g < n) (pc : p ≤ c) (cn : c < n) (all : AllE n ms (ssOf b ms) l m g p c) :
    g - 1 ≤ ((ms.filter fun x => decide (x ≤ c)).length : Int) * (g - svOf b l m) := by
  have ST := nx_stp G S
  obtain ⟨L, nd, at_, len⟩ := apart_many G S far np cn all (c - p).toNat (by omega)
  rw [show p + (((c - p).toNat : Nat) : Int) = c by omega] at *
  have one : ∀ x ∈ L, x = c := fun x hx => by
    have h1 := first_le ST all (Int.le_refl _) (at_ x hx)
    have h2 := (at_ x hx).1
    omega
  have l1 : L.length ≤ 1 := by
    match L, nd, one with
    | [], _, _ => exact Nat.zero_le _
    | [_], _, _ => exact Nat.le_refl _
    | x :: y :: r, nd, one =>
      have h1 := one x (List.mem_cons_self ..)
      have h2 := one y (List.mem_cons_of_mem _ (List.mem_cons_self ..))
      have := (List.nodup_cons.mp nd).1
      rw [h1, h2] at this
      exact absurd (List.mem_cons_self ..) this
  have := csum_le (z := c) (sv_in (b := b) S).2 (ms.filter fun x => decide (x ≤ c))
  omega
/-! ## the marks that help -/
theorem mk4_some {a d : Int} {k : Nat} (a0 : 0 < a) (d0 : 0 ≤ d) (h : mk4 a d = some (k : Int)) : 0 < d ∧ 0 < k ∧ a ≤ (k : Int) * d ∧ ((k : Int) - 1) * d < a := by
  unfold mk4 at h
  rw [if_neg (by omega)] at h
  by_cases c : d = 0
  · rw [if_pos c] at h
    cases h
  · rw [if_neg c] at h
    have e : (a + d - 1) / d = (k : Int) := Option.some.inj h
    have dp : 0 < d := by omega
    have h1 : d * ((a + d - 1) / d) ≤ a + d - 1 := Int.mul_ediv_self_le (by omega)
    have h2 : a + d - 1 < d * ((a + d - 1) / d) + d := Int.lt_mul_ediv_self_add dp
    rw [e] at h1 h2
    have e1 : d * (k : Int) = (k : Int) * d := Int.mul_comm _ _
    have e2 : ((k : Int) - 1) * d = (k : Int) * d - d := by rw [Int.sub_mul, Int.one_mul]
    refine ⟨dp, ?_, by omega, by omega⟩
    by_cases k0 : k = 0
    · rw [k0] at h2
      simp at h2
      omega
    · omega
abbrev hm1 (p g st : Int) (i : Nat) : Int := p + g + (0 + (i : Int)) * st
theorem hm1_succ {p g st : Int} {i : Nat} : hm1 p g st (i + 1) = hm1 p g st i + st := by
  unfold hm1
  push_cast
  grind
theorem hm1_le {p g st : Int} (h : 0 ≤ st) {i : Nat} : ∀ {j : Nat}, i ≤ j → hm1 p g st i ≤ hm1 p g st j
  | 0, k => by
    rw [Nat.le_zero.mp k]
    exact Int.le_refl _
  | j + 1, k => by
    by_cases c : i = j + 1
    · rw [c]
      exact Int.le_refl _
    · have := hm1_le (p := p) (g := g) h (show i ≤ j by omega)
      rw [hm1_succ]
      omega
theorem mem_hms {p g st x : Int} {k : Nat} : x ∈ hms p g st k ↔ ∃ i, i < k ∧ hm1 p g st i = x := by
  unfold hms
  rw [List.mem_map]
  constructor
  · rintro ⟨i, hi, rfl⟩
    exact ⟨i, List.mem_range.mp hi, rfl⟩
  · rintro ⟨i, hi, rfl⟩
    exact ⟨i, List.mem_range.mpr hi, rfl⟩
theorem hms_asc {p g st : Int} (h : 1 ≤ st) (k : Nat) : Asc (hms p g st k) := by
  refine List.pairwise_map.mpr (List.pairwise_lt_range.imp fun {i j} hij => ?_)
  have a := hm1_le (p := p) (g := g) (show 0 ≤ st by omega) (show i + 1 ≤ j by omega)
  rw [hm1_succ] at a
  show hm1 p g st i < hm1 p g st j
  omega
/-- the marks in the row that the law makes -/
theorem hms_all {n l m g p : Int} {b : Bool} {k : Nat} (S : SetOk l m g) (G : Good n (hms p g (svOf b l m) (k + 1)) (ssOf b (hms p g (svOf b l m) (k + 1)))) (hk : g - 1 ≤ ((k + 1 : Nat) : Int) * (g - svOf b l m)) (hn : n = hm1 p g (svOf b l m) k + g + 1) {e : Int} (he : p ≤ e ∧ e < p + g) :
    ∃ i, kc (nx n (hms p g (svOf b l m) (k + 1)) (ssOf b (hms p g (svOf b l m) (k + 1))) l m g) n e i = hm1 p g (svOf b l m) k := by
  have sv := sv_in (b := b) S
  have ex := fun (v y : Int) => nxs_is (p := y) (v := v) G S
  generalize hW : nx n (hms p g (svOf b l m) (k + 1)) (ssOf b (hms p g (svOf b l m) (k + 1))) l m g = W at ex
  clear G hW
  generalize svOf b l m = st at *
  have up : ∀ {i j : Nat}, i ≤ j → hm1 p g st i ≤ hm1 p g st j := fun h => hm1_le (by omega) h
  have sc : ∀ i, hm1 p g st (i + 1) = hm1 p g st i + st := fun i => hm1_succ
  have m0 : hm1 p g st 0 = p + g := by
    unfold hm1
    simp
  have mem : ∀ x, x ∈ hms p g st (k + 1) ↔ ∃ i, i < k + 1 ∧ hm1 p g st i = x := fun x => mem_hms
  -- D i = (i + 1) * d
  have inv : ∀ i, i ≤ k → ∃ j, kc W n e j = hm1 p g st i ∨ (i < k ∧ kc W n e j = hm1 p g st (i + 1)) ∨
      (hm1 p g st i + ((i + 1 : Nat) : Int) * (g - st) < kc W n e j ∧ kc W n e j < hm1 p g st i + g ∧ (i < k → kc W n e j ≤ hm1 p g st (i + 1))) := by
    intro i
    induction i with
    | zero =>
      intro _
      have m1 := sc 0
      have nk := up (show 0 ≤ k by omega)
      by_cases c : e ≤ p + (g - st)
      · refine ⟨1, .inl ?_⟩
        rw [kc_at (k := 0) (show e < n by omega)]
        refine ex _ e ⟨by omega, by omega, fun x hx _ => ?_, .inr (.inr ⟨(mem _).mpr ⟨0, by omega, rfl⟩, by omega⟩)⟩
        obtain ⟨j, _, rfl⟩ := (mem x).mp hx
        exact up (Nat.zero_le _)
      · have big : ∀ x ∈ hms p g st (k + 1), e + st ≤ x → ∃ j, 1 ≤ j ∧ j ≤ k ∧ hm1 p g st j = x := fun x hx h => by
          obtain ⟨j, hj, rfl⟩ := (mem x).mp hx
          refine ⟨j, ?_, by omega, rfl⟩
          by_cases d : j = 0
          · rw [d] at h
            omega
          · omega
        by_cases c2 : 0 < k ∧ hm1 p g st 1 ≤ e + g
        · refine ⟨1, .inr (.inl ⟨c2.1, ?_⟩)⟩
          have nk1 := up (show 1 ≤ k by omega)
          rw [kc_at (k := 0) (show e < n by omega)]
          refine ex _ e ⟨by omega, c2.2, fun x hx h => ?_, .inr (.inr ⟨(mem _).mpr ⟨1, by omega, rfl⟩, by omega⟩)⟩
          obtain ⟨j, hj, _, rfl⟩ := big x hx h
          exact up hj
        · refine ⟨1, .inr (.inr ?_)⟩
          have e1 : kc W n e 1 = e + g := by
            rw [kc_at (k := 0) (show e < n by omega)]
            refine ex _ e ⟨by omega, Int.le_refl _, fun x hx h => ?_, .inr (.inl rfl)⟩
            obtain ⟨j, hj, jk, rfl⟩ := big x hx h
            have := up hj
            omega
          rw [e1, m0]
          simp only [Nat.zero_add, Int.natCast_one, Int.one_mul]
          refine ⟨by omega, by omega, fun h => ?_⟩
          omega
    | succ i ih =>
      intro hi
      have m1 := sc i
      have m2 := sc (i + 1)
      have nk := up (show i + 1 ≤ k by omega)
      have dd : ((i + 1 + 1 : Nat) : Int) * (g - st) = ((i + 1 : Nat) : Int) * (g - st) + (g - st) := by
        push_cast
        grind
      have d0 : 0 ≤ ((i + 1 : Nat) : Int) * (g - st) := Int.mul_nonneg (by omega) (by omega)
      obtain ⟨j, h⟩ := ih (by omega)
      generalize hx : kc W n e j = x at h
      rcases h with h | ⟨_, h⟩ | ⟨h1, h2, h3⟩
      · refine ⟨j + 1, .inl ?_⟩
        rw [kc_at (by omega), hx]
        refine ex _ x ⟨by omega, by omega, fun y hy h4 => ?_, .inr (.inr ⟨(mem _).mpr ⟨i + 1, by omega, rfl⟩, by omega⟩)⟩
        obtain ⟨q, hq, rfl⟩ := (mem y).mp hy
        omega
      · exact ⟨j, .inl (hx.trans h)⟩
      · have h3 := h3 (by omega)
        by_cases c0 : x = hm1 p g st (i + 1)
        · exact ⟨j, .inl (hx.trans c0)⟩
        have big : ∀ y ∈ hms p g st (k + 1), x + st ≤ y → ∃ q, i + 1 + 1 ≤ q ∧ q ≤ k ∧ hm1 p g st q = y := fun y hy h => by
          obtain ⟨q, hq, rfl⟩ := (mem y).mp hy
          refine ⟨q, ?_, by omega, rfl⟩
          by_cases d : q ≤ i + 1
          · have := up d
            omega
          · omega
        by_cases c2 : i + 1 < k ∧ hm1 p g st (i + 1 + 1) ≤ x + g
        · refine ⟨j + 1, .inr (.inl ⟨c2.1, ?_⟩)⟩
          have nk1 := up (show i + 1 + 1 ≤ k by omega)
          rw [kc_at (by omega), hx]
          refine ex _ x ⟨by omega, c2.2, fun y hy h => ?_, .inr (.inr ⟨(mem _).mpr ⟨i + 2, by omega, rfl⟩, by omega⟩)⟩
          obtain ⟨q, hq, _, rfl⟩ := big y hy h
          exact up hq
        · refine ⟨j + 1, .inr (.inr ?_)⟩
          have e1 : kc W n e (j + 1) = x + g := by
            rw [kc_at (by omega), hx]
            refine ex _ x ⟨by omega, Int.le_refl _, fun y hy h => ?_, .inr (.inl rfl)⟩
            obtain ⟨q, hq, qk, rfl⟩ := big y hy h
            have := up hq
            omega
          rw [e1]
          refine ⟨by omega, by omega, fun h => ?_⟩
          omega
  obtain ⟨j, h⟩ := inv k (Nat.le_refl _)
  rcases h with h | ⟨h, _⟩ | ⟨h1, h2, _⟩
  · exact ⟨j, h⟩
  · omega
  · omega
end Cw
namespace Cw
open PySem PySem.Spec PyProof.Rows L2
/-! ## x -> 5 x + 1 meets all numbers below a power of two -/
def ff : Nat → Nat → Nat
  | 0, i => i
  | n + 1, i => 5 * ff n i + 1
theorem ff_add (a i : Nat) : ∀ b, ff (a + b) i = ff b (ff a i)
  | 0 => rfl
  | b + 1 => by
    show 5 * ff (a + b) i + 1 = 5 * ff b (ff a i) + 1
    rw [ff_add a i b]
theorem ff_two (k : Nat) : ∃ u v : Nat, ∀ i, ff (2 ^ k) i = (1 + 4 * 2 ^ k * u) * i + 2 ^ k * (1 + 2 * v) := by
  induction k with
  | zero => exact ⟨1, 0, fun i => by show 5 * i + 1 = _; omega⟩
  | succ k ih =>
    obtain ⟨u, v, h⟩ := ih
    generalize hK : 2 ^ k = K at h
    refine ⟨u + 2 * K * u * u, v + K * u * (1 + 2 * v), fun i => ?_⟩
    have e : 2 ^ (k + 1) = K + K := by rw [Nat.pow_succ, hK]; omega
    rw [e, ff_add, h, h]
    grind
theorem ff_half (k i : Nat) : ∃ c, ff (2 ^ k) i = i + 2 ^ k + 2 ^ (k + 1) * c := by
  obtain ⟨u, v, h⟩ := ff_two k
  refine ⟨2 * u * i + v, ?_⟩
  rw [h, Nat.pow_succ]
  generalize 2 ^ k = K
  grind
/-- each residue comes -/
theorem ff_all : ∀ (k i j : Nat), j < 2 ^ k → ∃ n, n < 2 ^ k ∧ ff n i % 2 ^ k = j
  | 0, i, j, h => ⟨0, by decide, by
    have : j < 1 := h
    show i % 1 = j
    omega⟩
  | k + 1, i, j, h => by
    obtain ⟨n, hn, e⟩ := ff_all k i (j % 2 ^ k) (Nat.mod_lt _ (Nat.pow_pos (by decide)))
    obtain ⟨c, hc⟩ := ff_half k (ff n i)
    have e1 : 2 ^ (k + 1) = 2 * 2 ^ k := by rw [Nat.pow_succ]; omega
    rw [e1] at h hc ⊢
    have pos : 0 < 2 ^ k := Nat.pow_pos (by decide)
    generalize 2 ^ k = K at *
    generalize hx : ff n i = x at *
    have d1 := Nat.div_add_mod x (2 * K)
    have m1 := Nat.mod_lt x (show 0 < 2 * K by omega)
    have key : x % (2 * K) % K = j % K := by rw [Nat.mod_mul_left_mod]; exact e
    by_cases q : x % (2 * K) = j
    · exact ⟨n, by omega, by rw [hx]; exact q⟩
    · refine ⟨n + K, by omega, ?_⟩
      rw [ff_add, hx, hc]
      have z : x + K + 2 * K * c = (x % (2 * K) + K) + 2 * K * (x / (2 * K) + c) := by
        rw [Nat.mul_add]
        omega
      rw [z, Nat.add_mul_mod_self_left]
      generalize x % (2 * K) = y at *
      have dy : y % K = if y < K then y else y - K := by
        split
        · exact Nat.mod_eq_of_lt (by assumption)
        · rw [Nat.mod_eq_sub_mod (by omega), Nat.mod_eq_of_lt (by omega)]
      have dj : j % K = if j < K then j else j - K := by
        split
        · exact Nat.mod_eq_of_lt (by assumption)
        · rw [Nat.mod_eq_sub_mod (by omega), Nat.mod_eq_of_lt (by omega)]
      rw [dy, dj] at key
      by_cases a : y < K
      · rw [if_pos a] at key
        have b : ¬ j < K := fun b => by rw [if_pos b] at key; exact q key
        rw [if_neg b] at key
        rw [Nat.mod_eq_of_lt (by omega)]
        omega
      · rw [if_neg a] at key
        have b : j < K := by
          by_cases b : j < K
          · exact b
          · rw [if_neg b] at key
            omega
        rw [if_pos b] at key
        rw [Nat.mod_eq_sub_mod (by omega), Nat.mod_eq_of_lt (by omega)]
        omega
/-- a mask of a set's table -/
def MaskG (m : Nat) : Prop := ∃ k, m + 1 = 2 ^ k
theorem lcgI_ff (m i : Nat) : ∀ n, 0 < n → lcgI m i n = ff n i % (m + 1)
  | 0, h => absurd h (Nat.lt_irrefl _)
  | 1, _ => by
    show (i * 5 + 1) % (m + 1) = (5 * i + 1) % (m + 1)
    rw [Nat.mul_comm]
  | n + 2, _ => by
    have ih := lcgI_ff m i (n + 1) (Nat.succ_pos _)
    show (lcgI m i (n + 1) * 5 + 1) % (m + 1) = (5 * ff (n + 1) i + 1) % (m + 1)
    rw [ih, Nat.mul_comm, Nat.add_mod, Nat.mul_mod, Nat.mod_mod, ← Nat.mul_mod, ← Nat.add_mod]
theorem lcgI_any {m i j : Nat} (G : MaskG m) (hi : i ≤ m) (hj : j ≤ m) : ∃ n, n ≤ m ∧ lcgI m i n = j := by
  obtain ⟨k, e⟩ := G
  obtain ⟨n, hn, h⟩ := ff_all k i j (by omega)
  refine ⟨n, by omega, ?_⟩
  cases n with
  | zero =>
    have : i % 2 ^ k = j := h
    rw [Nat.mod_eq_of_lt (by omega)] at this
    exact this
  | succ n => rw [lcgI_ff m i _ (Nat.succ_pos _), e, h]
end Cw
namespace Cw
open PySem PySem.Spec PyProof.Rows L2
/-! ## a table is laid for any mask -/
theorem runs_meet {m j : Nat} (G : MaskG m) (h : Int) (hj : j ≤ m) : ∃ n, n ≤ m + 12 ∧ runI m (SetTable.bits h) n = j := by
  obtain ⟨k, hk, e⟩ := lcgI_any G (runI_le m (SetTable.bits h) 12) hj
  refine ⟨12 + k, by omega, ?_⟩
  rw [runI_tail (bits_lt h) k, e]
/-- one more hash finds its slot -/
theorem free_got {m j : Nat} (G : MaskG m) (owner : Array (Option Nat)) (h : Int) (hj : j ≤ m) (hf : oAt owner j = none) :
    ∃ i, i ≤ m ∧ oAt owner i = none ∧ SetTable.layClean.free m owner (SetTable.turns m) (SetTable.bits h % (m + 1)) (SetTable.bits h) = some i := by
  obtain ⟨n, hn, e⟩ := runs_meet G h hj
  let P : Nat → Prop := fun k => oAt owner (nth m (runAt m (SetTable.bits h % (m + 1)) (SetTable.bits h)) k).j = none
  have at_n : P (off m (SetTable.bits h % (m + 1)) (SetTable.bits h) n) := by
    show oAt owner (nth m (runAt m _ _) (off m _ _ n)).j = none
    rw [nth_off, itL_run]
    show oAt owner (runI m (SetTable.bits h) n) = none
    rw [e]
    exact hf
  obtain ⟨k, h1, h2, h3⟩ := st_least (p := P) _ at_n
  refine ⟨_, ?_, h2, free_spec m owner (SetTable.turns m) n _ _ k (by unfold SetTable.turns; omega) h1 (fun i hi => ?_) ?_⟩
  · have i0 : SetTable.bits h % (m + 1) ≤ m := Nat.le_of_lt_succ (Nat.mod_lt _ (Nat.succ_pos _))
    have r0 := runEnd_bd i0
    have z := nth_in (m := m) k (runAt m (SetTable.bits h % (m + 1)) (SetTable.bits h)) (show SetTable.bits h % (m + 1) + (SetTable.runEnd m (SetTable.bits h % (m + 1)) - SetTable.bits h % (m + 1)) ≤ m by omega)
    omega
  · have q := h3 i hi
    cases z : oAt owner (nth m (runAt m (SetTable.bits h % (m + 1)) (SetTable.bits h)) i).j with
    | none => exact absurd z q
    | some _ => rfl
  · have q : oAt owner (nth m (runAt m (SetTable.bits h % (m + 1)) (SetTable.bits h)) k).j = none := h2
    rw [q]
    rfl
/-- the first c hashes have their slots -/
structure Ow (m c : Nat) (u : Array (Option Nat)) : Prop where
  sz : u.size = m + 1
  has : ∀ k, k < c → ∃ j, j ≤ m ∧ oAt u j = some k
  occ : ∃ ps : List Nat, ps.length = c ∧ ∀ j, j ≤ m → oAt u j ≠ none → j ∈ ps
theorem ow_one {m c : Nat} {u : Array (Option Nat)} (G : MaskG m) (O : Ow m c u) (few : c ≤ m) (h : Int) :
    ∃ i, SetTable.layClean.free m u (SetTable.turns m) (SetTable.bits h % (m + 1)) (SetTable.bits h) = some i ∧ Ow m (c + 1) (u.setIfInBounds i (some c)) := by
  obtain ⟨ps, pl, pm⟩ := O.occ
  obtain ⟨j, j1, j2⟩ := st_missing ps (m + 1) (by omega)
  have fj : oAt u j = none := by
    cases z : oAt u j with
    | none => rfl
    | some k => exact absurd (pm j (by omega) (by rw [z]; exact Option.some_ne_none k)) j2
  obtain ⟨i, im, fi, e⟩ := free_got G u h (by omega) fj
  have ib : i < u.size := by rw [O.sz]; omega
  have other : ∀ {x : Nat}, x ≠ i → oAt (u.setIfInBounds i (some c)) x = oAt u x := fun {x} hx => oAt_set_ne _ hx
  refine ⟨i, e, by rw [Array.size_setIfInBounds]; exact O.sz, fun k hk => ?_, i :: ps, by rw [List.length_cons, pl], fun x hx hne => ?_⟩
  · rcases Nat.lt_or_ge k c with q | q
    · obtain ⟨x, x1, x2⟩ := O.has k q
      refine ⟨x, x1, (other fun z => ?_).trans x2⟩
      rw [z, fi] at x2
      cases x2
    · have : k = c := by omega
      exact ⟨i, im, by rw [this]; exact oAt_set_self _ ib⟩
  · by_cases q : x = i
    · rw [q]
      exact List.mem_cons_self ..
    · rw [other q] at hne
      exact List.mem_cons_of_mem _ (pm x hx hne)
theorem ow_fold {m : Nat} (G : MaskG m) : ∀ (rest : List Int) (c : Nat) (u : Array (Option Nat)), Ow m c u → c + rest.length ≤ m + 1 →
    ∃ v, rest.foldl (stepF m) (some (u, c)) = some (v, c + rest.length) ∧ Ow m (c + rest.length) v
  | [], c, u, O, _ => ⟨u, rfl, O⟩
  | h :: rest, c, u, O, few => by
    rw [List.length_cons] at few
    obtain ⟨i, e, O2⟩ := ow_one G O (by omega) h
    obtain ⟨v, f, O3⟩ := ow_fold G rest (c + 1) _ O2 (by omega)
    have z : c + 1 + rest.length = c + (h :: rest).length := by rw [List.length_cons]; omega
    rw [z] at f O3
    exact ⟨v, by rw [List.foldl_cons, stepF_some e]; exact f, O3⟩
theorem clean_got {m : Nat} (G : MaskG m) {hs : Array Int} (few : hs.size ≤ m + 1) : ∃ u, SetTable.layClean m hs = some u ∧ Ow m hs.size u := by
  have O0 : Ow m 0 (Array.replicate (m + 1) none) := ⟨by simp, fun k hk => absurd hk (Nat.not_lt_zero _), [], rfl, fun j hj e => absurd (oAt_init hj) e⟩
  have hl : hs.toList.length = hs.size := Array.length_toList
  obtain ⟨u, f, O⟩ := ow_fold G hs.toList 0 _ O0 (by omega)
  rw [Nat.zero_add, hl] at O
  refine ⟨u, ?_, O⟩
  rw [layClean_eq, f]
  rfl
theorem laid_got {m : Nat} (G : MaskG m) (fi mo : Nat) (ld pl : Bool) {hs : Array Int} (few : hs.size ≤ m) :
    ∃ t order, SetTable.laid m fi mo ld pl hs = some (t, order) ∧ order.toList.Perm (List.range hs.size) ∧ t.fits hs.size = true ∧ Ris t.place.toList ∧ t.led = ld ∧ t.plain = pl := by
  obtain ⟨u, e, O⟩ := clean_got G (hs := hs) (by omega)
  have rl := ris_live (fun j => u.getD j none) (List.range (m + 1)) (by unfold Ris; exact List.pairwise_lt_range)
  have r1 : Ris ((liveOf m u).map (·.1)) := rl.1
  have nd : ((liveOf m u).map (·.1)).Nodup := List.Pairwise.imp (fun h => Nat.ne_of_lt h) r1
  have inn : ∀ k, k < hs.size → k ∈ (liveOf m u).map (·.2) := fun k hk => by
    obtain ⟨j, j1, j2⟩ := O.has k hk
    exact List.mem_map.mpr ⟨(j, k), (mem_live O.sz).mpr ⟨j1, j2⟩, rfl⟩
  have up : (liveOf m u).length ≤ hs.size := by
    obtain ⟨ps, p1, p2⟩ := O.occ
    have z := nat_nodup_len _ ps nd fun x hx => by
      obtain ⟨⟨a, b⟩, hab, rfl⟩ := List.mem_map.mp hx
      obtain ⟨h1, h2⟩ := (mem_live O.sz).mp hab
      exact p2 a h1 (by rw [h2]; exact Option.some_ne_none b)
    rw [List.length_map, p1] at z
    exact z
  have dn : hs.size ≤ (liveOf m u).length := by
    have z := nat_nodup_len (List.range hs.size) _ List.nodup_range fun x hx => inn x (List.mem_range.mp hx)
    rw [List.length_range, List.length_map] at z
    exact z
  refine ⟨{ mask := m, place := ((liveOf m u).map (·.1)).toArray, dummies := #[], finger := fi, led := ld, moves := mo, plain := pl }, ((liveOf m u).map (·.2)).toArray, ?_, ?_, ?_, ?_, rfl, rfl⟩
  · show (SetTable.layClean m hs).bind _ = _
    rw [e]
    rfl
  · rw [List.toList_toArray]
    exact perm_range _ _ (by rw [List.length_map]; omega) inn
  · unfold SetTable.fits SetTable.fill
    dsimp only
    rw [List.size_toArray, List.length_map]
    simp only [Bool.and_eq_true, beq_iff_eq, decide_eq_true_eq]
    exact ⟨by omega, by show (liveOf m u).length + 0 ≤ m; omega⟩
  · exact r1
theorem pick_range {α : Type} : ∀ l : List α, (List.range l.length).filterMap (fun i => l[i]?) = l
  | [] => rfl
  | x :: r => by
    rw [List.length_cons, List.range_succ_eq_map, List.filterMap_cons_some (f := fun i => (x :: r)[i]?) (a := 0) (b := x) rfl, List.filterMap_map]
    show x :: (List.range r.length).filterMap (fun i => r[i]?) = _
    rw [pick_range r]
theorem order_perm {α : Type} (es : Array α) {order : Array Nat} (h : order.toList.Perm (List.range es.size)) : (order.filterMap (es[·]?)).toList.Perm es.toList := by
  rw [Array.toList_filterMap]
  have e : (fun i => es[i]?) = fun i : Nat => es.toList[i]? := funext fun i => Array.getElem?_toList.symm
  rw [e]
  refine (h.filterMap _).trans ?_
  rw [← Array.length_toList, pick_range]
theorem above_go : ∀ (f size n : Nat), (∃ k, size = 2 ^ k) → n < size * 2 ^ f → (∃ k, SetTable.sizeAbove.go n f size = 2 ^ k) ∧ n < SetTable.sizeAbove.go n f size ∧ (SetTable.sizeAbove.go n f size ≤ size ∨ SetTable.sizeAbove.go n f size ≤ 2 * n)
  | 0, size, n, h, l => ⟨h, by rw [Nat.pow_zero, Nat.mul_one] at l; exact l, .inl (Nat.le_refl _)⟩
  | f + 1, size, n, h, l => by
    obtain ⟨k, rfl⟩ := h
    show (∃ k', (if 2 ^ k ≤ n then SetTable.sizeAbove.go n f (2 ^ k * 2) else 2 ^ k) = 2 ^ k') ∧ n < (if 2 ^ k ≤ n then SetTable.sizeAbove.go n f (2 ^ k * 2) else 2 ^ k) ∧ ((if 2 ^ k ≤ n then SetTable.sizeAbove.go n f (2 ^ k * 2) else 2 ^ k) ≤ 2 ^ k ∨ (if 2 ^ k ≤ n then SetTable.sizeAbove.go n f (2 ^ k * 2) else 2 ^ k) ≤ 2 * n)
    by_cases c : 2 ^ k ≤ n
    · rw [if_pos c]
      obtain ⟨h1, h2, h3⟩ := above_go f (2 ^ k * 2) n ⟨k + 1, by rw [Nat.pow_succ]⟩ (by rw [Nat.pow_succ] at l; rw [Nat.mul_assoc, Nat.mul_comm 2]; exact l)
      exact ⟨h1, h2, .inr (by omega)⟩
    · rw [if_neg c]
      exact ⟨⟨k, rfl⟩, by omega, .inl (Nat.le_refl _)⟩
/-- the new size is a power of two, above what is wanted, and not far above -/
theorem above_ok {n : Nat} (h : n < 100000) : MaskG (SetTable.sizeAbove n - 1) ∧ n < SetTable.sizeAbove n ∧ SetTable.sizeAbove n ≤ 8 + 2 * n := by
  obtain ⟨⟨k, e⟩, h2, h3⟩ := above_go 64 8 n ⟨3, rfl⟩ (Nat.lt_of_lt_of_le h (by decide))
  have e0 : SetTable.sizeAbove n = SetTable.sizeAbove.go n 64 8 := rfl
  rw [e0]
  refine ⟨⟨k, by omega⟩, h2, by omega⟩
end Cw
namespace Cw
open PySem PySem.Spec PyProof.Rows L2
section
variable {P : Program} {w : World} {A : Around} {E : Value → Shared → Prop} {s : Shared} {a b : Addr} {S T : Int → Bool} {n m : Nat}
/-- more of a laid table -/
theorem laid_more {m : Nat} {fi mo : Nat} {ld pl : Bool} {hs : Array Int} {t : SetTable} {order : Array Nat} (e : SetTable.laid m fi mo ld pl hs = some (t, order)) : t.mask = m ∧ t.dummies = #[] := by
  have e2 : (SetTable.layClean m hs).bind (fun u => some (({ mask := m, place := ((liveOf m u).map (·.1)).toArray, dummies := #[], finger := fi, led := ld, moves := mo, plain := pl } : SetTable), ((liveOf m u).map (·.2)).toArray)) = some (t, order) := e
  cases z : SetTable.layClean m hs with
  | none => rw [z] at e2; cases e2
  | some u =>
    rw [z] at e2
    injection e2 with e3
    injection e3 with e4 e5
    rw [← e4]
    exact ⟨rfl, rfl⟩
/-- laid anew with more room -/
theorem relay_got {wanted : Nat} (R : SetR w s.heap a S n) (hw : wanted < 100000) (few : n < SetTable.sizeAbove wanted) {Q : Unit → Shared → Prop}
    (q : ∀ h' o es ep t, Heap.SameBut a s.heap h' → SetR w h' a S n → h'.get? a = some o → o.data = .set es ep t → MaskG t.mask → t.mask = SetTable.sizeAbove wanted - 1 → t.dummies = #[] → Q () { s with heap := h' }) : wpAny (model P w) A (setRelay a wanted) Q E s := by
  obtain ⟨o, es, ep, t, ho, hx, hd, g, nd, hm, hb, hf, hn, hr, hl⟩ := R
  obtain ⟨G, h1, h2⟩ := above_ok hw
  have hs0 : (es.map (·.1)).size = es.size := Array.size_map ..
  obtain ⟨t', order, e, p, f, r, l1, l2⟩ := laid_got G t.finger (t.movedTo (SetTable.sizeAbove wanted - 1)) t.led t.plain (hs := es.map (·.1)) (by omega)
  obtain ⟨m1, m2⟩ := laid_more e
  rw [hs0] at p f
  have pm := order_perm es p
  have sz : (order.filterMap (es[·]?)).size = es.size := by rw [← Array.length_toList, pm.length_eq, Array.length_toList]
  have er : t.relaid (es.map (·.1)) wanted = some (t', order) := e
  rw [setRelay_eq]
  refine wpAny_bind (wpAny_setState_of ho hd hf ?_)
  dsimp only
  refine wp_if_neg (by rw [sizeLine_eq]; omega) ?_
  try refine wpAny_bind (wpAny_pure ?_)
  rw [er]
  dsimp only
  refine wpAny_bind ?_
  refine wp_if_neg (by rw [sz]; simp) ?_
  try refine wpAny_bind (wpAny_pure ?_)
  refine wpAny_pure ?_
  dsimp only
  refine wpAny_storeSet_of ho hd ?_ (fits_of_scanBound (by rw [sz]; exact hb))
  refine q _ _ _ _ _ (Heap.SameBut.update ..) ⟨_, _, _, _, store_at ho hd, ⟨hx.1, hx.2.1, hx.2.2⟩, rfl, fun e he => g e (pm.mem_iff.mp he), (pm.map keyOf).nodup_iff.mpr nd, fun k => (hm k).trans (pm.map keyOf).mem_iff.symm, by rw [sz]; exact hb, by rw [sz]; exact f, by rw [sz]; exact hn, r, hl.imp id fun z => by rw [l1]; exact z⟩ (store_at ho hd) rfl (by rw [m1]; exact G) m1 m2
/-- all of the set's members are walked -/
def MemAll (xs : Array (Int × Value)) (S : Int → Bool) (n : Nat) : Prop := (∀ e ∈ xs.toList, GoodE e) ∧ (∀ k, S k = true ↔ k ∈ xs.toList.map keyOf) ∧ xs.size = n
theorem walk_all {o : Obj} {es : Array (Int × Value)} {ep : Nat} {t : SetTable} (ho : s.heap.get? a = some o) (hd : o.data = .set es ep t) (hf : t.fits es.size = true) (hl : w.params.followText "set-order" = true ∨ t.led = true) (hp : w.params.followText "set-order" = true ∨ (!t.plain && decide (es.size > 1)) = false)
    {Q : Array (Int × Value) → Shared → Prop} (q : ∀ xs : Array (Int × Value), xs.toList.Perm es.toList → Q xs s) : wpAny (model P w) A (setWalk a) Q E s := by
  unfold setWalk
  refine wpAny_bind (wpAny_setState_of ho hd hf ?_)
  dsimp only
  refine wpAny_bind (wpAny_byText ?_)
  by_cases c : w.params.followText "set-order" = true
  · refine wp_if_pos c ?_
    exact wpAny_bind (wpAny_askSetting (wpAny_pure (q _ (pick_perm _ es))))
  · have p1 := hp.resolve_left c
    have p2 := hl.resolve_left c
    refine wp_if_neg c ?_
    try refine wpAny_bind (wpAny_pure ?_)
    refine wp_if_neg (by show ¬ ((!t.plain && decide (es.size > 1)) = true); rw [p1]; exact Bool.false_ne_true) ?_
    try refine wpAny_bind (wpAny_pure ?_)
    refine wpAny_bind (wpAny_of_eq (a := ()) ?_ (wpAny_pure (q es (List.Perm.refl _))))
    show (if (!t.led && decide (es.size > 1)) = true then unsupported "set:maker-not-led" else pure ()) = pure ()
    rw [p2]
    rfl
/-- the set at a walked while the set at r is filled -/
theorem unseen_all {r : Addr} {U : Int → Bool} {c : Nat} (R : SetR w s.heap a S n) (Rr : SetR w s.heap r U c) {l : List Addr} (hall : ∀ c ∈ a :: l, ∃ S n, SetR w s.heap c S n) {Q : Array (Int × Value) → Shared → Prop}
    (q : ∀ xs h', MemAll xs S n → Heap.SameBut r s.heap h' → SetR w h' r U c → Q xs { s with heap := h' }) : wpAny (model P w) A (setWalkUnseen a l (some r)) Q E s := by
  obtain ⟨o, es, ep, t, ho, hx, hd, g, nd, hm, hb, hf, hn, hr, hl⟩ := R
  have mem : ∀ xs : Array (Int × Value), xs.toList.Perm es.toList → MemAll xs S n := fun xs h => ⟨fun e he => g e (h.mem_iff.mp he), fun k => (hm k).trans (h.map keyOf).mem_iff.symm, by rw [← Array.length_toList, h.length_eq, Array.length_toList, hn]⟩
  unfold setWalkUnseen
  refine wpAny_bind (wpAny_setState_of ho hd hf ?_)
  dsimp only
  refine wpAny_bind (wpAny_byText ?_)
  by_cases c : (w.params.followText "set-order" || t.led && t.plain || decide (es.size ≤ 1)) = true
  · refine wp_if_pos c ?_
    refine walk_all ho hd hf hl ?_ fun xs h => q xs s.heap (mem xs h) (Heap.SameBut.refl _ _) Rr
    simp only [Bool.or_eq_true, Bool.and_eq_true, decide_eq_true_eq] at c
    rcases c with (c | c) | c
    · exact .inl c
    · exact .inr (by rw [c.2]; rfl)
    · exact .inr (by rw [decide_eq_false (by omega), Bool.and_false])
  · refine wp_if_neg c ?_
    try refine wpAny_bind (wpAny_pure ?_)
    refine wpAny_bind (quiet_at (a :: l) hall ?_)
    refine wp_if_neg (by decide) ?_
    try refine wpAny_bind (wpAny_pure ?_)
    refine wpAny_bind (wpAny_rule ?_)
    obtain ⟨o2, es2, ep2, t2, ho2, hx2, hd2, g2, nd2, hm2, hb2, hf2, hn2, hr2, hl2⟩ := Rr
    try dsimp only
    refine wpAny_bind (wpAny_setState_of ho2 hd2 hf2 ?_)
    dsimp only
    have nb : w.params.followText "set-order" = false := by
      cases z : w.params.followText "set-order" with
      | false => rfl
      | true => rw [z] at c; simp at c
    have l1 : t.led = true := hl.resolve_left (by rw [nb]; exact Bool.false_ne_true)
    have l2 : t2.led = true := hl2.resolve_left (by rw [nb]; exact Bool.false_ne_true)
    by_cases c2 : (t2.led && !t.led || t2.plain && !t.plain) = true
    · refine wp_if_pos c2 ?_
      refine wpAny_bind (wpAny_storeSet_of ho2 hd2 ?_ (fits_of_scanBound hb2))
      refine wpAny_pure (q es _ (mem es (List.Perm.refl _)) (Heap.SameBut.update ..) ?_)
      exact ⟨_, es2, _, _, store_at ho2 hd2, ⟨hx2.1, hx2.2.1, hx2.2.2⟩, rfl, g2, nd2, hm2, hb2, by exact hf2, hn2, hr2, .inr (by rw [l1, l2]; rfl)⟩
    · refine wp_if_neg c2 ?_
      try refine wpAny_bind (wpAny_pure ?_)
      exact wpAny_pure (q es s.heap (mem es (List.Perm.refl _)) (Heap.SameBut.refl _ _) ⟨o2, es2, ep2, t2, ho2, hx2, hd2, g2, nd2, hm2, hb2, hf2, hn2, hr2, hl2⟩)
end
end Cw
namespace Cw
open PySem PySem.Spec PyProof.Rows L2
theorem merge_eq (s o : Addr) (each : Sem Unit) : setMerge s o each = (do
    if s == o then return
    let (eo, epoch, to) ← setState o
    if eo.isEmpty then return
    (do if let some wanted := (← setState s).2.2.roomFor eo.size then setRelay s wanted)
    let (_, _, ts) ← setState s
    match ts.road to with
    | .slotForSlot => storeSet s eo { to with finger := ts.finger, led := ts.led && to.led, moves := ts.moves, plain := ts.plain && to.plain }
    | .clean =>
      let (es, t) ← (do
        let some (t, order) := SetTable.laid ts.mask ts.finger ts.moves (ts.led && to.led) (ts.plain && to.plain) (eo.map (·.1)) | unsupported "internal:set-table-without-room"
        let es' := order.filterMap (eo[·]?)
        if es'.size != eo.size then unsupported "internal:set-table-lost-an-element"
        pure (es', t) : Sem (Array (Int × Value) × SetTable))
      storeSet s es t
    | .oneByOne =>
      for (h, x) in ← setWalkUnseen o [s] (some s) do
        let _ ← holding [x] (setAddHashed s x h)
        each
        if (← setState o).2.1 != epoch then unsupported "set.changed-during-merge") := by rfl
section
variable {P : Program} {w : World} {A : Around} {E : Value → Shared → Prop} {s : Shared} {a b : Addr} {S T : Int → Bool} {n m : Nat}
/-- the empty new set -/
def Fresh (w : World) (h : Heap) (r : Addr) : Prop := ∃ o ep ld, h.get? r = some o ∧ o.ExactSet ∧ o.data = .set #[] ep (.fresh 0 0 ld) ∧ (w.params.followText "set-order" = true ∨ ld = true)
theorem Fresh.setR {h : Heap} {r : Addr} (f : Fresh w h r) : SetR w h r (fun _ => false) 0 := by
  obtain ⟨o, ep, ld, ho, hx, hd, hl⟩ := f
  exact ⟨o, #[], ep, _, ho, hx, hd, (fun e he => by simp at he), (by simp), (fun k => by simp), (by decide), rfl, rfl, List.Pairwise.nil, hl⟩
/-- all of b's members into a new set -/
theorem merge_fresh {r : Addr} {each : Sem Unit} (f : Fresh w s.heap r) (R : SetR w s.heap b T m) (ne : r ≠ b) {Q : Unit → Shared → Prop}
    (q : ∀ h', Heap.SameBut r s.heap h' → SetR w h' r T m → (m = 0 → Fresh w h' r) → Q () { s with heap := h' }) : wpAny (model P w) A (setMerge r b each) Q E s := by
  have Rr := f.setR
  obtain ⟨o, es, ep, t, ho, hx, hd, g, nd, hm, hb, hf, hn, hr, hl⟩ := id R
  rw [merge_eq]
  refine wp_if_neg (by simp [ne]) ?_
  try refine wpAny_bind (wpAny_pure ?_)
  refine wpAny_bind (wpAny_setState_of ho hd hf ?_)
  dsimp only
  by_cases c0 : es = #[]
  · have m0 : m = 0 := by rw [← hn, c0]; rfl
    refine wp_if_pos (by rw [c0]; rfl) (wpAny_pure ?_)
    refine q s.heap (Heap.SameBut.refl _ _) ?_ fun _ => f
    have e : T = fun _ => false := funext fun k => by
      cases z : T k with
      | false => rfl
      | true =>
        have := (hm k).mp z
        rw [c0] at this
        simp at this
    rw [e, m0]
    exact Rr
  · have pos : 0 < es.size := Array.size_pos_iff.mpr c0
    refine wp_if_neg (by simp [c0]) ?_
    try refine wpAny_bind (wpAny_pure ?_)
    obtain ⟨o1, ep1, ld, ho1, hx1, hd1, hl1⟩ := f
    have hb' : es.size < 4096 := hb
    -- the last part, for any table without members
    have last : ∀ (h1 : Heap) (o2 : Obj) (e2 : Nat) (t2 : SetTable), Heap.SameBut r s.heap h1 → h1.get? r = some o2 → o2.ExactSet → o2.data = .set #[] e2 t2 → t2.dummies = #[] → t2.fits 0 = true → MaskG t2.mask → es.size ≤ t2.mask → (w.params.followText "set-order" = true ∨ t2.led = true) →
        wpAny (model P w) A (do
          let (_, _, ts) ← setState r
          match ts.road t with
          | .slotForSlot => storeSet r es { t with finger := ts.finger, led := ts.led && t.led, moves := ts.moves, plain := ts.plain && t.plain }
          | .clean =>
            let (es, t) ← (do
              let some (t, order) := SetTable.laid ts.mask ts.finger ts.moves (ts.led && t.led) (ts.plain && t.plain) (es.map (·.1)) | unsupported "internal:set-table-without-room"
              let es' := order.filterMap (es[·]?)
              if es'.size != es.size then unsupported "internal:set-table-lost-an-element"
              pure (es', t) : Sem (Array (Int × Value) × SetTable))
            storeSet r es t
          | .oneByOne =>
            for (h, x) in ← setWalkUnseen b [r] (some r) do
              let _ ← holding [x] (setAddHashed r x h)
              each
              if (← setState b).2.1 != ep then unsupported "set.changed-during-merge") Q E { s with heap := h1 } := by
      intro h1 o2 e2 t2 sb ho2 hx2 hd2 dm2 f2 G2 few2 l2
      refine wpAny_bind (wpAny_setState_of ho2 hd2 f2 ?_)
      dsimp only
      have p0 : t2.place.size = 0 := by
        unfold SetTable.fits at f2
        simp only [Bool.and_eq_true, beq_iff_eq] at f2
        exact f2.1
      have fill0 : t2.fill = 0 := by
        unfold SetTable.fill
        rw [p0, dm2]
        rfl
      have led2 : w.params.followText "set-order" = true ∨ (t2.led && t.led) = true := by
        rcases l2 with x | x
        · exact .inl x
        · rcases hl with y | y
          · exact .inl y
          · exact .inr (by rw [x, y]; rfl)
      have m0 : m ≠ 0 := by omega
      unfold SetTable.road
      rw [fill0, if_neg (by decide)]
      by_cases c1 : (t2.mask == t.mask && t.dummies.isEmpty) = true
      · rw [if_pos c1]
        dsimp only
        refine wpAny_storeSet_of ho2 hd2 ?_ (fits_of_scanBound hb)
        exact q _ (sb.trans (Heap.SameBut.update ..)) ⟨_, _, _, _, store_at ho2 hd2, ⟨hx2.1, hx2.2.1, hx2.2.2⟩, rfl, g, nd, hm, hb, hf, hn, hr, led2⟩ fun z => absurd z m0
      · rw [if_neg c1]
        dsimp only
        have hs0 : (es.map (·.1)).size = es.size := Array.size_map ..
        obtain ⟨t', order, e, p, f', r', k1, k2⟩ := laid_got G2 t2.finger t2.moves (t2.led && t.led) (t2.plain && t.plain) (hs := es.map (·.1)) (by omega)
        rw [hs0] at p f'
        have pm := order_perm es p
        have sz : (order.filterMap (es[·]?)).size = es.size := by rw [← Array.length_toList, pm.length_eq, Array.length_toList]
        rw [e]
        dsimp only
        refine wpAny_bind ?_
        refine wp_if_neg (by rw [sz]; simp) ?_
        try refine wpAny_bind (wpAny_pure ?_)
        refine wpAny_pure ?_
        dsimp only
        refine wpAny_storeSet_of ho2 hd2 ?_ (fits_of_scanBound (by rw [sz]; exact hb))
        exact q _ (sb.trans (Heap.SameBut.update ..)) ⟨_, _, _, _, store_at ho2 hd2, ⟨hx2.1, hx2.2.1, hx2.2.2⟩, rfl, fun e he => g e (pm.mem_iff.mp he), (pm.map keyOf).nodup_iff.mpr nd, fun k => (hm k).trans (pm.map keyOf).mem_iff.symm, by rw [sz]; exact hb, by rw [sz]; exact f', by rw [sz]; exact hn, r', by rw [k1]; exact led2⟩ fun z => absurd z m0
    refine wpAny_bind ?_
    refine wpAny_bind (wpAny_setState_of ho1 hd1 rfl ?_)
    dsimp only
    unfold SetTable.roomFor
    by_cases c2 : ((SetTable.fresh 0 0 ld).fill + es.size) * 5 ≥ (SetTable.fresh 0 0 ld).mask * 3
    · rw [if_pos c2]
      dsimp only
      have wn : ((SetTable.fresh 0 0 ld).place.size + es.size) * 2 = es.size * 2 := by
        show (0 + es.size) * 2 = _
        rw [Nat.zero_add]
      rw [wn]
      obtain ⟨G3, k3, k4⟩ := above_ok (n := es.size * 2) (by omega)
      refine relay_got Rr (by omega) (by omega) fun h' o2 es2 e2 t2 sb R2 ho2 hd2 G2 mk dm => ?_
      obtain ⟨o3, es3, ep3, t3, ho3, hx3, hd3, g3, nd3, hm3, hb3, hf3, hn3, hr3, hl3⟩ := R2
      rw [ho2] at ho3
      cases ho3
      rw [hd2] at hd3
      cases hd3
      have e0 : es2 = #[] := Array.size_eq_zero_iff.mp hn3
      subst e0
      exact last h' o2 e2 t2 sb ho2 hx3 hd2 dm hf3 G2 (by rw [mk]; omega) hl3
    · rw [if_neg c2]
      dsimp only
      refine wpAny_pure ?_
      have c3 : ¬ ((0 + es.size) * 5 ≥ 7 * 3) := c2
      exact last s.heap o1 ep1 _ (Heap.SameBut.refl _ _) ho1 hx1 hd1 rfl rfl ⟨3, rfl⟩ (by show es.size ≤ 7; omega) hl1
theorem forIn_upto {α β : Type} {M : Model} {f : α → β → Sem (ForInStep β)} {b : β} (I : List α → Shared → Prop) : ∀ (l done : List α) {s : Shared} {Q : β → Shared → Prop},
    (∀ (d : List α) (x : α) (r : List α), d ++ x :: r = done ++ l → ∀ (s : Shared) (Q' : ForInStep β → Shared → Prop), I d s → (∀ s', I (d ++ [x]) s' → Q' (.yield b) s') → wpAny M A (f x b) Q' E s) → I done s → (∀ s', I (done ++ l) s' → Q b s') → wpAny M A (forIn l b f) Q E s
  | [], done, s, Q, _, i, q => by
    rw [List.forIn_nil]
    rw [List.append_nil] at q
    exact wpAny_pure (q s i)
  | x :: l, done, s, Q, h, i, q => by
    rw [List.forIn_cons]
    have e : (done ++ [x]) ++ l = done ++ x :: l := by rw [List.append_assoc]; rfl
    refine wpAny_bind (h done x l rfl s _ i fun s' i' => ?_)
    refine forIn_upto I l (done ++ [x]) (fun d y r z => h d y r (z.trans e)) i' ?_
    rw [e]
    exact q
/-- all of b's members, one by one, into a set that isn't empty -/
theorem merge_more {each : Sem Unit} (R : SetR w s.heap a S n) (R2 : SetR w s.heap b T m) (ne : a ≠ b) (pos : 0 < n) (room : n + m + 1 < scanBound)
    (he : ∀ (h' : Heap) (Q' : Unit → Shared → Prop), (∀ o, s.heap.get? b = some o → h'.get? b = some o) → Q' () { s with heap := h' } → wpAny (model P w) A each Q' E { s with heap := h' }) {Q : Unit → Shared → Prop}
    (q : ∀ h' c, Heap.SameBut a s.heap h' → SetR w h' a (fun j => S j || T j) c → c ≤ n + m → Q () { s with heap := h' }) : wpAny (model P w) A (setMerge a b each) Q E s := by
  obtain ⟨o, es, ep, t, ho, hx, hd, g, nd, hm, hb, hf, hn, hr, hl⟩ := id R2
  rw [merge_eq]
  refine wp_if_neg (by simp [ne]) ?_
  try refine wpAny_bind (wpAny_pure ?_)
  refine wpAny_bind (wpAny_setState_of ho hd hf ?_)
  dsimp only
  by_cases c0 : es = #[]
  · refine wp_if_pos (by rw [c0]; rfl) (wpAny_pure ?_)
    refine q s.heap n (Heap.SameBut.refl _ _) (R.congr fun k => ?_) (Nat.le_add_right _ _)
    have z : T k = false := by
      cases z : T k with
      | false => rfl
      | true =>
        have := (hm k).mp z
        rw [c0] at this
        simp at this
    rw [z, Bool.or_false]
  · refine wp_if_neg (by simp [c0]) ?_
    try refine wpAny_bind (wpAny_pure ?_)
    have rm : n + m + 1 < 4096 := room
    have last : ∀ h1 : Heap, Heap.SameBut a s.heap h1 → SetR w h1 a S n →
        wpAny (model P w) A (do
          let (_, _, ts) ← setState a
          match ts.road t with
          | .slotForSlot => storeSet a es { t with finger := ts.finger, led := ts.led && t.led, moves := ts.moves, plain := ts.plain && t.plain }
          | .clean =>
            let (es, t) ← (do
              let some (t, order) := SetTable.laid ts.mask ts.finger ts.moves (ts.led && t.led) (ts.plain && t.plain) (es.map (·.1)) | unsupported "internal:set-table-without-room"
              let es' := order.filterMap (es[·]?)
              if es'.size != es.size then unsupported "internal:set-table-lost-an-element"
              pure (es', t) : Sem (Array (Int × Value) × SetTable))
            storeSet a es t
          | .oneByOne =>
            for (h, x) in ← setWalkUnseen b [a] (some a) do
              let _ ← holding [x] (setAddHashed a x h)
              each
              if (← setState b).2.1 != ep then unsupported "set.changed-during-merge") Q E { s with heap := h1 } := by
      intro h1 sb R1
      obtain ⟨o1, es1, ep1, t1, ho1, hx1, hd1, g1, nd1, hm1, hb1, hf1, hn1, hr1, hl1⟩ := id R1
      refine wpAny_bind (wpAny_setState_of ho1 hd1 hf1 ?_)
      dsimp only
      have fill1 : t1.fill ≠ 0 := by
        have z := hf1
        unfold SetTable.fits at z
        simp only [Bool.and_eq_true, beq_iff_eq] at z
        unfold SetTable.fill
        omega
      unfold SetTable.road
      rw [if_pos (by simp [fill1])]
      dsimp only
      have ob : ∀ {h : Heap}, Heap.SameBut a s.heap h → ∀ o, s.heap.get? b = some o → h.get? b = some o := fun {h} k o e => by rw [k.2 b (Ne.symm ne)]; exact e
      refine wpAny_bind (unseen_all (R2.at (ob sb)) R1 (fun c hc => ?_) fun xs h2 M sb2 R3 => ?_)
      · rcases List.mem_cons.mp hc with rfl | hc
        · exact ⟨_, _, R2.at (ob sb)⟩
        rcases List.mem_cons.mp hc with rfl | hc
        · exact ⟨_, _, R1⟩
        · cases hc
      · obtain ⟨M1, M2, M3⟩ := M
        rw [← Array.forIn_toList]
        have len : xs.toList.length = m := by rw [Array.length_toList]; exact M3
        refine wpAny_bind (forIn_upto (fun d s' => ∃ h' c, s' = { s with heap := h' } ∧ Heap.SameBut a s.heap h' ∧ SetR w h' a (fun j => S j || decide (j ∈ d.map keyOf)) c ∧ c ≤ n + d.length) xs.toList [] (fun d x r e s' Q' i k => ?_)
          ⟨h2, n, rfl, sb.trans sb2, R3.congr fun j => by simp, Nat.le_add_right _ _⟩ fun s' i => ?_)
        · obtain ⟨h', c, rfl, sb', Rc, cl⟩ := i
          have hxm : x ∈ xs.toList := by
            rw [List.nil_append] at e
            rw [← e]
            simp
          have dl : d.length + 1 ≤ m := by
            have := congrArg List.length e
            simp at this
            omega
          obtain ⟨i, tk, e1, e2⟩ := M1 x hxm
          obtain ⟨x1, x2⟩ := x
          dsimp only at e1 e2
          subst e1 e2
          have kk : keyOf (hashInt i, Value.int i tk) = i := rfl
          dsimp only
          refine wpAny_bind (wpAny_holding (setR_add_hashed Rc (by show c + 1 < 4096; omega) fun h3 sb3 R4 => ?_))
          have sb4 := sb'.trans sb3
          refine wpAny_bind (he h3 _ (ob sb4) ?_)
          refine wpAny_bind (wpAny_setState_of (ob sb4 _ ho) hd hf ?_)
          refine wp_if_neg (by simp) ?_
          try refine wpAny_bind (wpAny_pure ?_)
          refine wpAny_pure (k _ ⟨h3, _, rfl, sb4, R4.congr fun j => ?_, ?_⟩)
          · try dsimp only
            rw [Bool.or_assoc]
            congr 1
            rw [List.map_append, Bool.eq_iff_iff, Bool.or_eq_true, decide_eq_true_eq, decide_eq_true_eq, decide_eq_true_eq, List.mem_append, List.map_cons, kk]
            simp
          · try dsimp only
            rw [List.length_append]
            show _ ≤ n + (d.length + 1)
            split <;> omega
        · obtain ⟨h', c, rfl, sb', Rc, cl⟩ := i
          rw [List.nil_append] at Rc cl
          refine wpAny_pure (q h' c sb' (Rc.congr fun j => ?_) (by omega))
          congr 1
          rw [Bool.eq_iff_iff, decide_eq_true_eq]
          exact M2 j
    obtain ⟨o1, es1, ep1, t1, ho1, hx1, hd1, g1, nd1, hm1, hb1, hf1, hn1, hr1, hl1⟩ := id R
    refine wpAny_bind ?_
    refine wpAny_bind (wpAny_setState_of ho1 hd1 hf1 ?_)
    dsimp only
    unfold SetTable.roomFor
    have z : t1.place.size = n := by
      have z := hf1
      unfold SetTable.fits at z
      simp only [Bool.and_eq_true, beq_iff_eq] at z
      omega
    by_cases c2 : (t1.fill + es.size) * 5 ≥ t1.mask * 3
    · rw [if_pos c2]
      dsimp only
      rw [z]
      obtain ⟨G3, k3, k4⟩ := above_ok (n := (n + es.size) * 2) (by omega)
      exact relay_got R (by omega) (by omega) fun h' o2 es2 e2 t2 sb R4 _ _ _ _ _ => last h' sb R4
    · rw [if_neg c2]
      dsimp only
      exact wpAny_pure (last s.heap (Heap.SameBut.refl _ _) R)
end
end Cw
namespace Cw
open PySem PySem.Spec PyProof.Rows L2
section
variable {P : Program} {w : World} {A : Around} {E : Value → Shared → Prop} {s : Shared} {a b : Addr} {S T : Int → Bool} {n m : Nat}
theorem entry_or : entryFor table "set.__or__" = some Builtin.«frozenset.__or__» := entryFor_alias (id' := "frozenset.__or__") (by kernel_rfl) rfl (by decide +kernel) (by kernel_rfl)
theorem or_form (a b : Value) : Builtin.«frozenset.__or__» ⟨[a, b], []⟩ = (do
    let p ← Builtin.Frozenset.slot1 "__or__" ⟨[a, b], []⟩
    if !(← (Builtin.Frozenset.isAnySet p.1 <&&> Builtin.Frozenset.isAnySet p.2)) then
      rule "frozenset.__or__.declined"
      ret .notImplemented
    else do
      let la ← Builtin.Frozenset.addrOf p.1
      let v ← (do
        let result ← Builtin.Frozenset.copyOf la
        if p.2 != .ref la then holding [result] (Builtin.Frozenset.updateFrom "frozenset.__or__" (← Builtin.Frozenset.addrOf result) p.2)
        return result)
      ret v) := by
  rfl
/-- a | b: a new set -/
theorem or_new (R1 : SetR w s.heap a S n) (R2 : SetR w s.heap b T m) (ne : a ≠ b) (room : n + m + 1 < scanBound) {Q : Value → Shared → Prop}
    (q : ∀ h' c, (∀ x o, s.heap.get? x = some o → h'.get? x = some o) → SetR w h' s.heap.objs.size (fun j => S j || T j) c → c ≤ n + m → Q (.ref s.heap.objs.size) { s with heap := h' }) : wpAny (model P w) A (binaryOp .BitOr (.ref a) (.ref b)) Q E s := by
  have ta : s.TypeIs (.ref a) "set" := (R1.setOf (P := P)).typeIs
  have tb : s.TypeIs (.ref b) "set" := (R2.setOf (P := P)).typeIs
  refine wpAny_binaryOp_same (T := "set") ta tb F.fills_set_or F.slot_set_or ?_
  refine wpAny_call_entry F.slot_set_or ta entry_or ?_ (F.args_set_or_2 _ _)
  rw [or_form]
  unfold Builtin.Frozenset.slot1 slotArgs
  refine wpAny_bind (wpAny_bind (wpAny_of_eq (a := (Value.ref a, [Value.ref b])) rfl (wpAny_pure ?_)))
  dsimp only
  refine wpAny_bind (m := _ <&&> _) ?_
  unfold andM
  refine wpAny_bind (isSet_at ta ?_)
  show wpAny _ _ (Builtin.Frozenset.isAnySet (.ref b)) _ _ _
  refine isSet_at tb (wp_if_neg (by decide) ?_)
  try refine wpAny_bind (wpAny_pure ?_)
  refine wpAny_bind ?_
  unfold Builtin.Frozenset.copyOf Builtin.Frozenset.baseOf isInstance
  have z := sub_set_self
  obtain ⟨hp, gg, dr, tk, os⟩ := s
  dsimp only at q R1 R2
  have k1 : ∀ c o, hp.get? c = some o → (hp.push (newS w)).get? c = some o := fun c o e => Heap.get?_push_of_some _ e
  have fr : Fresh w (hp.push (newS w)) hp.objs.size := by
    refine ⟨newS w, 0, _, Heap.get?_push_size _ rfl, ⟨rfl, rfl, rfl⟩, rfl, ?_⟩
    cases w.params.followText "set-order"
    · exact .inr rfl
    · exact .inl rfl
  have na : hp.objs.size ≠ a := Nat.ne_of_gt R1.lt
  have nb : hp.objs.size ≠ b := Nat.ne_of_gt R2.lt
  wp_walk
  refine wpAny_askSetting (wpAny_pure ?_)
  simp only [newObj, if_true]
  refine wpAny_bind (wpAny_alloc (wpAny_pure ?_))
  dsimp only
  refine wpAny_bind (m := Builtin.Frozenset.addrOf (.ref hp.objs.size)) (wpAny_pure ?_)
  refine wpAny_bind (merge_fresh fr (R1.at fun o e => k1 _ _ e) na fun h1 sb1 Rr f1 => ?_)
  have k2 : ∀ c o, c ≠ hp.objs.size → hp.get? c = some o → h1.get? c = some o := fun c o hc e => by
    rw [sb1.2 c hc]
    exact k1 c o e
  have k3 : ∀ c o, hp.get? c = some o → h1.get? c = some o := fun c o e => k2 c o (Nat.ne_of_lt (Heap.lt_size e)) e
  have R3 : SetR w h1 b T m := R2.at fun o e => k3 _ _ e
  refine wpAny_pure ?_
  refine wp_if_pos (by simp [Ne.symm ne]) ?_
  refine wpAny_bind (m := Builtin.Frozenset.addrOf (.ref hp.objs.size)) (wpAny_pure ?_)
  refine wpAny_bind (wpAny_holding ?_)
  unfold Builtin.Frozenset.updateFrom
  refine wpAny_bind (isSet_at (R3.setOf (P := P)).typeIs ?_)
  refine wp_if_pos rfl ?_
  refine wpAny_bind (m := Builtin.Frozenset.addrOf (.ref b)) (wpAny_pure ?_)
  unfold Builtin.Frozenset.merge
  obtain ⟨o, es, ep, t, ho, hx, hd, g, nd, hm, hb, hf, hn, hr, hl⟩ := id R3
  refine wpAny_bind (wpAny_setEpoch_of ho hd hf ?_)
  have fin : ∀ h' c, Heap.SameBut hp.objs.size h1 h' → SetR w h' hp.objs.size (fun j => S j || T j) c → c ≤ n + m → Q (.ref hp.objs.size) ⟨h', gg, dr, tk, os⟩ := fun h' c sb R le =>
    q h' c (fun x o e => by rw [sb.2 x (Nat.ne_of_lt (Heap.lt_size e))]; exact k3 x o e) R le
  have done : ∀ h' c, Heap.SameBut hp.objs.size h1 h' → SetR w h' hp.objs.size (fun j => S j || T j) c → c ≤ n + m →
      wpAny (model P w) A.in1 (pure (Value.ref hp.objs.size)) (fun a s' => wpAny (model P w) A.in1 (ret a) (fun fin s' => ∃ v, fin = Fin.done (Flow.ret v) ∧ v ≠ Value.notImplemented ∧ Q v s') E s') E ⟨h', gg, dr, tk, os⟩ := fun h' c sb R le =>
    wpAny_pure (wpAny_pure ⟨_, rfl, (fun z => nomatch z), fin h' c sb R le⟩)
  by_cases n0 : n = 0
  · refine merge_fresh (f1 n0) R3 nb fun h2 sb2 R4 _ => ?_
    refine done h2 m sb2 (R4.congr fun k => ?_) (Nat.le_add_left _ _)
    obtain ⟨o5, es5, ep5, t5, ho5, hx5, hd5, g5, nd5, hm5, hb5, hf5, hn5, _⟩ := R1
    have e0 : es5 = #[] := Array.size_eq_zero_iff.mp (by omega)
    have z : S k = false := by
      cases z : S k with
      | false => rfl
      | true =>
        have := (hm5 k).mp z
        rw [e0] at this
        simp at this
    rw [z, Bool.false_or]
  · refine merge_more Rr R3 nb (Nat.pos_of_ne_zero n0) room (fun h' Q' kb qq => ?_) fun h2 c sb2 R4 le => done h2 c sb2 R4 le
    unfold Builtin.Frozenset.unchanged
    refine wpAny_bind (wpAny_setEpoch_of (kb _ ho) hd hf ?_)
    refine wp_if_neg (by simp) (wpAny_pure qq)
end
end Cw
namespace Cw
open PySem PySem.Spec PyProof.Rows L2
section
variable {X : Cx}
/-- a | b -/
def rOrN (w : World) : R2 := fun x y H Q => ∃ (a b : Addr) (S T : Int → Bool) (n m : Nat), x = .ref a ∧ y = .ref b ∧ a ≠ b ∧ H a = some (SetO w a S n) ∧ H b = some (SetO w b T m) ∧ n + m ≤ 4000 ∧ ∀ p c, c ≤ n + m → H p = none → Q (.ref p) (upd H p (SetO w p (fun j => S j || T j) c))
theorem op_orN : OpR X (binaryOp .BitOr) (rOrN X.w) := by
  intro pins s σ H x y v u Q I rx ry h
  obtain ⟨a, b, S, T, n, m, rfl, rfl, ne, ha, hb, le, q⟩ := h
  cases rx
  cases ry
  refine or_new (setO_get I ha) (setO_get I hb) ne (by show n + m + 1 < 4096; omega) fun h' c k R lc => ?_
  exact ⟨.ref s.heap.objs.size, _, I.laid (t' := s.toks) k (Nat.le_refl _) (setO_new R), rfl, q _ c lc (I.hok.fresh (Nat.le_refl _))⟩
end
end Cw
namespace Cw
open PySem PySem.Spec PyProof.Rows L2
section
variable {P : Program} {w : World} {A : Around} {E : Value → Shared → Prop} {s : Shared} {a : Addr}
/-- sorted of a set of ints, as many as there are -/
theorem sorted_all {S : Int → Bool} {n : Nat} {Q : Value → Shared → Prop} (R : SetR w s.heap a S n) (calm : A.handled = none)
    (q : ∀ (t : Shared) (p : Addr) (out : Array Value) (c : Nat) (ns : List Int), (∀ x o, s.heap.get? x = some o → t.heap.get? x = some o) → t.gens = s.gens → t.os = s.os → s.heap.objs.size ≤ p →
      t.heap.get? p = some (seqObj "list" out c) → IntsAre out.toList ns → List.Pairwise (· < ·) ns → (∀ k, k ∈ ns ↔ S k = true) → ns.length = n → Q (.ref p) t) :
    wpAny (model P w) A (call (.builtin "sorted") [.ref a]) Q E s := by
  obtain ⟨o, es, ep, t, ho, hx, hd, g, nd, hm, hb, hf, hn, hr, hl⟩ := R
  refine Calls.call_function_entry kind_sorted
    plain_sorted entry_sorted (args_sorted1 _) ?_
  unfold Builtin.«sorted»
  refine wpAny_bind (m := checkCount "sorted" 1 1 _)
    (wpAny_pure ?_)
  refine wpAny_bind (collect_set (A := A.in1) calm ⟨o, ho, hx.1, hd⟩ hf hb hr hl fun u vs old sz ge oss pm => ?_)
  have len : vs.length = n := by
    rw [pm.length_eq, List.length_map, Array.length_toList, hn]
  have iz : IntsAre vs (vs.map Builtin.Re.reRawOf) := ints_of vs fun v hv => by
    obtain ⟨e, he, z⟩ := List.mem_map.mp (pm.mem_iff.mp hv)
    obtain ⟨k, tk, e1, _⟩ := g e he
    exact ⟨k, tk, by rw [← z]; exact e1⟩
  have keys : (vs.map Builtin.Re.reRawOf).Perm (es.toList.map keyOf) := by
    have z := pm.map Builtin.Re.reRawOf
    rw [List.map_map] at z
    exact z
  have nb : n < 4096 := by rw [← hn]; exact hb
  refine wpAny_bind (wpAny_newList ?_ (by rw [len, sizeLine_eq]; omega))
  have at0 : (u.heap.push (seqObj "list" vs.toArray 0)).get? u.heap.objs.size = some (seqObj "list" vs.toArray 0) := Heap.get?_push_size _ rfl
  refine wpAny_bind (wpAny_holding (wpAny_call_entry slot_list_sort ⟨_, at0, rfl⟩ entry_list_sort
    (SrtO.list_sort_ord SrtO.swo_int at0 (by rw [len, sizeLine_eq]; omega) (fun h2 => SrtO.ints_sortable iz h2) fun out h1 h2 => ⟨.none, rfl, ?_⟩) (args_list_sort _)))
  obtain ⟨k1, k2, k3⟩ := SrtO.ints_out iz h1 h2
  obtain ⟨c, hc⟩ := sortedHeap_at (vs := vs) (out := out.toArray) at0
  have perm := k2.trans keys
  refine wpAny_pure ⟨_, rfl, q _ u.heap.objs.size out.toArray c (out.map SrtO.iv) (fun x v e => ?_) ge oss sz hc k1 (lt_of_le_nodup _ k3 (perm.nodup_iff.mpr nd)) (fun k => ?_) ?_⟩
  · have z := old x v e
    have lt := Heap.lt_size z
    show (sortedHeap (u.heap.push (seqObj "list" vs.toArray 0)) u.heap.objs.size vs out.toArray).get? x = some v
    rw [sortedHeap_old (Nat.ne_of_lt lt) (Nat.lt_of_lt_of_le lt (by rw [size_push']; exact Nat.le_succ _))]
    exact Heap.get?_push_of_some _ z
  · rw [perm.mem_iff]
    exact (hm k).symm
  · rw [perm.length_eq, List.length_map, Array.length_toList, hn]
end
section
variable {X : Cx}
/-- sorted(s), s a set of ints -/
def rSortSet (w : World) : List V → Hp → VK → Prop := fun vs H Q => ∃ (a : Addr) (S : Int → Bool) (n : Nat), vs = [V.ref a] ∧ H a = some (SetO w a S n) ∧
  ∀ (ns : List Int) (p : Addr), List.Pairwise (· < ·) ns → (∀ k, k ∈ ns ↔ S k = true) → H p = none → Q (.ref p) (upd H p (.lst (ns.map V.int)))
theorem cr_sortSet (hc : X.calm = true) : CallR X (.builtin "sorted") (rSortSet X.w) := by
  intro pins s σ H vs us Q I r h
  obtain ⟨a, S, n, rfl, ha, q⟩ := h
  have R := setO_get I ha
  rw [Vals.ref1 r]
  obtain ⟨o, es, ep, t, ho, hx, hd, g, nd, hm, hb, hf, hn, hr, hl⟩ := id R
  have nb : n < 4096 := by rw [← hn]; exact hb
  refine sorted_all R (I.ok.hd hc) fun t p out c ns k ge oss sz hg hi hs hm' hl' => ?_
  have few : (ns.map V.int).length ≤ sizeLine := by
    rw [List.length_map, hl', sizeLine_eq]
    omega
  have np : H p = none := I.hok.fresh sz
  obtain ⟨hp2, g2, d2, tk2, os2⟩ := t
  dsimp only at k ge oss hg
  subst ge oss
  refine ⟨.ref p, upd H p (.lst (ns.map V.int)), ?_, rfl, q ns p hs hm' np⟩
  exact I.call (ch := []) (Un.laid k sz np) (I.hok.laid k sz ⟨few, out.toList, c, vals_of_ints hi, hg⟩) I.bare (fun _ z => nomatch z)
end
end Cw
namespace Cw
open PySem L2
def rSetOfW (K : PySem.W.Frag) (w : World) : List V → Hp → VK → Prop := fun xs H Q => ∃ (l : Addr) (ns : List Int), xs = [.ref l] ∧ SqL K H l (ns.map V.int) ∧ ns.length ≤ 4000 ∧ ∀ p c, c ≤ ns.length → H p = none → Q (.ref p) (upd H p (SetO w p (fun j => decide (j ∈ ns)) c))
end Cw
namespace Cw
open PySem L2
open LamX (Tabs ExtN TabB)
abbrev sRi : Stmt := top 57
/-! ## what stays when tables grow -/
theorem SqL.extN {K : PySem.W.Frag} {H H' : Hp} {a : Addr} {xs : List V} (h : SqL K H a xs) (e : ExtN H H') : SqL K H' a xs := by
  rcases h with (h | ⟨o, h⟩) | h
  · exact .inl (.inl (e _ _ h fun _ z => nomatch z))
  · exact .inl (.inr ⟨o, e _ _ h fun _ z => nomatch z⟩)
  · exact .inr h
/-- the script, which is not the jar -/
def Scr (K : PySem.W.Frag) (H : Hp) (a : Addr) (xs : List V) (p : Addr) : Prop := (a ≠ p ∧ (H a = some (.lst xs) ∨ ∃ o, H a = some (.frz o (.lst xs)))) ∨ ∀ H' : Hp, SqL K H' a xs
theorem Scr.of {K : PySem.W.Frag} {H : Hp} {a p : Addr} {xs : List V} (h : SqL K H a xs) (n : H p = none) : Scr K H a xs p := by
  rcases h with h | h
  · refine .inl ⟨fun e => ?_, h⟩
    subst e
    rcases h with h | ⟨o, h⟩ <;> rw [n] at h <;> cases h
  · exact .inr fun H' => .inr h
theorem Scr.sq {K : PySem.W.Frag} {H : Hp} {a p : Addr} {xs : List V} (h : Scr K H a xs p) : SqL K H a xs := by
  rcases h with ⟨_, h⟩ | h
  · exact .inl h
  · exact h H
theorem Scr.ext {K : PySem.W.Frag} {H H' : Hp} {a p : Addr} {xs : List V} (h : Scr K H a xs p) (e : ExtN H H') : Scr K H' a xs p := by
  rcases h with ⟨n, h | ⟨o, h⟩⟩ | h
  · exact .inl ⟨n, .inl (e _ _ h fun _ z => nomatch z)⟩
  · exact .inl ⟨n, .inr ⟨o, e _ _ h fun _ z => nomatch z⟩⟩
  · exact .inr h
theorem Scr.same {K : PySem.W.Frag} {H H' : Hp} {a p : Addr} {xs : List V} (h : Scr K H a xs p) (e : Same H H') : Scr K H' a xs p := h.ext (ExtN.of e)
theorem Scr.but {K : PySem.W.Frag} {H H' : Hp} {a p : Addr} {xs : List V} (h : Scr K H a xs p) (e : But H H' p) : Scr K H' a xs p := by
  rcases h with ⟨n, h | ⟨o, h⟩⟩ | h
  · exact .inl ⟨n, .inl (e _ _ h n)⟩
  · exact .inl ⟨n, .inr ⟨o, e _ _ h n⟩⟩
  · exact .inr h
theorem JarAt.ext {H H' : Hp} {a : Addr} {k : Nat} (h : JarAt H a k) (e : ExtN H H') : JarAt H' a k := by
  obtain ⟨r, m, n, h1, h2⟩ := h
  exact ⟨r, m, n, e _ _ h1 (fun _ z => nomatch z), h2⟩
theorem RawS.ext {H H' : Hp} {p : Addr} {n : Int} {prs : List (Int × Int)} {l m g : Int} (r : RawS H p n prs l m g) (e : ExtN H H') : RawS H' p n prs l m g := by
  obtain ⟨lp, t, ts, h1, h2, h3, h4⟩ := r
  exact ⟨lp, t, ts, e _ _ h1 (fun _ z => nomatch z), e _ _ h2 (fun _ z => nomatch z), h3.ext e, e _ _ h4 (fun _ z => nomatch z)⟩
theorem RowOff.ext {C : Addr} {H H' : Hp} {a p : Addr} {n : Int} {ms ss : List Int} (r : RowOff C H a p n ms ss) (e : ExtN H H') : RowOff C H' a p n ms ss := by
  obtain ⟨dx, l1, l2, h1, h2, h3, n1, n2⟩ := r
  exact ⟨dx, l1, l2, e _ _ h1 (fun _ z => nomatch z), e _ _ h2 (fun _ z => nomatch z), e _ _ h3 (fun _ z => nomatch z), n1, n2⟩
theorem RowAt.ext {C : Addr} {H H' : Hp} {p : Addr} {n : Int} {ms ss : List Int} (r : RowAt C H p n ms ss) (e : ExtN H H') : RowAt C H' p n ms ss := by
  obtain ⟨dx, l1, l2, h1, h2, h3⟩ := r
  exact ⟨dx, l1, l2, e _ _ h1 (fun _ z => nomatch z), e _ _ h2 (fun _ z => nomatch z), e _ _ h3 (fun _ z => nomatch z)⟩
theorem extN_but {H0 H1 H' : Hp} {p : Addr} (s : ExtN H0 H1) (n : H0 p = none) (b : But H1 H' p) : ExtN H0 H' := fun c o e k => b c o (s c o e k) (ne_of_none e n)
theorem tabs_but {T : List (Addr × Str)} {H H' : Hp} {a : Addr} {k : Nat} (h : Tabs T H) (J : JarAt H a k) (b : But H H' a) : Tabs T H' := fun p hp => by
  obtain ⟨ps, h1, h2, h3⟩ := h p hp
  refine ⟨ps, b _ _ h1 (J.no h1 fun _ _ _ z => nomatch z), h2, fun pos cv hc => ?_⟩
  obtain ⟨c, e1, e2⟩ := h3 pos cv hc
  exact ⟨c, e1, b _ _ e2 (J.no e2 fun _ _ _ z => by unfold LamX.CodeO at z; cases z)⟩
def ButN (H H' : Hp) (a : Addr) : Prop := ∀ b o, H b = some o → b ≠ a → (∀ ps, o ≠ .tbl ps) → H' b = some o
theorem ButN.of_same {H H' : Hp} {a : Addr} (s : Same H H') : ButN H H' a := fun b o e _ _ => s b o e
theorem ButN.of_but {H H' : Hp} {a : Addr} (s : But H H' a) : ButN H H' a := fun b o e n _ => s b o e n
theorem ButN.of_ext {H H' : Hp} {a : Addr} (s : ExtN H H') : ButN H H' a := fun b o e _ k => s b o e k
theorem ButN.trans {H H1 H2 : Hp} {a : Addr} (x : ButN H H1 a) (y : ButN H1 H2 a) : ButN H H2 a := fun b o e n k => y b o (x b o e n k) n k
theorem RowOff.butN {C : Addr} {H H' : Hp} {a p : Addr} {k : Nat} {n : Int} {ms ss : List Int} (r : RowOff C H a p n ms ss) (J : JarAt H a k) (B : ButN H H' a) : RowOff C H' a p n ms ss := by
  obtain ⟨dx, l1, l2, h1, h2, h3, n1, n2⟩ := r
  exact ⟨dx, l1, l2, B _ _ h1 (J.no h1 fun _ _ _ z => nomatch z) (fun _ z => nomatch z), B _ _ h2 n1 (fun _ z => nomatch z), B _ _ h3 n2 (fun _ z => nomatch z), n1, n2⟩
theorem PrAt.butN {H H' : Hp} {a : Addr} {k : Nat} {ts : List Addr} {ps : List (Int × Int)} (h : PrAt H ts ps) (J : JarAt H a k) (B : ButN H H' a) : PrAt H' ts ps := h.imp fun _ _ e => B _ _ e (J.no e fun _ _ _ z => nomatch z) (fun _ z => nomatch z)
theorem cut_to {α : Type} (f : α → V) (xs : List α) (s : Nat) : cutV (xs.map f) none (some (s : Int)) = (xs.take s).map f := by
  have e : HT.sIx (xs.map f).length (xs.map f).length (some (s : Int)) = min s (xs.map f).length := HT.sIx_nat _ _ s
  unfold cutV
  rw [e, HT.sIx_none, List.drop_zero, ← List.map_take, List.length_map]
  by_cases h : s ≤ xs.length
  · rw [Nat.min_eq_left h, Nat.sub_zero]
  · rw [Nat.min_eq_right (by omega), Nat.sub_zero, List.take_of_length_le (Nat.le_refl _), List.take_of_length_le (Nat.le_of_lt (by omega))]
def dO : Option Int → PyData
  | some x => .int x
  | none => .none
theorem txt_oo {K : PySem.W.Frag} {H : Hp} {p : Addr} {x : Option Int} (h : H p = some (.lst [oV x, oV x])) (w : ∀ v, x = some v → 0 ≤ v ∧ v ≤ 1000000000000000000000000000000000) : Txt K H p (.list [dO x, dO x]) := by
  cases x with
  | none => exact ⟨.lst (SqL.of h) (.cons .non (.cons .non .nil)), by decide +kernel, by decide +kernel, by decide +kernel, by decide +kernel⟩
  | some v => exact txt_il (ns := [v, v]) h ⟨by show 2 ≤ 900; decide, fun y hy => by
      have : y = v := by
        rcases List.mem_cons.mp hy with e | e
        · exact e
        · exact List.mem_singleton.mp e
      rw [this]
      exact w v rfl⟩
theorem mk4_rng {a d v : Int} (a0 : 0 ≤ a) (d0 : 0 ≤ d) (h : mk4 a d = some v) : 0 ≤ v ∧ v ≤ a + d := by
  unfold mk4 at h
  by_cases c : a = 0
  · rw [if_pos c] at h
    cases h
    omega
  · rw [if_neg c] at h
    by_cases c2 : d = 0
    · rw [if_pos c2] at h
      cases h
    · rw [if_neg c2] at h
      have e : (a + d - 1) / d = v := Option.some.inj h
      have h1 : 0 ≤ (a + d - 1) / d := Int.ediv_nonneg (by omega) (by omega)
      have h2 : (a + d - 1) / d ≤ a + d - 1 := Int.ediv_le_self _ (by omega)
      omega
def spRi (C : Addr) (T0 : List (Addr × Str)) : Sp := fun vs H Q _ => ∃ (a t : Addr) (k : Nat) (l m g : Int) (b : Bool), vs = [.ref a, .ref t, .bl b] ∧ JarAt H a (k + 596) ∧ H t = some (.tup [.int l, .int m, .int g]) ∧ SetOk l m g ∧ g ≤ 1000000000000000000000000000 ∧ Tabs T0 H ∧
  ∀ H', JarAt H' a k → ButN H H' a → Tabs T0 H' → Q (.bl true) H'
theorem hms_rng {p g st x : Int} {k : Nat} (s0 : 1 ≤ st) (sg : st ≤ g) (k4 : k ≤ 400) (h : x ∈ hms p g st k) : p + g ≤ x ∧ x ≤ p + g + 400 * g := by
  obtain ⟨i, hi, rfl⟩ := mem_hms.mp h
  have a := hm1_le (p := p) (g := g) (show 0 ≤ st by omega) (Nat.zero_le i)
  have m0 : hm1 p g st 0 = p + g := by
    unfold hm1
    simp
  refine ⟨by omega, ?_⟩
  have h1 : (i : Int) * st ≤ 400 * st := Int.mul_le_mul_of_nonneg_right (by omega) (by omega)
  have h2 : 400 * st ≤ 400 * g := by omega
  unfold hm1
  rw [Int.zero_add]
  omega
theorem hms_succ {p g st : Int} {k : Nat} : hms p g st (k + 1) = hms p g st k ++ [hm1 p g st k] := by
  unfold hms
  simp only [List.range_succ, List.map_append]
  rfl
theorem hms_len {p g st : Int} {k : Nat} : (hms p g st k).length = k := by
  unfold hms
  rw [List.length_map, List.length_range]
/-- how many marks a row of 200 least lengths takes -/
theorem few_k {p l g st n : Int} {k : Nat} (l1 : 1 ≤ l) (ls : l ≤ st) (lg : l ≤ g) (p0 : 0 ≤ p) (hn : n = hm1 p g st k + g + 1) (big : n ≤ 200 * l) : k ≤ 197 := by
  by_cases c : k ≤ 197
  · exact c
  · exfalso
    have h1 : (k : Int) * l ≤ (k : Int) * st := Int.mul_le_mul_of_nonneg_left ls (by omega)
    have h2 : 198 * l ≤ (k : Int) * l := Int.mul_le_mul_of_nonneg_right (by omega) (by omega)
    unfold hm1 at hn
    rw [Int.zero_add] at hn
    omega
/-- with fewer marks no cut before the end is sure -/
theorem sure_end {n l m g p : Int} {ms : List Int} {b : Bool} {k i : Nat} (G : Good n ms (ssOf b ms)) (S : SetOk l m g) (far : ∀ x ∈ ms, p + g ≤ x) (np : p + g < n) (lt : (k : Int) * (g - svOf b l m) < g - 1) (len : ms.length ≤ k)
    (su : Sure n ms (ssOf b ms) l m g p i) : kc (nx n ms (ssOf b ms) l m g) n p i = n := by
  have ST := nx_stp G S
  have l1 := S.l1
  have lm := S.lm
  have mg := S.mg
  have top := kc_le ST (show p ≤ n by omega) i
  by_cases c : kc (nx n ms (ssOf b ms) l m g) n p i = n
  · exact c
  · exfalso
    have a := few_apart G S far np (kc_wk ST (s := p) (Nat.zero_le i)) (by omega) su.all
    have f := List.length_filter_le (fun x => decide (x ≤ kc (nx n ms (ssOf b ms) l m g) n p i)) ms
    have e := sv_in (b := b) S
    have h : ((ms.filter fun x => decide (x ≤ kc (nx n ms (ssOf b ms) l m g) n p i)).length : Int) * (g - svOf b l m) ≤ (k : Int) * (g - svOf b l m) := Int.mul_le_mul_of_nonneg_right (by omega) (by omega)
    omega
/-- with the marks that help the last one is the first sure cut -/
theorem sure_last {n l m g p : Int} {b : Bool} {k i : Nat} (S : SetOk l m g) (G : Good n (hms p g (svOf b l m) (k + 1)) (ssOf b (hms p g (svOf b l m) (k + 1)))) (hk : g - 1 ≤ ((k + 1 : Nat) : Int) * (g - svOf b l m)) (lt : (k : Int) * (g - svOf b l m) < g - 1)
    (hn : n = hm1 p g (svOf b l m) k + g + 1) (su : Sure n (hms p g (svOf b l m) (k + 1)) (ssOf b (hms p g (svOf b l m) (k + 1))) l m g p i) :
    kc (nx n (hms p g (svOf b l m) (k + 1)) (ssOf b (hms p g (svOf b l m) (k + 1))) l m g) n p i = hm1 p g (svOf b l m) k := by
  have ST := nx_stp G S
  have l1 := S.l1
  have e := sv_in (b := b) S
  have m0 : hm1 p g (svOf b l m) 0 = p + g := by
    unfold hm1
    simp
  have up := hm1_le (p := p) (g := g) (show 0 ≤ svOf b l m by omega) (Nat.zero_le k)
  have far : ∀ x ∈ hms p g (svOf b l m) (k + 1), p + g ≤ x := fun x hx => by
    obtain ⟨j, _, rfl⟩ := mem_hms.mp hx
    have := hm1_le (p := p) (g := g) (show 0 ≤ svOf b l m by omega) (Nat.zero_le j)
    omega
  have np : p + g < n := by omega
  have all : AllE n (hms p g (svOf b l m) (k + 1)) (ssOf b (hms p g (svOf b l m) (k + 1))) l m g p (hm1 p g (svOf b l m) k) := fun z hz => hms_all S G hk hn ((ent_s G S far np).mp hz)
  obtain ⟨j, hj⟩ := all p (.inl rfl)
  have ij : i ≤ j := by
    by_cases c : i ≤ j
    · exact c
    · exact absurd (by rw [hj]; exact all) (su.none j (by omega))
  have le := kc_wk ST (s := p) ij
  rw [hj] at le
  by_cases c : kc (nx n (hms p g (svOf b l m) (k + 1)) (ssOf b (hms p g (svOf b l m) (k + 1))) l m g) n p i = hm1 p g (svOf b l m) k
  · exact c
  · exfalso
    have a := few_apart G S far np (kc_wk ST (s := p) (Nat.zero_le i)) (by omega) su.all
    have f : ((hms p g (svOf b l m) (k + 1)).filter fun x => decide (x ≤ kc (nx n (hms p g (svOf b l m) (k + 1)) (ssOf b (hms p g (svOf b l m) (k + 1))) l m g) n p i)).length ≤ k := by
      generalize kc (nx n (hms p g (svOf b l m) (k + 1)) (ssOf b (hms p g (svOf b l m) (k + 1))) l m g) n p i = c' at c le
      rw [hms_succ, List.filter_append, List.filter_cons, if_neg (by rw [decide_eq_true_eq]; omega), List.filter_nil, List.append_nil]
      have := List.length_filter_le (fun x => decide (x ≤ c')) (hms p g (svOf b l m) k)
      rw [hms_len] at this
      exact this
    have h : (((hms p g (svOf b l m) (k + 1)).filter fun x => decide (x ≤ kc (nx n (hms p g (svOf b l m) (k + 1)) (ssOf b (hms p g (svOf b l m) (k + 1))) l m g) n p i)).length : Int) * (g - svOf b l m) ≤ (k : Int) * (g - svOf b l m) := Int.mul_le_mul_of_nonneg_right (by omega) (by omega)
    omega
section
variable {P : Program} {w : World} {K : PySem.W.Frag} {mg : Str → Option Value} {base : Heap}
abbrev NRi : List Str := ["jar", "three", "strong", "many", "goal", "step_v", "told", "length", "some", "low", "turn", "spot", "draw"]
theorem scRi : FnScope NRi ["jar", "three", "strong"] (defScope sRi) := ⟨rfl, rfl, rfl, by decide +kernel, rfl, by decide +kernel, by decide +kernel⟩
theorem ok_ri {T0 : List (Addr × Str)} {f C fU fD fF fH fS fM : Addr} {fd fdU fdD fdF fdH fdS fdM : FuncData} (F : Fun K "_law_right" "_law_right" sRi f fd) (T : Bl mg) (hRp : mg "repr" = none)
    (gU : mg "_law_due" = some (.ref fU)) (kU : PySem.W.keepIn K (.ref fU) = true) (bU : Binds K fdU ["three", "strong"] []) (GU : FnOk P w K mg base CX0 1 fU fdU ["three", "strong"] spDu)
    (gD : mg "_law_dip" = some (.ref fD)) (kD : PySem.W.keepIn K (.ref fD) = true) (bD : Binds K fdD ["jar", "many"] []) (GD : FnOk P w K mg base CX0 1 fD fdD ["jar", "many"] spDip)
    (gF : mg "fewest_marks" = some (.ref fF)) (kF : PySem.W.keepIn K (.ref fF) = true) (bF : Binds K fdF ["settings", "is_strict"] []) (GF : FnOk P w K mg base CX0 3 fF fdF ["settings", "is_strict"] spFW)
    (gH : mg "helping_marks" = some (.ref fH)) (kH : PySem.W.keepIn K (.ref fH) = true) (bH : Binds K fdH ["settings", "place", "is_strict"] []) (GH : FnOk P w K mg base CX0 3 fH fdH ["settings", "place", "is_strict"] spHM)
    (gS : mg "sure_cut" = some (.ref fS)) (kS : PySem.W.keepIn K (.ref fS) = true) (bS : Binds K fdS ["row", "settings", "place"] []) (GS : FnOk P w K mg base CX0 10 fS fdS ["row", "settings", "place"] (spSC C T0))
    (gM : mg "_law_marked" = some (.ref fM)) (kM : PySem.W.keepIn K (.ref fM) = true) (bM : Binds K fdM ["length", "spots", "strong"] []) (GM : FnOk P w K mg base CX0 7 fM fdM ["length", "spots", "strong"] (spMkd C)) :
    FnG P w K mg base 11 f fd ["jar", "three", "strong"] (spRi C T0) := by
  refine okG F scRi (fun vs H Q E h => ?_) (fun cdv A outer s H vs Q E hr hg h => ?_)
  · obtain ⟨a, t, k, l, m, g, b, rfl, _⟩ := h
    rfl
  · obtain ⟨a, t, k, l, m, g, b, rfl, J, ht, S, big, hT, q⟩ := h
    have hu : (A.deeper (PyProof.Rows.envOfC "_law_right" (defScope sRi) s.heap.objs.size f cdv)).units + 64 < cLine := Nat.lt_of_le_of_lt (by omega) hr.un
    have gu : (A.deeper (PyProof.Rows.envOfC "_law_right" (defScope sRi) s.heap.objs.size f cdv)).guards = some [] := hg
    refine ⟨_, (pss_cons (ps_set (i := 3) scRi.nd rfl (Or.inl rfl) (pe_call GU (hr.mono (by decide)) rfl gU kU bU .nil pass0 (pa_cons (pv 1) (pa_cons (pv 2) pa_nil))))
        (pss_cons (ps_set (i := 4) scRi.nd rfl (Or.inr rfl) (pe_ix (r := rIxL K) ix_list (pe_lst (pa_cons pe_int (pa_cons (pe_call GD (hr.mono (by decide)) rfl gD kD bD .nil pass0 (pa_cons (pv 0) (pa_cons pe_int pa_nil))) (pa_cons (pe_call GD (hr.mono (by decide)) rfl gD kD bD .nil pass0 (pa_cons (pv 0) (pa_cons (pe_op op_mul pe_int (pe_ix (r := rIxT K) ix_tup (pv 1) pe_int (fun _ _ => rfl))) pa_nil))) (pa_cons (pe_op op_pow pe_int pe_int) pa_nil))))) (pe_call GD (hr.mono (by decide)) rfl gD kD bD .nil pass0 (pa_cons (pv 0) (pa_cons pe_int pa_nil))) (fun _ _ => rfl)))
        (pss_cons (ps_if (pt_cmpR op_ne (pe_callB (call_reprD gu hu) (by rfl) hRp (by decide +kernel) (pa_cons (pe_lst (pa_cons (pe_call GF (hr.mono (by decide)) rfl gF kF bF .nil pass0 (pa_cons (pv 1) (pa_cons (pv 2) pa_nil))) (pa_cons (pe_call GF (hr.mono (by decide)) rfl gF kF bF .nil pass0 (pa_cons (pv 1) (pa_cons (pv 2) pa_nil))) pa_nil))) pa_nil)) (pe_callB (call_reprD gu hu) (by rfl) hRp (by decide +kernel) (pa_cons (pe_lst (pa_cons (pv 3) (pa_cons (pv 3) pa_nil))) pa_nil)) (nomark _)) (pss_one (ps_ret pe_bl)) pss_nil)
        (pss_cons (ps_if (PW.pt (pw_or (pt_cmpR op_isN (pv 3) pe_non (nomark _)) (pw_or1 (pt_cmpR op_gt (pv 3) pe_int (nomark _))))) (pss_one (ps_ret pe_bl)) pss_nil)
        (pss_cons (ps_asg (pe_tup (pa_cons (pe_ix (r := rIxT K) ix_tup (pv 1) (pe_callTy call_int1 (by rfl) T.int (by decide +kernel) (pa_cons (pe_not (pv 2)) pa_nil)) (fun _ _ => rfl)) (pa_cons (pe_call GH (hr.mono (by decide)) rfl gH kH bH .nil pass0 (pa_cons (pv 1) (pa_cons (pv 4) (pa_cons (pv 2) pa_nil)))) pa_nil))) (pg_tup rfl (pgs_cons (pg_name (i := 5) scRi.nd rfl (Or.inr rfl)) (pgs_cons (pg_name (i := 6) scRi.nd rfl (Or.inr rfl)) pgs_nil))))
        (pss_cons (ps_if (pt_cmpR op_ne (pe_callB (call_reprD gu hu) (by rfl) hRp (by decide +kernel) (pa_cons (pv 6) pa_nil)) (pe_callB (call_reprD gu hu) (by rfl) hRp (by decide +kernel) (pa_cons (pe_lc (own := [("spot", 11)]) (g := (gName 11)) (tt := tYes) rfl scRi.nd (pi_range1 (by rfl) T.range (pa_cons (pv 3) pa_nil)) (blkOk_by (own := [("spot", 11)]) (N := NRi) (sc := defScope sRi) (by decide +kernel)) (fun _ _ _ _ _ => (pg_name (i := 11) scRi.nd rfl (Or.inl rfl))) (fun _ _ _ _ _ => pts_nil) (fun _ _ _ _ _ => (pe_op op_add (pe_op op_add (pv 4) (pe_ix (r := rIxT K) ix_tup (pv 1) pe_int (fun _ _ => rfl))) (pe_op op_mul (pv 11) (pv 5))))) pa_nil)) (nomark _)) (pss_one (ps_ret pe_bl)) pss_nil)
        (pss_cons (ps_set (i := 7) scRi.nd rfl (Or.inl rfl) (pe_ifExp (pt_cmpR op_gt (pv 3) pe_int (nomark _)) (pe_op op_add (pe_op op_add (pe_ix (r := rIxL K) ix_list (pv 6) (pe_un un_neg pe_int) (fun _ _ => rfl)) (pe_ix (r := rIxT K) ix_tup (pv 1) pe_int (fun _ _ => rfl))) pe_int) pe_int))
        (pss_cons (ps_if (PW.pt (pw_or (pt_cmpR op_eq (pv 3) pe_int (nomark _)) (pw_or1 (pt_cmpR op_gt (pv 7) (pe_op op_mul pe_int (pe_ix (r := rIxT K) ix_tup (pv 1) pe_int (fun _ _ => rfl))) (nomark _))))) (pss_one (ps_ret pe_bl)) pss_nil)
        (pss_cons (ps_if (pt_cmpR op_ne (pe_call GS (hr.mono (by decide)) rfl gS kS bS .nil pass0 (pa_cons (pe_call GM (hr.mono (by decide)) rfl gM kM bM .nil pass0 (pa_cons (pv 7) (pa_cons (pv 6) (pa_cons (pv 2) pa_nil)))) (pa_cons (pv 1) (pa_cons (pv 4) pa_nil)))) (pe_ix (r := rIxL K) ix_list (pv 6) (pe_un un_neg pe_int) (fun _ _ => rfl)) (nomark _)) (pss_one (ps_ret pe_bl)) pss_nil)
        (pss_cons (ps_asg (pe_tup (pa_cons (pe_slice sl_list (pv 6) po_none (po_some (pe_call GD (hr.mono (by decide)) rfl gD kD bD .nil pass0 (pa_cons (pv 0) (pa_cons (pv 3) pa_nil))))) (pa_cons (pe_op op_add (pv 4) (pe_ix (r := rIxT K) ix_tup (pv 1) pe_int (fun _ _ => rfl))) pa_nil))) (pg_tup rfl (pgs_cons (pg_name (i := 8) scRi.nd rfl (Or.inl rfl)) (pgs_cons (pg_name (i := 9) scRi.nd rfl (Or.inr rfl)) pgs_nil))))
        (pss_cons (ps_for PassesOwn.never rfl (pi_range1 (by rfl) T.range (pa_cons pe_int pa_nil)) (pg_name (i := 10) scRi.nd rfl (Or.inl rfl))
        (pss_cons (ps_if (pt_cmpR op_ne (pe_call GS (hr.mono (by decide)) rfl gS kS bS .nil pass0 (pa_cons (pe_call GM (hr.mono (by decide)) rfl gM kM bM .nil pass0 (pa_cons (pv 7) (pa_cons (pv 8) (pa_cons (pv 2) pa_nil)))) (pa_cons (pv 1) (pa_cons (pv 4) pa_nil)))) (pv 7) (nomark _)) (pss_one (ps_ret pe_bl)) pss_nil)
        (pss_one (ps_set (i := 8) scRi.nd rfl (Or.inl rfl) (pe_callB (show CallR _ (.builtin "sorted") (rSortSet w) from cr_sortSet rfl) (by rfl) T.sorted (by decide +kernel) (pa_cons (pe_callTy (show CallR _ (.type "set") (rSetOfW K w) from cr_setOf rfl) (by rfl) T.set (by decide +kernel) (pa_cons (pe_lc (own := [("draw", 12)]) (g := (gName 12)) (tt := tYes) rfl scRi.nd (pi_range1 (by rfl) T.range (pa_cons (pe_op op_sub (pv 3) pe_int) pa_nil)) (blkOk_by (own := [("draw", 12)]) (N := NRi) (sc := defScope sRi) (by decide +kernel)) (fun _ _ _ _ _ => (pg_name (i := 12) scRi.nd rfl (Or.inl rfl))) (fun _ _ _ _ _ => pts_nil) (fun _ _ _ _ _ => (pe_op op_add (pv 9) (pe_call GD (hr.mono (by decide)) rfl gD kD bD .nil pass0 (pa_cons (pv 0) (pa_cons (pe_op op_add (pe_op op_sub (pe_ix (r := rIxL K) ix_list (pv 6) (pe_un un_neg pe_int) (fun _ _ => rfl)) (pv 9)) pe_int) pa_nil)))))) pa_nil)) pa_nil))))))
        (pss_one (ps_ret pe_bl))))))))))))), ?_⟩
    have l1 := S.l1
    have lmm := S.lm
    have mgg := S.mg
    have sv := sv_in (b := b) S
    have z110 : (2 : Int) ^ 110 = 1298074214633706907132624082305024 := by decide +kernel
    have z120 : (2 : Int) ^ 120 = 1329227995784915872903807060280344576 := by decide +kernel
    have nta : t ≠ a := J.no ht fun _ _ _ z => nomatch z
    refine ⟨_, rfl, _, rfl, t, l, m, g, b, rfl, ht, S, by omega, ?_⟩
    have mr : ∀ v, mk4 (g - 1) (g - svOf b l m) = some v → 0 ≤ v ∧ v ≤ 1000000000000000000000000000000000 := fun v h => by
      have := mk4_rng (by omega) (by omega) h
      omega
    generalize hmo : mk4 (g - 1) (g - svOf b l m) = mo at mr ⊢
    try dsimp only [L2.start, List.set, List.map, List.append, List.replicate, List.length]
    -- the place
    refine ⟨_, rfl, a, k + 595, 9, rfl, J, by decide, by decide, fun v1 H1 a1 b1 J1 B1 => ?_⟩
    refine ⟨_, rfl, _, rfl, t, _, _, _, rfl, rfl, SqT.of (B1 _ _ ht nta), at_of2 (j := 0) rfl rfl, _, _, rfl, rfl, .inl ⟨by decide, by decide⟩, a, k + 594, 30 * l, rfl, J1, by omega, by omega, fun v2 H2 a2 b2 J2 B2 => ?_⟩
    refine ⟨_, _, rfl, rfl, ⟨by decide, by decide, by decide⟩, ?_⟩
    dsimp -proj only [tNil]
    rw [show (10 : Int) ^ Int.toNat 27 = 1000000000000000000000000000 by decide +kernel]
    refine ⟨(by show 4 ≤ sizeLine; decide), fun L hL => ?_⟩
    have s3 := same_new (o := .lst [.int 0, .int v1, .int v2, .int 1000000000000000000000000000]) (Same.refl H2) hL
    have k3 : IL (upd H2 L (.lst [.int 0, .int v1, .int v2, .int 1000000000000000000000000000])) L [0, v1, v2, 1000000000000000000000000000] := upd_same
    generalize upd H2 L (.lst [.int 0, .int v1, .int v2, .int 1000000000000000000000000000]) = H3 at s3 k3 ⊢
    have nLa : L ≠ a := (J2.ne hL).symm
    have gr : ∀ x ∈ [0, v1, v2, 1000000000000000000000000000], 0 ≤ x ∧ x ≤ 100000000000000000000000000000 := fun x hx => by
      simp only [List.mem_cons, List.not_mem_nil, or_false] at hx
      omega
    have gl : ([0, v1, v2, 1000000000000000000000000000].map V.int).length = 4 := rfl
    generalize [0, v1, v2, 1000000000000000000000000000] = gs at k3 gr gl
    refine ⟨_, rfl, a, k + 593, 4, rfl, J2.same s3, by decide, by decide, fun i0 H4 a3 b3 J4 B4 => ?_⟩
    obtain ⟨p, ep, mp⟩ := near_at (ks := gs) a3 (by rw [gl]; exact b3)
    refine ⟨L, _, _, _, rfl, rfl, SqL.of (B4 _ _ k3 nLa), ep, ?_⟩
    have pr := gr p mp
    have B04 : But H H4 a := (B1.trans B2).trans ((But.of s3).trans B4)
    have ht4 := B04 _ _ ht nta
    have T4 := tabs_but hT J B04
    clear gr gl mp ep k3 s3 hL nLa J1 J2 B1 B2 B4
    try dsimp only [L2.start, List.set, List.map, List.append, List.replicate, List.length]
    -- the number of marks
    refine ⟨_, rfl, _, rfl, t, l, m, g, b, rfl, ht4, S, by omega, fun H5 s5 => ?_⟩
    refine ⟨_, rfl, _, rfl, t, l, m, g, b, rfl, s5 _ _ ht4, S, by omega, fun H6 s6 => ?_⟩
    rw [hmo]
    refine ⟨(by show 2 ≤ sizeLine; decide), fun u1 hu1 => ?_⟩
    have s7 := same_new (o := .lst [oV mo, oV mo]) (Same.refl H6) hu1
    have k7 : upd H6 u1 (.lst [oV mo, oV mo]) u1 = some (.lst [oV mo, oV mo]) := upd_same
    generalize upd H6 u1 (.lst [oV mo, oV mo]) = H7 at s7 k7 ⊢
    obtain ⟨z1, z2, z3, z4, z5⟩ := txt_oo (K := K) k7 mr
    generalize hdd : PyData.list [dO mo, dO mo] = dd at z1 z2 z3 z4 z5
    refine ⟨u1, _, rfl, z1, z2, z3, z4, z5, ?_⟩
    clear z1 z2 z3 z4 z5
    refine ⟨_, rfl, _, rfl, (by show 2 ≤ sizeLine; decide), fun u2 hu2 => ?_⟩
    have s8 := same_new (o := .lst [oV mo, oV mo]) (Same.refl H7) hu2
    have k8 : upd H7 u2 (.lst [oV mo, oV mo]) u2 = some (.lst [oV mo, oV mo]) := upd_same
    generalize upd H7 u2 (.lst [oV mo, oV mo]) = H8 at s8 k8 ⊢
    obtain ⟨z1, z2, z3, z4, z5⟩ := txt_oo (K := K) k8 mr
    rw [hdd] at z1 z2 z3 z4 z5
    refine ⟨u2, _, rfl, z1, z2, z3, z4, z5, rfl, _, rfl, ?_⟩
    clear z1 z2 z3 z4 z5
    refine ifF (by simp) ?_
    have s48 := ((s5.trans s6).trans s7).trans s8
    have ht8 := s48 _ _ ht4
    have T8 := T4.ext s48
    have J8 := J4.same s48
    have B08 := B04.trans (But.of s48)
    clear hdd s5 s6 s7 s8 k7 k8 s48 hu1 hu2 ht4 T4 J4 B04
    try dsimp only [L2.start, List.set, List.map, List.append, List.replicate, List.length]
    cases mo with
    | none =>
      refine ⟨_, rfl, rfl, _, rfl, ?_⟩
      refine ifT rfl ?_
      exact q H8 (J8.mono (by omega)) (ButN.of_but B08) T8
    | some v =>
      have vr := mr v rfl
      refine ⟨_, rfl, rfl, _, rfl, ?_⟩
      refine ifF rfl ?_
      refine ⟨_, rfl, _, _, rfl, rfl, _, rfl, ?_⟩
      by_cases c : v > 400
      · refine ifT (decide_eq_true c) ?_
        exact q H8 (J8.mono (by omega)) (ButN.of_but B08) T8
      refine ifF (decide_eq_false c) ?_
      obtain ⟨kk, rfl⟩ : ∃ kk : Nat, v = (kk : Int) := ⟨v.toNat, by omega⟩
      try dsimp only [L2.start, List.set, List.map, List.append, List.replicate, List.length]
      have eix : atI [V.int l, V.int m, V.int g] (if (!b) = true then 1 else 0) = some (V.int (svOf b l m)) := by cases b <;> rfl
      refine ⟨_, rfl, _, rfl, _, rfl, .inr ⟨_, rfl, t, _, _, _, rfl, rfl, SqT.of ht8, eix, ?_⟩⟩
      refine ⟨_, rfl, _, rfl, _, rfl, t, l, m, g, p, b, kk, rfl, ht8, S, by omega, pr.1, hmo, by omega, fun qt H9 s9 nqt iT => ?_⟩
      refine ⟨(by show 2 ≤ sizeLine; decide), fun tp htp => ?_⟩
      have sA := same_new (o := .tup [.int (svOf b l m), .ref qt]) (Same.refl H9) htp
      have kA : upd H9 tp (.tup [.int (svOf b l m), .ref qt]) tp = some (.tup [.int (svOf b l m), .ref qt]) := upd_same
      generalize upd H9 tp (.tup [.int (svOf b l m), .ref qt]) = HA at sA kA ⊢
      refine ⟨tp, _, rfl, SqT.of kA, rfl, _, _, rfl, _, _, rfl, rfl, ?_⟩
      have s8A := s9.trans sA
      have iTA := sA _ _ iT
      have nqa : qt ≠ a := (J8.ne nqt).symm
      have lsv : l ≤ svOf b l m := by
        cases b
        · exact lmm
        · exact Int.le_refl l
      have wT : Wide (hms p g (svOf b l m) kk) := ⟨by rw [hms_len]; omega, fun x hx => by
        have := hms_rng sv.1 sv.2 (by omega) hx
        omega⟩
      clear kA sA iT s9 htp nqt
      try dsimp only [L2.start, List.set, List.map, List.append, List.replicate, List.length]
      obtain ⟨z1, z2, z3, z4, z5⟩ := txt_il (K := K) iTA wT
      refine ⟨_, rfl, qt, _, rfl, z1, z2, z3, z4, z5, ?_⟩
      clear z1 z2 z3 z4 z5
      refine ⟨_, rfl, _, rfl, by omega, by omega, fun D hD => ?_⟩
      have htA := s8A _ _ ht8
      refine lc_range (lo := 0) (n := Int.toNat _) (fun i H' => Same HA H' ∧ IL H' D (hms p g (svOf b l m) i)) ⟨same_new (Same.refl HA) hD, upd_same⟩ ?_ ?_
      · rintro i HB hi ⟨sB, hE⟩
        refine ⟨rfl, ?_⟩
        unfold tYes
        refine iteT ?_
        refine ⟨_, rfl, _, rfl, t, _, _, _, rfl, rfl, SqT.of (sB _ _ htA), at_of2 (j := 2) rfl rfl, _, _, rfl, rfl, _, rfl, _, rfl, _, _, rfl, rfl, .inl ⟨by omega, by omega⟩, _, _, rfl, rfl, ?_⟩
        refine ⟨_, hE, by rw [List.length_map, hms_len]; exact small1000 (by omega), same_put sB hD, ?_⟩
        show upd _ _ _ D = _
        rw [upd_same, ints_app, hms_succ]
      rintro HB ⟨sB, hE⟩
      rw [Int.toNat_natCast] at hE
      obtain ⟨z1, z2, z3, z4, z5⟩ := txt_il (K := K) hE wT
      refine ⟨D, _, rfl, z1, z2, z3, z4, z5, rfl, _, rfl, ?_⟩
      clear z1 z2 z3 z4 z5
      refine ifF (by simp) ?_
      have sAB := s8A.trans sB
      have htB := sB _ _ htA
      have iTB := sB _ _ iTA
      have JB := J8.same sAB
      have TB := T8.ext sAB
      have BB := B08.trans (But.of sAB)
      clear hE iTA htA sB s8A sAB hD wT J8 T8 B08 ht8
      try dsimp only [L2.start, List.set, List.map, List.append, List.replicate, List.length]
      -- the length
      refine ⟨_, rfl, _, _, rfl, rfl, _, rfl, ?_⟩
      by_cases k0 : kk = 0
      · refine ifF (decide_eq_false (by omega)) ?_
        refine ⟨_, rfl, rfl, _, rfl, ?_⟩
        refine ifT (decide_eq_true (by rw [k0]; rfl)) ?_
        exact q HB (JB.mono (by omega)) (ButN.of_but BB) TB
      obtain ⟨k1, rfl⟩ : ∃ k1, kk = k1 + 1 := ⟨kk - 1, by omega⟩
      obtain ⟨d0, _, up, lo⟩ := mk4_some (a := g - 1) (d := g - svOf b l m) (k := k1 + 1) (by
        by_cases c : g - 1 = 0
        · unfold mk4 at hmo
          rw [if_pos c] at hmo
          have := Option.some.inj hmo
          omega
        · omega) (by omega) hmo
      have lo : (k1 : Int) * (g - svOf b l m) < g - 1 := by
        rw [show (((k1 + 1 : Nat) : Int) - 1) = (k1 : Int) by omega] at lo
        exact lo
      refine ifT (decide_eq_true (by omega)) ?_
      have atl : atI ((hms p g (svOf b l m) (k1 + 1)).map V.int) (-1) = some (V.int (hm1 p g (svOf b l m) k1)) := by
        rw [hms_succ, List.map_append]
        exact atI_last _ _
      refine ⟨_, rfl, _, rfl, qt, _, _, _, rfl, rfl, SqL.of iTB, atl, ?_⟩
      refine ⟨_, rfl, t, _, _, _, rfl, rfl, SqT.of htB, at_of2 (j := 2) rfl rfl, _, _, rfl, rfl, _, _, rfl, rfl, ?_⟩
      dsimp -proj only
      generalize hn : hm1 p g (svOf b l m) k1 + g + 1 = n
      try dsimp only [L2.start, List.set, List.map, List.append, List.replicate, List.length]
      refine ⟨_, rfl, rfl, _, rfl, ?_⟩
      refine ifF (decide_eq_false fun z => by have := V.int.inj z; omega) ?_
      refine ⟨_, rfl, _, rfl, t, _, _, _, rfl, rfl, SqT.of htB, at_of2 (j := 0) rfl rfl, _, _, rfl, rfl, .inl ⟨by decide, by decide⟩, _, _, rfl, rfl, _, rfl, ?_⟩
      by_cases cn : n > 200 * l
      · refine ifT (decide_eq_true cn) ?_
        exact q HB (JB.mono (by omega)) (ButN.of_but BB) TB
      refine ifF (decide_eq_false cn) ?_
      have k197 := few_k l1 lsv (show l ≤ g by omega) pr.1 hn.symm (by omega)
      have up0 := hm1_le (p := p) (g := g) (show 0 ≤ svOf b l m by omega) (Nat.zero_le k1)
      have m0 : hm1 p g (svOf b l m) 0 = p + g := by
        unfold hm1
        simp
      have good : ∀ ms : List Int, Asc ms → (∀ x ∈ ms, p + g ≤ x ∧ x ≤ hm1 p g (svOf b l m) k1) → ms.length ≤ 400 → Good n ms ms := fun ms h1 h2 h3 =>
        { pos := by omega, len := h3, rng := fun x hx => by have := h2 x hx; omega, asc := h1, asc2 := h1, sub := fun x h => h }
      have goodS : ∀ {ms : List Int}, Good n ms ms → Good n ms (ssOf b ms) := fun {ms} G => by
        cases b
        · exact { pos := G.pos, len := G.len, rng := G.rng, asc := G.asc, asc2 := List.Pairwise.nil, sub := fun x h => (nomatch h) }
        · exact G
      have inT : ∀ x ∈ hms p g (svOf b l m) (k1 + 1), p + g ≤ x ∧ x ≤ hm1 p g (svOf b l m) k1 := fun x hx => by
        obtain ⟨j, hj, rfl⟩ := mem_hms.mp hx
        have h1 := hm1_le (p := p) (g := g) (show 0 ≤ svOf b l m by omega) (Nat.zero_le j)
        have h2 := hm1_le (p := p) (g := g) (show 0 ≤ svOf b l m by omega) (show j ≤ k1 by omega)
        omega
      have ascT := hms_asc (p := p) (g := g) sv.1 (k1 + 1)
      have GT := good _ ascT inT (by rw [hms_len]; omega)
      try dsimp only [L2.start, List.set, List.map, List.append, List.replicate, List.length]
      -- with all of them
      refine ⟨_, rfl, _, rfl, _, rfl, n, qt, b, _, rfl, iTB, GT, fun r HC sC row => ?_⟩
      have RW : RwS C HC r t n l m g (hms p g (svOf b l m) (k1 + 1)) (ssOf b (hms p g (svOf b l m) (k1 + 1))) := ⟨row, sC _ _ htB, goodS GT, S, by omega⟩
      refine ⟨_, rfl, _, rfl, r, t, n, l, m, g, p, _, _, rfl, RW, pr.1, by omega, by rw [hms_len]; omega, TB.ext sC, fun HD i1 su eD TD => ?_⟩
      rw [sure_last S (goodS GT) up lo hn.symm su]
      have eBD := (ExtN.of sC).trans eD
      have iTD := eBD _ _ iTB (fun _ z => nomatch z)
      have htD := eBD _ _ htB (fun _ z => nomatch z)
      refine ⟨_, rfl, _, rfl, qt, _, _, _, rfl, rfl, SqL.of iTD, atl, rfl, _, rfl, ?_⟩
      refine ifF (by show (!decide (V.int _ = V.int _)) = false; simp) ?_
      have JD : JarAt HD a (k + 591 + 1) := (JB.ext eBD).mono (by omega)
      have BD : ButN H HD a := (ButN.of_but BB).trans (ButN.of_ext eBD)
      clear RW row eBD eD sC TB BB JB iTB htB su
      try dsimp only [L2.start, List.set, List.map, List.append, List.replicate, List.length]
      -- with fewer
      refine ⟨_, rfl, _, rfl, _, rfl, a, k + 591, _, rfl, JD, by omega, by omega, fun j0 HE a4 b4 JE BE => ⟨_, rfl, qt, _, rfl, SqL.of (BE _ _ iTD nqa), fun L0 hL0 => ?_⟩⟩
      obtain ⟨j, rfl⟩ : ∃ j : Nat, j0 = (j : Int) := ⟨j0.toNat, by omega⟩
      rw [cut_to]
      have sF := same_new (o := .lst (((hms p g (svOf b l m) (k1 + 1)).take j).map V.int)) (Same.refl HE) hL0
      have kF : IL (upd HE L0 (.lst (((hms p g (svOf b l m) (k1 + 1)).take j).map V.int))) L0 ((hms p g (svOf b l m) (k1 + 1)).take j) := upd_same
      generalize upd HE L0 (.lst (((hms p g (svOf b l m) (k1 + 1)).take j).map V.int)) = HF at sF kF ⊢
      have BF : ButN HD HF a := ButN.of_but (BE.trans (But.of sF))
      have TF := (tabs_but TD JD BE).ext sF
      have JF : JarAt HF a (k + 197 * (3 - 0)) := (JE.same sF).mono (by omega)
      have nL0 : L0 ≠ a := (JE.ne hL0).symm
      refine ⟨_, rfl, _, rfl, t, _, _, _, rfl, rfl, SqT.of (BF _ _ htD nta fun _ z => nomatch z), at_of2 (j := 2) rfl rfl, _, _, rfl, rfl, (by show 2 ≤ sizeLine; decide), fun tq htq => ?_⟩
      have sG := same_new (o := .tup [.ref L0, .int (p + g)]) (Same.refl HF) htq
      have kG : upd HF tq (.tup [.ref L0, .int (p + g)]) tq = some (.tup [.ref L0, .int (p + g)]) := upd_same
      generalize upd HF tq (.tup [.ref L0, .int (p + g)]) = HG at sG kG ⊢
      refine ⟨tq, _, rfl, SqT.of kG, rfl, _, _, rfl, _, _, rfl, rfl, ?_⟩
      have BG : ButN HD HG a := BF.trans (ButN.of_same sG)
      have TG := TF.ext sG
      have JG := JF.same sG
      have kG0 := sG _ _ kF
      have ok0 : Asc ((hms p g (svOf b l m) (k1 + 1)).take j) ∧ (∀ x ∈ (hms p g (svOf b l m) (k1 + 1)).take j, p + g ≤ x ∧ x ≤ hm1 p g (svOf b l m) k1) ∧ ((hms p g (svOf b l m) (k1 + 1)).take j).length ≤ k1 := by
        refine ⟨List.Pairwise.sublist (List.take_sublist _ _) ascT, fun x hx => inT x (List.mem_of_mem_take hx), ?_⟩
        rw [List.length_take]
        omega
      generalize (hms p g (svOf b l m) (k1 + 1)).take j = m0s at kG0 ok0
      clear kG kF sG sF BF TF JF JE BE htq hL0
      try dsimp only [L2.start, List.set, List.map, List.append, List.replicate, List.length]
      refine ⟨_, rfl, by decide, by decide, ?_⟩
      refine for_range (lo := 0) (n := 3) (fun i σ H' => ∃ (Ls : Addr) (v10 : Option V) (ms : List Int), σ = [some (.ref a), some (.ref t), some (.bl b), some (.int ((k1 + 1 : Nat) : Int)), some (.int p), some (.int (svOf b l m)), some (.ref qt), some (.int n), some (.ref Ls), some (.int (p + g)), v10, none, none] ∧ JarAt H' a (k + 197 * (3 - i)) ∧ ButN HD H' a ∧ Tabs T0 H' ∧ IL H' Ls ms ∧ Ls ≠ a ∧ Asc ms ∧ (∀ x ∈ ms, p + g ≤ x ∧ x ≤ hm1 p g (svOf b l m) k1) ∧ ms.length ≤ k1)
        ⟨L0, _, m0s, rfl, JG, BG, TG, kG0, nL0, ok0⟩ ?_ ?_
      · rintro i σ H1 hi ⟨Ls, v10, ms, rfl, J1, B1, T1, k1s, nLs, asc, inr, len⟩
        have ht1 := B1 _ _ htD nta fun _ z => nomatch z
        have GM := good ms asc inr (by omega)
        have J1 : JarAt H1 a (k + 197 * (3 - (i + 1)) + 197) := J1.mono (by omega)
        generalize k + 197 * (3 - (i + 1)) = kj at J1 ⊢
        try dsimp only [L2.start, List.set, List.map, List.append, List.replicate, List.length]
        refine ⟨_, rfl, _, rfl, _, rfl, n, Ls, b, ms, rfl, k1s, GM, fun r H2 s2 row => ?_⟩
        have RW : RwS C H2 r t n l m g ms (ssOf b ms) := ⟨row, s2 _ _ ht1, goodS GM, S, by omega⟩
        refine ⟨_, rfl, _, rfl, r, t, n, l, m, g, p, _, _, rfl, RW, pr.1, by omega, by omega, T1.ext s2, fun H3 i1 su e3 T3 => ?_⟩
        rw [sure_end (goodS GM) S (fun x hx => (inr x hx).1) (by omega) lo len su]
        refine ⟨_, rfl, rfl, _, rfl, ?_⟩
        refine ifF (by show (!decide (V.int _ = V.int _)) = false; simp) ?_
        have e13 := (ExtN.of s2).trans e3
        have J3 := J1.ext e13
        have B3 := B1.trans (ButN.of_ext e13)
        have iT3 := B3 _ _ iTD nqa fun _ z => nomatch z
        clear RW row s2 e13 e3 su T1 B1 J1
        try dsimp only [L2.start, List.set, List.map, List.append, List.replicate, List.length]
        refine ⟨_, rfl, _, _, rfl, rfl, _, rfl, by omega, by omega, fun D hD => ?_⟩
        have nD : D ≠ a := (J3.ne hD).symm
        refine lc_range (lo := 0) (n := Int.toNat _) (fun i H' => ∃ xs : List Int, JarAt H' a (kj + (197 - i)) ∧ But H3 H' a ∧ IL H' D xs ∧ xs.length = i ∧ ∀ x ∈ xs, p + g ≤ x ∧ x ≤ hm1 p g (svOf b l m) k1) ⟨[], J3.put nD.symm, (But.refl H3 a).new hD, upd_same, rfl, fun _ h => (nomatch h)⟩ ?_ ?_
        · rintro i2 H4 hi2 ⟨xs, J4, B4, hE, xl, xr⟩
          refine ⟨rfl, ?_⟩
          unfold tYes
          refine iteT ?_
          refine ⟨_, rfl, _, rfl, _, rfl, _, rfl, qt, _, _, _, rfl, rfl, SqL.of (B4 _ _ iT3 nqa), atl, ?_⟩
          have i2k : i2 < k1 := by omega
          have Jx : JarAt H4 a (kj + (197 - (i2 + 1)) + 1) := J4.mono (by omega)
          refine ⟨_, rfl, _, _, rfl, rfl, _, _, rfl, rfl, a, _, _, rfl, Jx, by omega, by omega, fun v H5 va vb J5 B5 => ⟨_, _, rfl, rfl, ?_⟩⟩
          refine ⟨_, B5 _ _ hE nD, by rw [List.length_map]; exact small1000 (by omega), xs ++ [p + g + v], J5.put nD.symm, (B4.trans B5).put hD, ?_, by rw [List.length_append, xl]; rfl, fun x hx => ?_⟩
          · show upd _ _ _ D = _
            rw [upd_same, ints_app]
          · rcases List.mem_append.mp hx with hx | hx
            · exact xr x hx
            · rw [List.mem_singleton.mp hx]
              omega
        rintro H4 ⟨xs, J4, B4, hE, xl, xr⟩
        have xk : xs.length ≤ k1 := by omega
        refine ⟨D, xs, rfl, SqL.of hE, by omega, fun e1 c1 hc1 he1 => ?_⟩
        have k5 := upd_same (H := H4) (a := e1) (o := SetO w e1 (fun j => decide (j ∈ xs)) c1)
        have s5 := same_new (o := SetO w e1 (fun j => decide (j ∈ xs)) c1) (Same.refl H4) he1
        generalize upd H4 e1 (SetO w e1 (fun j => decide (j ∈ xs)) c1) = H5 at k5 s5 ⊢
        refine ⟨e1, _, _, rfl, k5, fun es e2 av mv he2 => ?_⟩
        have mv : ∀ z, z ∈ es ↔ z ∈ xs := fun z => (mv z).trans decide_eq_true_iff
        have s6 := same_new (o := .lst (es.map V.int)) s5 he2
        have k6 : IL (upd H5 e2 (.lst (es.map V.int))) e2 es := upd_same
        have J5 := J4.same s5
        have ne2 : e2 ≠ a := (J5.ne he2).symm
        generalize upd H5 e2 (.lst (es.map V.int)) = H6 at k6 s6 ⊢
        have el : es.length ≤ k1 := by
          have := nodup_len (av.imp fun h => Int.ne_of_lt h) fun x hx => (mv x).mp hx
          omega
        have T6 := (tabs_but T3 J3 B4).ext s6
        exact ⟨e2, _, es, rfl, (J4.mono (by omega)).same s6, B3.trans (ButN.of_but (B4.trans (But.of s6))), T6, k6, ne2, av, fun x hx => xr x ((mv x).mp hx), el⟩
      · rintro σ H1 ⟨Ls, v10, ms, rfl, J1, B1, T1, k1s, nLs, asc, inr, len⟩
        exact q H1 (J1.mono (by omega)) (BD.trans B1) T1
end
end Cw
namespace Cw
open PySem PySem.Spec PyProof.Rows L2
open LamX (TabB)
/-! ## a law in whose program lambdas are made: their defs' tables are in sight -/
abbrev Pts (cs : List (Addr × Addr)) : List Addr := cs.map (·.2)
structure Lays (w : World) (K : PySem.W.Frag) (mg : Str → Option Value) (cs : List (Addr × Addr)) (h : Heap) : Prop where
  emp : ∀ p ∈ cs, h.get? p.2 = some { cls := .none, data := .fields #[] }
  out : ∀ p ∈ cs, K.lookup p.2 = none
  hd : ∀ p ∈ cs, PySem.W.CodeHd h p.1 p.2
theorem Lays.at {w : World} {K : PySem.W.Frag} {mg : Str → Option Value} {cs : List (Addr × Addr)} {h : Heap} (L : Lays w K mg cs h) {b : Addr} (hb : b ∈ Pts cs) : h.get? b = some { cls := .none, data := .fields #[] } := by
  obtain ⟨p, hp, rfl⟩ := List.mem_map.mp hb
  exact L.emp p hp
/-- at the start the script and the tables are tracked, nothing else -/
structure Init (cs : List (Addr × Addr)) (a : Addr) (H : Hp) : Prop where
  tb : ∀ p ∈ cs, H p.2 = some (.tbl #[])
  rest : ∀ b, H b = none ∨ b ∈ Pts cs ∨ ∃ o xs, H b = some (.frz o (.lst xs))
  dom : ∀ b, H b ≠ none → b = a ∨ b ∈ Pts cs
theorem startT {P : Program} {w : World} {K : PySem.W.Frag} {mg mb : Str → Option Value} {k : Nat} {fa a : Addr} {cs : List (Addr × Addr)} {fd : FuncData} {x : Str} {sp : Sp} {s1 : Shared} {vs : List Value}
    (kin : K.In s1.heap) (glob : s1.heap.Ns mainGlobals mg) (bns : s1.heap.Ns builtinsNs mb) (boot : ∀ y : Str, y ≠ "__name__" → mb y = bootBuiltins y) (lim : s1.heap.NoLimit) (gens : s1.gens = #[])
    (L : Lays w K mg cs s1.heap) (bmain : ∃ (bm : Addr) (ob : Obj), mg "__builtins__" = some (.ref bm) ∧ bm ≠ builtinsNs ∧ s1.heap.get? bm = some ob ∧ ob.cls = .type "module" ∧ ob.dict = some builtinsNs ∧ ob.data = .plain)
    (scr : s1.heap.get? a = some { cls := .type "list", data := .seq vs.toArray }) (room : Room k callerA)
    (F : ∀ base : Heap, K.In base → base.Ns mainGlobals mg → (∀ p ∈ cs, TabB base mg p.1 p.2) → FnG P w K mg base k fa fd [x] sp) (bind : ∀ (s : Shared) (u : Value), BindsTo s fd ⟨[u], []⟩ [(x, u)])
    (H : Hp) (ini : Init cs a H) (prom : sp [.ref a] H (fun v _ => v = .bl true) E0) (hok : HOk P w H s1.heap) (off : H a ≠ none → K.lookup a = none) :
    codeAny (model P w) callerA (.call (.ref fa) ⟨[.ref a], []⟩) (fun r s' => r = .ok (.ret (.bool true)) ∧ OldK s1.heap s'.heap ∧ s'.os = s1.os ∧ AllBare s'.gens) s1 := by
  have unseen : ∀ {b : Addr} {o : Obj}, s1.heap.get? b = some o → (∀ us n, o.data ≠ .seq us n) → o.data ≠ .fields #[] → H b = none := fun {b o} e n1 n2 => by
    cases z : H b with
    | none => rfl
    | some y =>
      rcases ini.dom b (by rw [z]; exact fun y => nomatch y) with rfl | i
      · rw [scr] at e
        cases e
        exact (n1 _ _ rfl).elim
      · rw [L.at i] at e
        cases e
        exact (n2 rfl).elim
  have low : ∀ {b : Addr} {o : Obj}, s1.heap.get? b = some o → H b = none → (hidT s1.heap H).get? b = some o := fun e n => hidT_get e n
  have dicts : ∀ {b : Addr} {m : Str → Option Value}, s1.heap.Ns b m → (hidT s1.heap H).Ns b m := fun {b m} ⟨o, es, ep, e, d, r⟩ =>
    ⟨o, es, ep, low e (unseen e (fun us n z => by rw [d] at z; cases z) fun z => by rw [d] at z; cases z), d, r⟩
  have kin2 : K.In (hidT s1.heap H) := fun b o e => low (kin b o e) (by
    cases z : H b with
    | none => rfl
    | some y =>
      rcases ini.dom b (by rw [z]; exact fun y => nomatch y) with rfl | i
      · rw [off (by rw [z]; exact fun y => nomatch y)] at e
        cases e
      · obtain ⟨p, hp, rfl⟩ := List.mem_map.mp i
        rw [L.out p hp] at e
        cases e)
  obtain ⟨mc, lm1, lm2⟩ := lim
  have tabs : ∀ p ∈ cs, TabB (hidT s1.heap H) mg p.1 p.2 := fun p hp => by
    have here := L.emp p hp
    obtain ⟨o, us, file, tf, flags, tg, inF, text, tt, c1, c2, c3, c4, c5, c6, c7, c8, c9, c10⟩ := L.hd p hp
    obtain ⟨bm, ob, b1, b2, b3, b4, b5, b6⟩ := bmain
    have ng : bm ≠ mainGlobals := fun z => by
      obtain ⟨o2, es, ep, e, d, _⟩ := glob
      subst z
      rw [e] at b3
      cases b3
      rw [d] at b6
      cases b6
    have np : bm ≠ p.2 := fun z => by
      subst z
      rw [here] at b3
      cases b3
      cases b6
    refine ⟨⟨o, us, file, tf, flags, tg, inF, text, tt, low c1 (unseen c1 (fun _ _ z => ?_) fun z => ?_), c2, c3, c4, c5, c6, c7, c8, c9, c10⟩, ⟨bm, ob, b1, b2, ng, np, low b3 (unseen b3 (fun _ _ z => ?_) fun z => ?_), b4, b5, b6⟩, fun z => ?_⟩
    · rw [c3] at z
      cases z
    · rw [c3] at z
      cases z
      simp at c4
    · rw [b6] at z
      cases z
    · rw [b6] at z
      cases z
    · obtain ⟨o2, es, ep, e, d, _⟩ := glob
      rw [z, here] at e
      cases e
      cases d
  have e0 : Env0 P w K mg (hidT s1.heap H) callerA [] s1 H := ⟨rfl, ⟨kin2, dicts glob, ⟨mb, dicts bns, boot⟩, ⟨mc, dicts lm1, lm2⟩⟩, fun _ _ e => of_hidT e, Nat.le_of_eq (hidT_size _ _), trivial, fun b hb => (List.not_mem_nil hb).elim, hok, .of_eq gens⟩
  refine codeAny_mono ((F _ kin2 (dicts glob) tabs).run callerA [] s1 H ⟨[.ref a], []⟩ [.ref a] [.ref a] _ E0 room rfl e0 (bind s1 (.ref a)) (.cons rfl .nil) prom) fun res s2 z => ?_
  cases res with
  | error er => exact z.elim
  | ok fl =>
    cases fl with
    | next => exact z.elim
    | brk => exact z.elim
    | cont => exact z.elim
    | ret u =>
      obtain ⟨v, H2, os, bare, un, hok2, rel, q⟩ := z
      have qv : v = .bl true := q
      subst qv
      obtain rfl : u = Value.bool true := rel
      have stays : ∀ b o, b ∉ Pts cs → s1.heap.get? b = some o → s2.heap.get? b = some o := fun b o nb e => by
        rcases ini.rest b with n | i | ⟨ob, xs, fz⟩
        · exact un.keep b o e n (fun y => (List.not_mem_nil y).elim) (fun y => (List.not_mem_nil y).elim)
        · exact absurd i nb
        · obtain ⟨h1, _⟩ := hok b _ fz
          obtain ⟨h2, _⟩ := hok2 b _ (un.frzs b ob _ fz)
          rw [e] at h1
          cases h1
          exact h2
      have more : ∀ p ∈ cs, ∃ ps : Array Value, s2.heap.get? p.2 = some { cls := .none, data := .fields (#[] ++ ps) } := fun p hp => by
        obtain ⟨ps, y⟩ := un.tbls p.2 #[] (ini.tb p hp)
        exact ⟨ps, hok2 p.2 _ y⟩
      refine ⟨rfl, ⟨fun b o e => ?_, fun b o e => ?_⟩, os, bare⟩
      · by_cases i : b ∈ Pts cs
        · obtain ⟨p, hp, rfl⟩ := List.mem_map.mp i
          obtain ⟨ps, y⟩ := more p hp
          rw [L.emp p hp] at e
          cases e
          exact .inr (.inl ⟨((L.hd p hp).tab (L.emp p hp)).isCodeTable, rfl, #[], _, rfl, y⟩)
        · exact .inl (stays b o i e)
      · by_cases i : b ∈ Pts cs
        · obtain ⟨p, hp, rfl⟩ := List.mem_map.mp i
          obtain ⟨ps, y⟩ := more p hp
          exact ⟨_, y⟩
        · exact ⟨o, stays b o i e⟩
theorem callT {P : Program} {w : World} {K : PySem.W.Frag} {mg mb : Str → Option Value} {k : Nat} {fa a : Addr} {cs : List (Addr × Addr)} {fd : FuncData} {x : Str} {sp : Sp} {s1 : Shared} {vs : List Value} {ns : List Int}
    (kin : K.In s1.heap) (glob : s1.heap.Ns mainGlobals mg) (bns : s1.heap.Ns builtinsNs mb) (boot : ∀ y : Str, y ≠ "__name__" → mb y = bootBuiltins y) (lim : s1.heap.NoLimit) (gens : s1.gens = #[])
    (L : Lays w K mg cs s1.heap) (bmain : ∃ (bm : Addr) (ob : Obj), mg "__builtins__" = some (.ref bm) ∧ bm ≠ builtinsNs ∧ s1.heap.get? bm = some ob ∧ ob.cls = .type "module" ∧ ob.dict = some builtinsNs ∧ ob.data = .plain)
    (scr : s1.heap.get? a = some { cls := .type "list", data := .seq vs.toArray }) (nts : IntsAre vs ns) (few : ns.length ≤ sizeLine) (room : Room k callerA)
    (F : ∀ base : Heap, K.In base → base.Ns mainGlobals mg → (∀ p ∈ cs, TabB base mg p.1 p.2) → FnG P w K mg base k fa fd [x] sp) (bind : ∀ (s : Shared) (u : Value), BindsTo s fd ⟨[u], []⟩ [(x, u)])
    (prom : ∀ H : Hp, (∀ p ∈ cs, H p.2 = some (.tbl #[])) → SqL K H a (ns.map V.int) → sp [.ref a] H (fun v _ => v = .bl true) E0) :
    codeAny (model P w) callerA (.call (.ref fa) ⟨[.ref a], []⟩) (fun r s' => r = .ok (.ret (.bool true)) ∧ OldK s1.heap s'.heap ∧ s'.os = s1.os ∧ AllBare s'.gens) s1 := by
  have rel := vals_ints nts
  have many : vs.length = ns.length := nts.length
  have na : a ∉ Pts cs := fun i => by
    have e := L.at i
    rw [scr] at e
    have z : Data.seq vs.toArray _ = Data.fields #[] := congrArg Obj.data (Option.some.inj e)
    cases z
  have inP : ∀ p ∈ cs, p.2 ∈ Pts cs := fun p hp => List.mem_map.mpr ⟨p, hp, rfl⟩
  cases hk : K.lookup a with
  | some o =>
    have e := kin a o hk
    rw [scr] at e
    cases e
    obtain ⟨H, hH⟩ : ∃ H : Hp, H = fun b => if b ∈ Pts cs then some (.tbl #[]) else none := ⟨_, rfl⟩
    have y1 : ∀ b, b ∈ Pts cs → H b = some (.tbl #[]) := fun b i => by rw [hH]; exact if_pos i
    have y2 : ∀ b, b ∉ Pts cs → H b = none := fun b i => by rw [hH]; exact if_neg i
    refine startT (fd := fd) kin glob bns boot lim gens L bmain scr room F bind H ⟨fun p hp => y1 _ (inP p hp), fun b => ?_, fun b z => ?_⟩ (prom H (fun p hp => y1 _ (inP p hp)) (.inr ⟨_, vs.toArray, _, hk, rfl, rfl, rfl, by rw [List.size_toArray, many]; exact few, by simpa using rel⟩)) (fun b u z => ?_) fun z => absurd (y2 a na) z
    · by_cases i : b ∈ Pts cs
      · exact .inr (.inl i)
      · exact .inl (y2 b i)
    · by_cases i : b ∈ Pts cs
      · exact .inr i
      · exact absurd (y2 b i) z
    · by_cases i : b ∈ Pts cs
      · rw [y1 b i] at z
        cases z
        exact L.at i
      · rw [y2 b i] at z
        cases z
  | none =>
    obtain ⟨H, hH⟩ : ∃ H : Hp, H = fun b => if b = a then some (.frz { cls := .type "list", data := .seq vs.toArray } (.lst (ns.map V.int))) else if b ∈ Pts cs then some (.tbl #[]) else none := ⟨_, rfl⟩
    have y0 : H a = some (.frz { cls := .type "list", data := .seq vs.toArray } (.lst (ns.map V.int))) := by rw [hH]; exact if_pos rfl
    have y1 : ∀ b, b ∈ Pts cs → H b = some (.tbl #[]) := fun b i => by
      have nb : b ≠ a := fun z => na (z ▸ i)
      rw [hH]
      exact (if_neg nb).trans (if_pos i)
    have y2 : ∀ b, b ≠ a → b ∉ Pts cs → H b = none := fun b nb i => by rw [hH]; exact (if_neg nb).trans (if_neg i)
    refine startT (fd := fd) kin glob bns boot lim gens L bmain scr room F bind H ⟨fun p hp => y1 _ (inP p hp), fun b => ?_, fun b z => ?_⟩ (prom H (fun p hp => y1 _ (inP p hp)) (.inl (.inr ⟨_, y0⟩))) (fun b u z => ?_) fun _ => hk
    · by_cases nb : b = a
      · exact .inr (.inr ⟨_, _, by rw [nb]; exact y0⟩)
      · by_cases i : b ∈ Pts cs
        · exact .inr (.inl i)
        · exact .inl (y2 b nb i)
    · by_cases nb : b = a
      · exact .inl nb
      · by_cases i : b ∈ Pts cs
        · exact .inr i
        · exact absurd (y2 b nb i) z
    · by_cases nb : b = a
      · subst nb
        rw [y0] at z
        cases z
        exact ⟨scr, by rw [List.length_map]; exact few, vs, _, rel, scr⟩
      · by_cases i : b ∈ Pts cs
        · rw [y1 b i] at z
          cases z
          exact L.at i
        · rw [y2 b nb i] at z
          cases z
/-- the walk of such a law; names: the defs in which the lambdas are made -/
theorem walkT {l : PySem.W.OpenLaw} {n k : Nat} {q : Program} {loose : List Str} {XP : (Str → Option Value) → Heap → Prop} {YP : World → Heap → Prop} {d : DefRec} {K : Params → PySem.W.Frag} {names : List Str} {sp : World → List (Addr × Addr) → Sp} {x : Str}
    (most : l.most = some n) (n2 : n ≤ sizeLine) (dfl : d.params.defaults = []) (room : Room k callerA) (recs : ∀ y ∈ names, ((recsOf q).find? (fun e => e.name == y)).isSome = true) (hY : ∀ (w : World) (h : Heap), YP w h → (K w.params).In h)
    (F : ∀ (w : World) (mg : Str → Option Value) (fa : Addr) (h : Heap), (K w.params).In h → h.Ns mainGlobals mg → mg d.name = some (.ref fa) →
      ∃ (fd : FuncData) (cs : List (Addr × Addr)), (∀ p ∈ cs, ∃ y ∈ names, PySem.W.tabIn (K w.params) y = some p) ∧ (∀ p ∈ cs, (K w.params).lookup p.2 = none) ∧ (∀ (s : Shared) (u : Value), BindsTo s fd ⟨[u], []⟩ [(x, u)]) ∧
        ∀ base : Heap, (K w.params).In base → base.Ns mainGlobals mg → (∀ p ∈ cs, TabB base mg p.1 p.2) → FnG l.prog w (K w.params) mg base k fa fd [x] (sp w cs))
    (prom : ∀ (w : World) (cs : List (Addr × Addr)) (H : Hp) (a : Addr) (ns : List Int), ns.length ≤ n → (∀ p ∈ cs, H p.2 = some (.tbl #[])) → SqL (K w.params) H a (ns.map V.int) → sp w cs [.ref a] H (fun v _ => v = .bl true) E0) :
    PySem.W.WalkO q loose XP YP l.row.toRowW d [] (fun f vs => PySem.call f vs) := by
  refine Att.attach_call most dfl fun w s0 s1 mg mb fa o pm cd doc a vs ns G Y ho hd hcd hmg scr nts few gens => ?_
  have kin := hY w _ Y
  obtain ⟨fd, cs, ht, nl, bi, FF⟩ := F w mg fa _ kin G.T.g hmg
  have both : ∀ p ∈ cs, PySem.W.CodeHd s1.heap p.1 p.2 ∧ s1.heap.get? p.2 = some { cls := .none, data := .fields #[] } := fun p hp => by
    obtain ⟨y, hy, e⟩ := ht p hp
    obtain ⟨d', hd'⟩ := Option.isSome_iff_exists.mp (recs y hy)
    exact PySem.W.tab_of G.T kin hd' e
  exact callT (w := w) kin G.T.g G.T.b G.T.builtins G.T.nolimit gens ⟨fun p hp => (both p hp).2, nl, fun p hp => (both p hp).1⟩ G.T.bmain scr nts (Nat.le_trans few n2) room FF bi fun H on hs => prom w cs H a ns few on hs
end Cw
namespace Cw
open PySem PySem.Spec L2
open LamX (Tabs ExtN TabB)
abbrev sL : Stmt := top 58
section
variable {X : Cx} {CX : CXT} {k : Nat} {f : Addr} {fd : FuncData} {ps ks : List Str} {sp : Sp} {E : XK} {x : Str} {p pos : Pos} {kws : List Keyword} {tk : TA} {g : List Value → List Value → List Value} {gV : List V → List V → List V}
/-- f(k = v, ..) -/
theorem pe_callK0 (F : FnOk X.prog X.w X.K X.mg X.base CX k f fd ps sp) (hr : Room k X.A) (hg : Gl X x) (hm : X.mg x = some (.ref f)) (hk : PySem.W.keepIn X.K (.ref f) = true) (hb : KBinds X.K fd ps ks g gV) (hx : Passes CX X E)
    (hkw : PK X kws tk) (hall : (backToKw pos (keywordEach kws X.env)).all (·.1.isSome) = true := by rfl) (hks : (backToKw pos (keywordEach kws X.env)).filterMap (·.1) = ks := by rfl)
    (hdb : (x == ("__debug__" : Str)) = false := by decide)
    (hpl : ((backTo pos (starEach [] X.env)).any (·.1) || (backToKw pos (keywordEach kws X.env)).any (·.1.isNone)) = false := by rfl) :
    PE X (.Call (.Name x p) [] kws pos) (tCallK sp gV E tNil tk) := by
  refine ⟨fun pins s σ H Q I h => ?_⟩
  refine wpAny_Call_Name_kw (ld_glob I hg hm ?_ hdb)
  refine PySem.W.callWith_KW0 (h₀ := X.base) I.ok.mod.kin hk hall (thn (hkw.run pos pins s σ H _ I h) fun ws s2 ⟨zs, H2, I2, rz, q2⟩ => ⟨I2.kIn, ?_⟩) hpl
  rw [hks]
  exact run_fnk F hr hb hx I2 .nil rz q2
end
theorem Scr.butN {K : PySem.W.Frag} {H H' : Hp} {a p : Addr} {xs : List V} (h : Scr K H a xs p) (e : ButN H H' p) : Scr K H' a xs p := by
  rcases h with ⟨n, h | ⟨o, h⟩⟩ | h
  · exact .inl ⟨n, .inl (e _ _ h n fun _ z => nomatch z)⟩
  · exact .inl ⟨n, .inr ⟨o, e _ _ h n fun _ z => nomatch z⟩⟩
  · exact .inr h
def spLaw (K : PySem.W.Frag) (T0 : List (Addr × Str)) : Sp := fun vs H Q _ => ∃ (a : Addr) (ns : List Int), vs = [.ref a] ∧ SqL K H a (ns.map V.int) ∧ ns.length ≤ 63 ∧ Tabs T0 H ∧ ∀ H', Q (.bl true) H'
def gR2 : List Value → List Value → List Value
  | [], [a, b] => [b, a]
  | _, _ => []
def gR2V : List V → List V → List V
  | [], [a, b] => [b, a]
  | _, _ => []
def gR3 : List Value → List Value → List Value
  | [], [a, b, c] => [c, b, a]
  | _, _ => []
def gR3V : List V → List V → List V
  | [], [a, b, c] => [c, b, a]
  | _, _ => []
section
variable {P : Program} {w : World} {K : PySem.W.Frag} {mg : Str → Option Value} {base : Heap}
abbrev NL : List Str := ["script", "k", "jar", "turn", "three", "told"]
theorem scL : FnScope NL ["script"] (defScope sL) := ⟨rfl, rfl, rfl, by decide +kernel, rfl, by decide +kernel, by decide +kernel⟩
theorem ok_law {C : Addr} {T0 : List (Addr × Str)} {f fJ fW fD fA fF fH : Addr} {fd fdJ fdW fdD fdA fdF fdH : FuncData} (F : Fun K "law" "law" sL f fd) (T : Bl mg)
    (gJ : mg "_law_jar" = some (.ref fJ)) (kJ : PySem.W.keepIn K (.ref fJ) = true) (bJ : Binds K fdJ ["script", "k"] []) (GJ : FnOk P w K mg base CX0 1 fJ fdJ ["script", "k"] (spJar K))
    (gW : mg "_law_three" = some (.ref fW)) (kW : PySem.W.keepIn K (.ref fW) = true) (bW : Binds K fdW ["jar", "wide"] []) (GW : FnOk P w K mg base CX0 2 fW fdW ["jar", "wide"] spThree)
    (gD : mg "_law_dip" = some (.ref fD)) (kD : PySem.W.keepIn K (.ref fD) = true) (bD : Binds K fdD ["jar", "many"] []) (GD : FnOk P w K mg base CX0 1 fD fdD ["jar", "many"] spDip)
    (gA : mg "_law_right" = some (.ref fA)) (kA : PySem.W.keepIn K (.ref fA) = true) (bA : Binds K fdA ["jar", "three", "strong"] []) (GA : FnG P w K mg base 11 fA fdA ["jar", "three", "strong"] (spRi C T0))
    (gF : mg "fewest_marks" = some (.ref fF)) (kF : PySem.W.keepIn K (.ref fF) = true) (bF : Binds K fdF ["settings", "is_strict"] []) (kbF : KBinds K fdF ["settings", "is_strict"] ["is_strict", "settings"] gR2 gR2V) (GF : FnOk P w K mg base CX0 3 fF fdF ["settings", "is_strict"] spFW)
    (gH : mg "helping_marks" = some (.ref fH)) (kH : PySem.W.keepIn K (.ref fH) = true) (bH : Binds K fdH ["settings", "place", "is_strict"] []) (kbH : KBinds K fdH ["settings", "place", "is_strict"] ["is_strict", "place", "settings"] gR3 gR3V) (GH : FnOk P w K mg base CX0 3 fH fdH ["settings", "place", "is_strict"] spHM) :
    FnG P w K mg base 12 f fd ["script"] (spLaw K T0) := by
  refine okG F scL (fun vs H Q E h => ?_) (fun cdv A outer s H vs Q E hr hg h => ?_)
  · obtain ⟨a, ns, rfl, _⟩ := h
    rfl
  · obtain ⟨a, ns, rfl, hS, hl, hT0, q⟩ := h
    have hu : (A.deeper (PyProof.Rows.envOfC "law" (defScope sL) s.heap.objs.size f cdv)).units + 64 < cLine := Nat.lt_of_le_of_lt (by omega) hr.un
    have gu : (A.deeper (PyProof.Rows.envOfC "law" (defScope sL) s.heap.objs.size f cdv)).guards = some [] := hg
    refine ⟨_, (pss_cons (ps_for PassesOwn.never rfl (pi_range1 (by rfl) T.range (pa_cons (pe_callB (call_max2 rfl) (by rfl) T.max (by decide +kernel) (pa_cons pe_int (pa_cons (pe_callB (call_min2 rfl) (by rfl) T.min (by decide +kernel) (pa_cons pe_int (pa_cons (pe_callB call_len_seq (by rfl) T.len PySem.boot_len (pa_cons (pv 0) pa_nil)) pa_nil))) pa_nil))) pa_nil)) (pg_name (i := 1) scL.nd rfl (Or.inl rfl))
        (pss_cons (ps_set (i := 2) scL.nd rfl (Or.inl rfl) (pe_call GJ (hr.mono (by decide)) rfl gJ kJ bJ .nil pass0 (pa_cons (pv 0) (pa_cons (pv 1) pa_nil))))
        (pss_one (ps_for PassesOwn.never rfl (pi_range1 (by rfl) T.range (pa_cons pe_int pa_nil)) (pg_name (i := 3) scL.nd rfl (Or.inl rfl))
        (pss_cons (ps_set (i := 4) scL.nd rfl (Or.inl rfl) (pe_call GW (hr.mono (by decide)) rfl gW kW bW .nil pass0 (pa_cons (pv 2) (pa_cons (pe_ix (r := rIxL K) ix_list (pe_lst (pa_cons pe_int (pa_cons pe_int (pa_cons (pe_op op_pow pe_int pe_int) (pa_cons (pe_op op_pow pe_int pe_int) pa_nil))))) (pe_call GD (hr.mono (by decide)) rfl gD kD bD .nil pass0 (pa_cons (pv 2) (pa_cons pe_int pa_nil))) (fun _ _ => rfl)) pa_nil))))
        (pss_one (ps_if (PW.pt (pw_or (pt_not (pt_val (pe_callG GA (hr.mono (by decide)) gu rfl gA kA bA (pa_cons (pv 2) (pa_cons (pv 4) (pa_cons pe_bl pa_nil)))))) (pw_or1 (pt_not (pt_val (pe_callG GA (hr.mono (by decide)) gu rfl gA kA bA (pa_cons (pv 2) (pa_cons (pv 4) (pa_cons pe_bl pa_nil))))))))) (pss_one (ps_ret pe_bl)) pss_nil)))))))
        (pss_cons (ps_set (i := 5) scL.nd rfl (Or.inl rfl) (pe_lst (pa_cons (pe_call GF (hr.mono (by decide)) rfl gF kF bF .nil pass0 (pa_cons (pe_tup (pa_cons pe_int (pa_cons pe_int (pa_cons pe_int pa_nil)))) (pa_cons pe_bl pa_nil))) (pa_cons (pe_callK0 GF (hr.mono (by decide)) rfl gF kF kbF pass0 (pk_cons pe_bl (pk_cons (pe_tup (pa_cons pe_int (pa_cons pe_int (pa_cons pe_int pa_nil)))) pk_nil))) pa_nil))))
        (pss_cons (ps_expr (pe_bm PySem.F.plainAttrs_list PySem.F.slot_list_append PySem.F.type_list_append mt_append (pv 5) (pa_cons (pe_call GF (hr.mono (by decide)) rfl gF kF bF .nil pass0 (pa_cons (pe_tup (pa_cons pe_int (pa_cons pe_int (pa_cons pe_int pa_nil)))) (pa_cons pe_bl pa_nil))) pa_nil)))
        (pss_cons (ps_if (PW.pt (pw_or (pt_cmpR (op_neD hr.units) (pv 5) (pe_lst (pa_cons pe_int (pa_cons pe_int (pa_cons pe_non pa_nil)))) (nomark _)) (pw_or1 (pt_cmpR (op_neD hr.units) (pe_lst (pa_cons (pe_call GF (hr.mono (by decide)) rfl gF kF bF .nil pass0 (pa_cons (pe_tup (pa_cons pe_int (pa_cons pe_int (pa_cons pe_int pa_nil)))) (pa_cons pe_bl pa_nil))) (pa_cons (pe_call GF (hr.mono (by decide)) rfl gF kF bF .nil pass0 (pa_cons (pe_tup (pa_cons pe_int (pa_cons pe_int (pa_cons pe_int pa_nil)))) (pa_cons pe_bl pa_nil))) pa_nil))) (pe_lst (pa_cons pe_int (pa_cons pe_non pa_nil))) (nomark _))))) (pss_one (ps_ret pe_bl)) pss_nil)
        (pss_cons (ps_set (i := 5) scL.nd rfl (Or.inl rfl) (pe_lst (pa_cons (pe_callK0 GH (hr.mono (by decide)) rfl gH kH kbH pass0 (pk_cons pe_bl (pk_cons pe_int (pk_cons (pe_tup (pa_cons pe_int (pa_cons pe_int (pa_cons pe_int pa_nil)))) pk_nil)))) (pa_cons (pe_call GH (hr.mono (by decide)) rfl gH kH bH .nil pass0 (pa_cons (pe_tup (pa_cons pe_int (pa_cons pe_int (pa_cons pe_int pa_nil)))) (pa_cons pe_int (pa_cons pe_bl pa_nil)))) pa_nil))))
        (pss_one (ps_ret (pe_cmpR (op_eqD hr.units) (pv 5) (pe_lst (pa_cons (pe_lst (pa_cons pe_int (pa_cons pe_int pa_nil))) (pa_cons (pe_lst (pa_cons pe_int (pa_cons pe_int (pa_cons pe_int (pa_cons pe_int pa_nil))))) pa_nil))) (nomark _))))))))), ?_⟩
    have z110 : (2 : Int) ^ 110 = 1298074214633706907132624082305024 := by decide +kernel
    have z120 : (2 : Int) ^ 120 = 1329227995784915872903807060280344576 := by decide +kernel
    refine ⟨_, rfl, a, _, rfl, .inl hS, _, _, rfl, _, _, rfl, _, rfl, ?_, ?_, for_range (lo := 0) (n := Int.toNat _) (fun _ σ H' => ∃ v1 v2 v3 v4 v5, σ = [some (.ref a), v1, v2, v3, v4, v5] ∧ SqL K H' a (ns.map V.int) ∧ Tabs T0 H') ⟨_, _, _, _, _, rfl, hS, hT0⟩ ?_ ?_⟩
    · rw [List.length_map]
      split <;> split <;> omega
    · rw [List.length_map]
      split <;> split <;> omega
    · rintro i σ H1 hi ⟨v1, v2, v3, v4, v5, rfl, s1, T1⟩
      have hil : i ≤ ns.length := by
        rw [List.length_map] at hi
        split at hi <;> split at hi <;> omega
      refine ⟨_, rfl, _, rfl, a, ns, i, by rw [Int.zero_add]; rfl, s1, hil, hl, fun p H2 s2 np J2 => ?_⟩
      have sc2 := (Scr.of s1 np).same s2
      have T2 := T1.ext s2
      try dsimp only [L2.start, List.set, List.map, List.append, List.replicate, List.length]
      refine ⟨_, rfl, by decide, by decide, for_range (lo := 0) (n := 4) (fun t σ H' => ∃ v3 v4, σ = [some (.ref a), some (.int (0 + (i : Int))), some (.ref p), v3, v4, v5] ∧ JarAt H' p (1200 * (4 - t)) ∧ Scr K H' a (ns.map V.int) p ∧ Tabs T0 H') ⟨_, _, rfl, J2.mono (by omega), sc2, T2⟩ ?_ ?_⟩
      · rintro t σ H3 ht ⟨v3, v4, rfl, J3, sc3, T3⟩
        have Jd : JarAt H3 p (1200 * (4 - (t + 1)) + 596 + 596 + 7 + 1) := J3.mono (by omega)
        generalize 1200 * (4 - (t + 1)) = kk at Jd ⊢
        refine ⟨_, rfl, ?_⟩
        refine ⟨_, _, rfl, rfl, ⟨by decide, by decide, by decide⟩, ?_⟩
        refine ⟨_, _, rfl, rfl, ⟨by decide, by decide, by decide⟩, ?_⟩
        dsimp -proj only [tNil]
        rw [show (10 : Int) ^ Int.toNat 3 = 1000 by decide +kernel, show (10 : Int) ^ Int.toNat 26 = 100000000000000000000000000 by decide +kernel]
        refine ⟨(by show 4 ≤ sizeLine; decide), fun L hL => ?_⟩
        have s4 := same_new (o := .lst [.int 5, .int 12, .int 1000, .int 100000000000000000000000000]) (Same.refl H3) hL
        have k4 : IL (upd H3 L (.lst [.int 5, .int 12, .int 1000, .int 100000000000000000000000000])) L [5, 12, 1000, 100000000000000000000000000] := upd_same
        generalize upd H3 L (.lst [.int 5, .int 12, .int 1000, .int 100000000000000000000000000]) = H4 at s4 k4 ⊢
        have nLp : L ≠ p := (Jd.ne hL).symm
        have gr : ∀ x ∈ ([5, 12, 1000, 100000000000000000000000000] : List Int), 5 ≤ x ∧ x ≤ 100000000000000000000000000 := by decide
        have gl : (([5, 12, 1000, 100000000000000000000000000] : List Int).map V.int).length = 4 := rfl
        generalize ([5, 12, 1000, 100000000000000000000000000] : List Int) = gs at k4 gr gl
        refine ⟨_, rfl, p, _, 4, rfl, Jd.same s4, by decide, by decide, fun i0 H5 a3 b3 J5 B5 => ?_⟩
        obtain ⟨w0, ew, mw⟩ := near_at (ks := gs) a3 (by rw [gl]; exact b3)
        have wr := gr w0 mw
        refine ⟨L, _, _, _, rfl, rfl, SqL.of (B5 _ _ k4 nLp), ew, ?_⟩
        refine ⟨p, kk + 596 + 596, w0, rfl, J5, by omega, by omega, fun th H6 l n g l1 lw ln nw ng gw J6 B6 kth nth => ?_⟩
        have B36 : But H3 H6 p := (But.of s4).trans (B5.trans B6)
        have sc6 := sc3.but B36
        have T6 := tabs_but T3 Jd B36
        have nthp : th ≠ p := J6.no kth fun _ _ _ z => nomatch z
        have S : SetOk l n g := ⟨l1, ln, ng⟩
        try dsimp only [L2.start, List.set, List.map, List.append, List.replicate, List.length]
        refine ⟨_, rfl, _, rfl, p, th, kk + 596, l, n, g, true, rfl, J6, kth, S, by omega, T6, fun H7 J7 B7 T7 => ⟨_, rfl, ?_⟩⟩
        have sc7 := sc6.butN B7
        refine ifF rfl ?_
        refine ⟨_, rfl, _, rfl, p, th, kk, l, n, g, false, rfl, J7, B7 _ _ kth nthp (fun _ z => nomatch z), S, by omega, T7, fun H8 J8 B8 T8 => ⟨_, rfl, ?_⟩⟩
        refine ifF rfl ?_
        exact ⟨_, _, rfl, J8, sc7.butN B8, T8⟩
      · rintro σ H3 ⟨v3, v4, rfl, J3, sc3, T3⟩
        exact ⟨_, _, _, _, _, rfl, sc3.sq, T3⟩
    · rintro σ H1 ⟨v1, v2, v3, v4, v5, rfl, s1, T1⟩
      refine ⟨(by show 3 ≤ sizeLine; decide), fun t1 ht1 => ?_⟩
      have st1 := same_new (o := (.tup [.int 2, .int 4, .int 5])) (Same.refl H1) ht1
      have kt1 : upd H1 t1 (.tup [.int 2, .int 4, .int 5]) t1 = some (.tup [.int 2, .int 4, .int 5]) := upd_same
      generalize upd H1 t1 (.tup [.int 2, .int 4, .int 5]) = H2 at st1 kt1 ⊢
      refine ⟨t1, 2, 4, 5, true, rfl, kt1, ⟨by decide, by decide, by decide⟩, by decide, fun H3 sH3 => ?_⟩
      rw [show oV (mk4 (5 - 1) (5 - svOf true 2 4)) = V.int 2 by rw [show mk4 (5 - 1) (5 - svOf true 2 4) = some 2 by decide +kernel]; rfl]
      refine ⟨(by show 3 ≤ sizeLine; decide), fun t2 ht2 => ?_⟩
      have st2 := same_new (o := (.tup [.int 2, .int 4, .int 5])) (Same.refl H3) ht2
      have kt2 : upd H3 t2 (.tup [.int 2, .int 4, .int 5]) t2 = some (.tup [.int 2, .int 4, .int 5]) := upd_same
      generalize upd H3 t2 (.tup [.int 2, .int 4, .int 5]) = H4 at st2 kt2 ⊢
      refine ⟨t2, 2, 4, 5, false, rfl, kt2, ⟨by decide, by decide, by decide⟩, by decide, fun H5 sH5 => ?_⟩
      rw [show oV (mk4 (5 - 1) (5 - svOf false 2 4)) = V.int 4 by rw [show mk4 (5 - 1) (5 - svOf false 2 4) = some 4 by decide +kernel]; rfl]
      refine ⟨(by show 2 ≤ sizeLine; decide), fun L1 hL1 => ?_⟩
      have sL1 := same_new (o := (.lst [.int 2, .int 4])) (Same.refl H5) hL1
      have kL1 : upd H5 L1 (.lst [.int 2, .int 4]) L1 = some (.lst [.int 2, .int 4]) := upd_same
      generalize upd H5 L1 (.lst [.int 2, .int 4]) = H6 at sL1 kL1 ⊢
      try dsimp only [L2.start, List.set, List.map, List.append, List.replicate, List.length]
      refine ⟨_, rfl, .inl ⟨rfl, _, SqL.of kL1⟩, ?_⟩
      refine ⟨(by show 3 ≤ sizeLine; decide), fun t3 ht3 => ?_⟩
      have st3 := same_new (o := (.tup [.int 3, .int 3, .int 3])) (Same.refl H6) ht3
      have kt3 : upd H6 t3 (.tup [.int 3, .int 3, .int 3]) t3 = some (.tup [.int 3, .int 3, .int 3]) := upd_same
      generalize upd H6 t3 (.tup [.int 3, .int 3, .int 3]) = H7 at st3 kt3 ⊢
      refine ⟨t3, 3, 3, 3, true, rfl, kt3, ⟨by decide, by decide, by decide⟩, by decide, fun H8 sH8 => ?_⟩
      rw [show oV (mk4 (3 - 1) (3 - svOf true 3 3)) = V.non by rw [show mk4 (3 - 1) (3 - svOf true 3 3) = none by decide +kernel]; rfl]
      refine ⟨L1, _, _, rfl, rfl, sH8 _ _ (st3 _ _ kL1), (by show 2 < sizeLine; decide), ?_⟩
      rw [show ([V.int 2, V.int 4] ++ [V.non] : List V) = [.int 2, .int 4, .non] from rfl]
      have kL1 : upd H8 L1 (.lst [.int 2, .int 4, .non]) L1 = some (.lst [.int 2, .int 4, .non]) := upd_same
      generalize upd H8 L1 (.lst [.int 2, .int 4, .non]) = H9 at kL1 ⊢
      try dsimp only [L2.start, List.set, List.map, List.append, List.replicate, List.length]
      refine ⟨_, rfl, ?_⟩
      refine ⟨(by show 3 ≤ sizeLine; decide), fun L2 hL2 => ?_⟩
      have sL2 := same_new (o := (.lst [.int 2, .int 4, .non])) (Same.refl H9) hL2
      have kL2 : upd H9 L2 (.lst [.int 2, .int 4, .non]) L2 = some (.lst [.int 2, .int 4, .non]) := upd_same
      generalize upd H9 L2 (.lst [.int 2, .int 4, .non]) = HA at sL2 kL2 ⊢
      refine ⟨.list [.int 2, .int 4, .none], .list [.int 2, .int 4, .none], .lst (SqL.of (sL2 _ _ kL1)) (.cons (.int _) (.cons (.int _) (.cons .non .nil))), .lst (SqL.of kL2) (.cons (.int _) (.cons (.int _) (.cons .non .nil))), by decide +kernel, by decide +kernel, _, rfl, ?_⟩
      refine ifF (by decide +kernel) ?_
      refine ⟨(by show 3 ≤ sizeLine; decide), fun t4 ht4 => ?_⟩
      have st4 := same_new (o := (.tup [.int 1, .int 1, .int 1])) (Same.refl HA) ht4
      have kt4 : upd HA t4 (.tup [.int 1, .int 1, .int 1]) t4 = some (.tup [.int 1, .int 1, .int 1]) := upd_same
      generalize upd HA t4 (.tup [.int 1, .int 1, .int 1]) = HB at st4 kt4 ⊢
      refine ⟨t4, 1, 1, 1, true, rfl, kt4, ⟨by decide, by decide, by decide⟩, by decide, fun HC sHC => ?_⟩
      rw [show oV (mk4 (1 - 1) (1 - svOf true 1 1)) = V.int 0 by rw [show mk4 (1 - 1) (1 - svOf true 1 1) = some 0 by decide +kernel]; rfl]
      refine ⟨(by show 3 ≤ sizeLine; decide), fun t5 ht5 => ?_⟩
      have st5 := same_new (o := (.tup [.int 1, .int 9, .int 9])) (Same.refl HC) ht5
      have kt5 : upd HC t5 (.tup [.int 1, .int 9, .int 9]) t5 = some (.tup [.int 1, .int 9, .int 9]) := upd_same
      generalize upd HC t5 (.tup [.int 1, .int 9, .int 9]) = HD at st5 kt5 ⊢
      refine ⟨t5, 1, 9, 9, false, rfl, kt5, ⟨by decide, by decide, by decide⟩, by decide, fun HE sHE => ?_⟩
      rw [show oV (mk4 (9 - 1) (9 - svOf false 1 9)) = V.non by rw [show mk4 (9 - 1) (9 - svOf false 1 9) = none by decide +kernel]; rfl]
      refine ⟨(by show 2 ≤ sizeLine; decide), fun L3 hL3 => ?_⟩
      have sL3 := same_new (o := (.lst [.int 0, .non])) (Same.refl HE) hL3
      have kL3 : upd HE L3 (.lst [.int 0, .non]) L3 = some (.lst [.int 0, .non]) := upd_same
      generalize upd HE L3 (.lst [.int 0, .non]) = HF at sL3 kL3 ⊢
      refine ⟨(by show 2 ≤ sizeLine; decide), fun L4 hL4 => ?_⟩
      have sL4 := same_new (o := (.lst [.int 0, .non])) (Same.refl HF) hL4
      have kL4 : upd HF L4 (.lst [.int 0, .non]) L4 = some (.lst [.int 0, .non]) := upd_same
      generalize upd HF L4 (.lst [.int 0, .non]) = HG at sL4 kL4 ⊢
      refine ⟨.list [.int 0, .none], .list [.int 0, .none], .lst (SqL.of (sL4 _ _ kL3)) (.cons (.int _) (.cons .non .nil)), .lst (SqL.of kL4) (.cons (.int _) (.cons .non .nil)), by decide +kernel, by decide +kernel, _, rfl, ?_⟩
      refine ifF (by decide +kernel) ?_
      try dsimp only [L2.start, List.set, List.map, List.append, List.replicate, List.length]
      refine ⟨(by show 3 ≤ sizeLine; decide), fun t6 ht6 => ?_⟩
      have st6 := same_new (o := (.tup [.int 2, .int 4, .int 5])) (Same.refl HG) ht6
      have kt6 : upd HG t6 (.tup [.int 2, .int 4, .int 5]) t6 = some (.tup [.int 2, .int 4, .int 5]) := upd_same
      generalize upd HG t6 (.tup [.int 2, .int 4, .int 5]) = HH at st6 kt6 ⊢
      refine ⟨t6, 2, 4, 5, 5, true, 2, rfl, kt6, ⟨by decide, by decide, by decide⟩, by decide, by decide, by decide +kernel, by decide, fun qa HI sa nqa ia => ?_⟩
      refine ⟨(by show 3 ≤ sizeLine; decide), fun t7 ht7 => ?_⟩
      have st7 := same_new (o := (.tup [.int 2, .int 4, .int 5])) (Same.refl HI) ht7
      have kt7 : upd HI t7 (.tup [.int 2, .int 4, .int 5]) t7 = some (.tup [.int 2, .int 4, .int 5]) := upd_same
      generalize upd HI t7 (.tup [.int 2, .int 4, .int 5]) = HJ at st7 kt7 ⊢
      refine ⟨t7, 2, 4, 5, 0, false, 4, rfl, kt7, ⟨by decide, by decide, by decide⟩, by decide, by decide, by decide +kernel, by decide, fun qb HK sb nqb ib => ?_⟩
      have ia : IL HK qa [10, 12] := sb _ _ (st7 _ _ ia)
      have ib : IL HK qb [5, 9, 13, 17] := ib
      refine ⟨(by show 2 ≤ sizeLine; decide), fun L5 hL5 => ?_⟩
      have sL5 := same_new (o := (.lst [.ref qa, .ref qb])) (Same.refl HK) hL5
      have kL5 : upd HK L5 (.lst [.ref qa, .ref qb]) L5 = some (.lst [.ref qa, .ref qb]) := upd_same
      generalize upd HK L5 (.lst [.ref qa, .ref qb]) = HL at sL5 kL5 ⊢
      try dsimp only [L2.start, List.set, List.map, List.append, List.replicate, List.length]
      refine ⟨_, rfl, (by show 2 ≤ sizeLine; decide), fun c1 hc1 => ?_⟩
      have sc1 := same_new (o := (.lst [.int 10, .int 12])) (Same.refl HL) hc1
      have kc1 : upd HL c1 (.lst [.int 10, .int 12]) c1 = some (.lst [.int 10, .int 12]) := upd_same
      generalize upd HL c1 (.lst [.int 10, .int 12]) = HM at sc1 kc1 ⊢
      refine ⟨(by show 4 ≤ sizeLine; decide), fun c2 hc2 => ?_⟩
      have sc2 := same_new (o := (.lst [.int 5, .int 9, .int 13, .int 17])) (Same.refl HM) hc2
      have kc2 : upd HM c2 (.lst [.int 5, .int 9, .int 13, .int 17]) c2 = some (.lst [.int 5, .int 9, .int 13, .int 17]) := upd_same
      generalize upd HM c2 (.lst [.int 5, .int 9, .int 13, .int 17]) = HN at sc2 kc2 ⊢
      refine ⟨(by show 2 ≤ sizeLine; decide), fun c3 hc3 => ?_⟩
      have sc3 := same_new (o := (.lst [.ref c1, .ref c2])) (Same.refl HN) hc3
      have kc3 : upd HN c3 (.lst [.ref c1, .ref c2]) c3 = some (.lst [.ref c1, .ref c2]) := upd_same
      generalize upd HN c3 (.lst [.ref c1, .ref c2]) = HO at sc3 kc3 ⊢
      have sX := (sc1.trans sc2).trans sc3
      have ia : IL HO qa [10, 12] := sX _ _ (sL5 _ _ ia)
      have ib : IL HO qb [5, 9, 13, 17] := sX _ _ (sL5 _ _ ib)
      have i1 : IL HO c1 [10, 12] := sc3 _ _ (sc2 _ _ kc1)
      have i2 : IL HO c2 [5, 9, 13, 17] := sc3 _ _ kc2
      refine ⟨.list [.list ([10, 12].map PyData.int), .list ([5, 9, 13, 17].map PyData.int)], .list [.list ([10, 12].map PyData.int), .list ([5, 9, 13, 17].map PyData.int)], .lst (SqL.of (sX _ _ kL5)) (.cons (dp_il ia) (.cons (dp_il ib) .nil)), .lst (SqL.of kc3) (.cons (dp_il i1) (.cons (dp_il i2) .nil)), by decide +kernel, by decide +kernel, ?_⟩
      have e : PyData.eqv (.list [.list (([10, 12] : List Int).map PyData.int), .list (([5, 9, 13, 17] : List Int).map PyData.int)]) (.list [.list (([10, 12] : List Int).map PyData.int), .list (([5, 9, 13, 17] : List Int).map PyData.int)]) = true := by decide +kernel
      rw [e]
      exact q _
end
end Cw
namespace Cw
open PySem L2
theorem kb_x8_gR2 {K : PySem.W.Frag} {f : Addr} {fd : FuncData} (F : Fun K "fewest_marks" "fewest_marks" sFW f fd) : KBinds K fd ["settings", "is_strict"] ["is_strict", "settings"] gR2 gR2V := by
  obtain ⟨oc, od, kV, doc, pm, an, cdv, ct, osl, rfl, lk, hcd⟩ := F.ex
  refine ⟨fun s us ws _ hl => ?_, fun {vs us zs ws} r z => ?_⟩
  · match us, ws, hl with
    | [], [a0, a1], _ => exact .of_eq rfl
  · cases r with
    | cons a b => exact .nil
    | nil =>
      cases z with
      | nil => exact .nil
      | cons a0 z =>
        cases z with
        | nil => exact .nil
        | cons a1 z =>
          cases z with
          | nil => exact (.cons a1 (.cons a0 .nil))
          | cons e z => exact .nil
theorem kb_x10_gR3 {K : PySem.W.Frag} {f : Addr} {fd : FuncData} (F : Fun K "helping_marks" "helping_marks" sHM f fd) : KBinds K fd ["settings", "place", "is_strict"] ["is_strict", "place", "settings"] gR3 gR3V := by
  obtain ⟨oc, od, kV, doc, pm, an, cdv, ct, osl, rfl, lk, hcd⟩ := F.ex
  refine ⟨fun s us ws _ hl => ?_, fun {vs us zs ws} r z => ?_⟩
  · match us, ws, hl with
    | [], [a0, a1, a2], _ => exact .of_eq rfl
  · cases r with
    | cons a b => exact .nil
    | nil =>
      cases z with
      | nil => exact .nil
      | cons a0 z =>
        cases z with
        | nil => exact .nil
        | cons a1 z =>
          cases z with
          | nil => exact .nil
          | cons a2 z =>
            cases z with
            | nil => exact (.cons a2 (.cons a1 (.cons a0 .nil)))
            | cons e z => exact .nil
def pTof (K : PySem.W.Frag) (y : Str) : Addr := ((PySem.W.tabIn K y).getD (0, 0)).2
def tabNames (quals : List Str) (cs : List (Addr × Addr)) : List (Addr × Str) := (cs.zip quals).map fun q => (q.1.2, q.2)
theorem tabs_start {quals : List Str} {cs : List (Addr × Addr)} {H : Hp} (h : ∀ p ∈ cs, H p.2 = some (.tbl #[])) : LamX.Tabs (tabNames quals cs) H := fun p hp => by
  obtain ⟨q, hq, rfl⟩ := List.mem_map.mp hp
  exact LamX.TabS.nil (h q.1 (List.of_mem_zip (show (q.1, q.2) ∈ cs.zip quals from hq)).1)
/-! ## what the top has written -/
theorem all_mk {l : PySem.W.OpenLaw} {w : World} {K : PySem.W.Frag} {h : Heap} {mg : Str → Option Value} {fa : Addr} (X : K.In h) (G : h.Ns mainGlobals mg) (hfa : mg "law" = some (.ref fa))
    {C fx0 fx1 fx2 fx3 fx4 fx5 fx6 fx7 fx8 fx9 fx10 fx11 fx12 fx13 pL fx14 pM fx15 pS fx16 fx17 fx18 fx19 fx20 fx21 fx22 fx23 fx24 fx25 fx26 fx27 fx28 fx29 fx30 cTx30 fx31 fx32 fx33 fx34 fx35 fx36 fx37 fx38 fx39 fx40 fx41 fLW : Addr} {t_MOST_MARKS t_MOST_PIECES : Tok} {restpL restpM restpS : List Value}
    {ocx0 kVx0 dcx0 pmx0 cdx0 ctx0 : Value} {odx0 anx0 : Option Addr} {slx0 : Array (Option Value)}
    {ocx1 kVx1 dcx1 pmx1 cdx1 ctx1 : Value} {odx1 anx1 : Option Addr} {slx1 : Array (Option Value)}
    {ocx2 kVx2 dcx2 pmx2 cdx2 ctx2 : Value} {odx2 anx2 : Option Addr} {slx2 : Array (Option Value)}
    {ocx3 kVx3 dcx3 pmx3 cdx3 ctx3 : Value} {odx3 anx3 : Option Addr} {slx3 : Array (Option Value)}
    {ocx4 kVx4 dcx4 pmx4 cdx4 ctx4 : Value} {odx4 anx4 : Option Addr} {slx4 : Array (Option Value)}
    {ocx5 kVx5 dcx5 pmx5 cdx5 ctx5 : Value} {odx5 anx5 : Option Addr} {slx5 : Array (Option Value)}
    {ocx6 kVx6 dcx6 pmx6 cdx6 ctx6 : Value} {odx6 anx6 : Option Addr} {slx6 : Array (Option Value)}
    {ocx7 kVx7 dcx7 pmx7 cdx7 ctx7 : Value} {odx7 anx7 : Option Addr} {slx7 : Array (Option Value)}
    {ocx8 kVx8 dcx8 pmx8 cdx8 ctx8 : Value} {odx8 anx8 : Option Addr} {slx8 : Array (Option Value)}
    {ocx9 kVx9 dcx9 pmx9 cdx9 ctx9 : Value} {odx9 anx9 : Option Addr} {slx9 : Array (Option Value)}
    {ocx10 kVx10 dcx10 pmx10 cdx10 ctx10 : Value} {odx10 anx10 : Option Addr} {slx10 : Array (Option Value)}
    {ocx11 kVx11 dcx11 pmx11 cdx11 ctx11 : Value} {odx11 anx11 : Option Addr} {slx11 : Array (Option Value)}
    {ocx12 kVx12 dcx12 pmx12 cdx12 ctx12 : Value} {odx12 anx12 : Option Addr} {slx12 : Array (Option Value)}
    {ocx13 kVx13 dcx13 pmx13 cdx13 ctx13 : Value} {odx13 anx13 : Option Addr} {slx13 : Array (Option Value)}
    {ocx14 kVx14 dcx14 pmx14 cdx14 ctx14 : Value} {odx14 anx14 : Option Addr} {slx14 : Array (Option Value)}
    {ocx15 kVx15 dcx15 pmx15 cdx15 ctx15 : Value} {odx15 anx15 : Option Addr} {slx15 : Array (Option Value)}
    {ocx16 kVx16 dcx16 pmx16 cdx16 ctx16 : Value} {odx16 anx16 : Option Addr} {slx16 : Array (Option Value)}
    {ocx17 kVx17 dcx17 pmx17 cdx17 ctx17 : Value} {odx17 anx17 : Option Addr} {slx17 : Array (Option Value)}
    {ocx18 kVx18 dcx18 pmx18 cdx18 ctx18 : Value} {odx18 anx18 : Option Addr} {slx18 : Array (Option Value)}
    {ocx19 kVx19 dcx19 pmx19 cdx19 ctx19 : Value} {odx19 anx19 : Option Addr} {slx19 : Array (Option Value)}
    {ocx20 kVx20 dcx20 pmx20 cdx20 ctx20 : Value} {odx20 anx20 : Option Addr} {slx20 : Array (Option Value)}
    {ocx21 kVx21 dcx21 pmx21 cdx21 ctx21 : Value} {odx21 anx21 : Option Addr} {slx21 : Array (Option Value)}
    {ocx22 kVx22 dcx22 pmx22 cdx22 ctx22 : Value} {odx22 anx22 : Option Addr} {slx22 : Array (Option Value)}
    {ocx23 kVx23 dcx23 pmx23 cdx23 ctx23 : Value} {odx23 anx23 : Option Addr} {slx23 : Array (Option Value)}
    {ocx24 kVx24 dcx24 pmx24 cdx24 ctx24 : Value} {odx24 anx24 : Option Addr} {slx24 : Array (Option Value)}
    {ocx25 kVx25 dcx25 pmx25 cdx25 ctx25 : Value} {odx25 anx25 : Option Addr} {slx25 : Array (Option Value)}
    {ocx26 kVx26 dcx26 pmx26 cdx26 ctx26 : Value} {odx26 anx26 : Option Addr} {slx26 : Array (Option Value)}
    {ocx27 kVx27 dcx27 pmx27 cdx27 ctx27 : Value} {odx27 anx27 : Option Addr} {slx27 : Array (Option Value)}
    {ocx28 kVx28 dcx28 pmx28 cdx28 ctx28 : Value} {odx28 anx28 : Option Addr} {slx28 : Array (Option Value)}
    {ocx29 kVx29 dcx29 pmx29 cdx29 ctx29 : Value} {odx29 anx29 : Option Addr} {slx29 : Array (Option Value)}
    {ocx30 kVx30 dcx30 pmx30  ctx30 : Value} {odx30 anx30 : Option Addr} {slx30 : Array (Option Value)}
    {ocx31 kVx31 dcx31 pmx31 cdx31 ctx31 : Value} {odx31 anx31 : Option Addr} {slx31 : Array (Option Value)}
    {ocx32 kVx32 dcx32 pmx32 cdx32 ctx32 : Value} {odx32 anx32 : Option Addr} {slx32 : Array (Option Value)}
    {ocx33 kVx33 dcx33 pmx33 cdx33 ctx33 : Value} {odx33 anx33 : Option Addr} {slx33 : Array (Option Value)}
    {ocx34 kVx34 dcx34 pmx34 cdx34 ctx34 : Value} {odx34 anx34 : Option Addr} {slx34 : Array (Option Value)}
    {ocx35 kVx35 dcx35 pmx35 cdx35 ctx35 : Value} {odx35 anx35 : Option Addr} {slx35 : Array (Option Value)}
    {ocx36 kVx36 dcx36 pmx36 cdx36 ctx36 : Value} {odx36 anx36 : Option Addr} {slx36 : Array (Option Value)}
    {ocx37 kVx37 dcx37 pmx37 cdx37 ctx37 : Value} {odx37 anx37 : Option Addr} {slx37 : Array (Option Value)}
    {ocx38 kVx38 dcx38 pmx38 cdx38 ctx38 : Value} {odx38 anx38 : Option Addr} {slx38 : Array (Option Value)}
    {ocx39 kVx39 dcx39 pmx39 cdx39 ctx39 : Value} {odx39 anx39 : Option Addr} {slx39 : Array (Option Value)}
    {ocx40 kVx40 dcx40 pmx40 cdx40 ctx40 : Value} {odx40 anx40 : Option Addr} {slx40 : Array (Option Value)}
    {ocx41 kVx41 dcx41 pmx41 cdx41 ctx41 : Value} {odx41 anx41 : Option Addr} {slx41 : Array (Option Value)}
    {ocLW kVLW dcLW pmLW cdLW ctLW : Value} {odLW anLW : Option Addr} {slLW : Array (Option Value)}
    (aC : PySem.W.nsIn K mainGlobals "Row" = some (some (.ref C)))
    (a_MOST_MARKS : PySem.W.nsIn K mainGlobals "MOST_MARKS" = some (some (.int 400 t_MOST_MARKS)))
    (a_MOST_PIECES : PySem.W.nsIn K mainGlobals "MOST_PIECES" = some (some (.int 200 t_MOST_PIECES)))
    (n_int : PySem.W.nsIn K mainGlobals "int" = some none)
    (n_bool : PySem.W.nsIn K mainGlobals "bool" = some none)
    (n_list : PySem.W.nsIn K mainGlobals "list" = some none)
    (n_tuple : PySem.W.nsIn K mainGlobals "tuple" = some none)
    (n_range : PySem.W.nsIn K mainGlobals "range" = some none)
    (n_len : PySem.W.nsIn K mainGlobals "len" = some none)
    (n_abs : PySem.W.nsIn K mainGlobals "abs" = some none)
    (n_all : PySem.W.nsIn K mainGlobals "all" = some none)
    (n_isinstance : PySem.W.nsIn K mainGlobals "isinstance" = some none)
    (n_zip : PySem.W.nsIn K mainGlobals "zip" = some none)
    (n_max : PySem.W.nsIn K mainGlobals "max" = some none)
    (n_min : PySem.W.nsIn K mainGlobals "min" = some none)
    (n_set : PySem.W.nsIn K mainGlobals "set" = some none)
    (n_sorted : PySem.W.nsIn K mainGlobals "sorted" = some none)
    (n_dict : PySem.W.nsIn K mainGlobals "dict" = some none)
    (n_repr : PySem.W.nsIn K mainGlobals "repr" = some none)
    (ax0 : PySem.W.nsIn K mainGlobals "_law_jar" = some (some (.ref fx0)))
    (lx0 : K.lookup fx0 = some ⟨ocx0, odx0, .func (PySem.W.fnOf "_law_jar" "_law_jar" (defArgs sJar) (defBody sJar) (defScope sJar) .none kVx0 dcx0 pmx0 anx0 cdx0 ctx0), slx0⟩)
    (cox0 : PySem.W.codeIn K cdx0 "_law_jar" = true)
    (kx0 : PySem.W.keepIn K (.ref fx0) = true)
    (ax1 : PySem.W.nsIn K mainGlobals "_law_dip" = some (some (.ref fx1)))
    (lx1 : K.lookup fx1 = some ⟨ocx1, odx1, .func (PySem.W.fnOf "_law_dip" "_law_dip" (defArgs sDip) (defBody sDip) (defScope sDip) .none kVx1 dcx1 pmx1 anx1 cdx1 ctx1), slx1⟩)
    (cox1 : PySem.W.codeIn K cdx1 "_law_dip" = true)
    (kx1 : PySem.W.keepIn K (.ref fx1) = true)
    (ax2 : PySem.W.nsIn K mainGlobals "_law_three" = some (some (.ref fx2)))
    (lx2 : K.lookup fx2 = some ⟨ocx2, odx2, .func (PySem.W.fnOf "_law_three" "_law_three" (defArgs sThree) (defBody sThree) (defScope sThree) .none kVx2 dcx2 pmx2 anx2 cdx2 ctx2), slx2⟩)
    (cox2 : PySem.W.codeIn K cdx2 "_law_three" = true)
    (kx2 : PySem.W.keepIn K (.ref fx2) = true)
    (ax3 : PySem.W.nsIn K mainGlobals "_law_due" = some (some (.ref fx3)))
    (lx3 : K.lookup fx3 = some ⟨ocx3, odx3, .func (PySem.W.fnOf "_law_due" "_law_due" (defArgs sDu) (defBody sDu) (defScope sDu) .none kVx3 dcx3 pmx3 anx3 cdx3 ctx3), slx3⟩)
    (cox3 : PySem.W.codeIn K cdx3 "_law_due" = true)
    (kx3 : PySem.W.keepIn K (.ref fx3) = true)
    (ax4 : PySem.W.nsIn K mainGlobals "is_integer" = some (some (.ref fx4)))
    (lx4 : K.lookup fx4 = some ⟨ocx4, odx4, .func (PySem.W.fnOf "is_integer" "is_integer" (defArgs sIsInt) (defBody sIsInt) (defScope sIsInt) .none kVx4 dcx4 pmx4 anx4 cdx4 ctx4), slx4⟩)
    (cox4 : PySem.W.codeIn K cdx4 "is_integer" = true)
    (kx4 : PySem.W.keepIn K (.ref fx4) = true)
    (ax5 : PySem.W.nsIn K mainGlobals "check_settings" = some (some (.ref fx5)))
    (lx5 : K.lookup fx5 = some ⟨ocx5, odx5, .func (PySem.W.fnOf "check_settings" "check_settings" (defArgs sCSet) (defBody sCSet) (defScope sCSet) .none kVx5 dcx5 pmx5 anx5 cdx5 ctx5), slx5⟩)
    (cox5 : PySem.W.codeIn K cdx5 "check_settings" = true)
    (kx5 : PySem.W.keepIn K (.ref fx5) = true)
    (ax6 : PySem.W.nsIn K mainGlobals "serving_from" = some (some (.ref fx6)))
    (lx6 : K.lookup fx6 = some ⟨ocx6, odx6, .func (PySem.W.fnOf "serving_from" "serving_from" (defArgs sSV) (defBody sSV) (defScope sSV) .none kVx6 dcx6 pmx6 anx6 cdx6 ctx6), slx6⟩)
    (cox6 : PySem.W.codeIn K cdx6 "serving_from" = true)
    (kx6 : PySem.W.keepIn K (.ref fx6) = true)
    (ax7 : PySem.W.nsIn K mainGlobals "marks_for" = some (some (.ref fx7)))
    (lx7 : K.lookup fx7 = some ⟨ocx7, odx7, .func (PySem.W.fnOf "marks_for" "marks_for" (defArgs sMF) (defBody sMF) (defScope sMF) .none kVx7 dcx7 pmx7 anx7 cdx7 ctx7), slx7⟩)
    (cox7 : PySem.W.codeIn K cdx7 "marks_for" = true)
    (kx7 : PySem.W.keepIn K (.ref fx7) = true)
    (ax8 : PySem.W.nsIn K mainGlobals "fewest_marks" = some (some (.ref fx8)))
    (lx8 : K.lookup fx8 = some ⟨ocx8, odx8, .func (PySem.W.fnOf "fewest_marks" "fewest_marks" (defArgs sFW) (defBody sFW) (defScope sFW) .none kVx8 dcx8 pmx8 anx8 cdx8 ctx8), slx8⟩)
    (cox8 : PySem.W.codeIn K cdx8 "fewest_marks" = true)
    (kx8 : PySem.W.keepIn K (.ref fx8) = true)
    (ax9 : PySem.W.nsIn K mainGlobals "check_place_from" = some (some (.ref fx9)))
    (lx9 : K.lookup fx9 = some ⟨ocx9, odx9, .func (PySem.W.fnOf "check_place_from" "check_place_from" (defArgs sPF) (defBody sPF) (defScope sPF) .none kVx9 dcx9 pmx9 anx9 cdx9 ctx9), slx9⟩)
    (cox9 : PySem.W.codeIn K cdx9 "check_place_from" = true)
    (kx9 : PySem.W.keepIn K (.ref fx9) = true)
    (ax10 : PySem.W.nsIn K mainGlobals "helping_marks" = some (some (.ref fx10)))
    (lx10 : K.lookup fx10 = some ⟨ocx10, odx10, .func (PySem.W.fnOf "helping_marks" "helping_marks" (defArgs sHM) (defBody sHM) (defScope sHM) .none kVx10 dcx10 pmx10 anx10 cdx10 ctx10), slx10⟩)
    (cox10 : PySem.W.codeIn K cdx10 "helping_marks" = true)
    (kx10 : PySem.W.keepIn K (.ref fx10) = true)
    (ax11 : PySem.W.nsIn K mainGlobals "check_place" = some (some (.ref fx11)))
    (lx11 : K.lookup fx11 = some ⟨ocx11, odx11, .func (PySem.W.fnOf "check_place" "check_place" (defArgs sCPl) (defBody sCPl) (defScope sCPl) .none kVx11 dcx11 pmx11 anx11 cdx11 ctx11), slx11⟩)
    (cox11 : PySem.W.codeIn K cdx11 "check_place" = true)
    (kx11 : PySem.W.keepIn K (.ref fx11) = true)
    (ax12 : PySem.W.nsIn K mainGlobals "check_length" = some (some (.ref fx12)))
    (lx12 : K.lookup fx12 = some ⟨ocx12, odx12, .func (PySem.W.fnOf "check_length" "check_length" (defArgs sCLen) (defBody sCLen) (defScope sCLen) .none kVx12 dcx12 pmx12 anx12 cdx12 ctx12), slx12⟩)
    (cox12 : PySem.W.codeIn K cdx12 "check_length" = true)
    (kx12 : PySem.W.keepIn K (.ref fx12) = true)
    (apL : PySem.W.findIn K (.ref C) "length" = some (some (.ref pL)))
    (gpL : PySem.W.specialIn K (.ref pL) "__get__" = some (some (.builtin "property.__get__")))
    (tpL : PySem.W.takesIn K (.ref pL) = some true)
    (rpL : PySem.W.recIn K pL "property" = some (.ref fx13 :: restpL))
    (lx13 : K.lookup fx13 = some ⟨ocx13, odx13, .func (PySem.W.fnOf "length" "Row.length" (defArgs sGetL) (defBody sGetL) (defScope sGetL) .none kVx13 dcx13 pmx13 anx13 cdx13 ctx13), slx13⟩)
    (cox13 : PySem.W.codeIn K cdx13 "Row.length" = true)
    (kx13 : PySem.W.keepIn K (.ref fx13) = true)
    (apM : PySem.W.findIn K (.ref C) "marks" = some (some (.ref pM)))
    (gpM : PySem.W.specialIn K (.ref pM) "__get__" = some (some (.builtin "property.__get__")))
    (tpM : PySem.W.takesIn K (.ref pM) = some true)
    (rpM : PySem.W.recIn K pM "property" = some (.ref fx14 :: restpM))
    (lx14 : K.lookup fx14 = some ⟨ocx14, odx14, .func (PySem.W.fnOf "marks" "Row.marks" (defArgs sGetM) (defBody sGetM) (defScope sGetM) .none kVx14 dcx14 pmx14 anx14 cdx14 ctx14), slx14⟩)
    (cox14 : PySem.W.codeIn K cdx14 "Row.marks" = true)
    (kx14 : PySem.W.keepIn K (.ref fx14) = true)
    (apS : PySem.W.findIn K (.ref C) "strict" = some (some (.ref pS)))
    (gpS : PySem.W.specialIn K (.ref pS) "__get__" = some (some (.builtin "property.__get__")))
    (tpS : PySem.W.takesIn K (.ref pS) = some true)
    (rpS : PySem.W.recIn K pS "property" = some (.ref fx15 :: restpS))
    (lx15 : K.lookup fx15 = some ⟨ocx15, odx15, .func (PySem.W.fnOf "strict" "Row.strict" (defArgs sGetS) (defBody sGetS) (defScope sGetS) .none kVx15 dcx15 pmx15 anx15 cdx15 ctx15), slx15⟩)
    (cox15 : PySem.W.codeIn K cdx15 "Row.strict" = true)
    (kx15 : PySem.W.keepIn K (.ref fx15) = true)
    (ax16 : PySem.W.nsIn K mainGlobals "check_size" = some (some (.ref fx16)))
    (lx16 : K.lookup fx16 = some ⟨ocx16, odx16, .func (PySem.W.fnOf "check_size" "check_size" (defArgs sCSz) (defBody sCSz) (defScope sCSz) .none kVx16 dcx16 pmx16 anx16 cdx16 ctx16), slx16⟩)
    (cox16 : PySem.W.codeIn K cdx16 "check_size" = true)
    (kx16 : PySem.W.keepIn K (.ref fx16) = true)
    (ax17 : PySem.W.nsIn K mainGlobals "check_inner" = some (some (.ref fx17)))
    (lx17 : K.lookup fx17 = some ⟨ocx17, odx17, .func (PySem.W.fnOf "check_inner" "check_inner" (defArgs sCI) (defBody sCI) (defScope sCI) .none kVx17 dcx17 pmx17 anx17 cdx17 ctx17), slx17⟩)
    (cox17 : PySem.W.codeIn K cdx17 "check_inner" = true)
    (kx17 : PySem.W.keepIn K (.ref fx17) = true)
    (ax18 : PySem.W.nsIn K mainGlobals "count_before" = some (some (.ref fx18)))
    (lx18 : K.lookup fx18 = some ⟨ocx18, odx18, .func (PySem.W.fnOf "count_before" "count_before" (defArgs sCB) (defBody sCB) (defScope sCB) .none kVx18 dcx18 pmx18 anx18 cdx18 ctx18), slx18⟩)
    (cox18 : PySem.W.codeIn K cdx18 "count_before" = true)
    (kx18 : PySem.W.keepIn K (.ref fx18) = true)
    (ax19 : PySem.W.nsIn K mainGlobals "first_mark" = some (some (.ref fx19)))
    (lx19 : K.lookup fx19 = some ⟨ocx19, odx19, .func (PySem.W.fnOf "first_mark" "first_mark" (defArgs sFM) (defBody sFM) (defScope sFM) .none kVx19 dcx19 pmx19 anx19 cdx19 ctx19), slx19⟩)
    (cox19 : PySem.W.codeIn K cdx19 "first_mark" = true)
    (kx19 : PySem.W.keepIn K (.ref fx19) = true)
    (ax20 : PySem.W.nsIn K mainGlobals "step" = some (some (.ref fx20)))
    (lx20 : K.lookup fx20 = some ⟨ocx20, odx20, .func (PySem.W.fnOf "step" "step" (defArgs sStep) (defBody sStep) (defScope sStep) .none kVx20 dcx20 pmx20 anx20 cdx20 ctx20), slx20⟩)
    (cox20 : PySem.W.codeIn K cdx20 "step" = true)
    (kx20 : PySem.W.keepIn K (.ref fx20) = true)
    (ax21 : PySem.W.nsIn K mainGlobals "cuts_from" = some (some (.ref fx21)))
    (lx21 : K.lookup fx21 = some ⟨ocx21, odx21, .func (PySem.W.fnOf "cuts_from" "cuts_from" (defArgs sCuts) (defBody sCuts) (defScope sCuts) .none kVx21 dcx21 pmx21 anx21 cdx21 ctx21), slx21⟩)
    (cox21 : PySem.W.codeIn K cdx21 "cuts_from" = true)
    (kx21 : PySem.W.keepIn K (.ref fx21) = true)
    (ax22 : PySem.W.nsIn K mainGlobals "first_index" = some (some (.ref fx22)))
    (lx22 : K.lookup fx22 = some ⟨ocx22, odx22, .func (PySem.W.fnOf "first_index" "first_index" (defArgs sFI) (defBody sFI) (defScope sFI) .none kVx22 dcx22 pmx22 anx22 cdx22 ctx22), slx22⟩)
    (cox22 : PySem.W.codeIn K cdx22 "first_index" = true)
    (kx22 : PySem.W.keepIn K (.ref fx22) = true)
    (ax23 : PySem.W.nsIn K mainGlobals "last_mark" = some (some (.ref fx23)))
    (lx23 : K.lookup fx23 = some ⟨ocx23, odx23, .func (PySem.W.fnOf "last_mark" "last_mark" (defArgs sLM) (defBody sLM) (defScope sLM) .none kVx23 dcx23 pmx23 anx23 cdx23 ctx23), slx23⟩)
    (cox23 : PySem.W.codeIn K cdx23 "last_mark" = true)
    (kx23 : PySem.W.keepIn K (.ref fx23) = true)
    (ax24 : PySem.W.nsIn K mainGlobals "earliest" = some (some (.ref fx24)))
    (lx24 : K.lookup fx24 = some ⟨ocx24, odx24, .func (PySem.W.fnOf "earliest" "earliest" (defArgs sEarly) (defBody sEarly) (defScope sEarly) .none kVx24 dcx24 pmx24 anx24 cdx24 ctx24), slx24⟩)
    (cox24 : PySem.W.codeIn K cdx24 "earliest" = true)
    (kx24 : PySem.W.keepIn K (.ref fx24) = true)
    (ax25 : PySem.W.nsIn K mainGlobals "latest" = some (some (.ref fx25)))
    (lx25 : K.lookup fx25 = some ⟨ocx25, odx25, .func (PySem.W.fnOf "latest" "latest" (defArgs sLate) (defBody sLate) (defScope sLate) .none kVx25 dcx25 pmx25 anx25 cdx25 ctx25), slx25⟩)
    (cox25 : PySem.W.codeIn K cdx25 "latest" = true)
    (kx25 : PySem.W.keepIn K (.ref fx25) = true)
    (ax26 : PySem.W.nsIn K mainGlobals "joined_ranges" = some (some (.ref fx26)))
    (lx26 : K.lookup fx26 = some ⟨ocx26, odx26, .func (PySem.W.fnOf "joined_ranges" "joined_ranges" (defArgs sJoin) (defBody sJoin) (defScope sJoin) .none kVx26 dcx26 pmx26 anx26 cdx26 ctx26), slx26⟩)
    (cox26 : PySem.W.codeIn K cdx26 "joined_ranges" = true)
    (kx26 : PySem.W.keepIn K (.ref fx26) = true)
    (ax27 : PySem.W.nsIn K mainGlobals "starts_with" = some (some (.ref fx27)))
    (lx27 : K.lookup fx27 = some ⟨ocx27, odx27, .func (PySem.W.fnOf "starts_with" "starts_with" (defArgs sStarts) (defBody sStarts) (defScope sStarts) .none kVx27 dcx27 pmx27 anx27 cdx27 ctx27), slx27⟩)
    (cox27 : PySem.W.codeIn K cdx27 "starts_with" = true)
    (kx27 : PySem.W.keepIn K (.ref fx27) = true)
    (ax28 : PySem.W.nsIn K mainGlobals "least_outside" = some (some (.ref fx28)))
    (lx28 : K.lookup fx28 = some ⟨ocx28, odx28, .func (PySem.W.fnOf "least_outside" "least_outside" (defArgs sLo) (defBody sLo) (defScope sLo) .none kVx28 dcx28 pmx28 anx28 cdx28 ctx28), slx28⟩)
    (cox28 : PySem.W.codeIn K cdx28 "least_outside" = true)
    (kx28 : PySem.W.keepIn K (.ref fx28) = true)
    (ax29 : PySem.W.nsIn K mainGlobals "all_have" = some (some (.ref fx29)))
    (lx29 : K.lookup fx29 = some ⟨ocx29, odx29, .func (PySem.W.fnOf "all_have" "all_have" (defArgs sAH) (defBody sAH) (defScope sAH) .none kVx29 dcx29 pmx29 anx29 cdx29 ctx29), slx29⟩)
    (cox29 : PySem.W.codeIn K cdx29 "all_have" = true)
    (kx29 : PySem.W.keepIn K (.ref fx29) = true)
    (ax30 : PySem.W.nsIn K mainGlobals "first_common" = some (some (.ref fx30)))
    (lx30 : K.lookup fx30 = some ⟨ocx30, odx30, .func (PySem.W.fnOf "first_common" "first_common" (defArgs sFC) (defBody sFC) (defScope sFC) .none kVx30 dcx30 pmx30 anx30 (.ref cTx30) ctx30), slx30⟩)
    (tbx30 : PySem.W.tabIn K "first_common" = some (cTx30, pTof K "first_common"))
    (nlx30 : K.lookup (pTof K "first_common") = none)
    (cox30 : PySem.W.codeIn K (.ref cTx30) "first_common" = true)
    (kx30 : PySem.W.keepIn K (.ref fx30) = true)
    (ax31 : PySem.W.nsIn K mainGlobals "stretch" = some (some (.ref fx31)))
    (lx31 : K.lookup fx31 = some ⟨ocx31, odx31, .func (PySem.W.fnOf "stretch" "stretch" (defArgs sStr) (defBody sStr) (defScope sStr) .none kVx31 dcx31 pmx31 anx31 cdx31 ctx31), slx31⟩)
    (cox31 : PySem.W.codeIn K cdx31 "stretch" = true)
    (kx31 : PySem.W.keepIn K (.ref fx31) = true)
    (ax32 : PySem.W.nsIn K mainGlobals "next_ranges" = some (some (.ref fx32)))
    (lx32 : K.lookup fx32 = some ⟨ocx32, odx32, .func (PySem.W.fnOf "next_ranges" "next_ranges" (defArgs sNr) (defBody sNr) (defScope sNr) .none kVx32 dcx32 pmx32 anx32 cdx32 ctx32), slx32⟩)
    (cox32 : PySem.W.codeIn K cdx32 "next_ranges" = true)
    (kx32 : PySem.W.keepIn K (.ref fx32) = true)
    (ax33 : PySem.W.nsIn K mainGlobals "are_places" = some (some (.ref fx33)))
    (lx33 : K.lookup fx33 = some ⟨ocx33, odx33, .func (PySem.W.fnOf "are_places" "are_places" (defArgs sPlaces) (defBody sPlaces) (defScope sPlaces) .none kVx33 dcx33 pmx33 anx33 cdx33 ctx33), slx33⟩)
    (cox33 : PySem.W.codeIn K cdx33 "are_places" = true)
    (kx33 : PySem.W.keepIn K (.ref fx33) = true)
    (ax34 : PySem.W.nsIn K mainGlobals "are_ascending" = some (some (.ref fx34)))
    (lx34 : K.lookup fx34 = some ⟨ocx34, odx34, .func (PySem.W.fnOf "are_ascending" "are_ascending" (defArgs sAsc) (defBody sAsc) (defScope sAsc) .none kVx34 dcx34 pmx34 anx34 cdx34 ctx34), slx34⟩)
    (cox34 : PySem.W.codeIn K cdx34 "are_ascending" = true)
    (kx34 : PySem.W.keepIn K (.ref fx34) = true)
    (ax35 : PySem.W.nsIn K mainGlobals "are_marks" = some (some (.ref fx35)))
    (lx35 : K.lookup fx35 = some ⟨ocx35, odx35, .func (PySem.W.fnOf "are_marks" "are_marks" (defArgs sMarks) (defBody sMarks) (defScope sMarks) .none kVx35 dcx35 pmx35 anx35 cdx35 ctx35), slx35⟩)
    (cox35 : PySem.W.codeIn K cdx35 "are_marks" = true)
    (kx35 : PySem.W.keepIn K (.ref fx35) = true)
    (ax36 : PySem.W.nsIn K mainGlobals "are_some_of" = some (some (.ref fx36)))
    (lx36 : K.lookup fx36 = some ⟨ocx36, odx36, .func (PySem.W.fnOf "are_some_of" "are_some_of" (defArgs sSome) (defBody sSome) (defScope sSome) .none kVx36 dcx36 pmx36 anx36 cdx36 ctx36), slx36⟩)
    (cox36 : PySem.W.codeIn K cdx36 "are_some_of" = true)
    (kx36 : PySem.W.keepIn K (.ref fx36) = true)
    (ax37 : PySem.W.findIn K (.ref C) "__init__" = some (some (.ref fx37)))
    (ix37 : PySem.W.isFn K (.ref fx37) = true)
    (lx37 : K.lookup fx37 = some ⟨ocx37, odx37, .func (PySem.W.fnOf "__init__" "Row.__init__" (defArgs sInit) (defBody sInit) (defScope sInit) .none kVx37 dcx37 pmx37 anx37 cdx37 ctx37), slx37⟩)
    (cox37 : PySem.W.codeIn K cdx37 "Row.__init__" = true)
    (kx37 : PySem.W.keepIn K (.ref fx37) = true)
    (ax38 : PySem.W.nsIn K mainGlobals "entries_at" = some (some (.ref fx38)))
    (lx38 : K.lookup fx38 = some ⟨ocx38, odx38, .func (PySem.W.fnOf "entries_at" "entries_at" (defArgs sEn) (defBody sEn) (defScope sEn) .none kVx38 dcx38 pmx38 anx38 cdx38 ctx38), slx38⟩)
    (cox38 : PySem.W.codeIn K cdx38 "entries_at" = true)
    (kx38 : PySem.W.keepIn K (.ref fx38) = true)
    (ax39 : PySem.W.nsIn K mainGlobals "sure_cut" = some (some (.ref fx39)))
    (lx39 : K.lookup fx39 = some ⟨ocx39, odx39, .func (PySem.W.fnOf "sure_cut" "sure_cut" (defArgs sSC) (defBody sSC) (defScope sSC) .none kVx39 dcx39 pmx39 anx39 cdx39 ctx39), slx39⟩)
    (cox39 : PySem.W.codeIn K cdx39 "sure_cut" = true)
    (kx39 : PySem.W.keepIn K (.ref fx39) = true)
    (ax40 : PySem.W.nsIn K mainGlobals "_law_marked" = some (some (.ref fx40)))
    (lx40 : K.lookup fx40 = some ⟨ocx40, odx40, .func (PySem.W.fnOf "_law_marked" "_law_marked" (defArgs sMkd) (defBody sMkd) (defScope sMkd) .none kVx40 dcx40 pmx40 anx40 cdx40 ctx40), slx40⟩)
    (cox40 : PySem.W.codeIn K cdx40 "_law_marked" = true)
    (kx40 : PySem.W.keepIn K (.ref fx40) = true)
    (ax41 : PySem.W.nsIn K mainGlobals "_law_right" = some (some (.ref fx41)))
    (lx41 : K.lookup fx41 = some ⟨ocx41, odx41, .func (PySem.W.fnOf "_law_right" "_law_right" (defArgs sRi) (defBody sRi) (defScope sRi) .none kVx41 dcx41 pmx41 anx41 cdx41 ctx41), slx41⟩)
    (cox41 : PySem.W.codeIn K cdx41 "_law_right" = true)
    (kx41 : PySem.W.keepIn K (.ref fx41) = true)
    (aLW : PySem.W.nsIn K mainGlobals "law" = some (some (.ref fLW)))
    (lLW : K.lookup fLW = some ⟨ocLW, odLW, .func (PySem.W.fnOf "law" "law" (defArgs sL) (defBody sL) (defScope sL) .none kVLW dcLW pmLW anLW cdLW ctLW), slLW⟩)
    (coLW : PySem.W.codeIn K cdLW "law" = true)
    (kLW : PySem.W.keepIn K (.ref fLW) = true)
    (pg : PySem.W.plainGet K C Str.empty = true)
    (hd : PySem.W.hasDictIn K C = true)
    (po : PySem.W.plainOver K C = true)
    (sa : PySem.W.findIn K (.ref C) "__setattr__" = some (some (.builtin "object.__setattr__")))
    (mk : PySem.W.makesIn K C = true)
    (kc : PySem.W.keepIn K (.ref C) = true)
    (nL : PySem.W.findIn K (.ref C) "_length" = some none)
    (nM : PySem.W.findIn K (.ref C) "_marks" = some none)
    (nS : PySem.W.findIn K (.ref C) "_strict" = some none)
    (kt : PySem.W.kitOne K (.ref C) (.ref C) = some true)
    : ∃ (fd : FuncData) (cs : List (Addr × Addr)), (∀ p ∈ cs, ∃ y ∈ (["first_common"] : List Str), PySem.W.tabIn K y = some p) ∧ (∀ p ∈ cs, K.lookup p.2 = none) ∧ (∀ (s : Shared) (v : Value), BindsTo s fd ⟨[v], []⟩ [("script", v)]) ∧ ∀ base : Heap, K.In base → base.Ns mainGlobals mg → (∀ p ∈ cs, LamX.TabB base mg p.1 p.2) → FnG l.prog w K mg base 12 fa fd ["script"] (spLaw K (tabNames ["first_common.<locals>.<lambda>"] cs)) := by
  have e := hfa.symm.trans (PySem.W.mg_of X G aLW)
  cases e
  have T : Bl mg := ⟨PySem.W.mg_none_of X G n_int, PySem.W.mg_none_of X G n_bool, PySem.W.mg_none_of X G n_list, PySem.W.mg_none_of X G n_tuple, PySem.W.mg_none_of X G n_range, PySem.W.mg_none_of X G n_len, PySem.W.mg_none_of X G n_abs, PySem.W.mg_none_of X G n_all, PySem.W.mg_none_of X G n_isinstance, PySem.W.mg_none_of X G n_zip, PySem.W.mg_none_of X G n_max, PySem.W.mg_none_of X G n_min, PySem.W.mg_none_of X G n_set, PySem.W.mg_none_of X G n_sorted, PySem.W.mg_none_of X G n_dict⟩
  have R : Cl K mg C := ⟨⟨pg, hd, po, sa⟩, nL, nM, nS, PySem.W.mg_of X G aC, kt⟩
  have M : Mk K C fx37 := ⟨mk, ax37, ix37, kc⟩
  have Fx0 := fun_mk (st := sJar) lx0 cox0 kx0
  have bx0 := Fx0.binds (ps := ["script", "k"]) fun _ _ _ _ _ _ us hl => match us, hl with | [_, _], _ => rfl
  have gx0 := PySem.W.mg_of X G ax0
  have Fx1 := fun_mk (st := sDip) lx1 cox1 kx1
  have bx1 := Fx1.binds (ps := ["jar", "many"]) fun _ _ _ _ _ _ us hl => match us, hl with | [_, _], _ => rfl
  have gx1 := PySem.W.mg_of X G ax1
  have Fx2 := fun_mk (st := sThree) lx2 cox2 kx2
  have bx2 := Fx2.binds (ps := ["jar", "wide"]) fun _ _ _ _ _ _ us hl => match us, hl with | [_, _], _ => rfl
  have gx2 := PySem.W.mg_of X G ax2
  have Fx3 := fun_mk (st := sDu) lx3 cox3 kx3
  have bx3 := Fx3.binds (ps := ["three", "strong"]) fun _ _ _ _ _ _ us hl => match us, hl with | [_, _], _ => rfl
  have gx3 := PySem.W.mg_of X G ax3
  have Fx4 := fun_mk (st := sIsInt) lx4 cox4 kx4
  have bx4 := Fx4.binds (ps := ["thing"]) fun _ _ _ _ _ _ us hl => match us, hl with | [_], _ => rfl
  have gx4 := PySem.W.mg_of X G ax4
  have Fx5 := fun_mk (st := sCSet) lx5 cox5 kx5
  have bx5 := Fx5.binds (ps := ["settings"]) fun _ _ _ _ _ _ us hl => match us, hl with | [_], _ => rfl
  have gx5 := PySem.W.mg_of X G ax5
  have Fx6 := fun_mk (st := sSV) lx6 cox6 kx6
  have bx6 := Fx6.binds (ps := ["settings", "is_strict"]) fun _ _ _ _ _ _ us hl => match us, hl with | [_, _], _ => rfl
  have gx6 := PySem.W.mg_of X G ax6
  have Fx7 := fun_mk (st := sMF) lx7 cox7 kx7
  have bx7 := Fx7.binds (ps := ["many", "each"]) fun _ _ _ _ _ _ us hl => match us, hl with | [_, _], _ => rfl
  have gx7 := PySem.W.mg_of X G ax7
  have Fx8 := fun_mk (st := sFW) lx8 cox8 kx8
  have bx8 := Fx8.binds (ps := ["settings", "is_strict"]) fun _ _ _ _ _ _ us hl => match us, hl with | [_, _], _ => rfl
  have gx8 := PySem.W.mg_of X G ax8
  have Fx9 := fun_mk (st := sPF) lx9 cox9 kx9
  have bx9 := Fx9.binds (ps := ["place", "low"]) fun _ _ _ _ _ _ us hl => match us, hl with | [_, _], _ => rfl
  have gx9 := PySem.W.mg_of X G ax9
  have Fx10 := fun_mk (st := sHM) lx10 cox10 kx10
  have bx10 := Fx10.binds (ps := ["settings", "place", "is_strict"]) fun _ _ _ _ _ _ us hl => match us, hl with | [_, _, _], _ => rfl
  have gx10 := PySem.W.mg_of X G ax10
  have Fx11 := fun_mk (st := sCPl) lx11 cox11 kx11
  have bx11 := Fx11.binds (ps := ["place", "low", "high"]) fun _ _ _ _ _ _ us hl => match us, hl with | [_, _, _], _ => rfl
  have gx11 := PySem.W.mg_of X G ax11
  have Fx12 := fun_mk (st := sCLen) lx12 cox12 kx12
  have bx12 := Fx12.binds (ps := ["length", "settings"]) fun _ _ _ _ _ _ us hl => match us, hl with | [_, _], _ => rfl
  have gx12 := PySem.W.mg_of X G ax12
  have Fx13 := fun_mk (st := sGetL) lx13 cox13 kx13
  have bx13 := Fx13.binds (ps := ["self"]) fun _ _ _ _ _ _ us hl => match us, hl with | [_], _ => rfl
  have Fx14 := fun_mk (st := sGetM) lx14 cox14 kx14
  have bx14 := Fx14.binds (ps := ["self"]) fun _ _ _ _ _ _ us hl => match us, hl with | [_], _ => rfl
  have Fx15 := fun_mk (st := sGetS) lx15 cox15 kx15
  have bx15 := Fx15.binds (ps := ["self"]) fun _ _ _ _ _ _ us hl => match us, hl with | [_], _ => rfl
  have Fx16 := fun_mk (st := sCSz) lx16 cox16 kx16
  have bx16 := Fx16.binds (ps := ["row", "settings"]) fun _ _ _ _ _ _ us hl => match us, hl with | [_, _], _ => rfl
  have gx16 := PySem.W.mg_of X G ax16
  have Fx17 := fun_mk (st := sCI) lx17 cox17 kx17
  have bx17 := Fx17.binds (ps := ["row", "settings", "place"]) fun _ _ _ _ _ _ us hl => match us, hl with | [_, _, _], _ => rfl
  have gx17 := PySem.W.mg_of X G ax17
  have Fx18 := fun_mk (st := sCB) lx18 cox18 kx18
  have bx18 := Fx18.binds (ps := ["places", "place"]) fun _ _ _ _ _ _ us hl => match us, hl with | [_, _], _ => rfl
  have gx18 := PySem.W.mg_of X G ax18
  have Fx19 := fun_mk (st := sFM) lx19 cox19 kx19
  have bx19 := Fx19.binds (ps := ["marks", "place", "end"]) fun _ _ _ _ _ _ us hl => match us, hl with | [_, _, _], _ => rfl
  have gx19 := PySem.W.mg_of X G ax19
  have Fx20 := fun_mk (st := sStep) lx20 cox20 kx20
  have bx20 := Fx20.binds (ps := ["row", "settings", "place"]) fun _ _ _ _ _ _ us hl => match us, hl with | [_, _, _], _ => rfl
  have gx20 := PySem.W.mg_of X G ax20
  have Fx21 := fun_mk (st := sCuts) lx21 cox21 kx21
  have bx21 := Fx21.binds (ps := ["row", "settings", "start"]) fun _ _ _ _ _ _ us hl => match us, hl with | [_, _, _], _ => rfl
  have gx21 := PySem.W.mg_of X G ax21
  have Fx22 := fun_mk (st := sFI) lx22 cox22 kx22
  have bx22 := Fx22.binds (ps := ["many", "holds"]) fun _ _ _ _ _ _ us hl => match us, hl with | [_, _], _ => rfl
  have gx22 := PySem.W.mg_of X G ax22
  have Fx23 := fun_mk (st := sLM) lx23 cox23 kx23
  have bx23 := Fx23.binds (ps := ["marks", "place", "otherwise"]) fun _ _ _ _ _ _ us hl => match us, hl with | [_, _, _], _ => rfl
  have gx23 := PySem.W.mg_of X G ax23
  have Fx24 := fun_mk (st := sEarly) lx24 cox24 kx24
  have bx24 := Fx24.binds (ps := ["row", "settings", "cut"]) fun _ _ _ _ _ _ us hl => match us, hl with | [_, _, _], _ => rfl
  have gx24 := PySem.W.mg_of X G ax24
  have Fx25 := fun_mk (st := sLate) lx25 cox25 kx25
  have bx25 := Fx25.binds (ps := ["row", "settings", "cut"]) fun _ _ _ _ _ _ us hl => match us, hl with | [_, _, _], _ => rfl
  have gx25 := PySem.W.mg_of X G ax25
  have Fx26 := fun_mk (st := sJoin) lx26 cox26 kx26
  have bx26 := Fx26.binds (ps := ["pairs"]) fun _ _ _ _ _ _ us hl => match us, hl with | [_], _ => rfl
  have gx26 := PySem.W.mg_of X G ax26
  have Fx27 := fun_mk (st := sStarts) lx27 cox27 kx27
  have bx27 := Fx27.binds (ps := ["row", "settings", "cut"]) fun _ _ _ _ _ _ us hl => match us, hl with | [_, _, _], _ => rfl
  have gx27 := PySem.W.mg_of X G ax27
  have Fx28 := fun_mk (st := sLo) lx28 cox28 kx28
  have bx28 := Fx28.binds (ps := ["ranges", "others"]) fun _ _ _ _ _ _ us hl => match us, hl with | [_, _], _ => rfl
  have gx28 := PySem.W.mg_of X G ax28
  have Fx29 := fun_mk (st := sAH) lx29 cox29 kx29
  have bx29 := Fx29.binds (ps := ["row", "settings", "cut", "ranges"]) fun _ _ _ _ _ _ us hl => match us, hl with | [_, _, _, _], _ => rfl
  have gx29 := PySem.W.mg_of X G ax29
  have Fx30 := fun_mk (st := sFC) lx30 cox30 kx30
  have bx30 := Fx30.binds (ps := ["row", "settings", "cuts", "ranges"]) fun _ _ _ _ _ _ us hl => match us, hl with | [_, _, _, _], _ => rfl
  have gx30 := PySem.W.mg_of X G ax30
  have Fx31 := fun_mk (st := sStr) lx31 cox31 kx31
  have bx31 := Fx31.binds (ps := ["row", "settings", "low", "high"]) fun _ _ _ _ _ _ us hl => match us, hl with | [_, _, _, _], _ => rfl
  have gx31 := PySem.W.mg_of X G ax31
  have Fx32 := fun_mk (st := sNr) lx32 cox32 kx32
  have bx32 := Fx32.binds (ps := ["row", "settings", "ranges"]) fun _ _ _ _ _ _ us hl => match us, hl with | [_, _, _], _ => rfl
  have gx32 := PySem.W.mg_of X G ax32
  have Fx33 := fun_mk (st := sPlaces) lx33 cox33 kx33
  have bx33 := Fx33.binds (ps := ["thing", "low", "high"]) fun _ _ _ _ _ _ us hl => match us, hl with | [_, _, _], _ => rfl
  have gx33 := PySem.W.mg_of X G ax33
  have Fx34 := fun_mk (st := sAsc) lx34 cox34 kx34
  have bx34 := Fx34.binds (ps := ["thing", "low", "high"]) fun _ _ _ _ _ _ us hl => match us, hl with | [_, _, _], _ => rfl
  have gx34 := PySem.W.mg_of X G ax34
  have Fx35 := fun_mk (st := sMarks) lx35 cox35 kx35
  have bx35 := Fx35.binds (ps := ["thing", "high"]) fun _ _ _ _ _ _ us hl => match us, hl with | [_, _], _ => rfl
  have gx35 := PySem.W.mg_of X G ax35
  have Fx36 := fun_mk (st := sSome) lx36 cox36 kx36
  have bx36 := Fx36.binds (ps := ["thing", "marks"]) fun _ _ _ _ _ _ us hl => match us, hl with | [_, _], _ => rfl
  have gx36 := PySem.W.mg_of X G ax36
  have Fx37 := fun_mk (st := sInit) lx37 cox37 kx37
  have bx37 := Fx37.binds (ps := ["self", "length", "marks", "strict"]) fun _ _ _ _ _ _ us hl => match us, hl with | [_, _, _, _], _ => rfl
  have Fx38 := fun_mk (st := sEn) lx38 cox38 kx38
  have bx38 := Fx38.binds (ps := ["row", "settings", "place"]) fun _ _ _ _ _ _ us hl => match us, hl with | [_, _, _], _ => rfl
  have gx38 := PySem.W.mg_of X G ax38
  have Fx39 := fun_mk (st := sSC) lx39 cox39 kx39
  have bx39 := Fx39.binds (ps := ["row", "settings", "place"]) fun _ _ _ _ _ _ us hl => match us, hl with | [_, _, _], _ => rfl
  have gx39 := PySem.W.mg_of X G ax39
  have Fx40 := fun_mk (st := sMkd) lx40 cox40 kx40
  have bx40 := Fx40.binds (ps := ["length", "spots", "strong"]) fun _ _ _ _ _ _ us hl => match us, hl with | [_, _, _], _ => rfl
  have gx40 := PySem.W.mg_of X G ax40
  have Fx41 := fun_mk (st := sRi) lx41 cox41 kx41
  have bx41 := Fx41.binds (ps := ["jar", "three", "strong"]) fun _ _ _ _ _ _ us hl => match us, hl with | [_, _, _], _ => rfl
  have gx41 := PySem.W.mg_of X G ax41
  have FLW := fun_mk (st := sL) lLW coLW kLW
  have gLW := PySem.W.mg_of X G aLW
  refine ⟨PySem.W.fnOf "law" "law" (defArgs sL) (defBody sL) (defScope sL) .none kVLW dcLW pmLW anLW cdLW ctLW, [(cTx30, pTof K "first_common")], fun p hp => ?_, fun p hp => ?_, fun s v => .of_eq rfl, fun base _ _ TB => ?_⟩
  · rcases List.mem_cons.mp hp with rfl | hp
    · exact ⟨"first_common", by simp, tbx30⟩
    cases hp
  · rcases List.mem_cons.mp hp with rfl | hp
    · exact nlx30
    cases hp
  have Gx0 := ok_jar (P := l.prog) (w := w) (K := K) (mg := mg) (base := base) Fx0 T
  have Gx1 := ok_dip (P := l.prog) (w := w) (K := K) (mg := mg) (base := base) Fx1 T
  have Gx2 := ok_three (P := l.prog) (w := w) (K := K) (mg := mg) (base := base) Fx2 gx1 kx1 bx1 Gx1
  have Gx3 := ok_du (P := l.prog) (w := w) (K := K) (mg := mg) (base := base) Fx3 T
  have Gx4 := ok_int (P := l.prog) (w := w) (K := K) (mg := mg) (base := base) Fx4 T
  have Gx5 := ok_cset (P := l.prog) (w := w) (K := K) (mg := mg) (base := base) Fx5 T gx4 kx4 bx4 Gx4
  have Gx6 := ok_sv (P := l.prog) (w := w) (K := K) (mg := mg) (base := base) Fx6
  have Gx7 := ok_mf (P := l.prog) (w := w) (K := K) (mg := mg) (base := base) Fx7
  have Gx8 := ok_fw (P := l.prog) (w := w) (K := K) (mg := mg) (base := base) Fx8 gx5 kx5 bx5 Gx5 gx6 kx6 bx6 Gx6 gx7 kx7 bx7 Gx7
  have Gx9 := ok_pf (P := l.prog) (w := w) (K := K) (mg := mg) (base := base) Fx9 gx4 kx4 bx4 Gx4
  have Gx10 := ok_hm (P := l.prog) (w := w) (K := K) (mg := mg) (base := base) Fx10 T (PySem.W.mg_of X G a_MOST_MARKS) gx5 kx5 bx5 Gx5 gx9 kx9 bx9 Gx9 gx6 kx6 bx6 Gx6 gx7 kx7 bx7 Gx7
  have Gx11 := ok_pl (P := l.prog) (w := w) (K := K) (mg := mg) (base := base) Fx11 gx4 kx4 bx4 Gx4
  have Gx12 := ok_len (P := l.prog) (w := w) (K := K) (mg := mg) (base := base) Fx12 (PySem.W.mg_of X G a_MOST_PIECES)
  have Gx13 := ok_getL (P := l.prog) (w := w) (K := K) (mg := mg) (base := base) Fx13 R
  have Gx14 := ok_getM (P := l.prog) (w := w) (K := K) (mg := mg) (base := base) Fx14 T R
  have Gx15 := ok_getS (P := l.prog) (w := w) (K := K) (mg := mg) (base := base) Fx15 T R
  have Gs : Gets l.prog w K mg base C pL fx13 pM fx14 pS fx15 _ _ _ := ⟨⟨apL, gpL, tpL, ⟨restpL, rpL⟩⟩, bx13, Gx13, ⟨apM, gpM, tpM, ⟨restpM, rpM⟩⟩, bx14, Gx14, ⟨apS, gpS, tpS, ⟨restpS, rpS⟩⟩, bx15, Gx15⟩
  have Gx16 := ok_sz (P := l.prog) (w := w) (K := K) (mg := mg) (base := base) Fx16 R Gs gx12 kx12 bx12 Gx12
  have Gx17 := ok_ci (P := l.prog) (w := w) (K := K) (mg := mg) (base := base) Fx17 R Gs gx5 kx5 bx5 Gx5 gx11 kx11 bx11 Gx11 gx16 kx16 bx16 Gx16
  have Gx18 := ok_cb (P := l.prog) (w := w) (K := K) (mg := mg) (base := base) Fx18 T
  have Gx19 := ok_fm (P := l.prog) (w := w) (K := K) (mg := mg) (base := base) Fx19 T gx18 kx18 bx18 Gx18
  have Gx20 := ok_step (P := l.prog) (w := w) (K := K) (mg := mg) (base := base) Fx20 T R Gs gx19 kx19 bx19 Gx19
  have Gx21 := ok_cuts (P := l.prog) (w := w) (K := K) (mg := mg) (base := base) Fx21 R Gs gx20 kx20 bx20 Gx20
  have Gx22 := ok_fi (P := l.prog) (w := w) (K := K) (mg := mg) (base := base) Fx22
  have Gx23 := ok_lm (P := l.prog) (w := w) (K := K) (mg := mg) (base := base) Fx23 gx18 kx18 bx18 Gx18
  have Gx24 := ok_early (P := l.prog) (w := w) (K := K) (mg := mg) (base := base) Fx24 T R Gs gx23 kx23 bx23 Gx23
  have Gx25 := ok_late (P := l.prog) (w := w) (K := K) (mg := mg) (base := base) Fx25 R Gs gx24 kx24 bx24 Gx24
  have Gx26 := ok_join (P := l.prog) (w := w) (K := K) (mg := mg) (base := base) Fx26 T
  have Gx27 := ok_starts (P := l.prog) (w := w) (K := K) (mg := mg) (base := base) Fx27 T gx24 kx24 bx24 Gx24 gx25 kx25 bx25 Gx25 gx26 kx26 bx26 Gx26
  have Gx28 := ok_lo (P := l.prog) (w := w) (K := K) (mg := mg) (base := base) Fx28
  have Gx29 := ok_ah (P := l.prog) (w := w) (K := K) (mg := mg) (base := base) Fx29 gx27 kx27 bx27 Gx27 gx28 kx28 bx28 Gx28
  have Gx30 := ok_fc (P := l.prog) (w := w) (K := K) (mg := mg) (base := base) (T := tabNames ["first_common.<locals>.<lambda>"] [(cTx30, pTof K "first_common")]) Fx30 T rfl (TB (cTx30, pTof K "first_common") (by simp)) (by simp [tabNames]) (by simp [tabNames]) gx22 kx22 bx22 Gx22 gx29 kx29 bx29 Gx29
  have Gx31 := ok_stretch (P := l.prog) (w := w) (K := K) (mg := mg) (base := base) Fx31 T R Gs gx20 kx20 bx20 Gx20 gx19 kx19 bx19 Gx19 gx25 kx25 bx25 Gx25
  have Gx32 := ok_nr (P := l.prog) (w := w) (K := K) (mg := mg) (base := base) Fx32 T R Gs gx31 kx31 bx31 Gx31 gx26 kx26 bx26 Gx26
  have Gx33 := ok_places (P := l.prog) (w := w) (K := K) (mg := mg) (base := base) Fx33 T gx4 kx4 bx4 Gx4
  have Gx34 := ok_asc (P := l.prog) (w := w) (K := K) (mg := mg) (base := base) Fx34 T gx33 kx33 bx33 Gx33
  have Gx35 := ok_marks (P := l.prog) (w := w) (K := K) (mg := mg) (base := base) Fx35 T (PySem.W.mg_of X G a_MOST_MARKS) gx34 kx34 bx34 Gx34
  have Gx36 := ok_some (P := l.prog) (w := w) (K := K) (mg := mg) (base := base) Fx36 T gx34 kx34 bx34 Gx34
  have Gx37 := ok_init (P := l.prog) (w := w) (K := K) (mg := mg) (base := base) Fx37 T R gx4 kx4 bx4 Gx4 gx35 kx35 bx35 Gx35 gx36 kx36 bx36 Gx36
  have Gx38 := ok_ent (P := l.prog) (w := w) (K := K) (mg := mg) (base := base) Fx38 R Gs M bx37 Gx37 gx32 kx32 bx32 Gx32 gx26 kx26 bx26 Gx26
  have Gx39 := ok_sc (P := l.prog) (w := w) (K := K) (mg := mg) (base := base) Fx39 gx17 kx17 bx17 Gx17 gx21 kx21 bx21 Gx21 gx30 kx30 bx30 Gx30 gx38 kx38 bx38 Gx38
  have Gx40 := ok_mkd (P := l.prog) (w := w) (K := K) (mg := mg) (base := base) Fx40 R M bx37 Gx37
  have Gx41 := ok_ri (P := l.prog) (w := w) (K := K) (mg := mg) (base := base) Fx41 T (PySem.W.mg_none_of X G n_repr) gx3 kx3 bx3 Gx3 gx1 kx1 bx1 Gx1 gx8 kx8 bx8 Gx8 gx10 kx10 bx10 Gx10 gx39 kx39 bx39 Gx39 gx40 kx40 bx40 Gx40
  exact ok_law (P := l.prog) (w := w) (K := K) (mg := mg) (base := base) FLW T gx0 kx0 bx0 Gx0 gx2 kx2 bx2 Gx2 gx1 kx1 bx1 Gx1 gx41 kx41 bx41 Gx41 gx8 kx8 bx8 (kb_x8_gR2 Fx8) Gx8 gx10 kx10 bx10 (kb_x10_gR3 Fx10) Gx10
theorem walk_here {l : PySem.W.OpenLaw} {q : Program} {loose : List Str} {XP : (Str → Option Value) → Heap → Prop} {YP : World → Heap → Prop} {d : DefRec} {K : Params → PySem.W.Frag} (hn : l.most = some 63) (hdf : d.params.defaults = [])
    (recs : ∀ y ∈ (["first_common"] : List Str), ((PyProof.Rows.recsOf q).find? (fun e => e.name == y)).isSome = true) (hY : ∀ (w : World) (h : Heap), YP w h → (K w.params).In h)
    (F : ∀ (w : World) (mg : Str → Option Value) (fa : Addr) (h : Heap), (K w.params).In h → h.Ns mainGlobals mg → mg d.name = some (.ref fa) →
      ∃ (fd : FuncData) (cs : List (Addr × Addr)), (∀ p ∈ cs, ∃ y ∈ (["first_common"] : List Str), PySem.W.tabIn (K w.params) y = some p) ∧ (∀ p ∈ cs, (K w.params).lookup p.2 = none) ∧ (∀ (s : Shared) (u : Value), BindsTo s fd ⟨[u], []⟩ [("script", u)]) ∧
        ∀ base : Heap, (K w.params).In base → base.Ns mainGlobals mg → (∀ p ∈ cs, LamX.TabB base mg p.1 p.2) → FnG l.prog w (K w.params) mg base 12 fa fd ["script"] (spLaw (K w.params) (tabNames ["first_common.<locals>.<lambda>"] cs))) :
    PySem.W.WalkO q loose XP YP l.row.toRowW d [] (fun f vs => PySem.call f vs) :=
  walkT (n := 63) (k := 12) (x := "script") (sp := fun w cs => spLaw (K w.params) (tabNames ["first_common.<locals>.<lambda>"] cs)) hn (by decide) hdf ⟨rfl, by decide, by decide⟩ recs hY F fun _ cs _ a ns hl ht hS => ⟨a, ns, rfl, hS, hl, tabs_start ht, fun _ => rfl⟩
end Cw
open PySem PySem.W PyProof.Rows
set_option maxRecDepth 100000 in
set_option maxHeartbeats 0 in
theorem PySem.Challenge.cw_cutwalks_k28_whole_marks_that_help_holds : PySem.Challenge.rw_cutwalks_k28_whole_marks_that_help.Holds := by
  w_on; o_law; k_head; (case hw => w_witness2)
  k_fill
  refine Cw.walk_here (l := PySem.Challenge.rw_cutwalks_k28_whole_marks_that_help) rfl rfl (fun y hy => ?R) (fun w h Y => PySem.W.km_in_of Y) ?F
  case R =>
    rcases List.mem_cons.mp hy with rfl | hy
    · exact (by kernel_rfl)
    cases hy
  case F =>
    intro w mg fa h KX G hmg
    refine' Cw.all_mk KX G hmg ?aC ?a_MOST_MARKS ?a_MOST_PIECES ?n_int ?n_bool ?n_list ?n_tuple ?n_range ?n_len ?n_abs ?n_all ?n_isinstance ?n_zip ?n_max ?n_min ?n_set ?n_sorted ?n_dict ?n_repr ?ax0 ?lx0 ?cox0 ?kx0 ?ax1 ?lx1 ?cox1 ?kx1 ?ax2 ?lx2 ?cox2 ?kx2 ?ax3 ?lx3 ?cox3 ?kx3 ?ax4 ?lx4 ?cox4 ?kx4 ?ax5 ?lx5 ?cox5 ?kx5 ?ax6 ?lx6 ?cox6 ?kx6 ?ax7 ?lx7 ?cox7 ?kx7 ?ax8 ?lx8 ?cox8 ?kx8 ?ax9 ?lx9 ?cox9 ?kx9 ?ax10 ?lx10 ?cox10 ?kx10 ?ax11 ?lx11 ?cox11 ?kx11 ?ax12 ?lx12 ?cox12 ?kx12 ?apL ?gpL ?tpL ?rpL ?lx13 ?cox13 ?kx13 ?apM ?gpM ?tpM ?rpM ?lx14 ?cox14 ?kx14 ?apS ?gpS ?tpS ?rpS ?lx15 ?cox15 ?kx15 ?ax16 ?lx16 ?cox16 ?kx16 ?ax17 ?lx17 ?cox17 ?kx17 ?ax18 ?lx18 ?cox18 ?kx18 ?ax19 ?lx19 ?cox19 ?kx19 ?ax20 ?lx20 ?cox20 ?kx20 ?ax21 ?lx21 ?cox21 ?kx21 ?ax22 ?lx22 ?cox22 ?kx22 ?ax23 ?lx23 ?cox23 ?kx23 ?ax24 ?lx24 ?cox24 ?kx24 ?ax25 ?lx25 ?cox25 ?kx25 ?ax26 ?lx26 ?cox26 ?kx26 ?ax27 ?lx27 ?cox27 ?kx27 ?ax28 ?lx28 ?cox28 ?kx28 ?ax29 ?lx29 ?cox29 ?kx29 ?ax30 ?lx30 ?tbx30 ?nlx30 ?cox30 ?kx30 ?ax31 ?lx31 ?cox31 ?kx31 ?ax32 ?lx32 ?cox32 ?kx32 ?ax33 ?lx33 ?cox33 ?kx33 ?ax34 ?lx34 ?cox34 ?kx34 ?ax35 ?lx35 ?cox35 ?kx35 ?ax36 ?lx36 ?cox36 ?kx36 ?ax37 ?ix37 ?lx37 ?cox37 ?kx37 ?ax38 ?lx38 ?cox38 ?kx38 ?ax39 ?lx39 ?cox39 ?kx39 ?ax40 ?lx40 ?cox40 ?kx40 ?ax41 ?lx41 ?cox41 ?kx41 ?aLW ?lLW ?coLW ?kLW ?pg ?hd ?po ?sa ?mk ?kc ?nL ?nM ?nS ?kt
    (case aC => k_is)
    (case a_MOST_MARKS => k_is)
    (case a_MOST_PIECES => k_is)
    (case n_int => k_is)
    (case n_bool => k_is)
    (case n_list => k_is)
    (case n_tuple => k_is)
    (case n_range => k_is)
    (case n_len => k_is)
    (case n_abs => k_is)
    (case n_all => k_is)
    (case n_isinstance => k_is)
    (case n_zip => k_is)
    (case n_max => k_is)
    (case n_min => k_is)
    (case n_set => k_is)
    (case n_sorted => k_is)
    (case n_dict => k_is)
    (case n_repr => k_is)
    (case ax0 => k_is)
    (case lx0 => k_is)
    (case cox0 => k_is)
    (case kx0 => k_is)
    (case ax1 => k_is)
    (case lx1 => k_is)
    (case cox1 => k_is)
    (case kx1 => k_is)
    (case ax2 => k_is)
    (case lx2 => k_is)
    (case cox2 => k_is)
    (case kx2 => k_is)
    (case ax3 => k_is)
    (case lx3 => k_is)
    (case cox3 => k_is)
    (case kx3 => k_is)
    (case ax4 => k_is)
    (case lx4 => k_is)
    (case cox4 => k_is)
    (case kx4 => k_is)
    (case ax5 => k_is)
    (case lx5 => k_is)
    (case cox5 => k_is)
    (case kx5 => k_is)
    (case ax6 => k_is)
    (case lx6 => k_is)
    (case cox6 => k_is)
    (case kx6 => k_is)
    (case ax7 => k_is)
    (case lx7 => k_is)
    (case cox7 => k_is)
    (case kx7 => k_is)
    (case ax8 => k_is)
    (case lx8 => k_is)
    (case cox8 => k_is)
    (case kx8 => k_is)
    (case ax9 => k_is)
    (case lx9 => k_is)
    (case cox9 => k_is)
    (case kx9 => k_is)
    (case ax10 => k_is)
    (case lx10 => k_is)
    (case cox10 => k_is)
    (case kx10 => k_is)
    (case ax11 => k_is)
    (case lx11 => k_is)
    (case cox11 => k_is)
    (case kx11 => k_is)
    (case ax12 => k_is)
    (case lx12 => k_is)
    (case cox12 => k_is)
    (case kx12 => k_is)
    (case apL => k_is)
    (case gpL => first | k_is | kernel_rfl)
    (case tpL => first | k_is | kernel_rfl)
    (case rpL => k_is)
    (case lx13 => k_is)
    (case cox13 => k_is)
    (case kx13 => k_is)
    (case apM => k_is)
    (case gpM => first | k_is | kernel_rfl)
    (case tpM => first | k_is | kernel_rfl)
    (case rpM => k_is)
    (case lx14 => k_is)
    (case cox14 => k_is)
    (case kx14 => k_is)
    (case apS => k_is)
    (case gpS => first | k_is | kernel_rfl)
    (case tpS => first | k_is | kernel_rfl)
    (case rpS => k_is)
    (case lx15 => k_is)
    (case cox15 => k_is)
    (case kx15 => k_is)
    (case ax16 => k_is)
    (case lx16 => k_is)
    (case cox16 => k_is)
    (case kx16 => k_is)
    (case ax17 => k_is)
    (case lx17 => k_is)
    (case cox17 => k_is)
    (case kx17 => k_is)
    (case ax18 => k_is)
    (case lx18 => k_is)
    (case cox18 => k_is)
    (case kx18 => k_is)
    (case ax19 => k_is)
    (case lx19 => k_is)
    (case cox19 => k_is)
    (case kx19 => k_is)
    (case ax20 => k_is)
    (case lx20 => k_is)
    (case cox20 => k_is)
    (case kx20 => k_is)
    (case ax21 => k_is)
    (case lx21 => k_is)
    (case cox21 => k_is)
    (case kx21 => k_is)
    (case ax22 => k_is)
    (case lx22 => k_is)
    (case cox22 => k_is)
    (case kx22 => k_is)
    (case ax23 => k_is)
    (case lx23 => k_is)
    (case cox23 => k_is)
    (case kx23 => k_is)
    (case ax24 => k_is)
    (case lx24 => k_is)
    (case cox24 => k_is)
    (case kx24 => k_is)
    (case ax25 => k_is)
    (case lx25 => k_is)
    (case cox25 => k_is)
    (case kx25 => k_is)
    (case ax26 => k_is)
    (case lx26 => k_is)
    (case cox26 => k_is)
    (case kx26 => k_is)
    (case ax27 => k_is)
    (case lx27 => k_is)
    (case cox27 => k_is)
    (case kx27 => k_is)
    (case ax28 => k_is)
    (case lx28 => k_is)
    (case cox28 => k_is)
    (case kx28 => k_is)
    (case ax29 => k_is)
    (case lx29 => k_is)
    (case cox29 => k_is)
    (case kx29 => k_is)
    (case ax30 => k_is)
    (case lx30 => k_is)
    (case tbx30 => kernel_rfl)
    (case nlx30 => kernel_rfl)
    (case cox30 => k_is)
    (case kx30 => k_is)
    (case ax31 => k_is)
    (case lx31 => k_is)
    (case cox31 => k_is)
    (case kx31 => k_is)
    (case ax32 => k_is)
    (case lx32 => k_is)
    (case cox32 => k_is)
    (case kx32 => k_is)
    (case ax33 => k_is)
    (case lx33 => k_is)
    (case cox33 => k_is)
    (case kx33 => k_is)
    (case ax34 => k_is)
    (case lx34 => k_is)
    (case cox34 => k_is)
    (case kx34 => k_is)
    (case ax35 => k_is)
    (case lx35 => k_is)
    (case cox35 => k_is)
    (case kx35 => k_is)
    (case ax36 => k_is)
    (case lx36 => k_is)
    (case cox36 => k_is)
    (case kx36 => k_is)
    (case ax37 => k_is)
    (case ix37 => k_is)
    (case lx37 => k_is)
    (case cox37 => k_is)
    (case kx37 => k_is)
    (case ax38 => k_is)
    (case lx38 => k_is)
    (case cox38 => k_is)
    (case kx38 => k_is)
    (case ax39 => k_is)
    (case lx39 => k_is)
    (case cox39 => k_is)
    (case kx39 => k_is)
    (case ax40 => k_is)
    (case lx40 => k_is)
    (case cox40 => k_is)
    (case kx40 => k_is)
    (case ax41 => k_is)
    (case lx41 => k_is)
    (case cox41 => k_is)
    (case kx41 => k_is)
    (case aLW => k_is)
    (case lLW => k_is)
    (case coLW => k_is)
    (case kLW => k_is)
    (case pg => k_is)
    (case hd => k_is)
    (case po => k_is)
    (case sa => k_is)
    (case mk => k_is)
    (case kc => k_is)
    (case nL => k_is)
    (case nM => k_is)
    (case nS => k_is)
    (case kt => first | k_is | kernel_rfl)
#print axioms PySem.Challenge.cw_cutwalks_k28_whole_marks_that_help_holds
