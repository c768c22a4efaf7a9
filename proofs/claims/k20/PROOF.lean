import PyProof.Rows.All
import Wide.All
import OpenK.AllK
import Wide.FinOn
import HandS.ForMost
import HandS.Strs
import HandS.SetFor
import HandS.SortKw
import KE.DataMinMax
import HandS.OwnEq
import PyProof.InstNe
import HandS.IsInst
import HandS.Walk
import HandS.Exc
import PySem.Challenge.RW_cutwalks_k20_meetings_of_walks
import HandS.Property
import HandS.WideBits
import HandS.Flt
import PyProof.MaxThree
import PyProof.SeqI3
import HandS.Style
import HandS.Words
import PyProof.ReprRoads
import HandS.Deep
import HandS.RaiseMore
import PyProof.ReprLen
import HandS.Conv
set_option Elab.async false
set_option maxRecDepth 100000
set_option maxHeartbeats 8000000
namespace Cw
open PySem PySem.Spec PyProof.Rows L2
/-! ## set(xs) of a list of nts -/
section
variable {P : Program} {w : World} {A : Around} {E : Value → Shared → Prop} {s : Shared}
abbrev newS (w : World) : Obj := { cls := .type "set", dict := none, data := .set #[] 0 (.fresh 0 0 (!w.params.followText "set-order")) }
theorem set_list {l : Addr} {its : Array Value} (ns : List Int) {Q : Value → Shared → Prop} (hand : A.handled = none) (isl : s.heap.IsList l its) (nts : IntsAre its.toList ns) (room : ns.length + 1 < scanBound)
    (q : ∀ (g' : Heap) (tk c : Nat), SetR w g' s.heap.objs.size (fun j => decide (j ∈ ns)) c → c ≤ ns.length → (∀ b o, s.heap.get? b = some o → g'.get? b = some o) → Q (.ref s.heap.objs.size) { s with heap := g', toks := tk }) :
    wpAny (model P w) A (call (.type "set") [.ref l]) Q E s := by
  have len : its.size = ns.length := by rw [← IntsAre.length nts, Array.length_toList]
  obtain ⟨c, tl, hmro⟩ := F.called_set.mro; have hmade := F.called_set.made; have hsub := F.called_set.sub
  refine wpAny_call (codeAny_of_tree ?_); show wpAny _ _ (callAny (.type "set") _) _ _ _
  refine wpAny_pure ⟨Code.quiet_builtin _ (by decide +kernel), codeAny_builtin F.entry_type_call ?_⟩; rw [Around.under_plain (weight_type_call_type "set" [.ref l] []) rfl]
  have h1 := F.called_set.notType; have h2 := F.called_set.canCreate; have hct := F.typeCall_set_1 (.ref l)
  repeat (any_goals (first | assumption | wp_step))
  refine codeAny_mono (code_set_led1 (.ref l) (E := E) (Q₁ := fun ob t₁ => ob = .ref s.heap.objs.size ∧ t₁ = { s with heap := s.heap.push (newS w) }) ⟨rfl, rfl⟩) fun r t₁ hr => ?_
  cases r with
  | error e => exact hr
  | ok fl =>
    cases fl with
    | ret ob =>
      obtain ⟨rfl, rfl⟩ := hr
      have at0 : (s.heap.push (newS w)).get? s.heap.objs.size = some (newS w) := Heap.get?_push_size _ rfl
      have ty0 : Shared.TypeIs { s with heap := s.heap.push (newS w) } (.ref s.heap.objs.size) "set" := ⟨_, at0, rfl⟩
      have hli := F.called_set.init.lookup; have hbi := F.called_set.init.bind (.ref s.heap.objs.size)
      repeat (any_goals (first | assumption | wp_step))
      refine codeAny_mono (codeAny_call_builtin (R := wants (fun r t₂ => r = .none ∧ ∃ g' tk c, t₂ = { s with heap := g', toks := tk } ∧ SetR w g' s.heap.objs.size (fun j => decide (j ∈ ns)) c ∧ c ≤ ns.length ∧ (∀ b o, s.heap.get? b = some o → g'.get? b = some o)) E)
        F.called_set.init.plain F.entry_set_init (check_set_init_1 ty0 ?_)) fun r₂ t₂ hr₂ => ?_
      · obtain ⟨ol, lo, lc, nl, ld⟩ := isl
        obtain ⟨oc, odi, oda, osl⟩ := ol
        simp only at lc ld; subst lc; subst ld
        have lo' : (s.heap.push (newS w)).get? l = some { cls := .type "list", dict := odi, data := .seq its nl, slots := osl } := Heap.get?_push_of_some _ lo
        have u1 := F.sub_list_set; have u2 := F.sub_list_frozenset
        have u3 : (Value.type "list" == Value.type "dict") = false := by decide
        have il : (s.heap.push (newS w)).IsList l its := ⟨_, lo', rfl, nl, rfl⟩
        unfold Builtin.«set.__init__» noKeywords Builtin.Frozenset.updateFrom
        generalize hPI : pyIter = PI; wp_walk; subst hPI
        refine wpAny_pyIter_list il ?_; refine wpAny_bind (wpAny_runValue ?_)
        have lt : l < s.heap.objs.size := Heap.lt_size lo
        have hand3 : A.in1.in1.in1.handled = none := by simp [hand]
        have ne1 : l ≠ (s.heap.push (newS w)).objs.size := by rw [Heap.size_push]; exact Nat.ne_of_lt (Nat.lt_succ_of_lt lt)
        have nin : s.heap.objs.size ∉ [(s.heap.push (newS w)).objs.size, l] := by
          rw [Heap.size_push]
          simp only [List.mem_cons, List.mem_singleton, List.not_mem_nil, or_false, not_or]
          exact ⟨Nat.ne_of_lt (Nat.lt_succ_self _), Nat.ne_of_gt lt⟩
        have val : ∀ (i : Nat) (v : Value), its[i]? = some v → ∃ k t, ns[i]? = some k ∧ v = .int k t := fun i v hv => by
          have hi : i < ns.length := by rw [← len]; exact (Array.getElem?_eq_some_iff.mp hv).1
          obtain ⟨t, e⟩ := PyProof.Rows.IntsAre.int_at nts i v (by rw [Array.getElem?_toList]; exact hv)
          exact ⟨ns[i], t, List.getElem?_eq_getElem hi, by rw [e, List.getD_eq_getElem?_getD, List.getElem?_eq_getElem hi] <;> rfl⟩
        refine set_update_ints ((Walks.list hand3 _ l ne1 its).toS) s.heap.objs.size nin ns len room val (its.size - 0) 0 _ (by omega) (Nat.zero_le _) ⟨⟨_, Heap.get?_push_size _ rfl, rfl, rfl⟩, (il.push _)⟩ ?z0 ?zR
        case z0 => exact ⟨0, Nat.le_refl 0, setR_new_at (Heap.get?_push_of_some _ at0)⟩
        case zR =>
          intro t' c' hm hc' hS'
          obtain ⟨g', g2, d', tk', os'⟩ := t'
          have eg : g2 = s.gens := hm.gens; have ed : d' = s.drawn := hm.drawn; have eo : os' = s.os := hm.os
          subst eg; subst ed; subst eo
          show wpAny _ _ _ _ _ _
          refine wpAny_pure ?_; show wpAny _ _ (ret Value.none) _ _ _
          rw [len] at hc'
          refine wpAny_pure ⟨rfl, g', tk', c', rfl, hS', hc', fun b o e => ?_⟩
          have b0 : b < s.heap.objs.size := Heap.lt_size e
          have b2 : b ≠ (s.heap.push (newS w)).objs.size := by rw [Heap.size_push]; exact Nat.ne_of_lt (Nat.lt_succ_of_lt b0)
          exact hm.heap b o (by simp only [List.mem_cons, List.mem_singleton, List.not_mem_nil, or_false, not_or]; exact ⟨Nat.ne_of_lt b0, b2⟩) (Heap.get?_push_of_some _ (Heap.get?_push_of_some _ e))
      · cases r₂ with
        | error e => exact hr₂
        | ok fl₂ =>
          cases fl₂ with
          | ret r =>
            obtain ⟨rfl, g', tk, c', rfl, hS', hc', hk'⟩ := hr₂
            repeat (any_goals (first | assumption | wp_step))
            exact q _ _ _ hS' hc' hk'
          | _ => exact hr₂.elim
    | _ => exact hr.elim
end
section
variable {P : Program} {w : World} {A : Around} {E : Value → Shared → Prop} {s : Shared}
theorem entry_sub : entryFor table "set.__sub__" = some Builtin.«frozenset.__sub__» := entryFor_alias (id' := "frozenset.__sub__") (by kernel_rfl) rfl (by decide +kernel) (by kernel_rfl)
theorem sub_form (a b : Value) : Builtin.«frozenset.__sub__» ⟨[a, b], []⟩ = (do
    let p ← Builtin.Frozenset.slot1 "__sub__" ⟨[a, b], []⟩
    if !(← (Builtin.Frozenset.isAnySet p.1 <&&> Builtin.Frozenset.isAnySet p.2)) then
      rule "frozenset.__sub__.declined"
      ret .notImplemented
    else ret (← Builtin.Frozenset.difference "frozenset.__sub__" (← Builtin.Frozenset.addrOf p.1) p.2)) := by
  rfl
variable {a b : Addr} {S T : Int → Bool} {n m : Nat}
theorem isSet_at {s : Shared} {Q : Bool → Shared → Prop} {a : Addr} (ty : s.TypeIs (.ref a) "set") (q : Q true s) : wpAny (model P w) A (Builtin.Frozenset.isAnySet (.ref a)) Q E s := by
  unfold Builtin.Frozenset.isAnySet isInstance
  have z := sub_set_self
  wp_walk
  exact q
/-- what is walked: all of the set's members -/
def Mem (xs : Array (Int × Value)) (S : Int → Bool) : Prop := ∀ e ∈ xs.toList, GoodE e ∧ S (keyOf e) = true
section
variable {o : Obj} {es : Array (Int × Value)} {ep : Nat} {t : SetTable}
theorem walk_at (ho : s.heap.get? a = some o) (hd : o.data = .set es ep t) (hf : t.fits es.size = true) (hl : w.params.followText "set-order" = true ∨ t.led = true) (hp : w.params.followText "set-order" = true ∨ (!t.plain && decide (es.size > 1)) = false)
    {Q : Array (Int × Value) → Shared → Prop} (q : ∀ xs, (∀ e ∈ xs.toList, e ∈ es.toList) → Q xs s) : wpAny (model P w) A (setWalk a) Q E s := by
  unfold setWalk
  refine wpAny_bind (wpAny_setState_of ho hd hf ?_)
  dsimp only
  refine wpAny_bind (wpAny_byText ?_)
  by_cases c : w.params.followText "set-order" = true
  · refine wp_if_pos c ?_
    refine wpAny_bind (wpAny_askSetting (wpAny_pure (q _ fun e he => ?_)))
    exact (pick_perm _ es).mem_iff.mp he
  · refine wp_if_neg c ?_
    have p1 := hp.resolve_left c
    have p2 := hl.resolve_left c
    try refine wpAny_bind (wpAny_pure ?_)
    refine wp_if_neg (by show ¬ ((!t.plain && decide (es.size > 1)) = true); rw [p1]; exact Bool.false_ne_true) ?_
    try refine wpAny_bind (wpAny_pure ?_)
    refine wpAny_bind (wpAny_of_eq (a := ()) ?_ (wpAny_pure (q es fun _ h => h)))
    show (if (!t.led && decide (es.size > 1)) = true then unsupported "set:maker-not-led" else pure ()) = pure ()
    rw [p2]
    rfl
end
theorem forIn_keep {α β : Type} {M : Model} {f : α → β → Sem (ForInStep β)} {b : β} (I : Shared → Prop) : ∀ (l : List α) {s : Shared} {Q : β → Shared → Prop},
    (∀ x ∈ l, ∀ (s : Shared) (Q' : ForInStep β → Shared → Prop), I s → (∀ s', I s' → Q' (.yield b) s') → wpAny M A (f x b) Q' E s) → I s → (∀ s', I s' → Q b s') → wpAny M A (forIn l b f) Q E s
  | [], s, Q, _, i, q => by
    rw [List.forIn_nil]
    exact wpAny_pure (q s i)
  | x :: l, s, Q, h, i, q => by
    rw [List.forIn_cons]
    exact wpAny_bind (h x (List.mem_cons_self ..) s _ i fun s' i' => forIn_keep I l (fun y hy => h y (List.mem_cons_of_mem _ hy)) i' q)
theorem forIn_keepA {α β : Type} {M : Model} {f : α → β → Sem (ForInStep β)} {b : β} (I : Shared → Prop) (l : Array α) {s : Shared} {Q : β → Shared → Prop}
    (h : ∀ x ∈ l.toList, ∀ (s : Shared) (Q' : ForInStep β → Shared → Prop), I s → (∀ s', I s' → Q' (.yield b) s') → wpAny M A (f x b) Q' E s) (i : I s) (q : ∀ s', I s' → Q b s') : wpAny M A (forIn l b f) Q E s := by
  rw [← Array.forIn_toList]
  exact forIn_keep I l.toList h i q
theorem quiet_at : ∀ (l : List Addr) {s : Shared} {Q : Bool → Shared → Prop}, (∀ c ∈ l, ∃ S n, SetR w s.heap c S n) → Q true s → wpAny (model P w) A (setsQuiet l) Q E s := by
  intro l s Q h q
  unfold setsQuiet
  refine wpAny_bind (forIn_keep (fun s' => s' = s) l (fun c hc s' Q' hs k => ?_) rfl fun s' hs => ?_)
  · subst hs
    obtain ⟨S, n, o, es, ep, t, ho, hx, hd, g, nd, hm, hb, hf, _⟩ := h c hc
    refine wpAny_bind (wpAny_setEntries_of ho hd hf ?_)
    refine wpAny_bind (forIn_keepA (fun s'' => s'' = s') es (fun e he s'' Q'' hs k' => ?_) rfl fun s'' hs => ?_)
    · subst hs
      obtain ⟨i, tk, h1, h2⟩ := g e he
      obtain ⟨e1, e2⟩ := e
      dsimp only at h1
      subst h1
      exact wpAny_pure (k' _ rfl)
    · subst hs
      exact wpAny_pure (k _ rfl)
  · subst hs
    exact wpAny_pure q
/-- the set at a walked while the empty set at r is filled -/
theorem unseen_at {r : Addr} (R : SetR w s.heap a S n) (Rr : SetR w s.heap r (fun _ => false) 0) {l : List Addr} (hall : ∀ c ∈ a :: l, ∃ S n, SetR w s.heap c S n) {Q : Array (Int × Value) → Shared → Prop}
    (q : ∀ xs h', Mem xs S → (∀ c o, c ≠ r → s.heap.get? c = some o → h'.get? c = some o) → SetR w h' r (fun _ => false) 0 → Q xs { s with heap := h' }) : wpAny (model P w) A (setWalkUnseen a l (some r)) Q E s := by
  obtain ⟨o, es, ep, t, ho, hx, hd, g, nd, hm, hb, hf, hn, hr, hl⟩ := R
  have mem : ∀ xs : Array (Int × Value), (∀ e ∈ xs.toList, e ∈ es.toList) → Mem xs S := fun xs h e he => ⟨g e (h e he), (hm _).mpr (List.mem_map_of_mem (h e he))⟩
  unfold setWalkUnseen
  refine wpAny_bind (wpAny_setState_of ho hd hf ?_)
  dsimp only
  refine wpAny_bind (wpAny_byText ?_)
  by_cases c : (w.params.followText "set-order" || t.led && t.plain || decide (es.size ≤ 1)) = true
  · refine wp_if_pos c ?_
    refine walk_at ho hd hf hl ?_ fun xs h => ?_
    · simp only [Bool.or_eq_true, Bool.and_eq_true, decide_eq_true_eq] at c
      rcases c with (c | c) | c
      · exact .inl c
      · exact .inr (by rw [c.2]; rfl)
      · exact .inr (by rw [decide_eq_false (by omega), Bool.and_false])
    · exact q xs s.heap (mem xs h) (fun _ _ _ e => e) Rr
  · refine wp_if_neg c ?_
    try refine wpAny_bind (wpAny_pure ?_)
    refine wpAny_bind (quiet_at (a :: l) hall ?_)
    refine wp_if_neg (by decide) ?_
    try refine wpAny_bind (wpAny_pure ?_)
    refine wpAny_bind (wpAny_rule ?_)
    obtain ⟨o2, es2, ep2, t2, ho2, hx2, hd2, g2, nd2, hm2, hb2, hf2, hn2, hr2, hl2⟩ := Rr
    try dsimp only
    refine wpAny_bind (wpAny_setState_of ho2 hd2 hf2 ?_)
    dsimp only
    have nb : w.params.followText "set-order" = false := by
      cases z : w.params.followText "set-order" with
      | false => rfl
      | true => rw [z] at c; simp at c
    have l1 : t.led = true := hl.resolve_left (by rw [nb]; exact Bool.false_ne_true)
    have l2 : t2.led = true := hl2.resolve_left (by rw [nb]; exact Bool.false_ne_true)
    by_cases c2 : (t2.led && !t.led || t2.plain && !t.plain) = true
    · refine wp_if_pos c2 ?_
      refine wpAny_bind (wpAny_storeSet_of ho2 hd2 ?_ (fits_of_scanBound hb2))
      refine wpAny_pure (q es _ (mem es fun _ h => h) (fun y o' hy e => by rw [Heap.get?_update_other _ _ (Ne.symm hy)]; exact e) ?_)
      exact ⟨_, es2, _, _, store_at ho2 hd2, hx2, rfl, g2, nd2, hm2, hb2, by exact hf2, hn2, hr2, .inr (by rw [l1, l2]; rfl)⟩
    · refine wp_if_neg c2 ?_
      try refine wpAny_bind (wpAny_pure ?_)
      exact wpAny_pure (q es s.heap (mem es fun _ h => h) (fun _ _ _ e => e) ⟨o2, es2, ep2, t2, ho2, hx2, hd2, g2, nd2, hm2, hb2, hf2, hn2, hr2, hl2⟩)
theorem sub_none (R1 : SetR w s.heap a S n) (R2 : SetR w s.heap b T m) (sub : ∀ k, S k = true → T k = true) (le : n ≤ m) {Q : Value → Shared → Prop}
    (q : ∀ h', (∀ c o, s.heap.get? c = some o → h'.get? c = some o) → SetR w h' s.heap.objs.size (fun _ => false) 0 → Q (.ref s.heap.objs.size) { s with heap := h' }) : wpAny (model P w) A (binaryOp .Sub (.ref a) (.ref b)) Q E s := by
  have ta : s.TypeIs (.ref a) "set" := (R1.setOf (P := P)).typeIs
  have tb : s.TypeIs (.ref b) "set" := (R2.setOf (P := P)).typeIs
  refine wpAny_binaryOp_same (T := "set") ta tb F.fills_set_sub F.slot_set_sub ?_
  refine wpAny_call_entry F.slot_set_sub ta entry_sub ?_ (F.args_set_sub_2 _ _)
  rw [sub_form]
  unfold Builtin.Frozenset.slot1 slotArgs
  refine wpAny_bind (wpAny_bind (wpAny_of_eq (a := (Value.ref a, [Value.ref b])) rfl (wpAny_pure ?_)))
  dsimp only
  refine wpAny_bind (m := _ <&&> _) ?_
  unfold andM
  refine wpAny_bind (isSet_at ta ?_)
  show wpAny _ _ (Builtin.Frozenset.isAnySet (.ref b)) _ _ _
  refine isSet_at tb (wp_if_neg (by decide) ?_)
  refine wpAny_bind (wpAny_pure (wpAny_bind ?_))
  obtain ⟨o, es, ep, t, ho, hx, hd, g, nd, hm, hb, hf, hn, hr, hl⟩ := id R1
  obtain ⟨o2, es2, ep2, t2, ho2, hx2, hd2, g2, nd2, hm2, hb2, hf2, hn2, hr2, hl2⟩ := id R2
  unfold Builtin.Frozenset.difference
  dsimp only
  refine wpAny_bind (isSet_at tb ?_)
  refine wp_if_neg (by decide) ?_
  try refine wpAny_bind (m := Builtin.Frozenset.addrOf (.ref b)) (wpAny_pure ?_)
  refine wp_if_neg (by simp) ?_
  refine wp_if_pos rfl ?_
  unfold Builtin.Frozenset.sizeOf
  refine wpAny_bind (wpAny_bind (wpAny_setEntries_of ho2 hd2 hf2 (wpAny_pure ?_)))
  refine wpAny_bind (wpAny_bind (wpAny_setEntries_of ho hd hf (wpAny_pure ?_)))
  refine wp_if_neg (by rw [hn, hn2]; omega) ?_
  unfold Builtin.Frozenset.baseOf isInstance
  have z := sub_set_self
  obtain ⟨hp, gg, dr, tk, os⟩ := s
  wp_walk
  dsimp only at ho ho2 q R1 R2
  refine wpAny_askSetting (wpAny_pure ?_)
  simp only [newObj, if_true]
  refine wpAny_bind (wpAny_alloc (wpAny_pure ?_))
  dsimp only
  have k1 : ∀ c o, hp.get? c = some o → (hp.push (newS w)).get? c = some o := fun c o e => Heap.get?_push_of_some _ e
  have fr := setR_fresh (h := hp) w
  have na : a ≠ hp.objs.size := Nat.ne_of_lt (Heap.lt_size ho)
  have nb : b ≠ hp.objs.size := Nat.ne_of_lt (Heap.lt_size ho2)
  refine wpAny_bind (m := Builtin.Frozenset.addrOf (.ref hp.objs.size)) (wpAny_pure ?_)
  refine wpAny_bind (wpAny_setEpoch_of (k1 _ _ ho) hd hf ?_)
  refine wpAny_bind (wpAny_holding (wpAny_bind ?_))
  refine unseen_at (R1.at fun o e => k1 _ _ e) fr (fun c hc => ?_) fun xs h' hxs k2 R' => ?_
  · rcases List.mem_cons.mp hc with rfl | hc
    · exact ⟨_, _, R1.at fun o e => k1 _ _ e⟩
    rcases List.mem_cons.mp hc with rfl | hc
    · exact ⟨_, _, R2.at fun o e => k1 _ _ e⟩
    rcases List.mem_cons.mp hc with rfl | hc
    · exact ⟨_, _, fr⟩
    · cases hc
  · have k3 : ∀ c o, hp.get? c = some o → h'.get? c = some o := fun c o e => k2 c o (Nat.ne_of_lt (Heap.lt_size e)) (k1 c o e)
    refine wpAny_bind (forIn_keepA (fun s' => s' = ⟨h', gg, dr, tk, os⟩) xs (fun e he s' Q' hs kk => ?_) rfl fun s' hs => ?_)
    · subst hs
      obtain ⟨⟨i, ti, h1, h2⟩, h3⟩ := hxs e he
      obtain ⟨e1, e2⟩ := e
      dsimp only at h1 h2
      subst h1 h2
      refine wpAny_bind (wpAny_holding (wpAny_bind ?_))
      refine wpAny_setFind_of (knd := intKind P w) (k := i) (intKind_is P w i ti) rfl ((R2.at fun o e => k3 _ _ e).setOf (P := P)) fun r hr => ?_
      refine wpAny_bind (wpAny_pure ?_)
      have hs : r.isSome = true := by rw [hr]; exact sub i h3
      refine wp_if_neg (by rw [hs]; decide) ?_
      refine wpAny_pure ?_
      unfold Builtin.Frozenset.unchanged
      refine wpAny_bind (wpAny_bind (wpAny_setEpoch_of (k3 _ _ ho) hd hf ?_))
      refine wp_if_neg (by simp) (wpAny_pure (wpAny_pure (kk _ rfl)))
    · subst hs
      refine wpAny_pure (wpAny_pure (wpAny_pure ⟨_, rfl, (fun z => nomatch z), q h' k3 R'⟩))
end
end Cw
namespace Cw
open PySem PySem.Spec PyProof.Rows L2
theorem nodup_len : ∀ {l m : List Int}, l.Nodup → (∀ x ∈ l, x ∈ m) → l.length ≤ m.length
  | [], m, _, _ => Nat.zero_le _
  | x :: l, m, nd, h => by
    obtain ⟨nx, nd'⟩ := List.nodup_cons.mp nd
    have hx : x ∈ m := h x (List.mem_cons_self ..)
    have z := nodup_len (l := l) (m := m.erase x) nd' fun y hy => by
      have ne : y ≠ x := fun e => nx (by rw [← e]; exact hy)
      exact (List.mem_erase_of_ne ne).mpr (h y (List.mem_cons_of_mem _ hy))
    rw [List.length_erase_of_mem hx] at z
    have p : 0 < m.length := List.length_pos_of_mem hx
    rw [List.length_cons]
    omega
section
variable {X : Cx}
theorem setR_le {w : World} {h : Heap} {a b : Addr} {S T : Int → Bool} {n m : Nat} (R1 : SetR w h a S n) (R2 : SetR w h b T m) (sub : ∀ k, S k = true → T k = true) : n ≤ m := by
  obtain ⟨o, es, ep, t, ho, hx, hd, g, nd, hm, hb, hf, hn, _⟩ := R1
  obtain ⟨o2, es2, ep2, t2, ho2, hx2, hd2, g2, nd2, hm2, hb2, hf2, hn2, _⟩ := R2
  have z := nodup_len (l := es.toList.map keyOf) (m := es2.toList.map keyOf) nd fun x hx => (hm2 x).mp (sub x ((hm x).mpr hx))
  rw [List.length_map, List.length_map, Array.length_toList, Array.length_toList, hn, hn2] at z
  exact z
/-- set(xs) -/
def rSetOf (X : Cx) : List V → Hp → VK → Prop := fun xs H Q => ∃ (l : Addr) (ns : List Int), xs = [.ref l] ∧ SqL X.K H l (ns.map V.int) ∧ ns.length ≤ 4000 ∧ ∀ p c, c ≤ ns.length → H p = none → Q (.ref p) (upd H p (SetO X.w p (fun j => decide (j ∈ ns)) c))
theorem cr_setOf (hc : X.calm = true) : CallR X (.type "set") (rSetOf X) := by
  intro pins s σ H vs us Q I r h
  obtain ⟨l, ns, rfl, hs, hl, q⟩ := h
  obtain ⟨its, rv, pl, _⟩ := I.list hs
  rw [Vals.ref1 r]
  refine set_list (its := its.toArray) ns (I.ok.hd hc) pl.isList rv.ints (by show ns.length + 1 < 4096; omega) fun g' tk c R hc' k => ?_
  exact ⟨.ref s.heap.objs.size, _, I.laid (t' := tk) k (Nat.le_refl _) (setO_new R), rfl, q _ c hc' (I.hok.fresh (Nat.le_refl _))⟩
/-- a - b, all of a's being b's: a new empty set -/
def rSubN (w : World) : R2 := fun x y H Q => ∃ (a b : Addr) (S T : Int → Bool) (n m : Nat), x = .ref a ∧ y = .ref b ∧ H a = some (SetO w a S n) ∧ H b = some (SetO w b T m) ∧ (∀ k, S k = true → T k = true) ∧ ∀ p, H p = none → Q (.ref p) (upd H p (SetO w p (fun _ => false) 0))
theorem op_subN : OpR X (binaryOp .Sub) (rSubN X.w) := by
  intro pins s σ H x y v u Q I rx ry h
  obtain ⟨a, b, S, T, n, m, rfl, rfl, ha, hb, sub, q⟩ := h
  cases rx
  cases ry
  have R1 := setO_get I ha
  have R2 := setO_get I hb
  refine sub_none R1 R2 sub (setR_le R1 R2 sub) fun h' k R => ?_
  exact ⟨.ref s.heap.objs.size, _, I.laid (t' := s.toks) k (Nat.le_refl _) (setO_new R), rfl, q _ (I.hok.fresh (Nat.le_refl _))⟩
/-- len(s) -/
theorem cr_lenS : CallR X (.builtin "len") (fun xs H Q => ∃ (a : Addr) (S : Int → Bool) (n : Nat), xs = [.ref a] ∧ H a = some (SetO X.w a S n) ∧ Q (.int n) H) := by
  intro pins s σ H vs us Q I r h
  obtain ⟨a, S, n, rfl, ha, q⟩ := h
  rw [Vals.ref1 r]
  obtain ⟨o, es, ep, t, ho, hx, hd, g, nd, hm, hb, hf, hn, _⟩ := setO_get I ha
  have e : scanBound = 4096 := rfl
  refine call_len_set ho hx hd hf (by rw [e] at hb; omega) ?_
  rw [hn]
  exact ⟨.int n, H, I.tok _, ⟨_, rfl⟩, q⟩
/-- max(xs, default=k) -/
def rMaxD (K : PySem.W.Frag) : List V → List V → Hp → VK → Prop := fun xs zs H Q => ∃ (a : Addr) (ns : List Int) (k : Int), xs = [.ref a] ∧ SqL K H a (ns.map V.int) ∧ zs = [.int k] ∧ ∀ M, (ns = [] → M = k) → (∀ y ∈ ns, y ≤ M) → Q (.int M) H
theorem fold_max (n : Int) : ∀ (ns : List Int), n ≤ ns.foldl max n ∧ ∀ y ∈ ns, y ≤ ns.foldl max n := by
  intro ns
  induction ns generalizing n with
  | nil => exact ⟨Int.le_refl _, fun _ h => nomatch h⟩
  | cons k r ih =>
    rw [List.foldl_cons]
    obtain ⟨h1, h2⟩ := ih (max n k)
    refine ⟨Int.le_trans (Int.le_max_left _ _) h1, fun y hy => ?_⟩
    rcases List.mem_cons.mp hy with rfl | hy
    · exact Int.le_trans (Int.le_max_right _ _) h1
    · exact h2 y hy
theorem alike_ints (ns : List Int) : PySem.W.AlikeAll (ns.map PyData.int) := by
  constructor
  · intro x hx y hy
    obtain ⟨i, _, rfl⟩ := List.mem_map.mp hx
    obtain ⟨j, _, rfl⟩ := List.mem_map.mp hy
    rfl
  · intro x hx
    obtain ⟨i, _, rfl⟩ := List.mem_map.mp hx
    exact fun z => nomatch z
theorem cr_maxD (hc : X.calm = true) (hu : X.A.units + 3 < cLine) : CallRK X (.builtin "max") ["default"] (rMaxD X.K) := by
  intro pins s σ H xs zs us ws Q I r rz h
  obtain ⟨a, ns, k, rfl, hs, rfl, q⟩ := h
  obtain ⟨its, rv, pl, _⟩ := I.list hs
  rw [Vals.ref1 r]
  obtain ⟨u, rfl, tk0, rfl⟩ := vals1 rz
  have dpi : ∀ ns : List Int, DpAll X.K H (ns.map V.int) (ns.map PyData.int) := fun ns => by
    induction ns with
    | nil => exact .nil
    | cons n r ih => exact .cons (.int n) ih
  have dpt : ∀ ns : List Int, PyData.depthAll (ns.map PyData.int) ≤ 1 := fun ns => by
    induction ns with
    | nil => exact Nat.zero_le _
    | cons n r ih =>
      rw [List.map_cons]
      unfold PyData.depthAll PyData.depth
      omega
  obtain ⟨as, hr⟩ := Dp.readsAll I _ _ _ (dpi ns) rv
  have hd := dpt ns
  refine PySem.W.max_list_default (vs := its.toArray) (I.ok.hd hc) pl.isList (by rw [List.toList_toArray]; exact hr) (alike_ints ns) (by omega) (fun e h' tk k' => ?_) (fun y ys i v h' tk bs e _ rd k' => ?_)
  · exact ⟨.int k, H, I.kept k', ⟨_, rfl⟩, q k (fun _ => rfl) fun y hy => by rw [List.map_eq_nil_iff.mp e] at hy; cases hy⟩
  · cases ns with
    | nil => cases e
    | cons n r =>
      rw [List.map_cons] at e
      injection e with e1 e2
      subst e1 e2
      rw [PySem.W.maxD_ints] at rd
      cases rd with
      | int i t =>
        obtain ⟨f1, f2⟩ := fold_max n r
        refine ⟨.int (r.foldl max n), H, I.kept k', ⟨t, rfl⟩, q _ (fun z => nomatch z) fun y hy => ?_⟩
        rcases List.mem_cons.mp hy with rfl | hy
        · exact f1
        · exact f2 y hy
end
end Cw
namespace Cw
open PySem PySem.Spec PyProof.Rows PySem.SeqAt L2
/-! ## != by an own __eq__ -/
section
variable {M : Model} {prog : Program} {w : World} {A : Around} {E : Value → Shared → Prop} {s : Shared} {K : PySem.W.Frag} {x y f C : Addr} {ox oy : Obj} {od oe : Option Obj}
theorem objNe_entry (X : K.In s.heap) (I : PySem.W.InstAt s.heap x ox C od) (hs : PySem.W.findIn K (.ref C) "__eq__" = some (some (.ref f))) (hf : PySem.W.isFn K (.ref f) = true) (hu : A.units < cLine) {Q : Fin → Shared → Prop}
    (hcall : wpAny (model prog w) A (call (.ref f) [.ref x, .ref y]) (fun v s' => ∃ b, v = .bool b ∧ Q (.done (.ret (.bool (!b)))) s') E s) :
    wpAny (model prog w) A (Builtin.«object.__ne__» ⟨[.ref x, .ref y], []⟩) Q E s := by
  unfold Builtin.«object.__ne__»
  repeat (first
    | with_reducible refine wpAny_cRoomFor hu ?_
    | (refine wpAny_bind (m := callSpecialIfBound? (.ref x) (Str.ofString "__eq__") [.ref y])
        (PySem.W.ifBound_K X I hs hf (wpAny_mono hcall (fun r s' hr => by
          obtain ⟨b, rfl, hq⟩ := hr
          repeat (first | exact hq | exact wpAny_pure hq | exact wpAny_truthy_bool hq | (refine wpAny_bind (m := truthy (.bool _)) (wpAny_truthy_bool ?_)) | wp_step)) fun _ _ e => e)))
    | wp_step)
theorem ifBound_objNe {args : List Value} {Q : Option Value → Shared → Prop} (X : K.In s.heap) (I : PySem.W.InstAt s.heap x ox C od) (hs : PySem.W.findIn K (.ref C) "__ne__" = some (some (.builtin "object.__ne__")))
    (h : wpAny M A (call (.builtin "object.__ne__") (.ref x :: args)) (fun v => Q (some v)) E s) : wpAny M A (callSpecialIfBound? (.ref x) "__ne__" args) Q E s := by
  simp only [callSpecialIfBound?, bindSpecialIfBound?]
  refine wpAny_holding (wpAny_bind (wpAny_bind (wpAny_bind (I.type.here ((PySem.W.looks_findIn X hs).here ?_)))))
  refine wpAny_bind (wpAny_askSetting (wpAny_ite ?_))
  have fin : wpAny M A (call (.builtin "object.__ne__") ([.ref x] ++ args) >>= fun v => pure (some v)) Q E s := wpAny_bind (wpAny_mono h (fun v s' h' => wpAny_pure h') fun _ _ h' => h')
  split
  · exact wpAny_bind (wpAny_of_eq (F.cmp_object.ne.bind _) (wpAny_pure (by exact fin)))
  · exact wpAny_tryCatch (wpAny_bind (wpAny_of_eq (F.cmp_object.ne.bind _) (wpAny_pure (by exact fin))))
theorem rc_ne (hu : A.units + 1 < cLine) (X : K.In s.heap) (I : PySem.W.InstAt s.heap x ox C od) (J : PySem.W.InstAt s.heap y oy C oe) (hm : PySem.W.mroIn K C (.type "object") = some true) (hn : PySem.W.findIn K (.ref C) "__ne__" = some (some (.builtin "object.__ne__")))
    (hs : PySem.W.findIn K (.ref C) "__eq__" = some (some (.ref f))) (hf : PySem.W.isFn K (.ref f) = true) {Q : Value → Shared → Prop}
    (hcall : wpAny (model prog w) A.in1 (call (.ref f) [.ref x, .ref y]) (fun v s' => ∃ b, v = .bool b ∧ Q (.bool (!b)) s') E s) :
    wpAny (model prog w) A (richCompare .NotEq (.ref x) (.ref y)) Q E s := by
  have one : wpAny (model prog w) A (tryCompare (.ref x) "__ne__" (.ref y)) (fun r s' => ∃ b, r = some (.bool b) ∧ Q (.bool b) s') E s := by
    unfold tryCompare
    refine wpAny_bind (ifBound_objNe X I hn (wpAny_call (codeAny_call_builtin F.cmp_object.ne.plain F.cmpEntry_ne (PySem.W.check_slot F.cmpKind_ne F.cmpSplit_ne (I.type.andThen (PySem.W.looks_mroIn X hm)) (F.cmpArgs_ne _ _)
      (objNe_entry (A := A.in1) X I hs hf (by exact hu) (wpAny_mono hcall (fun v s' hv => ?_) fun _ _ e => e))))))
    obtain ⟨b, rfl, hq⟩ := hv
    first | exact ⟨b, rfl, wpAny_pure ⟨_, rfl, hq⟩⟩ | exact ⟨b, rfl, wpAny_pure (wpAny_pure ⟨_, rfl, hq⟩)⟩
  unfold richCompare
  simp only [oneThing_ref]
  refine wpAny_holding (wpAny_bind (wpAny_cRoomFor (Nat.lt_of_succ_lt hu) ?_))
  rw [cmpInfo_NotEq]
  dsimp only
  refine wpAny_bind (I.type.here (wpAny_bind (J.type.here ?_)))
  rw [show (Value.ref C != Value.ref C) = false from by simp]
  simp only [Bool.false_eq_true, if_false]
  refine wpAny_bind (wpAny_pure ?_)
  simp only [Bool.false_eq_true, if_false]
  refine wpAny_bind (wpAny_mono one (fun v s' hv => ?_) fun _ _ e => e)
  obtain ⟨b, rfl, hq⟩ := hv
  first | exact wpAny_pure hq | exact wpAny_pure (wpAny_pure hq)
end
/-- x != y, equal by the own == -/
def rNeG (D : Eqv) : R2 := fun x y H Q => D x y H ∧ ∀ H', Ext H H' → Q (.bl false) H'
section
variable {X : Cx} {n : Nat}
theorem op_neG {CX : CXT} {C f : Addr} {fd : FuncData} {ps : List Str} {R : Addr → Addr → Hp → Prop} {E : XK} (F : FnOk X.prog X.w X.K X.mg X.base CX n f fd ps (spEq R))
    (hm : PySem.W.mroIn X.K C (.type "object") = some true) (hn : PySem.W.findIn X.K (.ref C) "__ne__" = some (some (.builtin "object.__ne__")))
    (hs : PySem.W.findIn X.K (.ref C) "__eq__" = some (some (.ref f))) (hf : PySem.W.isFn X.K (.ref f) = true) (hb : Binds X.K fd ps []) (hx : Passes CX X E) (hr : Room (n + 1) X.A) : OpR X (compareOp .NotEq) (rNeG (DIns C R)) := by
  intro pins s σ H x y u v Q I rx ry hq
  obtain ⟨⟨a, b, dx, dy, fs, gs, rfl, rfl, ha, hb', hR⟩, q⟩ := hq
  cases rx
  cases ry
  obtain ⟨mA, J, _⟩ := ins_get I.hok ha
  obtain ⟨mB, J', _⟩ := ins_get I.hok hb'
  obtain ⟨od, J, _⟩ := J.look
  obtain ⟨od', J', _⟩ := J'.look
  show wpAny (model X.prog X.w) X.A (richCompare .NotEq (.ref a) (.ref b)) (EP X pins σ Q) X.xe s
  refine rc_ne (hr.mono (Nat.succ_le_succ (Nat.zero_le n)) |>.in1.units0) I.kIn J J' hm hn hs hf ?_
  have hsp : spEq R [.ref a, .ref b] H (fun v H' => v = .bl true ∧ Ext H H') E := ⟨a, b, rfl, hR, fun H' e => ⟨rfl, e⟩⟩
  have hl := F.len _ _ _ _ hsp
  have r2 : Vals [V.ref a, V.ref b] [Value.ref a, Value.ref b] := .cons rfl (.cons rfl .nil)
  have e0 : Env0 X.prog X.w X.K X.mg X.base X.A.in1 X.stack s H := I.env0.in1
  refine wpAny_call (codeAny_mono (F.run X.A.in1 X.stack s H ⟨[.ref a, .ref b], []⟩ [.ref a, .ref b] [.ref a, .ref b] _ E hr.in1 e0 (by
    have := hb s [.ref a, .ref b] I.kIn (by simpa using hl)
    simpa using this) r2 hsp) fun r s' hq => ?_)
  cases r with
  | error e => exact hx pins σ H s e s' I hq
  | ok fl =>
    cases fl with
    | ret w =>
      obtain ⟨z, H', I', rz, ez, ex⟩ := I.after hq
      subst ez
      cases rz
      exact ⟨true, rfl, .bl false, H', I', rfl, q H' ex⟩
    | next => exact False.elim hq
    | brk => exact False.elim hq
    | cont => exact False.elim hq
end
end Cw
namespace Cw
open PySem L2
def top (i : Nat) : Stmt := PySem.Challenge.pw_cutwalks_k20_meetings_of_walks.main.body.getD i (.Pass ⟨0, 0, 0, 0⟩)
abbrev sIsInt : Stmt := top 10
abbrev sPlaces : Stmt := top 11
abbrev sAsc : Stmt := top 12
abbrev sMarks : Stmt := top 13
abbrev sSome : Stmt := top 14
abbrev sChange : Stmt := top 0
abbrev sRepl : Stmt := top 0
abbrev sRow : Stmt := top 24
theorem ifT {c : Bool} {A B : Prop} (h : c = true) (x : A) : if c = true then A else B := by
  rw [if_pos h]
  exact x
theorem ifF {c : Bool} {A B : Prop} (h : c = false) (x : B) : if c = true then A else B := by
  rw [h, if_neg Bool.false_ne_true]
  exact x
theorem same_new {H H1 : Hp} {p : Addr} {o : HO} (s : Same H H1) (h : H1 p = none) : Same H (upd H1 p o) := fun b u e => by
  rw [upd_ne (ne_of_none (s b u e) h)]
  exact s b u e
/-- what stands at D is replaced, D being new since H -/
theorem same_put {H H1 : Hp} {p : Addr} {o : HO} (s : Same H H1) (h : H p = none) : Same H (upd H1 p o) := fun b u e => by
  rw [upd_ne (ne_of_none e h)]
  exact s b u e
theorem all_true (n : Nat) : (List.replicate n true).all id = true := by
  induction n with
  | zero => rfl
  | succ n ih => rw [List.replicate_succ, List.all_cons, ih]; rfl
abbrev Asc (ns : List Int) : Prop := ns.Pairwise (· < ·)
/-- a list of ints stands at a -/
abbrev IL (H : Hp) (a : Addr) (ns : List Int) : Prop := H a = some (.lst (ns.map V.int))
theorem il_at {ns : List Int} {i : Nat} {x : V} (h : (ns.map V.int)[i]? = some x) : ∃ z, x = V.int z ∧ ns[i]? = some z := by
  rw [List.getElem?_map] at h
  cases e : ns[i]? with
  | none => rw [e] at h; cases h
  | some z => rw [e] at h; exact ⟨z, (Option.some.inj h).symm, rfl⟩
/-- what the names of the built-ins hold -/
structure Bl (mg : Str → Option Value) : Prop where
  int : mg "int" = none
  bool : mg "bool" = none
  list : mg "list" = none
  tuple : mg "tuple" = none
  range : mg "range" = none
  len : mg "len" = none
  abs : mg "abs" = none
  all : mg "all" = none
  isi : mg "isinstance" = none
  zip : mg "zip" = none
  max : mg "max" = none
  min : mg "min" = none
  set : mg "set" = none
  sorted : mg "sorted" = none
  dict : mg "dict" = none
def spOne : Sp := fun vs H Q _ => ∃ i : Int, vs = [.int i] ∧ Q (.bl true) H
/-- places from low to high -/
def spPlaces : Sp := fun vs H Q _ => ∃ (a : Addr) (ns : List Int) (lo hi : Int), vs = [.ref a, .int lo, .int hi] ∧ IL H a ns ∧ ns.length ≤ 1000 ∧ (∀ x ∈ ns, lo ≤ x ∧ x ≤ hi) ∧ ∀ H', Same H H' → Q (.bl true) H'
def spAsc : Sp := fun vs H Q _ => ∃ (a : Addr) (ns : List Int) (lo hi : Int), vs = [.ref a, .int lo, .int hi] ∧ IL H a ns ∧ ns.length ≤ 1000 ∧ (∀ x ∈ ns, lo ≤ x ∧ x ≤ hi) ∧ Asc ns ∧ ∀ H', Same H H' → Q (.bl true) H'
def spMarks : Sp := fun vs H Q _ => ∃ (a : Addr) (ns : List Int) (hi : Int), vs = [.ref a, .int hi] ∧ IL H a ns ∧ ns.length ≤ 400 ∧ (∀ x ∈ ns, 1 ≤ x ∧ x ≤ hi) ∧ Asc ns ∧ ∀ H', Same H H' → Q (.bl true) H'
def spSome : Sp := fun vs H Q _ => ∃ (a b : Addr) (ns ms : List Int), vs = [.ref a, .ref b] ∧ IL H a ns ∧ IL H b ms ∧ ns.length ≤ 400 ∧ ms.length ≤ 400 ∧ Asc ns ∧ (∀ x ∈ ns, 1 ≤ x) ∧ (∀ x ∈ ns, x ∈ ms) ∧ ∀ H', Same H H' → Q (.bl true) H'
section
variable {P : Program} {w : World} {K : PySem.W.Frag} {mg : Str → Option Value} {base : Heap}
theorem scI : FnScope ["thing"] ["thing"] (defScope sIsInt) := ⟨rfl, rfl, rfl, by decide +kernel, rfl, by decide +kernel, by decide +kernel⟩
theorem ok_int {f : Addr} {fd : FuncData} (F : Fun K "is_integer" "is_integer" sIsInt f fd) (T : Bl mg) : FnOk P w K mg base CX0 1 f fd ["thing"] spOne := by
  refine F.ok scI (fun vs H Q E h => ?_) (fun cdv A outer s H vs Q E hr h => ?_)
  · obtain ⟨i, rfl, _⟩ := h
    rfl
  · obtain ⟨i, rfl, k⟩ := h
    refine ⟨_, pss_one (ps_ret (pe_and (pe_callB call_isi (by rfl) T.isi (by decide +kernel) (pa_cons (pv 0) (pa_cons (pe_bltn (by rfl) T.int (by decide +kernel) (v := V.ty "int") rfl) pa_nil)))
      (pe_one (pe_not (pe_callB call_isi (by rfl) T.isi (by decide +kernel) (pa_cons (pv 0) (pa_cons (pe_bltn (by rfl) T.bool (by decide +kernel) (v := V.ty "bool") rfl) pa_nil))))))), ?_⟩
    refine ⟨_, rfl, _, _, _, _, true, rfl, ClsV.ty _, .base (.int i), kit_ty (by decide +kernel), _, rfl, ?_⟩
    refine ifT rfl ?_
    refine ⟨_, rfl, _, _, _, _, false, rfl, ClsV.ty _, .base (.int i), kit_ty (by decide +kernel), _, rfl, ?_⟩
    exact k
theorem scP : FnScope ["thing", "low", "high", "place"] ["thing", "low", "high"] (defScope sPlaces) := ⟨rfl, rfl, rfl, by decide +kernel, rfl, by decide +kernel, by decide +kernel⟩
theorem ok_places {f fI : Addr} {fd fdI : FuncData} (F : Fun K "are_places" "are_places" sPlaces f fd) (T : Bl mg) (gI : mg "is_integer" = some (.ref fI)) (kI : PySem.W.keepIn K (.ref fI) = true) (bI : Binds K fdI ["thing"] []) (GI : FnOk P w K mg base CX0 1 fI fdI ["thing"] spOne) :
    FnOk P w K mg base CX0 2 f fd ["thing", "low", "high"] spPlaces := by
  refine F.ok scP (fun vs H Q E h => ?_) (fun cdv A outer s H vs Q E hr h => ?_)
  · obtain ⟨a, ns, lo, hi, rfl, _⟩ := h
    rfl
  · obtain ⟨a, ns, lo, hi, rfl, hS, hl, hb, k⟩ := h
    refine ⟨_, pss_cons (ps_if (pt_not (pt_val (pe_callB call_isi (by rfl) T.isi (by decide +kernel) (pa_cons (pv 0) (pa_cons (pe_bltn (by rfl) T.list (by decide +kernel) (v := V.ty "list") rfl) pa_nil))))) (pss_one (ps_ret pe_bl)) pss_nil)
      (pss_one (ps_ret (pe_callB (cr_all rfl) (by rfl) T.all (by decide +kernel) (pa_cons (pe_lc (own := [("place", 3)]) (g := gName 3) (tt := tYes) rfl scP.nd
        (pi_list (pv 0)) (blkOk_by (own := [("place", 3)]) (N := ["thing", "low", "high", "place"]) (sc := defScope sPlaces) (by decide +kernel)) (fun _ _ _ _ _ => pg_name (i := 3) scP.nd rfl (Or.inl rfl)) (fun _ _ _ _ _ => pts_nil)
        (fun _ _ _ _ _ => pe_and (pe_call GI hr rfl gI kI bI .nil pass0 (pa_cons (pv 3) pa_nil)) (pe_one (pe_chain op_le op_le (pv 1) (pv 3) (pv 2))))) pa_nil)))), ?_⟩
    refine ⟨_, rfl, _, _, _, _, true, rfl, ClsV.ty _, .base (.lst hS), kit_ty (by decide +kernel), _, rfl, ?_⟩
    refine ifF rfl ?_
    refine ⟨_, rfl, a, rfl, ⟨_, SqL.of hS⟩, fun D hD => ?_⟩
    refine lc_list (K := K) (a := a) (xs := ns.map V.int) (fun i H' => Same H H' ∧ H' D = some (.lst (List.replicate i (V.bl true)))) ⟨same_new (Same.refl H) hD, upd_same⟩ (fun i H' _ q => SqL.of (q.1 _ _ hS)) ?_ ?_
    · rintro i x H' hx ⟨s1, hD'⟩
      obtain ⟨z, rfl, hz⟩ := il_at hx
      have hil : i < ns.length := (List.getElem?_eq_some_iff.mp hz).1
      obtain ⟨b1, b2⟩ := hb z (List.mem_of_getElem? hz)
      refine ⟨rfl, ?_⟩
      unfold tYes
      refine iteT ?_
      refine ⟨_, rfl, _, rfl, _, rfl, ?_⟩
      refine ifT rfl ?_
      refine ⟨_, rfl, _, rfl, _, _, rfl, rfl, _, rfl, ?_⟩
      refine ifT (by simp [b1]) ?_
      refine ⟨_, rfl, _, _, rfl, rfl, ?_⟩
      refine ⟨_, hD', by rw [List.length_replicate]; exact small1000 (by omega), same_put s1 hD, ?_⟩
      rw [upd_same, List.replicate_succ']
      simp [b2]
    · rintro H' ⟨s1, hD'⟩
      refine ⟨D, List.replicate ns.length true, rfl, SqL.of (by rw [hD', List.map_replicate, List.length_map]), ?_⟩
      rw [all_true]
      exact k _ s1
end
end Cw
namespace Cw
open PySem L2
theorem cut_one (xs : List V) : cutV xs (some 1) none = xs.drop 1 := by
  unfold cutV
  have e1 : HT.sIx xs.length 0 (some 1) = min 1 xs.length := HT.sIx_nat xs.length 0 1
  rw [e1, HT.sIx_none]
  cases xs with
  | nil => rfl
  | cons x r =>
    have e2 : min 1 (x :: r).length = 1 := by
      rw [List.length_cons]
      omega
    rw [e2, List.drop_succ_cons, List.drop_zero, List.length_cons, Nat.add_sub_cancel]
    exact List.take_length
section
variable {P : Program} {w : World} {K : PySem.W.Frag} {mg : Str → Option Value} {base : Heap}
abbrev NA : List Str := ["thing", "low", "high", "before", "place"]
theorem scA : FnScope NA ["thing", "low", "high"] (defScope sAsc) := ⟨rfl, rfl, rfl, by decide +kernel, rfl, by decide +kernel, by decide +kernel⟩
theorem ok_asc {f fP : Addr} {fd fdP : FuncData} (F : Fun K "are_ascending" "are_ascending" sAsc f fd) (T : Bl mg) (gP : mg "are_places" = some (.ref fP)) (kP : PySem.W.keepIn K (.ref fP) = true) (bP : Binds K fdP ["thing", "low", "high"] []) (GP : FnOk P w K mg base CX0 2 fP fdP ["thing", "low", "high"] spPlaces) :
    FnOk P w K mg base CX0 3 f fd ["thing", "low", "high"] spAsc := by
  refine F.ok scA (fun vs H Q E h => ?_) (fun cdv A outer s H vs Q E hr h => ?_)
  · obtain ⟨a, ns, lo, hi, rfl, _⟩ := h
    rfl
  · obtain ⟨a, ns, lo, hi, rfl, hS, hl, hb, ha, k⟩ := h
    refine ⟨_, pss_cons (ps_if (pt_not (pt_val (pe_call GP hr rfl gP kP bP .nil pass0 (pa_cons (pv 0) (pa_cons (pv 1) (pa_cons (pv 2) pa_nil)))))) (pss_one (ps_ret pe_bl)) pss_nil)
      (pss_one (ps_ret (pe_callB (cr_all rfl) (by rfl) T.all (by decide +kernel) (pa_cons (pe_lc (own := [("before", 3), ("place", 4)]) (g := gTup K 2 (gCons (gName 3) (gCons (gName 4) gNil))) (tt := tYes) rfl scA.nd
        (pi_zip (by rfl) T.zip (pa_cons (pv 0) (pa_cons (pe_slice sl_list (pv 0) (po_some pe_int) po_none) pa_nil))) (blkOk_by (own := [("before", 3), ("place", 4)]) (N := NA) (sc := defScope sAsc) (by decide +kernel))
        (fun _ _ _ _ _ => pg_tup rfl (pgs_cons (pg_name (i := 3) scA.nd rfl (Or.inl rfl)) (pgs_cons (pg_name (i := 4) scA.nd rfl (Or.inl rfl)) pgs_nil))) (fun _ _ _ _ _ => pts_nil)
        (fun _ _ _ _ _ => pe_cmpR op_lt (pv 3) (pv 4) (nomark _))) pa_nil)))), ?_⟩
    refine ⟨_, rfl, _, rfl, _, rfl, a, ns, lo, hi, rfl, hS, hl, hb, fun H1 s1 => ⟨_, rfl, ?_⟩⟩
    refine ifF rfl ?_
    refine ⟨_, rfl, _, rfl, 1, rfl, a, _, rfl, SqL.of (s1 _ _ hS), fun c nc => ?_⟩
    have s2 := same_new (o := .lst (cutV (ns.map V.int) (some 1) none)) s1 nc
    rw [cut_one] at s2
    rw [cut_one]
    refine ⟨a, c, _, _, rfl, SqL.of (s2 _ _ hS), SqL.of upd_same, fun D hD => ?_⟩
    have nc' : H c = none := s1.free nc
    have ncD : c ≠ D := ne_of_none upd_same hD
    have hn : ns.length - 1 = min (ns.map V.int).length ((ns.map V.int).drop 1).length := by
      rw [List.length_drop, List.length_map]
      omega
    refine lc_it (walk_zip hn) (fun i H' => Same H H' ∧ H' c = some (.lst ((ns.map V.int).drop 1)) ∧ H' D = some (.lst (List.replicate i (V.bl true)))) ⟨same_new s2 hD, by rw [upd_ne ncD]; exact upd_same, upd_same⟩ (fun i H' _ q => ⟨SqL.of (q.1 _ _ hS), SqL.of q.2.1⟩) ?_ ?_
    · rintro i x H' H'' hi ⟨s3, hc, hD'⟩ ⟨t, x1, x2, rfl, nt, rfl, e1, e2⟩
      have h1 : i < ns.length := by omega
      have h2 : i + 1 < ns.length := by omega
      have g1 : x1 = .int ns[i] := by
        dsimp only at e1
        rw [List.getElem?_map, List.getElem?_eq_getElem h1] at e1
        exact (Option.some.inj e1).symm
      have g2 : x2 = .int ns[i + 1] := by
        dsimp only at e2
        rw [List.getElem?_drop, List.getElem?_map, Nat.add_comm 1 i, List.getElem?_eq_getElem h2] at e2
        exact (Option.some.inj e2).symm
      subst g1 g2
      have hlt : ns[i] < ns[i + 1] := List.pairwise_iff_getElem.mp ha i (i + 1) h1 h2 (Nat.lt_succ_self i)
      have ntc : c ≠ t := ne_of_none hc nt
      have ntD : D ≠ t := ne_of_none hD' nt
      refine ⟨t, _, rfl, SqT.of upd_same, rfl, _, _, rfl, _, _, rfl, rfl, rfl, ?_⟩
      unfold tYes
      refine iteT ?_
      refine ⟨_, rfl, _, rfl, _, _, rfl, rfl, ?_⟩
      refine ⟨_, (by rw [upd_ne ntD]; exact hD'), by rw [List.length_replicate]; exact small1000 (by omega), same_put (same_new s3 nt) (s2.trans (Same.refl _) |>.free hD), ?_, ?_⟩
      · rw [upd_ne ncD, upd_ne ntc]
        exact hc
      · rw [upd_same, List.replicate_succ']
        simp [hlt]
    · rintro H' ⟨s3, hc, hD'⟩
      refine ⟨D, List.replicate (ns.length - 1) true, rfl, SqL.of (by rw [hD', List.map_replicate]), ?_⟩
      rw [all_true]
      exact k _ s3
theorem scM : FnScope ["thing", "high"] ["thing", "high"] (defScope sMarks) := ⟨rfl, rfl, rfl, by decide +kernel, rfl, by decide +kernel, by decide +kernel⟩
theorem ok_marks {f fA : Addr} {fd fdA : FuncData} {t : Tok} (F : Fun K "are_marks" "are_marks" sMarks f fd) (T : Bl mg) (gN : mg "MOST_MARKS" = some (.int 400 t)) (gA : mg "are_ascending" = some (.ref fA)) (kA : PySem.W.keepIn K (.ref fA) = true) (bA : Binds K fdA ["thing", "low", "high"] []) (GA : FnOk P w K mg base CX0 3 fA fdA ["thing", "low", "high"] spAsc) :
    FnOk P w K mg base CX0 4 f fd ["thing", "high"] spMarks := by
  refine F.ok scM (fun vs H Q E h => ?_) (fun cdv A outer s H vs Q E hr h => ?_)
  · obtain ⟨a, ns, hi, rfl, _⟩ := h
    rfl
  · obtain ⟨a, ns, hi, rfl, hS, hl, hb, ha, k⟩ := h
    refine ⟨_, pss_one (ps_ret (pe_and (pe_call GA hr rfl gA kA bA .nil pass0 (pa_cons (pv 0) (pa_cons pe_int (pa_cons (pv 1) pa_nil))))
      (pe_one (pe_cmpR op_le (pe_callB call_len_seq (by rfl) T.len PySem.boot_len (pa_cons (pv 0) pa_nil)) (pe_glob rfl gN (v := V.int 400) ⟨_, rfl⟩) (nomark _))))), ?_⟩
    refine ⟨_, rfl, _, rfl, a, ns, 1, hi, rfl, hS, by omega, hb, ha, fun H1 s1 => ⟨_, rfl, ?_⟩⟩
    refine ifT rfl ?_
    refine ⟨_, rfl, a, _, rfl, .inl (SqL.of (s1 _ _ hS)), _, _, rfl, rfl, ?_⟩
    have e : decide (((ns.map V.int).length : Int) ≤ 400) = true := by
      rw [List.length_map]
      exact decide_eq_true (by omega)
    have z := k _ s1
    rw [← e] at z
    exact z
theorem scSo : FnScope ["thing", "marks"] ["thing", "marks"] (defScope sSome) := ⟨rfl, rfl, rfl, by decide +kernel, rfl, by decide +kernel, by decide +kernel⟩
theorem ok_some {f fA : Addr} {fd fdA : FuncData} (F : Fun K "are_some_of" "are_some_of" sSome f fd) (T : Bl mg) (gA : mg "are_ascending" = some (.ref fA)) (kA : PySem.W.keepIn K (.ref fA) = true) (bA : Binds K fdA ["thing", "low", "high"] []) (GA : FnOk P w K mg base CX0 3 fA fdA ["thing", "low", "high"] spAsc) :
    FnOk P w K mg base CX0 4 f fd ["thing", "marks"] spSome := by
  refine F.ok scSo (fun vs H Q E h => ?_) (fun cdv A outer s H vs Q E hr h => ?_)
  · obtain ⟨a, b, ns, ms, rfl, _⟩ := h
    rfl
  · obtain ⟨a, b, ns, ms, rfl, hS, hM, hl, hm, ha, h1, hsub, k⟩ := h
    have hu := hr.units
    refine ⟨_, pss_cons (ps_if (pt_not (pt_val (pe_call GA hr rfl gA kA bA .nil pass0 (pa_cons (pv 0) (pa_cons pe_int (pa_cons (pe_callBK (cr_maxD rfl (Nat.lt_of_le_of_lt (Nat.add_le_add_left (by decide : 3 ≤ 64) _) hu)) (by rfl) T.max (by decide +kernel) (pa_cons (pv 1) pa_nil) (pk_cons pe_int pk_nil)) pa_nil)))))) (pss_one (ps_ret pe_bl)) pss_nil)
      (pss_one (ps_ret (pe_cmpR op_eq (pe_callB cr_lenS (by rfl) T.len PySem.boot_len (pa_cons (pe_op op_subN (pe_callTy (cr_setOf rfl) (by rfl) T.set (by decide +kernel) (pa_cons (pv 0) pa_nil)) (pe_callTy (cr_setOf rfl) (by rfl) T.set (by decide +kernel) (pa_cons (pv 1) pa_nil))) pa_nil)) pe_int (nomark _)))), ?_⟩
    refine ⟨_, rfl, _, rfl, b, ms, 0, rfl, SqL.of hM, rfl, fun M _ hM2 => ?_⟩
    refine ⟨a, ns, 0, M, rfl, hS, by omega, fun x hx => ⟨Int.le_trans (by decide) (h1 x hx), hM2 x (hsub x hx)⟩, ha, fun H1 s1 => ⟨_, rfl, ?_⟩⟩
    refine ifF rfl ?_
    refine ⟨_, rfl, a, ns, rfl, SqL.of (s1 _ _ hS), by omega, fun p c _ hp => ?_⟩
    have s2 := same_new (o := SetO w p (fun j => decide (j ∈ ns)) c) s1 hp
    refine ⟨_, rfl, b, ms, rfl, SqL.of (s2 _ _ hM), by omega, fun p2 c2 _ hp2 => ?_⟩
    have s3 := same_new (o := SetO w p2 (fun j => decide (j ∈ ms)) c2) s2 hp2
    have n12 : p ≠ p2 := ne_of_none upd_same hp2
    refine ⟨p, p2, _, _, _, _, rfl, rfl, by rw [upd_ne n12]; exact upd_same, upd_same, fun j hj => decide_eq_true (hsub j (of_decide_eq_true hj)), fun p3 hp3 => ?_⟩
    refine ⟨p3, _, 0, rfl, upd_same, rfl, ?_⟩
    have e : decide (V.int ((0 : Nat) : Int) = V.int 0) = true := by simp
    have z := k _ (same_new (o := SetO w p3 (fun _ => false) 0) s3 hp3)
    rw [← e] at z
    exact z
end
end Cw
namespace Cw
open PySem L2
abbrev sInit : Stmt := inClass sRow 0
abbrev sGetM : Stmt := inClass sRow 2
abbrev sEq : Stmt := inClass sRow 6
abbrev sChanged : Stmt := inClass sRow 11
theorem k12 : ¬ (("_length" : Str) = "_marks") := by decide +kernel
theorem k13 : ¬ (("_length" : Str) = "_strict") := by decide +kernel
theorem k23 : ¬ (("_marks" : Str) = "_strict") := by decide +kernel
def flds (n : Int) (l1 l2 : Addr) : List (Str × V) := putF "_strict" (.ref l2) (putF "_marks" (.ref l1) (putF "_length" (.int n) []))
theorem flds_eq (n : Int) (l1 l2 : Addr) : flds n l1 l2 = ([("_length", V.int n), ("_marks", V.ref l1), ("_strict", V.ref l2)] : List (Str × V)) := by
  unfold flds
  rw [show putF "_length" (V.int n) [] = ([("_length", V.int n)] : List (Str × V)) from rfl]
  rw [show putF "_marks" (V.ref l1) ([("_length", V.int n)] : List (Str × V)) = (if ("_length" : Str) = "_marks" then ([("_length", V.ref l1)] : List (Str × V)) else ("_length", V.int n) :: putF "_marks" (V.ref l1) []) from rfl, if_neg k12]
  rw [show putF "_marks" (V.ref l1) [] = ([("_marks", V.ref l1)] : List (Str × V)) from rfl]
  rw [show putF "_strict" (V.ref l2) ([("_length", V.int n), ("_marks", V.ref l1)] : List (Str × V)) = (if ("_length" : Str) = "_strict" then ([("_length", V.ref l2), ("_marks", V.ref l1)] : List (Str × V)) else ("_length", V.int n) :: (if ("_marks" : Str) = "_strict" then ([("_marks", V.ref l2)] : List (Str × V)) else ("_marks", V.ref l1) :: putF "_strict" (V.ref l2) [])) from rfl, if_neg k13, if_neg k23]
  rfl
theorem fl_L (n : Int) (l1 l2 : Addr) : (flds n l1 l2).lookup ("_length" : Str) = some (.int n) := by
  unfold flds
  rw [lookup_putF, if_neg k13, lookup_putF, if_neg k12, lookup_putF, if_pos rfl]
theorem fl_M (n : Int) (l1 l2 : Addr) : (flds n l1 l2).lookup ("_marks" : Str) = some (.ref l1) := by
  unfold flds
  rw [lookup_putF, if_neg k23, lookup_putF, if_pos rfl]
theorem fl_S (n : Int) (l1 l2 : Addr) : (flds n l1 l2).lookup ("_strict" : Str) = some (.ref l2) := by
  unfold flds
  rw [lookup_putF, if_pos rfl]
theorem fl_no (n : Int) (l1 l2 : Addr) {m : Str} (h1 : ¬ m = "_length") (h2 : ¬ m = "_marks") (h3 : ¬ m = "_strict") : (flds n l1 l2).lookup m = none := by
  unfold flds
  rw [lookup_putF, if_neg h3, lookup_putF, if_neg h2, lookup_putF, if_neg h1]
  rfl
/-- what a row is -/
structure Good (n : Int) (ms ss : List Int) : Prop where
  pos : 1 ≤ n
  len : ms.length ≤ 400
  rng : ∀ x ∈ ms, 1 ≤ x ∧ x ≤ n - 1
  asc : Asc ms
  asc2 : Asc ss
  sub : ∀ x ∈ ss, x ∈ ms
theorem Good.len2 {n : Int} {ms ss : List Int} (g : Good n ms ss) : ss.length ≤ 400 :=
  Nat.le_trans (nodup_len (g.asc2.imp fun h e => by omega) g.sub) g.len
/-- a row stands at p -/
def RowAt (C : Addr) (H : Hp) (p : Addr) (n : Int) (ms ss : List Int) : Prop := ∃ dx l1 l2, H p = some (.ins C dx (flds n l1 l2)) ∧ IL H l1 ms ∧ IL H l2 ss
theorem RowAt.same {C : Addr} {H H' : Hp} {p : Addr} {n : Int} {ms ss : List Int} (r : RowAt C H p n ms ss) (s : Same H H') : RowAt C H' p n ms ss := by
  obtain ⟨dx, l1, l2, a, b, c⟩ := r
  exact ⟨dx, l1, l2, s _ _ a, s _ _ b, s _ _ c⟩
/-- a row has been made at p, its lists are new since H -/
def RowNew (C : Addr) (H H' : Hp) (p : Addr) (n : Int) (ms ss : List Int) : Prop := ∃ dx l1 l2, H' p = some (.ins C dx (flds n l1 l2)) ∧ IL H' l1 ms ∧ IL H' l2 ss ∧ H l1 = none ∧ H l2 = none
theorem RowNew.at {C : Addr} {H H' : Hp} {p : Addr} {n : Int} {ms ss : List Int} (r : RowNew C H H' p n ms ss) : RowAt C H' p n ms ss := by
  obtain ⟨dx, l1, l2, a, b, c, _⟩ := r
  exact ⟨dx, l1, l2, a, b, c⟩
theorem none_of {H H' : Hp} {l : Addr} (k : ∀ c o, H c = some o → ∃ o', H' c = some o') (h : H' l = none) : H l = none := by
  cases e : H l with
  | none => rfl
  | some o =>
    obtain ⟨o', z⟩ := k _ _ e
    rw [h] at z
    cases z
theorem RowNew.mono {C : Addr} {H0 H H' : Hp} {p : Addr} {n : Int} {ms ss : List Int} (r : RowNew C H H' p n ms ss) (k : ∀ c o, H0 c = some o → ∃ o', H c = some o') : RowNew C H0 H' p n ms ss := by
  obtain ⟨dx, l1, l2, a, b, c, d, e⟩ := r
  exact ⟨dx, l1, l2, a, b, c, none_of k d, none_of k e⟩
structure Cl (K : PySem.W.Frag) (mg : Str → Option Value) (C : Addr) : Prop where
  cl : Cls K C
  nL : NoAttr K C "_length"
  nM : NoAttr K C "_marks"
  nS : NoAttr K C "_strict"
  mgR : mg "Row" = some (.ref C)
  kit : PySem.W.kitOne K (.ref C) (.ref C) = some true
/-- Row(n, marks, strict): from the new instance on -/
def spInit (C : Addr) : Sp := fun vs H Q _ => ∃ (x dx a b : Addr) (n : Int) (ms ss : List Int), vs = [.ref x, .int n, .ref a, .ref b] ∧ H x = some (.ins C dx []) ∧ IL H a ms ∧ IL H b ss ∧ Good n ms ss ∧
  ∀ H', RowNew C H H' x n ms ss → (∀ c o, H c = some o → c ≠ x → H' c = some o) → Q .non H'
section
variable {P : Program} {w : World} {K : PySem.W.Frag} {mg : Str → Option Value} {base : Heap}
abbrev NI : List Str := ["self", "length", "marks", "strict"]
theorem scIn : FnScope NI NI (defScope sInit) := ⟨rfl, rfl, rfl, by decide +kernel, rfl, by decide +kernel, by decide +kernel⟩
theorem ok_init {f C fI fM fS : Addr} {fd fdI fdM fdS : FuncData} (F : Fun K "__init__" "Row.__init__" sInit f fd) (T : Bl mg) (R : Cl K mg C)
    (gI : mg "is_integer" = some (.ref fI)) (kI : PySem.W.keepIn K (.ref fI) = true) (bI : Binds K fdI ["thing"] []) (GI : FnOk P w K mg base CX0 1 fI fdI ["thing"] spOne)
    (gM : mg "are_marks" = some (.ref fM)) (kM : PySem.W.keepIn K (.ref fM) = true) (bM : Binds K fdM ["thing", "high"] []) (GM : FnOk P w K mg base CX0 4 fM fdM ["thing", "high"] spMarks)
    (gS : mg "are_some_of" = some (.ref fS)) (kS : PySem.W.keepIn K (.ref fS) = true) (bS : Binds K fdS ["thing", "marks"] []) (GS : FnOk P w K mg base CX0 4 fS fdS ["thing", "marks"] spSome) :
    FnOk P w K mg base CX0 5 f fd NI (spInit C) := by
  refine F.ok scIn (fun vs H Q E h => ?_) (fun cdv A outer s H vs Q E hr h => ?_)
  · obtain ⟨x, dx, a, b, n, ms, ss, rfl, _⟩ := h
    rfl
  · obtain ⟨x, dx, a, b, n, ms, ss, rfl, hx, hM, hS, G, k⟩ := h
    have hr1 : Room 1 (A.deeper (PyProof.Rows.envOfC "Row.__init__" (defScope sInit) s.heap.objs.size f cdv)) := hr.mono (by decide)
    refine ⟨_, pss_cons (ps_if (PW.pt (pw_or (pt_not (pt_val (pe_call GI hr1 rfl gI kI bI .nil pass0 (pa_cons (pv 1) pa_nil)))) (pw_or1 (pt_cmpR op_lt (pv 1) pe_int (nomark _))))) pss_never pss_nil)
      (pss_cons (ps_if (pt_not (pt_val (pe_call GM hr rfl gM kM bM .nil pass0 (pa_cons (pv 2) (pa_cons (pe_op op_sub (pv 1) pe_int) pa_nil))))) pss_never pss_nil)
      (pss_cons (ps_if (pt_not (pt_val (pe_call GS hr rfl gS kS bS .nil pass0 (pa_cons (pv 3) (pa_cons (pv 2) pa_nil))))) pss_never pss_nil)
      (pss_cons (ps_fld (pv 0) (pv 1) rfl)
      (pss_cons (ps_fld (pv 0) (pe_callTy call_list_of (by rfl) T.list (by decide +kernel) (pa_cons (pv 2) pa_nil)) rfl)
      (pss_one (ps_fld (pv 0) (pe_callTy call_list_of (by rfl) T.list (by decide +kernel) (pa_cons (pv 3) pa_nil)) rfl)))))), ?_⟩
    have hp := G.pos
    refine ⟨_, rfl, n, rfl, _, rfl, ?_⟩
    refine ifF rfl ?_
    refine ⟨_, rfl, _, _, rfl, rfl, _, rfl, ?_⟩
    refine ifF (decide_eq_false (by omega)) ?_
    refine ⟨_, rfl, _, rfl, _, _, rfl, rfl, a, ms, n - 1, rfl, hM, G.len, G.rng, G.asc, fun H1 s1 => ⟨_, rfl, ?_⟩⟩
    refine ifF rfl ?_
    refine ⟨_, rfl, _, rfl, b, a, ss, ms, rfl, s1 _ _ hS, s1 _ _ hM, G.len2, G.len, G.asc2, (fun y hy => (G.rng y (G.sub y hy)).1), G.sub, fun H2 s2 => ⟨_, rfl, ?_⟩⟩
    refine ifF rfl ?_
    have s12 := s1.trans s2
    refine ⟨_, rfl, _, rfl, x, C, dx, _, rfl, s12 _ _ hx, R.cl, R.nL, (by show 0 < 1000; decide), ?_⟩
    have na : a ≠ x := ne_of hM hx (by intro z; cases z)
    have nb : b ≠ x := ne_of hS hx (by intro z; cases z)
    have hM3 : ∀ o, IL (upd H2 x o) a ms := fun o => by
      show upd H2 x o a = _
      rw [upd_ne na]
      exact s12 _ _ hM
    have hS3 : ∀ o, IL (upd H2 x o) b ss := fun o => by
      show upd H2 x o b = _
      rw [upd_ne nb]
      exact s12 _ _ hS
    refine ⟨_, rfl, a, _, rfl, .inl (SqL.of (hM3 _)), fun l1 h1 => ?_⟩
    have nx1 : x ≠ l1 := ne_of_none upd_same h1
    have nb1 : b ≠ l1 := ne_of_none (hS3 _) h1
    refine ⟨_, rfl, x, C, dx, _, rfl, (by rw [upd_ne nx1]; exact upd_same), R.cl, R.nM, (by show 1 < 1000; decide), ?_⟩
    refine ⟨_, rfl, b, ss.map V.int, rfl, .inl (SqL.of (by rw [upd_ne nb, upd_ne nb1]; exact hS3 _)), fun l2 h2 => ?_⟩
    have nx2 : x ≠ l2 := ne_of_none upd_same h2
    have n12 : l1 ≠ l2 := ne_of_none (show _ = some (HO.lst (ms.map V.int)) by rw [upd_ne (Ne.symm nx1)]; exact upd_same) h2
    refine ⟨_, rfl, x, C, dx, _, rfl, (by rw [upd_ne nx2]; exact upd_same), R.cl, R.nS, (by show 2 < 1000; decide), ?_⟩
    have up : ∀ (H : Hp) (x : Addr) (o' : HO) (c : Addr) (o : HO), H c = some o → ∃ o'', upd H x o' c = some o'' := fun H x o' c o e => by
      by_cases z : c = x
      · exact ⟨o', by rw [z]; exact upd_same⟩
      · exact ⟨o, by rw [upd_ne z]; exact e⟩
    have f1 : H l1 = none := none_of (fun c o e => up _ _ _ _ _ (s12 _ _ e)) h1
    have f2 : H l2 = none := none_of (fun c o e => by
      obtain ⟨o1, e1⟩ := up H2 x (.ins C dx (putF "_length" (V.int n) [])) _ _ (s12 _ _ e)
      obtain ⟨o2, e2⟩ := up _ l1 (.lst (ms.map V.int)) _ _ e1
      exact up _ _ _ _ _ e2) h2
    refine k _ ⟨dx, l1, l2, upd_same, ?_, ?_, f1, f2⟩ ?_
    · show upd _ _ _ l1 = _
      rw [upd_ne (Ne.symm nx1), upd_ne n12, upd_ne (Ne.symm nx1)]
      exact upd_same
    · show upd _ _ _ l2 = _
      rw [upd_ne (Ne.symm nx2)]
      exact upd_same
    · intro c o ec nc
      have e3 : ∀ o', upd H2 x o' c = some o := fun o' => by
        rw [upd_ne nc]
        exact s12 _ _ ec
      have e4 := e3 (.ins C dx (putF "_length" (V.int n) []))
      have ne1 : c ≠ l1 := ne_of_none e4 h1
      rw [upd_ne nc]
      have e5 : upd (upd (upd H2 x (.ins C dx (putF "_length" (V.int n) []))) l1 (.lst (ms.map V.int))) x (.ins C dx (putF "_marks" (V.ref l1) (putF "_length" (V.int n) []))) c = some o := by
        rw [upd_ne nc, upd_ne ne1]
        exact e4
      rw [upd_ne (ne_of_none e5 h2)]
      exact e5
end
end Cw
namespace Cw
open PySem PySem.Spec PyProof.Rows L2
theorem dps_ints {K : PySem.W.Frag} {H : Hp} : ∀ ns : List Int, DpAll K H (ns.map V.int) (ns.map PyData.int)
  | [] => .nil
  | n :: r => .cons (.int n) (dps_ints r)
theorem dp_il {K : PySem.W.Frag} {H : Hp} {a : Addr} {ns : List Int} (h : IL H a ns) : Dp K H (.ref a) (.list (ns.map PyData.int)) := .lst (SqL.of h) (dps_ints ns)
theorem depth_ints : ∀ ns : List Int, PyData.depthAll (ns.map PyData.int) ≤ 1 := fun ns => by
  induction ns with
  | nil => exact Nat.zero_le _
  | cons n r ih =>
    rw [List.map_cons]
    unfold PyData.depthAll PyData.depth
    omega
theorem lay_ints : ∀ ns : List Int, PyData.canLayAll0 (ns.map PyData.int) = true := fun ns => by
  induction ns with
  | nil => rfl
  | cons n r ih =>
    rw [List.map_cons]
    unfold PyData.canLayAll0 PyData.canLay0
    rw [ih]
    rfl
theorem shape_il (ns : List Int) : SeqAt.shaped (.list (ns.map PyData.int)) = true := by
  have h1 : PyData.canLay0 (.list (ns.map PyData.int)) = true := by
    unfold PyData.canLay0
    exact lay_ints ns
  have h2 : PyData.depth (.list (ns.map PyData.int)) ≤ 64 := by
    have z := depth_ints ns
    unfold PyData.depth
    omega
  unfold SeqAt.shaped
  rw [h1, decide_eq_true h2]
  rfl
theorem eqv_il (ns : List Int) : PyData.eqv (.list (ns.map PyData.int)) (.list (ns.map PyData.int)) = true := SeqAt.eqv_refl _ (SeqAt.canLay_of_shaped (shape_il ns))
section
variable {X : Cx} {a b c d : Expr} {ta tb tc td : TE} {pos : Pos}
/-- a op1 b op2 c op3 d -/
def tChain3 (r1 r2 r3 : R2) (ta tb tc td : TE) : TE := fun σ H Q => ta σ H fun x H1 => tb σ H1 fun y H2 => r1 x y H2 fun z H3 => ∃ k, z = .bl k ∧
  (if k = true then tc σ H3 fun u H4 => r2 y u H4 fun z2 H5 => ∃ k2, z2 = .bl k2 ∧ (if k2 = true then td σ H5 fun v H6 => r3 u v H6 Q else Q (.bl false) H5) else Q (.bl false) H3)
theorem pt_chain3 {o1 o2 o3 : CmpOp} {r1 r2 r3 : R2} (h1 : OpR X (compareOp o1) r1) (h2 : OpR X (compareOp o2) r2) (h3 : OpR X (compareOp o3) r3) (ha : PE X a ta) (hb : PE X b tb) (hc : PE X c tc) (hd : PE X d td)
    (hm : lastMarks [o1, o2, o3] [b, c, d] = false := by with_unfolding_all rfl) : PT X (.Compare a [o1, o2, o3] [b, c, d] pos) (tTest (tChain3 r1 r2 r3 ta tb tc td)) := by
  refine ⟨fun pins s σ H Q I h => ?_⟩
  refine isTrue_chain (thn (ha.run pins s σ H _ I h) fun v s1 ⟨x, H1, I1, e1, q1⟩ => test_link (thn (hb.run pins s1 σ H1 _ I1 q1) fun u s2 ⟨y, H2, I2, e2, q2⟩ =>
    thn (h1 pins s2 σ H2 x y v u _ I2 e1 e2 q2) fun d1 s3 ⟨z, H3, I3, e3, k, e, q3⟩ => ?_)) hm
  subst e
  cases e3
  refine wpAny_truthy_bool ?_
  cases k with
  | false =>
    obtain ⟨k', e', q'⟩ := q3
    cases e'
    exact ite_ff ⟨H3, I3, q'⟩
  | true =>
    refine ite_tt (test_link (thn (hc.run pins s3 σ H3 _ I3 q3) fun w' s4 ⟨z', H4, I4, e4, q4⟩ => thn (h2 pins s4 σ H4 y z' u w' _ I4 e2 e4 q4) fun d' s5 ⟨z2, H5, I5, e5, k2, f2, q5⟩ => ?_))
    subst f2
    cases e5
    refine wpAny_truthy_bool ?_
    cases k2 with
    | false =>
      obtain ⟨k', e', q'⟩ := q5
      cases e'
      exact ite_ff ⟨H5, I5, q'⟩
    | true =>
      refine ite_tt (test_last (thn (hd.run pins s5 σ H5 _ I5 q5) fun w2 s6 ⟨y2, H6, I6, e6, q6⟩ => thn (h3 pins s6 σ H6 z' y2 w' w2 _ I6 e4 e6 q6) fun d2 s7 ⟨y3, H7, I7, e7, k3, f3, q7⟩ => ?_))
      subst f3
      cases e7
      exact wpAny_truthy_bool ⟨H7, I7, q7⟩
end
/-- two rows alike -/
def Alike (C : Addr) : Addr → Addr → Hp → Prop := fun a b H => ∃ n ms ss, RowAt C H a n ms ss ∧ RowAt C H b n ms ss
/-- what a row's .marks promises -/
def spGetM (C : Addr) : Sp := fun vs H Q _ => ∃ (a : Addr) (n : Int) (ms ss : List Int), vs = [.ref a] ∧ RowAt C H a n ms ss ∧ ∀ p H', Same H H' → H p = none → IL H' p ms → Q (.ref p) H'
/-- what isinstance asks of the class -/
structure Ci (K : PySem.W.Frag) (C : Addr) : Prop where
  ha : PySem.W.findIn K (.ref C) "__class__" = some (some (.builtin "object.__class__"))
  hn : PySem.W.specialIn K (.builtin "object.__class__") "__get__" = some (some (.builtin "getset_descriptor.__get__"))
  ht : PySem.W.takesIn K (.builtin "object.__class__") = some true
  hm : PySem.W.mroIn K C (.type "object") = some true
section
variable {P : Program} {w : World} {K : PySem.W.Frag} {mg : Str → Option Value} {base : Heap}
theorem scG : FnScope ["self"] ["self"] (defScope sGetM) := ⟨rfl, rfl, rfl, by decide +kernel, rfl, by decide +kernel, by decide +kernel⟩
theorem ok_getM {f C : Addr} {fd : FuncData} (F : Fun K "marks" "Row.marks" sGetM f fd) (T : Bl mg) (R : Cl K mg C) : FnOk P w K mg base CX0 1 f fd ["self"] (spGetM C) := by
  refine F.ok scG (fun vs H Q E h => ?_) (fun cdv A outer s H vs Q E hr h => ?_)
  · obtain ⟨a, n, ms, ss, rfl, _⟩ := h
    rfl
  · obtain ⟨a, n, ms, ss, rfl, ⟨dx, l1, l2, ho, h1, h2⟩, k⟩ := h
    refine ⟨_, pss_one (ps_ret (pe_callTy call_list_of (by rfl) T.list (by decide +kernel) (pa_cons (pe_fld (pv 0) rfl) pa_nil))), ?_⟩
    refine ⟨_, rfl, a, C, dx, _, _, rfl, ho, R.cl, R.nM, fl_M _ _ _, l1, _, rfl, .inl (SqL.of h1), fun p hp => ?_⟩
    exact k p _ (same_new (Same.refl H) hp) hp upd_same
theorem scE : FnScope ["self", "other"] ["self", "other"] (defScope sEq) := ⟨rfl, rfl, rfl, by decide +kernel, rfl, by decide +kernel, by decide +kernel⟩
theorem ok_eq {f C : Addr} {fd : FuncData} (F : Fun K "__eq__" "Row.__eq__" sEq f fd) (T : Bl mg) (R : Cl K mg C) (N : Ci K C) : FnOk P w K mg base CX0 1 f fd ["self", "other"] (spEq (Alike C)) := by
  refine F.ok scE (fun vs H Q E h => ?_) (fun cdv A outer s H vs Q E hr h => ?_)
  · obtain ⟨a, b, rfl, _⟩ := h
    rfl
  · obtain ⟨a, b, rfl, ⟨n, ms, ss, ⟨dx, l1, l2, ho, h1, h2⟩, ⟨dy, m1, m2, hp, g1, g2⟩⟩, k⟩ := h
    refine ⟨_, pss_cons (ps_if (pt_not (pt_val (pe_callB call_isi (by rfl) T.isi (by decide +kernel) (pa_cons (pv 1) (pa_cons (pe_glob (by rfl) R.mgR (v := V.ref C) rfl) pa_nil))))) (pss_one (ps_ret pe_bl)) pss_nil)
      (pss_cons (ps_if (pt_cmpR op_ne (pe_fld (pv 0) rfl) (pe_fld (pv 1) rfl) (nomark _)) (pss_one (ps_ret pe_bl)) pss_nil)
      (pss_one (ps_ret (pe_and (pe_cmpR (op_eqD hr.units) (pe_fld (pv 0) rfl) (pe_fld (pv 1) rfl) (nomark _)) (pe_one (pe_cmpR (op_eqD hr.units) (pe_fld (pv 0) rfl) (pe_fld (pv 1) rfl) (nomark _))))))), ?_⟩
    refine ⟨_, rfl, _, _, _, _, true, rfl, ClsV.own _, .base (.ins hp R.cl N.ha N.hn N.ht N.hm), R.kit, _, rfl, ?_⟩
    refine ifF rfl ?_
    refine ⟨_, rfl, a, C, dx, _, _, rfl, ho, R.cl, R.nL, fl_L _ _ _, _, rfl, b, C, dy, _, _, rfl, hp, R.cl, R.nL, fl_L _ _ _, rfl, _, rfl, ?_⟩
    refine ifF (by simp) ?_
    refine ⟨_, rfl, a, C, dx, _, _, rfl, ho, R.cl, R.nM, fl_M _ _ _, _, rfl, b, C, dy, _, _, rfl, hp, R.cl, R.nM, fl_M _ _ _, _, _, dp_il h1, dp_il g1, shape_il _, shape_il _, _, rfl, ?_⟩
    refine ifT (eqv_il ms) ?_
    refine ⟨_, rfl, a, C, dx, _, _, rfl, ho, R.cl, R.nS, fl_S _ _ _, _, rfl, b, C, dy, _, _, rfl, hp, R.cl, R.nS, fl_S _ _ _, _, _, dp_il h2, dp_il g2, shape_il _, shape_il _, ?_⟩
    have z := k H Ext.rfl'
    rw [← eqv_il ss] at z
    exact z
end
end Cw
namespace Cw
open PySem L2
theorem same_ins {H H1 H' : Hp} {x dx C : Addr} (s : Same H H1) (nx : H1 x = none) (nd : H1 dx = none) (k : ∀ c o, upd (upd H1 dx (.own x)) x (.ins C dx []) c = some o → c ≠ x → H' c = some o) : Same H H' := fun c o e => by
  have z := s _ _ e
  refine k c o ?_ (ne_of_none z nx)
  rw [upd_ne (ne_of_none z nx), upd_ne (ne_of_none z nd)]
  exact z
theorem ints_app {ns : List Int} {z : Int} : ns.map V.int ++ [V.int z] = (ns ++ [z]).map V.int := by rw [List.map_append]; rfl
abbrev sJar : Stmt := top 28
abbrev sDip : Stmt := top 29
abbrev sThree : Stmt := top 30
abbrev sSmall : Stmt := top 31
abbrev sGreat : Stmt := top 32
def But (H H' : Hp) (b : Addr) : Prop := ∀ a o, H a = some o → a ≠ b → H' a = some o
theorem But.refl (H : Hp) (b : Addr) : But H H b := fun _ _ e _ => e
theorem But.trans {H H1 H2 : Hp} {b : Addr} (x : But H H1 b) (y : But H1 H2 b) : But H H2 b := fun a o e n => y a o (x a o e n) n
theorem But.of {H H1 : Hp} {b : Addr} (x : Same H H1) : But H H1 b := fun a o e _ => x a o e
theorem But.upd {H H1 : Hp} {b : Addr} {o : HO} (x : But H H1 b) : But H (upd H1 b o) b := fun a u e n => by
  rw [upd_ne n]
  exact x a u e n
theorem But.put {H H1 : Hp} {b p : Addr} {o : HO} (x : But H H1 b) (h : H p = none) : But H (L2.upd H1 p o) b := fun a u e n => by
  rw [upd_ne (ne_of_none e h)]
  exact x a u e n
theorem But.new {H H1 : Hp} {b p : Addr} {o : HO} (x : But H H1 b) (h : H1 p = none) : But H (L2.upd H1 p o) b := fun a u e n => by
  rw [upd_ne (ne_of_none (x a u e n) h)]
  exact x a u e n
def CPowW (i j : Int) : Prop := 0 ≤ j ∧ ((Builtin.Int.intBits i : Nat) : Int) * j ≤ 2 ^ 27
theorem op_powW {X : Cx} : OpR X (binaryOp .Pow) (rI CPowW fun i j => .int (i ^ j.toNat)) := opI fun _ _ _ _ _ _ _ hc q => PyProof.Rows.pow_int hc.1 hc.2 q
theorem cube_ok {i : Int} (h0 : 0 ≤ i) (h1 : i < 2 ^ 250) : CPowW i 3 := by
  have z : Builtin.Int.intBits i ≤ 250 := PyProof.Rows.intBits_le (k := 250) (by
    have e : ((2 ^ 250 : Nat) : Int) = 2 ^ 250 := by norm_cast
    omega)
  refine ⟨by decide, ?_⟩
  have e : (2 : Int) ^ 27 = 134217728 := by decide
  omega
/-- the draws: what is left of the cell, the stirred number, the turns; k more draws are surely allowed -/
def JarAt (H : Hp) (a : Addr) (k : Nat) : Prop := ∃ r m n : Int, H a = some (.lst [.int r, .int m, .int n]) ∧ 0 ≤ m ∧ m < 2 ^ 200 ∧ 0 ≤ n ∧ n + k ≤ 5000
theorem JarAt.mono {H : Hp} {a : Addr} {k j : Nat} (h : JarAt H a k) (l : j ≤ k) : JarAt H a j := by
  obtain ⟨r, m, n, e, h0, h1, h2, h3⟩ := h
  exact ⟨r, m, n, e, h0, h1, h2, by omega⟩
theorem JarAt.same {H H' : Hp} {a : Addr} {k : Nat} (h : JarAt H a k) (s : Same H H') : JarAt H' a k := by
  obtain ⟨r, m, n, e, q⟩ := h
  exact ⟨r, m, n, s _ _ e, q⟩
theorem JarAt.put {H : Hp} {a p : Addr} {o : HO} {k : Nat} (h : JarAt H a k) (n : a ≠ p) : JarAt (upd H p o) a k := by
  obtain ⟨r, m, i, e, q⟩ := h
  exact ⟨r, m, i, by rw [upd_ne n]; exact e, q⟩
theorem JarAt.ne {H : Hp} {a p : Addr} {k : Nat} (h : JarAt H a k) (n : H p = none) : a ≠ p := by
  obtain ⟨r, m, i, e, q⟩ := h
  exact ne_of_none e n
theorem JarAt.no {H : Hp} {a p : Addr} {o : HO} {k : Nat} (h : JarAt H a k) (e : H p = some o) (z : ∀ r m n : Int, o ≠ .lst [.int r, .int m, .int n]) : p ≠ a := fun x => by
  obtain ⟨r, m, i, f, q⟩ := h
  rw [x, f] at e
  exact z r m i (Option.some.inj e).symm
theorem pos47 : (0 : Int) < 10 ^ Int.toNat 47 + 91 := by decide +kernel
theorem pos46 : (0 : Int) < 10 ^ Int.toNat 46 + 79 := by decide +kernel
def spDip : Sp := fun vs H Q _ => ∃ (a : Addr) (k : Nat) (w : Int), vs = [.ref a, .int w] ∧ JarAt H a (k + 1) ∧ 0 < w ∧ w < 2 ^ 120 ∧ ∀ (v : Int) (H' : Hp), 0 ≤ v → v < w → JarAt H' a k → But H H' a → Q (.int v) H'
/-- the script's jar -/
def spJar (K : PySem.W.Frag) : Sp := fun vs H Q _ => ∃ (a : Addr) (ns : List Int) (i : Nat), vs = [.ref a, .int i] ∧ SqL K H a (ns.map V.int) ∧ i ≤ ns.length ∧ ns.length ≤ 63 ∧ ∀ p H', Same H H' → H p = none → JarAt H' p 5000 → Q (.ref p) H'
section
variable {P : Program} {w : World} {K : PySem.W.Frag} {mg : Str → Option Value} {base : Heap}
theorem scD : FnScope ["jar", "many", "digit", "mixed"] ["jar", "many"] (defScope sDip) := ⟨rfl, rfl, rfl, by decide +kernel, rfl, by decide +kernel, by decide +kernel⟩
theorem ok_dip {f : Addr} {fd : FuncData} (F : Fun K "_law_dip" "_law_dip" sDip f fd) (T : Bl mg) : FnOk P w K mg base CX0 1 f fd ["jar", "many"] spDip := by
  refine F.ok scD (fun vs H Q E h => ?_) (fun cdv A outer s H vs Q E hr h => ?_)
  · obtain ⟨a, k, w, rfl, _⟩ := h
    rfl
  · obtain ⟨a, k, w, rfl, ⟨r, m, n, hj, m0, m1, n0, n1⟩, w0, w1, q⟩ := h
    have wn : w.natAbs < 2 ^ 120 := by
      have e : ((2 ^ 120 : Nat) : Int) = 2 ^ 120 := by norm_cast
      omega
    have dv : ∀ i, CDivW i w := fun i => wide_div w0 wn (by decide) (by decide)
    refine ⟨_, pss_cons (ps_if (pt_cmpR op_gt (pe_ix ix_list (pv 0) pe_int (fun _ _ => rfl)) pe_int (nomark _))
        (pss_cons (ps_set (i := 2) scD.nd rfl (Or.inl rfl) (pe_op op_mod (pe_callTy call_int1 (by rfl) T.int (by decide +kernel) (pa_cons (pe_ix ix_list (pv 0) pe_int (fun _ _ => rfl)) pa_nil)) (pv 1)))
        (pss_cons (ps_asg (pe_op op_fdivW (pe_ix ix_list (pv 0) pe_int (fun _ _ => rfl)) (pv 1)) (pg_sub (pv 0) pe_int L2.set_list))
        (pss_one (ps_ret (pv 2))))) pss_nil)
      (pss_cons (ps_asg (pe_op op_add (pe_ix ix_list (pv 0) pe_int (fun _ _ => rfl)) pe_int) (pg_sub (pv 0) pe_int L2.set_list))
      (pss_cons (ps_set (i := 3) scD.nd rfl (Or.inl rfl) (pe_op op_mod (pe_callTy call_int1 (by rfl) T.int (by decide +kernel) (pa_cons (pe_op op_powW (pe_op op_add (pe_ix ix_list (pv 0) pe_int (fun _ _ => rfl)) (pe_op op_mul pe_int (pe_ix ix_list (pv 0) pe_int (fun _ _ => rfl)))) pe_int) pa_nil)) (pe_op op_add (pe_op op_pow pe_int pe_int) pe_int)))
      (pss_cons (ps_set (i := 3) scD.nd rfl (Or.inl rfl) (pe_op op_mod (pe_callTy call_int1 (by rfl) T.int (by decide +kernel) (pa_cons (pe_op op_powW (pe_op op_add (pv 3) (pe_op op_mul pe_int (pe_ix ix_list (pv 0) pe_int (fun _ _ => rfl)))) pe_int) pa_nil)) (pe_op op_add (pe_op op_pow pe_int pe_int) pe_int)))
      (pss_one (ps_ret (pe_op op_mod (pe_callTy call_int1 (by rfl) T.int (by decide +kernel) (pa_cons (pe_op op_fdivW (pv 3) pe_int) pa_nil)) (pv 1))))))), ?_⟩
    refine ⟨_, rfl, a, _, 0, _, rfl, rfl, SqL.of hj, rfl, _, _, rfl, rfl, _, rfl, ?_⟩
    by_cases hr0 : r > 0
    · refine ifT (decide_eq_true hr0) ?_
      refine ⟨_, rfl, a, _, 0, _, rfl, rfl, SqL.of hj, rfl, .inl ⟨_, rfl, _, rfl, _, _, rfl, rfl, w0, ?_⟩⟩
      refine ⟨_, rfl, a, _, 0, _, rfl, rfl, SqL.of hj, rfl, _, rfl, _, _, rfl, rfl, dv _, _, rfl, a, _, 0, 0, rfl, rfl, hj, rfl, ?_⟩
      refine ⟨_, rfl, ?_⟩
      exact q _ _ (Int.emod_nonneg _ (by omega)) (Int.emod_lt_of_pos _ w0) ⟨_, m, n, upd_same, m0, m1, n0, by omega⟩ (But.refl H a).upd
    · refine ifF (decide_eq_false hr0) ?_
      refine ⟨_, rfl, a, _, 2, _, rfl, rfl, SqL.of hj, rfl, _, _, rfl, rfl, _, rfl, a, _, 2, 2, rfl, rfl, hj, rfl, ?_⟩
      have hj2 : upd H a (.lst [.int r, .int m, .int (n + 1)]) a = some (.lst [.int r, .int m, .int (n + 1)]) := upd_same
      refine ⟨_, rfl, a, _, 1, _, rfl, rfl, SqL.of hj2, rfl, _, rfl, a, _, 2, _, rfl, rfl, SqL.of hj2, rfl, _, _, rfl, rfl, .inl ⟨by decide, by decide⟩, _, _, rfl, rfl, ?_⟩
      have e200 : (2 : Int) ^ 200 + 60000049 * 5001 < 2 ^ 250 := by decide +kernel
      refine ⟨_, _, rfl, rfl, cube_ok (by omega) (by omega), .inl ⟨_, rfl, _, _, rfl, rfl, ⟨by decide, by decide, by decide⟩, _, _, rfl, rfl, _, _, rfl, rfl, pos47, ?_⟩⟩
      generalize hx : ((m + 60000049 * (n + 1)) ^ Int.toNat 3) % (10 ^ Int.toNat 47 + 91) = x
      have x0 : 0 ≤ x := by
        rw [← hx]
        exact Int.emod_nonneg _ (by decide +kernel)
      have x1 : x < 10 ^ Int.toNat 47 + 91 := by
        rw [← hx]
        exact Int.emod_lt_of_pos _ (by decide +kernel)
      have e47 : (10 : Int) ^ Int.toNat 47 + 91 + 35000021 * 5001 < 2 ^ 250 := by decide +kernel
      refine ⟨_, rfl, _, rfl, a, _, 2, _, rfl, rfl, SqL.of hj2, rfl, _, _, rfl, rfl, .inl ⟨by decide, by decide⟩, _, _, rfl, rfl, _, _, rfl, rfl, cube_ok (by omega) (by omega), .inl ⟨_, rfl, _, _, rfl, rfl, ⟨by decide, by decide, by decide⟩, _, _, rfl, rfl, _, _, rfl, rfl, pos46, ?_⟩⟩
      refine ⟨_, rfl, _, _, rfl, rfl, wide_div (b := 31) (by decide) (by decide) (by decide) (by decide), .inl ⟨_, rfl, _, rfl, _, _, rfl, rfl, w0, ?_⟩⟩
      exact q _ _ (Int.emod_nonneg _ (by omega)) (Int.emod_lt_of_pos _ w0) ⟨r, m, n + 1, upd_same, m0, m1, by omega, by omega⟩ (But.refl H a).upd
end
end Cw
namespace Cw
open PySem L2
theorem at_of2 {α : Type} {xs : List α} {z : Int} {j : Nat} {v : α} (e : z = (j : Int)) (h : xs[j]? = some v) : atI xs z = some v := by
  rw [e]
  exact atI_nat h
theorem at_lt {α : Type} {xs : List α} {z : Int} (h0 : 0 ≤ z) (h1 : z < xs.length) : ∃ v, atI xs z = some v ∧ v ∈ xs := by
  have hz : z.toNat < xs.length := by omega
  have hj : z = ((z.toNat : Nat) : Int) := by omega
  exact ⟨xs[z.toNat], at_of2 hj (List.getElem?_eq_getElem hz), List.getElem_mem hz⟩
/-- one of three ints -/
theorem at3 {z x y u : Int} (h0 : 0 ≤ z) (h1 : z < 3) : ∃ v, atI [V.int x, V.int y, V.int u] z = some (V.int v) ∧ (v = x ∨ v = y ∨ v = u) := by
  obtain ⟨v, e, m⟩ := at_lt (xs := [V.int x, V.int y, V.int u]) h0 (by simpa using h1)
  simp only [List.mem_cons, List.not_mem_nil, or_false] at m
  rcases m with rfl | rfl | rfl
  · exact ⟨x, e, .inl rfl⟩
  · exact ⟨y, e, .inr (.inl rfl)⟩
  · exact ⟨u, e, .inr (.inr rfl)⟩
def spThree : Sp := fun vs H Q _ => ∃ (a : Addr) (k : Nat) (w : Int), vs = [.ref a, .int w] ∧ JarAt H a (k + 7) ∧ 0 < w ∧ w < 2 ^ 120 ∧
  ∀ (p : Addr) (H' : Hp) (l n g : Int), 1 ≤ l → l ≤ w → l ≤ n → n ≤ 2 * w + 3 → n ≤ g → g ≤ 3 * w + 6 → JarAt H' a k → But H H' a → H' p = some (.tup [.int l, .int n, .int g]) → H p = none → Q (.ref p) H'
theorem pos43 : (0 : Int) < 10 ^ Int.toNat 43 + 57 := by decide +kernel
section
variable {P : Program} {w : World} {K : PySem.W.Frag} {mg : Str → Option Value} {base : Heap}
theorem scJ : FnScope ["script", "k", "cell_here"] ["script", "k"] (defScope sJar) := ⟨rfl, rfl, rfl, by decide +kernel, rfl, by decide +kernel, by decide +kernel⟩
theorem ok_jar {f : Addr} {fd : FuncData} (F : Fun K "_law_jar" "_law_jar" sJar f fd) (T : Bl mg) : FnOk P w K mg base CX0 1 f fd ["script", "k"] (spJar K) := by
  refine F.ok scJ (fun vs H Q E h => ?_) (fun cdv A outer s H vs Q E hr h => ?_)
  · obtain ⟨a, ns, i, rfl, _⟩ := h
    rfl
  · obtain ⟨a, ns, i, rfl, hS, hi, hl, q⟩ := h
    refine ⟨_, pss_cons (ps_set (i := 2) scJ.nd rfl (Or.inl rfl) (pe_ifExp (pt_cmpR op_lt (pv 1) (pe_callB call_len_seq (by rfl) T.len PySem.boot_len (pa_cons (pv 0) pa_nil)) (nomark _))
        (pe_callB call_abs (by rfl) T.abs (by decide +kernel) (pa_cons (pe_ix ix_list (pv 0) (pv 1) (fun _ _ => rfl)) pa_nil)) pe_int))
      (pss_one (ps_ret (pe_lst (pa_cons (pe_callB (call_max2 rfl) (by rfl) T.max (by decide +kernel) (pa_cons pe_int (pa_cons (pe_op op_sub (pv 2) (pe_op op_pow pe_int pe_int)) pa_nil)))
        (pa_cons (pe_op op_add (pe_op op_mul (pe_op op_mod (pe_callTy call_int1 (by rfl) T.int (by decide +kernel) (pa_cons (pv 2) pa_nil)) (pe_op op_add (pe_op op_pow pe_int pe_int) pe_int)) pe_int) (pe_op op_mul pe_int (pv 1)))
        (pa_cons pe_int pa_nil)))))), ?_⟩
    have main : ∀ c : Int, 0 ≤ (c % (10 ^ Int.toNat 43 + 57)) * 101 + 70001 * (i : Int) ∧ (c % (10 ^ Int.toNat 43 + 57)) * 101 + 70001 * (i : Int) < 2 ^ 200 := fun c => by
      have x0 := Int.emod_nonneg c (b := 10 ^ Int.toNat 43 + 57) (by decide +kernel)
      have x1 := Int.emod_lt_of_pos c pos43
      have e : ((10 : Int) ^ Int.toNat 43 + 57) * 101 + 70001 * 64 < 2 ^ 200 := by decide +kernel
      omega
    refine ⟨_, rfl, _, rfl, a, _, rfl, .inl hS, _, _, rfl, rfl, _, rfl, ?_⟩
    by_cases hi2 : i < ns.length
    · refine ifT (decide_eq_true (by rw [List.length_map]; omega)) ?_
      have e1 : (ns.map V.int)[i]? = some (V.int ns[i]) := by
        rw [List.getElem?_map, List.getElem?_eq_getElem hi2]
        rfl
      refine ⟨_, rfl, _, rfl, a, _, _, _, rfl, rfl, hS, at_of2 (j := i) rfl e1, _, rfl, ?_⟩
      generalize (if ns[i] < 0 then -ns[i] else ns[i]) = c
      refine ⟨_, rfl, _, _, rfl, rfl, ⟨by decide, by decide, by decide⟩, _, _, rfl, rfl, _, _, rfl, ?_⟩
      refine ⟨_, rfl, .inl ⟨_, rfl, _, _, rfl, rfl, ⟨by decide, by decide, by decide⟩, _, _, rfl, rfl, _, _, rfl, rfl, pos43, _, _, rfl, rfl, .inr ⟨by decide, by decide⟩, _, rfl, _, _, rfl, rfl, .inl ⟨by decide, by decide⟩, _, _, rfl, rfl, ?_⟩⟩
      refine ⟨(by show 3 ≤ sizeLine; decide), fun p hp => ?_⟩
      exact q p _ (same_new (Same.refl H) hp) hp ⟨_, _, 0, upd_same, (main c).1, (main c).2, by decide, by decide⟩
    · refine ifF (decide_eq_false (by rw [List.length_map]; omega)) ?_
      refine ⟨_, rfl, _, _, rfl, rfl, ⟨by decide, by decide, by decide⟩, _, _, rfl, rfl, _, _, rfl, ?_⟩
      refine ⟨_, rfl, .inl ⟨_, rfl, _, _, rfl, rfl, ⟨by decide, by decide, by decide⟩, _, _, rfl, rfl, _, _, rfl, rfl, pos43, _, _, rfl, rfl, .inr ⟨by decide, by decide⟩, _, rfl, _, _, rfl, rfl, .inl ⟨by decide, by decide⟩, _, _, rfl, rfl, ?_⟩⟩
      refine ⟨(by show 3 ≤ sizeLine; decide), fun p hp => ?_⟩
      exact q p _ (same_new (Same.refl H) hp) hp ⟨_, _, 0, upd_same, (main 0).1, (main 0).2, by decide, by decide⟩
theorem scT : FnScope ["jar", "wide", "least", "normal"] ["jar", "wide"] (defScope sThree) := ⟨rfl, rfl, rfl, by decide +kernel, rfl, by decide +kernel, by decide +kernel⟩
theorem ok_three {f fD : Addr} {fd fdD : FuncData} (F : Fun K "_law_three" "_law_three" sThree f fd) (gD : mg "_law_dip" = some (.ref fD)) (kD : PySem.W.keepIn K (.ref fD) = true) (bD : Binds K fdD ["jar", "many"] []) (GD : FnOk P w K mg base CX0 1 fD fdD ["jar", "many"] spDip) :
    FnOk P w K mg base CX0 2 f fd ["jar", "wide"] spThree := by
  refine F.ok scT (fun vs H Q E h => ?_) (fun cdv A outer s H vs Q E hr h => ?_)
  · obtain ⟨a, k, w, rfl, _⟩ := h
    rfl
  · obtain ⟨a, k, w, rfl, J, w0, w1, q⟩ := h
    refine ⟨_, pss_cons (ps_set (i := 2) scT.nd rfl (Or.inl rfl) (pe_op op_add pe_int (pe_call GD hr rfl gD kD bD .nil pass0 (pa_cons (pv 0) (pa_cons (pv 1) pa_nil)))))
      (pss_cons (ps_set (i := 3) scT.nd rfl (Or.inl rfl) (pe_op op_add (pv 2) (pe_ix ix_list (pe_lst (pa_cons pe_int (pa_cons (pe_call GD hr rfl gD kD bD .nil pass0 (pa_cons (pv 0) (pa_cons (pv 1) pa_nil))) (pa_cons (pe_call GD hr rfl gD kD bD .nil pass0 (pa_cons (pv 0) (pa_cons pe_int pa_nil))) pa_nil))))
        (pe_call GD hr rfl gD kD bD .nil pass0 (pa_cons (pv 0) (pa_cons pe_int pa_nil))) (fun _ _ => rfl))))
      (pss_one (ps_ret (pe_tup (pa_cons (pv 2) (pa_cons (pv 3) (pa_cons (pe_op op_add (pv 3) (pe_ix ix_list (pe_lst (pa_cons pe_int (pa_cons (pe_call GD hr rfl gD kD bD .nil pass0 (pa_cons (pv 0) (pa_cons (pv 1) pa_nil))) (pa_cons (pe_op op_add pe_int (pe_call GD hr rfl gD kD bD .nil pass0 (pa_cons (pv 0) (pa_cons pe_int pa_nil)))) pa_nil))))
        (pe_call GD hr rfl gD kD bD .nil pass0 (pa_cons (pv 0) (pa_cons pe_int pa_nil))) (fun _ _ => rfl))) pa_nil))))))), ?_⟩
    have t3 : (0 : Int) < 3 ∧ (3 : Int) < 2 ^ 120 := ⟨by decide, by decide⟩
    refine ⟨_, rfl, _, rfl, a, k + 6, w, rfl, J, w0, w1, fun v1 H1 a1 b1 J1 B1 => ⟨_, _, rfl, rfl, ?_⟩⟩
    refine ⟨_, rfl, _, rfl, _, rfl, a, k + 5, w, rfl, J1, w0, w1, fun v2 H2 a2 b2 J2 B2 => ?_⟩
    refine ⟨_, rfl, a, k + 4, 3, rfl, J2, t3.1, t3.2, fun v3 H3 a3 b3 J3 B3 => ⟨(by show 3 ≤ sizeLine; decide), fun p hp => ?_⟩⟩
    have np : a ≠ p := J3.ne hp
    have Bp := ((B1.trans B2).trans B3).new (o := .lst [.int 0, .int v2, .int v3]) hp
    refine ⟨_, rfl, a, k + 3, 3, rfl, J3.put np, t3.1, t3.2, fun v4 H4 a4 b4 J4 B4 => ?_⟩
    obtain ⟨i1, e1, c1⟩ := at3 (x := 0) (y := v2) (u := v3) a4 b4
    refine ⟨p, _, _, _, rfl, rfl, SqL.of (B4 _ _ upd_same np.symm), e1, _, _, rfl, rfl, ?_⟩
    refine ⟨_, rfl, _, rfl, _, rfl, _, rfl, _, rfl, a, k + 2, w, rfl, J4, w0, w1, fun v5 H5 a5 b5 J5 B5 => ?_⟩
    refine ⟨_, rfl, a, k + 1, 3, rfl, J5, t3.1, t3.2, fun v6 H6 a6 b6 J6 B6 => ⟨_, _, rfl, rfl, (by show 3 ≤ sizeLine; decide), fun p2 hp2 => ?_⟩⟩
    have np2 : a ≠ p2 := J6.ne hp2
    have Bq := (((Bp.trans B4).trans B5).trans B6).new (o := .lst [.int 0, .int v5, .int (1 + v6)]) hp2
    refine ⟨_, rfl, a, k, 3, rfl, J6.put np2, t3.1, t3.2, fun v7 H7 a7 b7 J7 B7 => ?_⟩
    obtain ⟨i2, e2, c2⟩ := at3 (x := 0) (y := v5) (u := 1 + v6) a7 b7
    refine ⟨p2, _, _, _, rfl, rfl, SqL.of (B7 _ _ upd_same np2.symm), e2, _, _, rfl, rfl, (by show 3 ≤ sizeLine; decide), fun p3 hp3 => ?_⟩
    have Bz := (Bq.trans B7).new (o := .tup [.int (1 + v1), .int (1 + v1 + i1), .int (1 + v1 + i1 + i2)]) hp3
    have hH : H p3 = none := by
      cases e : H p3 with
      | none => rfl
      | some o =>
        have n : p3 ≠ a := fun x => by
          have z := J7.ne hp3
          exact z x.symm
        have z := (Bq.trans B7) _ _ e n
        rw [hp3] at z
        cases z
    refine q p3 _ (1 + v1) (1 + v1 + i1) (1 + v1 + i1 + i2) (by omega) (by omega) (by omega) (by omega) (by omega) (by omega) (J7.put (J7.ne hp3)) Bz upd_same hH
end
end Cw
namespace Cw
open PySem L2
abbrev sHeap : Stmt := top 33
/-! ## raw rows: a length, pairs of a place and a kind, three numbers -/
abbrev PrAt (H : Hp) : List Addr → List (Int × Int) → Prop := Paired (fun t (p : Int × Int) => H t = some (.tup [.int p.1, .int p.2]))
theorem PrAt.imp {H H' : Hp} : ∀ {ts : List Addr} {ps : List (Int × Int)}, PrAt H ts ps → (∀ t (p : Int × Int), H t = some (.tup [.int p.1, .int p.2]) → H' t = some (.tup [.int p.1, .int p.2])) → PrAt H' ts ps
  | _, _, .nil, _ => .nil
  | _, _, .cons h r, k => .cons (k _ _ h) (PrAt.imp r k)
theorem PrAt.app {H : Hp} : ∀ {ts us : List Addr} {ps qs : List (Int × Int)}, PrAt H ts ps → PrAt H us qs → PrAt H (ts ++ us) (ps ++ qs)
  | _, _, _, _, .nil, h => h
  | _, _, _, _, .cons a r, h => .cons a (PrAt.app r h)
theorem PrAt.len {H : Hp} : ∀ {ts : List Addr} {ps : List (Int × Int)}, PrAt H ts ps → ts.length = ps.length
  | _, _, .nil => rfl
  | _, _, .cons _ r => by rw [List.length_cons, List.length_cons, PrAt.len r]
theorem PrAt.get {H : Hp} : ∀ {ts : List Addr} {ps : List (Int × Int)} {i : Nat} {v : V}, PrAt H ts ps → (ts.map V.ref)[i]? = some v → ∃ t p, v = .ref t ∧ ps[i]? = some p ∧ H t = some (.tup [.int p.1, .int p.2])
  | _, _, 0, v, .cons (a := t) (b := p) a _, e => ⟨t, p, (Option.some.inj e).symm, rfl, a⟩
  | _, _, i + 1, v, .cons _ r, e => by
    obtain ⟨t, p, h1, h2, h3⟩ := PrAt.get (i := i) r e
    exact ⟨t, p, h1, h2, h3⟩
  | _, _, _, _, .nil, e => by simp at e
def RawAt (H : Hp) (p : Addr) (n : Int) (prs : List (Int × Int)) : Prop := ∃ l t ts, H p = some (.tup [.int n, .ref l, .ref t]) ∧ H l = some (.lst (ts.map V.ref)) ∧ PrAt H ts prs
theorem RawAt.imp {H H' : Hp} {p : Addr} {n : Int} {prs : List (Int × Int)} (r : RawAt H p n prs) (k : ∀ c o, H c = some o → (∀ r m n : Int, o ≠ .lst [.int r, .int m, .int n]) → H' c = some o) : RawAt H' p n prs := by
  obtain ⟨l, t, ts, h1, h2, h3⟩ := r
  refine ⟨l, t, ts, k _ _ h1 (fun _ _ _ z => nomatch z), k _ _ h2 (fun r m n z => ?_), h3.imp fun t p h => k _ _ h (fun _ _ _ z => nomatch z)⟩
  injection z with z
  cases ts with
  | nil => cases z
  | cons t ts => cases z
theorem RawAt.same {H H' : Hp} {p : Addr} {n : Int} {prs : List (Int × Int)} (r : RawAt H p n prs) (s : Same H H') : RawAt H' p n prs := r.imp fun c o e _ => s c o e
theorem RawAt.but {H H' : Hp} {p a : Addr} {k : Nat} {n : Int} {prs : List (Int × Int)} (r : RawAt H p n prs) (J : JarAt H a k) (s : But H H' a) : RawAt H' p n prs := r.imp fun c o e z => s c o e (J.no e z)
structure GoodP (n : Int) (prs : List (Int × Int)) : Prop where
  pos : 1 ≤ n
  len : prs.length ≤ 400
  rng : ∀ q ∈ prs, 1 ≤ q.1 ∧ q.1 ≤ n - 1 ∧ (q.2 = 1 ∨ q.2 = 2)
  asc : Asc (prs.map (·.1))
abbrev marksOf (prs : List (Int × Int)) : List Int := prs.map (·.1)
abbrev strictOf (prs : List (Int × Int)) : List Int := (prs.filter fun q => decide (q.2 = 2)).map (·.1)
theorem GoodP.good {n : Int} {prs : List (Int × Int)} (g : GoodP n prs) : Good n (marksOf prs) (strictOf prs) := by
  refine ⟨g.pos, by rw [List.length_map]; have := g.len; omega, fun x hx => ?_, g.asc, ?_, fun x hx => ?_⟩
  · obtain ⟨q, hq, rfl⟩ := List.mem_map.mp hx
    have := g.rng q hq
    exact ⟨this.1, this.2.1⟩
  · have z : List.Sublist (strictOf prs) (marksOf prs) := (List.filter_sublist).map _
    exact g.asc.sublist z
  · obtain ⟨q, hq, rfl⟩ := List.mem_map.mp hx
    exact List.mem_map.mpr ⟨q, (List.mem_filter.mp hq).1, rfl⟩
def spHeap (C : Addr) : Sp := fun vs H Q _ => ∃ (p : Addr) (n : Int) (prs : List (Int × Int)), vs = [.ref p] ∧ RawAt H p n prs ∧ GoodP n prs ∧ ∀ q H', Same H H' → RowNew C H H' q n (marksOf prs) (strictOf prs) → Q (.ref q) H'
theorem ref_at {ts : List Addr} {i : Nat} {x : V} (h : (ts.map V.ref)[i]? = some x) : i < ts.length := by
  have := (List.getElem?_eq_some_iff.mp h).1
  rwa [List.length_map] at this
theorem take_map2 {ps : List (Int × Int)} {i : Nat} {z : Int × Int} (h : ps[i]? = some z) : marksOf (ps.take (i + 1)) = marksOf (ps.take i) ++ [z.1] := by
  rw [List.take_add_one, h, marksOf, List.map_append]
  rfl
theorem take_fil2 {ps : List (Int × Int)} {i : Nat} {z : Int × Int} (h : ps[i]? = some z) : strictOf (ps.take (i + 1)) = strictOf (ps.take i) ++ (if z.2 = 2 then [z.1] else []) := by
  rw [List.take_add_one, h, strictOf, List.filter_append, List.map_append]
  congr 1
  show List.map _ (List.filter _ [z]) = _
  rw [List.filter_cons]
  by_cases c : z.2 = 2 <;> simp [c]
section
variable {P : Program} {w : World} {K : PySem.W.Frag} {mg : Str → Option Value} {base : Heap}
abbrev NH : List Str := ["raw", "spot", "kind"]
theorem scH : FnScope NH ["raw"] (defScope sHeap) := ⟨rfl, rfl, rfl, by decide +kernel, rfl, by decide +kernel, by decide +kernel⟩
theorem ok_heap {f C fI : Addr} {fd fdI : FuncData} (F : Fun K "_law_heap" "_law_heap" sHeap f fd) (R : Cl K mg C) (M : Mk K C fI) (bI : Binds K fdI NI []) (GI : FnOk P w K mg base CX0 5 fI fdI NI (spInit C)) :
    FnOk P w K mg base CX0 7 f fd ["raw"] (spHeap C) := by
  refine F.ok scH (fun vs H Q E h => ?_) (fun cdv A outer s H vs Q E hr h => ?_)
  · obtain ⟨p, n, prs, rfl, _⟩ := h
    rfl
  · obtain ⟨p, n, prs, rfl, ⟨l, t, ts, h1, h2, h3⟩, G, q⟩ := h
    refine ⟨_, pss_one (ps_ret (pe_make M GI hr rfl R.mgR bI .nil pass0 (pa_cons (pe_ix ix_tup (pv 0) pe_int (fun _ _ => rfl))
      (pa_cons (pe_lc (own := [("spot", 1), ("kind", 2)]) (g := gTup K 2 (gCons (gName 1) (gCons (gName 2) gNil))) (tt := tYes) rfl scH.nd (pi_list (pe_ix ix_tup (pv 0) pe_int (fun _ _ => rfl))) (blkOk_by (own := [("spot", 1), ("kind", 2)]) (N := NH) (sc := defScope sHeap) (by decide +kernel))
          (fun _ _ _ _ _ => pg_tup rfl (pgs_cons (pg_name (i := 1) scH.nd rfl (Or.inl rfl)) (pgs_cons (pg_name (i := 2) scH.nd rfl (Or.inl rfl)) pgs_nil))) (fun _ _ _ _ _ => pts_nil) (fun _ _ _ _ _ => pv 1))
      (pa_cons (pe_lc (own := [("spot", 1), ("kind", 2)]) (g := gTup K 2 (gCons (gName 1) (gCons (gName 2) gNil))) rfl scH.nd (pi_list (pe_ix ix_tup (pv 0) pe_int (fun _ _ => rfl))) (blkOk_by (own := [("spot", 1), ("kind", 2)]) (N := NH) (sc := defScope sHeap) (by decide +kernel))
          (fun _ _ _ _ _ => pg_tup rfl (pgs_cons (pg_name (i := 1) scH.nd rfl (Or.inl rfl)) (pgs_cons (pg_name (i := 2) scH.nd rfl (Or.inl rfl)) pgs_nil))) (fun _ _ _ _ _ => pts_one (pt_cmpR op_eq (pv 2) pe_int (nomark _))) (fun _ _ _ _ _ => pv 1)) pa_nil))))), ?_⟩
    have hl := G.len
    have lt := h3.len
    refine ⟨_, rfl, p, _, _, _, rfl, rfl, SqT.of h1, at_of2 (j := 0) rfl rfl, ?_⟩
    refine ⟨_, rfl, p, _, _, _, rfl, rfl, SqT.of h1, at_of2 (j := 1) rfl rfl, l, rfl, ⟨_, SqL.of h2⟩, fun D hD => ?_⟩
    refine lc_list (K := K) (a := l) (xs := ts.map V.ref) (fun i H' => Same H H' ∧ IL H' D (marksOf (prs.take i))) ⟨same_new (Same.refl H) hD, upd_same⟩ (fun i H' _ z => SqL.of (z.1 _ _ h2)) ?_ ?_
    · rintro i x H' hx ⟨s1, hD'⟩
      obtain ⟨u, z, rfl, hz, hu⟩ := h3.get hx
      have hil := ref_at hx
      refine ⟨u, _, rfl, SqT.of (s1 _ _ hu), rfl, _, _, rfl, _, _, rfl, rfl, rfl, ?_⟩
      unfold tYes
      refine iteT ?_
      refine ⟨_, rfl, _, hD', by rw [List.length_map, List.length_map, List.length_take]; exact small1000 (by omega), same_put s1 hD, ?_⟩
      show upd _ _ _ D = _
      rw [upd_same, ints_app, take_map2 hz]
    · rintro H1 ⟨s1, hD'⟩
      rw [List.length_map, lt, List.take_length] at hD'
      refine ⟨_, rfl, p, _, _, _, rfl, rfl, SqT.of (s1 _ _ h1), at_of2 (j := 1) rfl rfl, l, rfl, ⟨_, SqL.of (s1 _ _ h2)⟩, fun D2 hD2 => ?_⟩
      have nDD : D ≠ D2 := ne_of_none hD' hD2
      refine lc_list (K := K) (a := l) (xs := ts.map V.ref) (fun i H' => Same H1 H' ∧ IL H' D2 (strictOf (prs.take i))) ⟨same_new (Same.refl H1) hD2, upd_same⟩ (fun i H' _ z => SqL.of (z.1 _ _ (s1 _ _ h2))) ?_ ?_
      · rintro i x H' hx ⟨s2, hE⟩
        obtain ⟨u, z, rfl, hz, hu⟩ := h3.get hx
        have hil := ref_at hx
        have tf := take_fil2 hz
        refine ⟨u, _, rfl, SqT.of (s2 _ _ (s1 _ _ hu)), rfl, _, _, rfl, _, _, rfl, rfl, rfl, ?_⟩
        refine ⟨_, rfl, rfl, _, rfl, ?_⟩
        by_cases c : z.2 = 2
        · refine ifT (by simp [c]) ?_
          refine ⟨_, rfl, _, hE, ?_, same_put s2 hD2, ?_⟩
          · have z1 := List.length_filter_le (fun q : Int × Int => decide (q.2 = 2)) (prs.take i)
            rw [List.length_take] at z1
            rw [List.length_map, List.length_map]
            exact small1000 (by omega)
          · show upd _ _ _ D2 = _
            rw [upd_same, ints_app, tf, if_pos c]
        · refine ifF (by simp [c]) ?_
          refine ⟨s2, ?_⟩
          show H' D2 = _
          rw [hE, tf, if_neg c, List.append_nil]
      · rintro H2 ⟨s2, hE⟩
        rw [List.length_map, lt, List.take_length] at hE
        refine fun x dx nx nd ne => ?_
        have s3 : Same H2 (upd (upd H2 dx (.own x)) x (.ins C dx [])) := same_new (same_new (Same.refl H2) nd) (by rw [upd_ne (Ne.symm ne)]; exact nx)
        refine ⟨x, dx, D, D2, n, _, _, rfl, upd_same, s3 _ _ (s2 _ _ hD'), s3 _ _ hE, G.good, fun H5 row kp => ⟨rfl, ?_⟩⟩
        exact q x H5 (same_ins (s1.trans s2) nx nd kp) (row.mono fun c o e => ⟨o, s3 _ _ (s2 _ _ (s1 _ _ e))⟩)
end
end Cw
namespace Cw
open PySem L2
/-! ## min of four whole numbers -/
theorem min4_args (vs : List Value) (h : vs.length = 4) : argsOk "min" ⟨vs, []⟩ := by
  match vs, h with
  | [p, q, r, s], _ => unfold argsOk; kernel_rfl
section
variable {P : Program} {w : World} {A : Around} {E : Value → Shared → Prop} {s : Shared}
/-- min of four values whose tuple is walked -/
theorem min4_walked {vs : List Value} (h4 : vs.length = 4) {Q : Value → Shared → Prop}
    (go : wpAny (model P w) A.in1 (pyIter (.ref s.heap.objs.size)) (fun it s1 => ∃ J fs ws k Pv Sv less, it = .ref J ∧ Walks P w A.in1 J fs ws k Pv Sv ∧ Sv 0 s1.heap ∧ (∀ d ∈ fs, d < s1.heap.objs.size) ∧ 0 < k ∧ CmpOf P w A.in1 .Lt Pv less ∧
      ∀ v h1 t1, Pv (argBest less (k - 1)) v → (∀ d o, d ∉ ws → s1.heap.get? d = some o → h1.get? d = some o) → Q v { s1 with heap := h1, toks := t1 }) E
      { s with heap := s.heap.push { cls := .type "tuple", data := .seq vs.toArray } }) :
    wpAny (model P w) A (call (.builtin "min") vs) Q E s := by
  match vs, h4 with
  | [p, q, r, u], _ =>
    refine call_function_tree F.kind_min F.plain_min F.entry_min (min4_args [p, q, r, u] rfl) (wpAny_bind (wpAny_of_eq (a := [none, none]) rfl (wpAny_bind (wpAny_newObj_type (wpAny_bind (wpAny_mono go (fun it s1 g => ?_) fun _ _ e => e))))))
    obtain ⟨J, fs, ws, k, Pv, Sv, less, e, wk, st, fr, k0, cmp, out⟩ := g
    subst e
    have new : s1.heap.objs.size ∉ fs := fun m => absurd (fr _ m) (Nat.lt_irrefl _)
    have nm : (toString "min" ++ toString ".loop" : String) = "min.loop" := by decide
    refine wpAny_bind (wpAny_newObj_type ?_)
    rw [nm]
    refine wpAny_pure ⟨plainId_quiet F.plain_min_loop _, codeAny_min_loop_first wk less cmp s1.heap.objs.size new k0 (wk.frame _ _ _ st fun d _ o e => Heap.get?_push_of_some _ e) (Heap.get?_push_size _ rfl) fun v h1 t1 pv keep =>
      out v h1 t1 pv fun d o nd e => keep d o nd (Nat.ne_of_lt (Heap.lt_size e)) (Heap.get?_push_of_some _ e)⟩
theorem min4_ints {a b c d : Int} {t u x y : Tok} {Q : Value → Shared → Prop} (nh : A.handled = none)
    (out : ∀ m r h1 t1, (∀ z o, s.heap.get? z = some o → h1.get? z = some o) → (m = a ∨ m = b ∨ m = c ∨ m = d) → m ≤ a → m ≤ b → m ≤ c → m ≤ d → Q (.int m r) { s with heap := h1, toks := t1 }) :
    wpAny (model P w) A (call (.builtin "min") [.int a t, .int b u, .int c x, .int d y]) Q E s := by
  obtain ⟨xs, hxs⟩ : ∃ xs : Array (Int × Tok), xs = #[(a, t), (b, u), (c, x), (d, y)] := ⟨_, rfl⟩
  have items : intItems xs = #[.int a t, .int b u, .int c x, .int d y] := by rw [hxs]; simp [intItems]
  have tup : (s.heap.push { cls := .type "tuple", data := .seq #[.int a t, .int b u, .int c x, .int d y] }).IsTuple s.heap.objs.size (intItems xs) := ⟨_, Heap.get?_push_size _ rfl, rfl, 0, by rw [items]⟩
  have size1 : (s.heap.push { cls := .type "tuple", data := .seq #[.int a t, .int b u, .int c x, .int d y] }).objs.size = s.heap.objs.size + 1 := Heap.size_push ..
  have four : (intItems xs).size = 4 := by rw [items]; rfl
  have lt0 : s.heap.objs.size < s.heap.objs.size + 1 := Nat.lt_succ_self _
  refine min4_walked (vs := [.int a t, .int b u, .int c x, .int d y]) rfl (wpAny_pyIter_tuple tup ⟨_, [_, s.heap.objs.size], [_], _, _, _, _, rfl, Walks.tuple (A := A.in1) nh _ s.heap.objs.size (by rw [size1]; exact Nat.ne_of_lt lt0) (intItems xs),
    ⟨⟨_, Heap.get?_push_size _ rfl, rfl, rfl⟩, tup.push _⟩, fun z hz => ?_, by rw [four]; decide, CmpOf.ints_lt (numAt xs) (fun _ _ => intItems_at), fun v h1 t1 pv keep => ?_⟩)
  · show z < ((s.heap.push _).push _).objs.size
    rw [Heap.size_push, size1]
    simp only [List.mem_cons, List.not_mem_nil, or_false] at hz
    rcases hz with rfl | rfl
    · rw [size1]; exact Nat.lt_succ_self _
    · exact Nat.lt_succ_of_lt lt0
  have kept : ∀ z o, s.heap.get? z = some o → h1.get? z = some o := fun z o e => keep z o (fun m => by
    have l := Heap.lt_size e
    rw [List.mem_singleton.mp m, size1] at l
    exact Nat.lt_irrefl _ (Nat.lt_of_succ_lt l)) (Heap.get?_push_of_some _ (Heap.get?_push_of_some _ e))
  have pv3 : (intItems xs)[argBest (fun i j => decide (numAt xs i < numAt xs j)) 3]? = some v := by
    have e3 : (intItems xs).size - 1 = 3 := by rw [four]
    rw [← e3]
    exact pv
  obtain ⟨j3, least⟩ := argBest_lt (numAt xs) 3
  obtain ⟨r, rfl⟩ := intItems_at pv3
  have at0 : numAt xs 0 = a := by rw [hxs]; rfl
  have at1 : numAt xs 1 = b := by rw [hxs]; rfl
  have at2 : numAt xs 2 = c := by rw [hxs]; rfl
  have at3 : numAt xs 3 = d := by rw [hxs]; rfl
  refine out _ r h1 t1 kept ?_ (at0 ▸ least 0 (by decide)) (at1 ▸ least 1 (by decide)) (at2 ▸ least 2 (by decide)) (at3 ▸ least 3 (by decide))
  generalize argBest (fun i j => decide (numAt xs i < numAt xs j)) 3 = j at j3 ⊢
  match j, j3 with
  | 0, _ => exact .inl at0
  | 1, _ => exact .inr (.inl at1)
  | 2, _ => exact .inr (.inr (.inl at2))
  | 3, _ => exact .inr (.inr (.inr at3))
  | j + 4, h => omega
end
theorem vals4 {x y z u : V} {us : List Value} (r : Vals [x, y, z, u] us) : ∃ a b c d, us = [a, b, c, d] ∧ RelV x a ∧ RelV y b ∧ RelV z c ∧ RelV u d := by
  cases r with
  | cons r1 r2 =>
    obtain ⟨b, c, d, rfl, r3, r4, r5⟩ := vals3 r2
    exact ⟨_, b, c, d, rfl, r1, r3, r4, r5⟩
theorem call_min4 {X : Cx} (hc : X.calm = true) : CallR X (.builtin "min") (fun xs H Q => ∃ a b c d, xs = [.int a, .int b, .int c, .int d] ∧ ∀ m, (m = a ∨ m = b ∨ m = c ∨ m = d) → m ≤ a → m ≤ b → m ≤ c → m ≤ d → Q (.int m) H) := by
  intro pins s σ H xs us Q I r h
  obtain ⟨a, b, c, d, rfl, q⟩ := h
  obtain ⟨u1, u2, u3, u4, rfl, ⟨t, rfl⟩, ⟨t2, rfl⟩, ⟨t3, rfl⟩, ⟨t4, rfl⟩⟩ := vals4 r
  exact min4_ints (I.ok.hd hc) fun m r h2 tk k e1 l1 l2 l3 l4 => ⟨.int m, H, I.kept k, ⟨_, rfl⟩, q m e1 l1 l2 l3 l4⟩
end Cw
namespace Cw
open PySem L2
abbrev sCSet : Stmt := top 15
abbrev sCPl : Stmt := top 16
abbrev sCSz : Stmt := top 17
abbrev sCLen : Stmt := top 18
abbrev sNext : Stmt := top 0
abbrev sWalk : Stmt := top 0
abbrev sWithin : Stmt := top 0
abbrev sCWk : Stmt := top 0
abbrev sStep : Stmt := top 20
abbrev sCuts : Stmt := top 0
abbrev sFM : Stmt := top 21
abbrev sCB : Stmt := top 22
abbrev sMeet : Stmt := top 26
/-! ## how many are before -/
def cb (ns : List Int) (z : Int) : Nat := (ns.filter fun x => decide (x < z)).length
def fm (ns : List Int) (z e : Int) : Int := (ns[cb ns z]?).getD e
theorem cb_le {ns : List Int} {z : Int} : cb ns z ≤ ns.length := List.length_filter_le _ _
theorem cb_at {ns : List Int} {z : Int} {k : Nat} (hk : k ≤ ns.length) (h1 : ∀ i, i < k → ∀ x, ns[i]? = some x → x < z) (h2 : ∀ i, k ≤ i → ∀ x, ns[i]? = some x → z ≤ x) : cb ns z = k := by
  have e : ns = ns.take k ++ ns.drop k := (List.take_append_drop k ns).symm
  unfold cb
  rw [e, List.filter_append, List.length_append]
  have a1 : (ns.take k).filter (fun x => decide (x < z)) = ns.take k := List.filter_eq_self.mpr fun x hx => by
    obtain ⟨i, hi, rfl⟩ := List.mem_iff_getElem.mp hx
    rw [List.length_take] at hi
    refine decide_eq_true (h1 i (by omega) _ ?_)
    rw [List.getElem_take]
    exact List.getElem?_eq_getElem (by omega)
  have a2 : (ns.drop k).filter (fun x => decide (x < z)) = [] := List.filter_eq_nil_iff.mpr fun x hx => by
    obtain ⟨i, hi, rfl⟩ := List.mem_iff_getElem.mp hx
    rw [List.length_drop] at hi
    have := h2 (k + i) (by omega) (ns.drop k)[i] (by rw [List.getElem_drop]; exact List.getElem?_eq_getElem (by omega))
    simp only [decide_eq_true_eq]
    omega
  rw [a1, a2, List.length_take]
  simp
  omega
theorem asc_ix {ns : List Int} (h : Asc ns) {i j : Nat} {x y : Int} (hij : i < j) (hx : ns[i]? = some x) (hy : ns[j]? = some y) : x < y := by
  obtain ⟨li, rfl⟩ := List.getElem?_eq_some_iff.mp hx
  obtain ⟨lj, rfl⟩ := List.getElem?_eq_some_iff.mp hy
  exact List.pairwise_iff_getElem.mp h i j li lj hij
/-- what stands on both sides of the number of those before -/
theorem cb_split {ns : List Int} (h : Asc ns) (z : Int) : (∀ i, i < cb ns z → ∀ x, ns[i]? = some x → x < z) ∧ (∀ i, cb ns z ≤ i → ∀ x, ns[i]? = some x → z ≤ x) := by
  induction ns with
  | nil => exact ⟨fun i _ x e => by simp at e, fun i _ x e => by simp at e⟩
  | cons a r ih =>
    obtain ⟨ha, hr⟩ := List.pairwise_cons.mp h
    obtain ⟨i1, i2⟩ := ih hr
    by_cases c : a < z
    · have e : cb (a :: r) z = cb r z + 1 := by
        unfold cb
        rw [List.filter_cons, if_pos (decide_eq_true c)]
        rfl
      rw [e]
      refine ⟨fun i hi x hx => ?_, fun i hi x hx => ?_⟩
      · cases i with
        | zero => cases hx; exact c
        | succ i => exact i1 i (by omega) x hx
      · cases i with
        | zero => omega
        | succ i => exact i2 i (by omega) x hx
    · have e : cb (a :: r) z = 0 := by
        unfold cb
        rw [List.filter_eq_nil_iff.mpr fun x hx => ?_]
        · rfl
        · rcases List.mem_cons.mp hx with rfl | hx
          · simpa using c
          · have := ha x hx
            simp only [decide_eq_true_eq]
            omega
      rw [e]
      refine ⟨fun i hi => by omega, fun i _ x hx => ?_⟩
      cases i with
      | zero => cases hx; omega
      | succ i =>
        have := ha x (List.mem_of_getElem? hx)
        omega
theorem fm_or {ns : List Int} (h : Asc ns) (z e : Int) : (fm ns z e ∈ ns ∧ z ≤ fm ns z e) ∨ (fm ns z e = e ∧ ∀ x ∈ ns, x < z) := by
  obtain ⟨h1, h2⟩ := cb_split h z
  unfold fm
  by_cases c : cb ns z < ns.length
  · have hg := List.getElem?_eq_getElem c
    rw [hg]
    exact .inl ⟨List.getElem_mem c, h2 _ (Nat.le_refl _) _ hg⟩
  · rw [List.getElem?_eq_none (by omega)]
    refine .inr ⟨rfl, fun x hx => ?_⟩
    obtain ⟨i, hi, rfl⟩ := List.mem_iff_getElem.mp hx
    exact h1 i (by omega) _ (List.getElem?_eq_getElem hi)
theorem fm_le {ns : List Int} (h : Asc ns) {z e x : Int} (hx : x ∈ ns) (hz : z ≤ x) : fm ns z e ≤ x := by
  obtain ⟨h1, h2⟩ := cb_split h z
  obtain ⟨i, hi, rfl⟩ := List.mem_iff_getElem.mp hx
  have hg := List.getElem?_eq_getElem hi
  have c : cb ns z ≤ i := by
    by_cases c : i < cb ns z
    · have := h1 i c _ hg
      omega
    · omega
  unfold fm
  by_cases d : cb ns z = i
  · rw [d, hg]
    exact Int.le_refl _
  · have l : cb ns z < ns.length := by omega
    rw [List.getElem?_eq_getElem l]
    have := asc_ix h (by omega : cb ns z < i) (List.getElem?_eq_getElem l) hg
    show ns[cb ns z] ≤ ns[i]
    omega
theorem fm_top {ns : List Int} (h : Asc ns) {z e : Int} (k : ∀ x ∈ ns, x ≤ e) : fm ns z e ≤ e := by
  rcases fm_or h z e with ⟨m, _⟩ | ⟨m, _⟩
  · exact k _ m
  · omega
theorem fm_mono {ns : List Int} (h : Asc ns) {z y e : Int} (k : ∀ x ∈ ns, x ≤ e) (hz : z ≤ y) : fm ns z e ≤ fm ns y e := by
  rcases fm_or h y e with ⟨m, l⟩ | ⟨m, _⟩
  · exact fm_le h m (by omega)
  · rw [m]
    exact fm_top h k
def spCB : Sp := fun vs H Q _ => ∃ (a : Addr) (ns : List Int) (z : Int), vs = [.ref a, .int z] ∧ IL H a ns ∧ ns.length ≤ 1000 ∧ Asc ns ∧ Q (.int (cb ns z)) H
def spFM : Sp := fun vs H Q _ => ∃ (a : Addr) (ns : List Int) (z e : Int), vs = [.ref a, .int z, .int e] ∧ IL H a ns ∧ ns.length ≤ 1000 ∧ Asc ns ∧ Q (.int (fm ns z e)) H
def muCB : St → Hp → Nat := fun σ _ => match σ with | [_, _, some (.int lo), some (.int hi), _] => (hi - lo).toNat | _ => 0
section
variable {P : Program} {w : World} {K : PySem.W.Frag} {mg : Str → Option Value} {base : Heap}
abbrev NCB : List Str := ["places", "place", "low", "high", "middle"]
theorem scCB : FnScope NCB ["places", "place"] (defScope sCB) := ⟨rfl, rfl, rfl, by decide +kernel, rfl, by decide +kernel, by decide +kernel⟩
theorem ok_cb {f : Addr} {fd : FuncData} (F : Fun K "count_before" "count_before" sCB f fd) (T : Bl mg) : FnOk P w K mg base CX0 1 f fd ["places", "place"] spCB := by
  refine F.ok scCB (fun vs H Q E h => ?_) (fun cdv A outer s H vs Q E hr h => ?_)
  · obtain ⟨a, ns, z, rfl, _⟩ := h
    rfl
  · obtain ⟨a, ns, z, rfl, hS, hl, ha, q⟩ := h
    refine ⟨_, pss_cons (ps_set (i := 2) scCB.nd rfl (Or.inl rfl) pe_int)
      (pss_cons (ps_set (i := 3) scCB.nd rfl (Or.inl rfl) (pe_callB call_len_seq (by rfl) T.len PySem.boot_len (pa_cons (pv 0) pa_nil)))
      (pss_cons (ps_while PassesOwn.never (pt_cmpR op_lt (pv 2) (pv 3) (nomark _))
        (pss_cons (ps_set (i := 4) scCB.nd rfl (Or.inl rfl) (pe_op op_fdiv (pe_op op_add (pv 2) (pv 3)) pe_int))
        (pss_one (ps_if (pt_cmpR op_lt (pe_ix (r := rIxL K) ix_list (pv 0) (pv 4) (fun _ _ => rfl)) (pv 1) (nomark _))
          (pss_one (ps_set (i := 2) scCB.nd rfl (Or.inl rfl) (pe_op op_add (pv 4) pe_int)))
          (pss_one (ps_set (i := 3) scCB.nd rfl (Or.inl rfl) (pv 4)))))))
      (pss_one (ps_ret (pv 2))))), ?_⟩
    refine ⟨_, rfl, a, _, rfl, .inl (SqL.of hS), ?_⟩
    rw [List.length_map]
    refine while_by (fun σ H' => ∃ (lo hi : Nat) (v : Option V), σ = [some (.ref a), some (.int z), some (.int lo), some (.int hi), v] ∧ H' = H ∧ lo ≤ hi ∧ hi ≤ ns.length ∧ (∀ i, i < lo → ∀ x, ns[i]? = some x → x < z) ∧ (∀ i, hi ≤ i → ∀ x, ns[i]? = some x → z ≤ x))
      muCB ⟨0, ns.length, none, rfl, rfl, Nat.zero_le _, Nat.le_refl _, fun i hi => absurd hi (Nat.not_lt_zero _), fun i hi x e => by rw [List.getElem?_eq_none hi] at e; cases e⟩ ?_
      (fun σ H Q Q' hQ h => by obtain ⟨x, e1, y, e2, i, j, e3, e4, k, e5, q⟩ := h; exact ⟨x, e1, y, e2, i, j, e3, e4, k, e5, hQ _ _ q⟩)
    rintro σ H' ⟨lo, hi, v, rfl, rfl, l1, l2, h1, h2⟩
    refine ⟨_, rfl, _, rfl, _, _, rfl, rfl, _, rfl, ?_⟩
    by_cases c : (lo : Int) < hi
    · refine ifT (decide_eq_true c) ?_
      refine ⟨_, rfl, _, rfl, _, _, rfl, rfl, _, _, rfl, rfl, ⟨by decide, by decide⟩, ?_⟩
      dsimp only
      obtain ⟨m, hm⟩ : ∃ m : Nat, ((lo : Int) + hi) / 2 = m := ⟨(lo + hi) / 2, by omega⟩
      have m1 : lo ≤ m := by omega
      have m2 : m < hi := by omega
      rw [hm]
      have ml : m < ns.length := by omega
      have hg := List.getElem?_eq_getElem ml
      refine ⟨_, rfl, _, rfl, a, _, _, V.int ns[m], rfl, rfl, SqL.of hS, at_of2 (j := m) rfl (by rw [List.getElem?_map, hg]; rfl), _, rfl, _, _, rfl, rfl, _, rfl, ?_⟩
      by_cases d : ns[m] < z
      · refine ifT (decide_eq_true d) ?_
        refine ⟨_, rfl, _, _, rfl, rfl, ⟨m + 1, hi, _, rfl, rfl, by omega, l2, fun i hi' x hx => ?_, h2⟩, ?_⟩
        · by_cases e : i = m
          · subst e
            rw [hg] at hx
            cases hx
            exact d
          · have := asc_ix ha (by omega : i < m) hx hg
            omega
        · show ((hi : Int) - ((m : Int) + 1)).toNat < ((hi : Int) - lo).toNat
          omega
      · refine ifF (decide_eq_false d) ?_
        refine ⟨_, rfl, ⟨lo, m, _, rfl, rfl, by omega, by omega, h1, fun i hi' x hx => ?_⟩, ?_⟩
        · by_cases e : i = m
          · subst e
            rw [hg] at hx
            cases hx
            omega
          · have := asc_ix ha (by omega : m < i) hg hx
            omega
        · show ((m : Int) - lo).toNat < ((hi : Int) - lo).toNat
          omega
    · refine ifF (decide_eq_false c) ?_
      refine ⟨_, rfl, ?_⟩
      have e : lo = hi := by omega
      subst e
      rw [← cb_at l2 h1 h2] at *
      exact q
abbrev NFM : List Str := ["marks", "place", "end", "at"]
theorem scFM : FnScope NFM ["marks", "place", "end"] (defScope sFM) := ⟨rfl, rfl, rfl, by decide +kernel, rfl, by decide +kernel, by decide +kernel⟩
theorem ok_fm {f fB : Addr} {fd fdB : FuncData} (F : Fun K "first_mark" "first_mark" sFM f fd) (T : Bl mg) (gB : mg "count_before" = some (.ref fB)) (kB : PySem.W.keepIn K (.ref fB) = true) (bB : Binds K fdB ["places", "place"] []) (GB : FnOk P w K mg base CX0 1 fB fdB ["places", "place"] spCB) :
    FnOk P w K mg base CX0 2 f fd ["marks", "place", "end"] spFM := by
  refine F.ok scFM (fun vs H Q E h => ?_) (fun cdv A outer s H vs Q E hr h => ?_)
  · obtain ⟨a, ns, z, e, rfl, _⟩ := h
    rfl
  · obtain ⟨a, ns, z, e, rfl, hS, hl, ha, q⟩ := h
    refine ⟨_, pss_cons (ps_set (i := 3) scFM.nd rfl (Or.inl rfl) (pe_call GB hr rfl gB kB bB .nil pass0 (pa_cons (pv 0) (pa_cons (pv 1) pa_nil))))
      (pss_one (ps_ret (pe_ifExp (pt_cmpR op_lt (pv 3) (pe_callB call_len_seq (by rfl) T.len PySem.boot_len (pa_cons (pv 0) pa_nil)) (nomark _)) (pe_ix (r := rIxL K) ix_list (pv 0) (pv 3) (fun _ _ => rfl)) (pv 2)))), ?_⟩
    refine ⟨_, rfl, _, rfl, a, ns, z, rfl, hS, hl, ha, ?_⟩
    refine ⟨_, rfl, _, rfl, a, _, rfl, .inl (SqL.of hS), _, _, rfl, rfl, _, rfl, ?_⟩
    rw [List.length_map]
    unfold fm at q
    by_cases c : cb ns z < ns.length
    · have hg := List.getElem?_eq_getElem c
      refine ifT (decide_eq_true (by omega)) ?_
      rw [hg] at q
      exact ⟨_, rfl, _, rfl, a, _, _, _, rfl, rfl, SqL.of hS, at_of2 (j := cb ns z) rfl (by rw [List.getElem?_map, hg]; rfl), q⟩
    · refine ifF (decide_eq_false (by omega)) ?_
      rw [List.getElem?_eq_none (by omega)] at q
      exact ⟨_, rfl, q⟩
end
end Cw
namespace Cw
open PySem L2
abbrev sGetL : Stmt := inClass sRow 1
abbrev sGetS : Stmt := inClass sRow 3
def spGetL (C : Addr) : Sp := fun vs H Q _ => ∃ (a : Addr) (n : Int) (ms ss : List Int), vs = [.ref a] ∧ RowAt C H a n ms ss ∧ Q (.int n) H
def spGetS (C : Addr) : Sp := fun vs H Q _ => ∃ (a : Addr) (n : Int) (ms ss : List Int), vs = [.ref a] ∧ RowAt C H a n ms ss ∧ ∀ p H', Same H H' → H p = none → IL H' p ss → Q (.ref p) H'
/-! ## the next cut -/
def nx (n : Int) (ms ss : List Int) (l m g p : Int) : Int := min (min (fm ss (p + l) n) (fm ms (p + m) n)) (min (p + g) n)
/-- settings -/
structure SetOk (l m g : Int) : Prop where
  l1 : 1 ≤ l
  lm : l ≤ m
  mg : m ≤ g
/-- what a step does -/
structure Stp (F : Int → Int) (n l : Int) : Prop where
  l1 : 1 ≤ l
  le : ∀ p, F p ≤ n
  ge : ∀ p, p + l ≤ F p ∨ F p = n
  mono : ∀ p q, p ≤ q → F p ≤ F q
theorem Stp.gt {F : Int → Int} {n l p : Int} (S : Stp F n l) (h : p < n) : p < F p := by
  have := S.ge p
  have := S.l1
  omega
theorem nx_stp {n l m g : Int} {ms ss : List Int} (G : Good n ms ss) (S : SetOk l m g) : Stp (nx n ms ss l m g) n l := by
  have k1 : ∀ x ∈ ms, x ≤ n := fun x hx => by have := G.rng x hx; omega
  have k2 : ∀ x ∈ ss, x ≤ n := fun x hx => k1 x (G.sub x hx)
  have s1 := S.l1
  have s2 := S.lm
  have s3 := S.mg
  refine ⟨s1, fun p => ?_, fun p => ?_, fun p q h => ?_⟩
  · unfold nx
    omega
  · have a := fm_or G.asc2 (p + l) n
    have b := fm_or G.asc (p + m) n
    unfold nx
    omega
  · have a := fm_mono G.asc2 k2 (z := p + l) (y := q + l) (by omega)
    have b := fm_mono G.asc k1 (z := p + m) (y := q + m) (by omega)
    unfold nx
    omega
/-! ## walks -/
def kc (F : Int → Int) (n s : Int) : Nat → Int
  | 0 => s
  | k + 1 => if kc F n s k < n then F (kc F n s k) else kc F n s k
def wl (F : Int → Int) (n s : Int) (m : Nat) : List Int := (List.range (m + 1)).map (kc F n s)
theorem wl_succ {F : Int → Int} {n s : Int} {m : Nat} : wl F n s (m + 1) = wl F n s m ++ [kc F n s (m + 1)] := by
  unfold wl
  rw [List.range_succ, List.map_append]
  rfl
theorem wl_len {F : Int → Int} {n s : Int} {m : Nat} : (wl F n s m).length = m + 1 := by
  unfold wl
  rw [List.length_map, List.length_range]
theorem kc_le {F : Int → Int} {n l s : Int} (S : Stp F n l) (h : s ≤ n) : ∀ k, kc F n s k ≤ n
  | 0 => h
  | k + 1 => by
    have i := kc_le S h k
    unfold kc
    by_cases c : kc F n s k < n
    · rw [if_pos c]
      exact S.le _
    · rw [if_neg c]
      exact i
theorem kc_ge {F : Int → Int} {n l s : Int} (S : Stp F n l) : ∀ k : Nat, kc F n s k < n → s + k * l ≤ kc F n s k
  | 0, _ => by
    show s + ((0 : Nat) : Int) * l ≤ s
    simp
  | k + 1, h => by
    by_cases c : kc F n s k < n
    · have e : kc F n s (k + 1) = F (kc F n s k) := if_pos c
      have i := kc_ge S k c
      have z := S.ge (kc F n s k)
      rw [e] at h ⊢
      have w : ((k + 1 : Nat) : Int) * l = k * l + l := by
        rw [Int.natCast_add, Int.add_mul]
        simp
      rw [w]
      omega
    · have e : kc F n s (k + 1) = kc F n s k := if_neg c
      omega
theorem kc_few {F : Int → Int} {n l s : Int} (S : Stp F n l) (h0 : 0 ≤ s) (b : n ≤ 200 * l) {k : Nat} (h : kc F n s k < n) : k < 200 := by
  have z := kc_ge S k h
  have l1 := S.l1
  by_cases c : k < 200
  · exact c
  · have w : (200 : Int) * l ≤ k * l := Int.mul_le_mul_of_nonneg_right (by omega) (by omega)
    omega
theorem kc_at {F : Int → Int} {n s : Int} {k : Nat} (h : kc F n s k < n) : kc F n s (k + 1) = F (kc F n s k) := if_pos h
theorem kc_end {F : Int → Int} {n s : Int} {m : Nat} (h : ¬ kc F n s m < n) : ∀ j, kc F n s (m + j) = kc F n s m
  | 0 => rfl
  | j + 1 => by
    have i := kc_end h j
    show (if kc F n s (m + j) < n then F (kc F n s (m + j)) else kc F n s (m + j)) = _
    rw [i, if_neg h]
/-- how many cuts a walk has -/
structure WkOk (F : Int → Int) (n s : Int) (m : Nat) : Prop where
  few : m ≤ 200
  fin : kc F n s m = n
  bef : ∀ i, i < m → kc F n s i < n
def spStep (C : Addr) : Sp := fun vs H Q _ => ∃ (r t : Addr) (n l m g p : Int) (ms ss : List Int), vs = [.ref r, .ref t, .int p] ∧ RowAt C H r n ms ss ∧ H t = some (.tup [.int l, .int m, .int g]) ∧ Good n ms ss ∧ ∀ H', Same H H' → Q (.int (nx n ms ss l m g p)) H'
def spCuts (C : Addr) : Sp := fun vs H Q _ => ∃ (r t : Addr) (n l m g p : Int) (ms ss : List Int), vs = [.ref r, .ref t, .int p] ∧ RowAt C H r n ms ss ∧ H t = some (.tup [.int l, .int m, .int g]) ∧ Good n ms ss ∧ SetOk l m g ∧ n ≤ 200 * l ∧ 0 ≤ p ∧ p ≤ n ∧
  ∀ q H' k, Same H H' → H q = none → WkOk (nx n ms ss l m g) n p k → IL H' q (wl (nx n ms ss l m g) n p k) → Q (.ref q) H'
/-- the getters -/
structure Gets (P : Program) (w : World) (K : PySem.W.Frag) (mg : Str → Option Value) (base : Heap) (C pL fL pM fM pS fS : Addr) (dL dM dS : FuncData) : Prop where
  hL : PropOf K C "length" pL fL
  bL : Binds K dL ["self"] []
  GL : FnOk P w K mg base CX0 1 fL dL ["self"] (spGetL C)
  hM : PropOf K C "marks" pM fM
  bM : Binds K dM ["self"] []
  GM : FnOk P w K mg base CX0 1 fM dM ["self"] (spGetM C)
  hS : PropOf K C "strict" pS fS
  bS : Binds K dS ["self"] []
  GS : FnOk P w K mg base CX0 1 fS dS ["self"] (spGetS C)
section
variable {P : Program} {w : World} {K : PySem.W.Frag} {mg : Str → Option Value} {base : Heap}
theorem scGL : FnScope ["self"] ["self"] (defScope sGetL) := ⟨rfl, rfl, rfl, by decide +kernel, rfl, by decide +kernel, by decide +kernel⟩
theorem ok_getL {f C : Addr} {fd : FuncData} (F : Fun K "length" "Row.length" sGetL f fd) (R : Cl K mg C) : FnOk P w K mg base CX0 1 f fd ["self"] (spGetL C) := by
  refine F.ok scGL (fun vs H Q E h => ?_) (fun cdv A outer s H vs Q E hr h => ?_)
  · obtain ⟨a, n, ms, ss, rfl, _⟩ := h
    rfl
  · obtain ⟨a, n, ms, ss, rfl, ⟨dx, l1, l2, ho, h1, h2⟩, k⟩ := h
    refine ⟨_, pss_one (ps_ret (pe_fld (pv 0) rfl)), ?_⟩
    exact ⟨_, rfl, a, C, dx, _, _, rfl, ho, R.cl, R.nL, fl_L _ _ _, k⟩
theorem scGS : FnScope ["self"] ["self"] (defScope sGetS) := ⟨rfl, rfl, rfl, by decide +kernel, rfl, by decide +kernel, by decide +kernel⟩
theorem ok_getS {f C : Addr} {fd : FuncData} (F : Fun K "strict" "Row.strict" sGetS f fd) (T : Bl mg) (R : Cl K mg C) : FnOk P w K mg base CX0 1 f fd ["self"] (spGetS C) := by
  refine F.ok scGS (fun vs H Q E h => ?_) (fun cdv A outer s H vs Q E hr h => ?_)
  · obtain ⟨a, n, ms, ss, rfl, _⟩ := h
    rfl
  · obtain ⟨a, n, ms, ss, rfl, ⟨dx, l1, l2, ho, h1, h2⟩, k⟩ := h
    refine ⟨_, pss_one (ps_ret (pe_callTy call_list_of (by rfl) T.list (by decide +kernel) (pa_cons (pe_fld (pv 0) rfl) pa_nil))), ?_⟩
    refine ⟨_, rfl, a, C, dx, _, _, rfl, ho, R.cl, R.nS, fl_S _ _ _, l2, _, rfl, .inl (SqL.of h2), fun p hp => ?_⟩
    exact k p _ (same_new (Same.refl H) hp) hp upd_same
abbrev NSt : List Str := ["row", "settings", "place", "least", "normal", "greatest", "strict", "either"]
theorem scSt : FnScope NSt ["row", "settings", "place"] (defScope sStep) := ⟨rfl, rfl, rfl, by decide +kernel, rfl, by decide +kernel, by decide +kernel⟩
theorem ok_step {f C fF pL fL pM fM pS fS : Addr} {fd fdF dL dM dS : FuncData} (F : Fun K "step" "step" sStep f fd) (T : Bl mg) (R : Cl K mg C) (Gs : Gets P w K mg base C pL fL pM fM pS fS dL dM dS)
    (gF : mg "first_mark" = some (.ref fF)) (kF : PySem.W.keepIn K (.ref fF) = true) (bF : Binds K fdF ["marks", "place", "end"] []) (GF : FnOk P w K mg base CX0 2 fF fdF ["marks", "place", "end"] spFM) :
    FnOk P w K mg base CX0 3 f fd ["row", "settings", "place"] (spStep C) := by
  refine F.ok scSt (fun vs H Q E h => ?_) (fun cdv A outer s H vs Q E hr h => ?_)
  · obtain ⟨r, t, n, l, m, g, p, ms, ss, rfl, _⟩ := h
    rfl
  · obtain ⟨r, t, n, l, m, g, p, ms, ss, rfl, hR, hT, G, q⟩ := h
    refine ⟨_, pss_cons (ps_asg (pv 1) (pg_tup (by rfl) (pgs_cons (pg_name (i := 3) scSt.nd rfl (Or.inl rfl)) (pgs_cons (pg_name (i := 4) scSt.nd rfl (Or.inl rfl)) (pgs_cons (pg_name (i := 5) scSt.nd rfl (Or.inl rfl)) pgs_nil)))))
      (pss_cons (ps_set (i := 6) scSt.nd rfl (Or.inl rfl) (pe_call GF hr rfl gF kF bF .nil pass0 (pa_cons (pe_prop (pv 0) R.cl Gs.hS Gs.GS hr Gs.bS .nil pass0 rfl) (pa_cons (pe_op op_add (pv 2) (pv 3)) (pa_cons (pe_prop (pv 0) R.cl Gs.hL Gs.GL hr Gs.bL .nil pass0 rfl) pa_nil)))))
      (pss_cons (ps_set (i := 7) scSt.nd rfl (Or.inl rfl) (pe_call GF hr rfl gF kF bF .nil pass0 (pa_cons (pe_prop (pv 0) R.cl Gs.hM Gs.GM hr Gs.bM .nil pass0 rfl) (pa_cons (pe_op op_add (pv 2) (pv 4)) (pa_cons (pe_prop (pv 0) R.cl Gs.hL Gs.GL hr Gs.bL .nil pass0 rfl) pa_nil)))))
      (pss_one (ps_ret (pe_callB (call_min4 rfl) (by rfl) T.min (by decide +kernel) (pa_cons (pv 6) (pa_cons (pv 7) (pa_cons (pe_op op_add (pv 2) (pv 5)) (pa_cons (pe_prop (pv 0) R.cl Gs.hL Gs.GL hr Gs.bL .nil pass0 rfl) pa_nil))))))))), ?_⟩
    have lm := G.len
    have ls := G.len2
    obtain ⟨dx, l1, l2, ho, h1, h2⟩ := id hR
    refine ⟨_, rfl, t, _, rfl, SqT.of hT, rfl, _, _, rfl, _, _, rfl, _, _, rfl, rfl, ?_⟩
    refine ⟨_, rfl, r, dx, _, rfl, ho, r, n, ms, ss, rfl, hR, fun p1 H1 s1 n1 i1 => ?_⟩
    have R1 := hR.same s1
    have o1 := s1 _ _ ho
    refine ⟨_, rfl, _, rfl, _, _, rfl, rfl, _, rfl, r, dx, _, rfl, o1, r, n, ms, ss, rfl, R1, ?_⟩
    refine ⟨p1, ss, p + l, n, rfl, i1, by omega, G.asc2, ?_⟩
    refine ⟨_, rfl, r, dx, _, rfl, o1, r, n, ms, ss, rfl, R1, fun p2 H2 s2 n2 i2 => ?_⟩
    have R2 := R1.same s2
    have o2 := s2 _ _ o1
    refine ⟨_, rfl, _, rfl, _, _, rfl, rfl, _, rfl, r, dx, _, rfl, o2, r, n, ms, ss, rfl, R2, ?_⟩
    refine ⟨p2, ms, p + m, n, rfl, i2, by omega, G.asc, ?_⟩
    refine ⟨_, rfl, _, rfl, _, rfl, _, rfl, _, _, rfl, rfl, _, rfl, r, dx, _, rfl, o2, r, n, ms, ss, rfl, R2, ?_⟩
    refine ⟨_, _, _, _, rfl, fun v e a b c d => ?_⟩
    have z : v = nx n ms ss l m g p := by
      unfold nx
      omega
    rw [z]
    exact q H2 (s1.trans s2)
end
end Cw
namespace Cw
open PySem L2
def spCSet : Sp := fun vs H Q _ => ∃ (t : Addr) (l m g : Int), vs = [.ref t] ∧ H t = some (.tup [.int l, .int m, .int g]) ∧ SetOk l m g ∧ ∀ H', Same H H' → Q .non H'
def spPl : Sp := fun vs H Q _ => ∃ p lo hi : Int, vs = [.int p, .int lo, .int hi] ∧ lo ≤ p ∧ p ≤ hi ∧ Q .non H
def spSz (C : Addr) : Sp := fun vs H Q _ => ∃ (r t : Addr) (n l m g : Int) (ms ss : List Int), vs = [.ref r, .ref t] ∧ RowAt C H r n ms ss ∧ H t = some (.tup [.int l, .int m, .int g]) ∧ n ≤ 200 * l ∧ Q .non H
def spLen : Sp := fun vs H Q _ => ∃ (t : Addr) (n l m g : Int), vs = [.int n, .ref t] ∧ H t = some (.tup [.int l, .int m, .int g]) ∧ n ≤ 200 * l ∧ Q .non H
def lastZ : List V → Int
  | [.int z] => z
  | _ :: x :: r => lastZ (x :: r)
  | _ => 0
theorem lastZ_app (z : Int) : ∀ xs : List V, lastZ (xs ++ [.int z]) = z
  | [] => rfl
  | [x] => by cases x <;> rfl
  | x :: y :: r => by
    have i := lastZ_app z (y :: r)
    show lastZ (x :: y :: (r ++ [V.int z])) = z
    cases x <;> exact i
def muCu (n : Int) (D : Addr) : St → Hp → Nat := fun _ H => (n - (match H D with | some (.lst xs) => lastZ xs | _ => 0)).toNat
theorem muCu_at {n z : Int} {D : Addr} {H : Hp} {σ : St} {xs : List V} (h : H D = some (.lst (xs ++ [.int z]))) : muCu n D σ H = (n - z).toNat := by
  unfold muCu
  rw [h]
  show (n - lastZ (xs ++ [V.int z])).toNat = _
  rw [lastZ_app]
section
variable {P : Program} {w : World} {K : PySem.W.Frag} {mg : Str → Option Value} {base : Heap}
abbrev NCS : List Str := ["settings", "least", "normal", "greatest", "number"]
theorem scCS : FnScope NCS ["settings"] (defScope sCSet) := ⟨rfl, rfl, rfl, by decide +kernel, rfl, by decide +kernel, by decide +kernel⟩
theorem ok_cset {f fI : Addr} {fd fdI : FuncData} (F : Fun K "check_settings" "check_settings" sCSet f fd) (T : Bl mg) (gI : mg "is_integer" = some (.ref fI)) (kI : PySem.W.keepIn K (.ref fI) = true) (bI : Binds K fdI ["thing"] []) (GI : FnOk P w K mg base CX0 1 fI fdI ["thing"] spOne) :
    FnOk P w K mg base CX0 2 f fd ["settings"] spCSet := by
  refine F.ok scCS (fun vs H Q E h => ?_) (fun cdv A outer s H vs Q E hr h => ?_)
  · obtain ⟨t, l, m, g, rfl, _⟩ := h
    rfl
  · obtain ⟨t, l, m, g, rfl, ht, S, k⟩ := h
    refine ⟨_, pss_cons (ps_if (PW.pt (pw_or (pt_not (pt_val (pe_callB call_isi (by rfl) T.isi (by decide +kernel) (pa_cons (pv 0) (pa_cons (pe_bltn (by rfl) T.tuple (by decide +kernel) (v := V.ty "tuple") rfl) pa_nil)))))
        (pw_or1 (pt_cmpR op_ne (pe_callB call_len_seq (by rfl) T.len PySem.boot_len (pa_cons (pv 0) pa_nil)) pe_int (nomark _))))) pss_never pss_nil)
      (pss_cons (ps_if (pt_not (pt_val (pe_callB (cr_all rfl) (by rfl) T.all (by decide +kernel) (pa_cons (pe_lc (own := [("number", 4)]) (g := gName 4) (tt := tYes) rfl scCS.nd
        (pi_tup (pv 0)) (blkOk_by (own := [("number", 4)]) (N := NCS) (sc := defScope sCSet) (by decide +kernel)) (fun _ _ _ _ _ => pg_name (i := 4) scCS.nd rfl (Or.inl rfl)) (fun _ _ _ _ _ => pts_nil)
        (fun _ _ _ _ _ => pe_call GI hr rfl gI kI bI .nil pass0 (pa_cons (pv 4) pa_nil))) pa_nil)))) pss_never pss_nil)
      (pss_cons (ps_asg (pv 0) (pg_tup (by rfl) (pgs_cons (pg_name (i := 1) scCS.nd rfl (Or.inl rfl)) (pgs_cons (pg_name (i := 2) scCS.nd rfl (Or.inl rfl)) (pgs_cons (pg_name (i := 3) scCS.nd rfl (Or.inl rfl)) pgs_nil)))))
      (pss_one (ps_if (pt_not (pt_chain3 op_le op_le op_le pe_int (pv 1) (pv 2) (pv 3))) pss_never pss_nil)))), ?_⟩
    refine ⟨_, rfl, _, _, _, _, true, rfl, ClsV.ty _, .base (.tup ht), kit_ty (by decide +kernel), _, rfl, ?_⟩
    refine ifF rfl ?_
    refine ⟨_, rfl, t, _, rfl, .inr (SqT.of ht), rfl, _, rfl, ?_⟩
    refine ifF (by simp) ?_
    refine ⟨_, rfl, t, rfl, ⟨_, SqT.of ht⟩, fun D hD => ?_⟩
    have nt : t ≠ D := ne_of_none ht hD
    refine lc_tup (K := K) (a := t) (xs := [.int l, .int m, .int g]) (fun i H' => Same H H' ∧ H' D = some (.lst (List.replicate i (V.bl true))))
      ⟨same_new (Same.refl H) hD, upd_same⟩ (fun i H' _ q => SqT.of (q.1 _ _ ht)) ?_ ?_
    · rintro i x H' hx ⟨s2, h3⟩
      have hi : i < 3 := (List.getElem?_eq_some_iff.mp hx).1
      obtain ⟨z, rfl⟩ : ∃ z, x = V.int z := by
        have m := List.mem_of_getElem? hx
        simp only [List.mem_cons, List.not_mem_nil, or_false] at m
        rcases m with rfl | rfl | rfl <;> exact ⟨_, rfl⟩
      refine ⟨rfl, ?_⟩
      unfold tYes
      refine iteT ?_
      refine ⟨_, rfl, _, rfl, ?_⟩
      refine ⟨_, h3, by rw [List.length_replicate]; exact small1000 (by omega), same_put s2 hD, ?_⟩
      rw [upd_same, List.replicate_succ']
    · rintro H' ⟨s2, h3⟩
      refine ⟨D, List.replicate 3 true, rfl, SqL.of (by rw [h3, List.map_replicate]; rfl), _, rfl, ?_⟩
      rw [all_true]
      refine ifF rfl ?_
      refine ⟨_, rfl, t, _, rfl, SqT.of (s2 _ _ ht), rfl, _, _, rfl, _, _, rfl, _, _, rfl, rfl, ?_⟩
      have l1 := S.l1
      have lm := S.lm
      have mg' := S.mg
      refine ⟨_, rfl, _, _, rfl, rfl, _, rfl, ?_⟩
      refine ifT (by simp [l1]) ?_
      refine ⟨_, rfl, _, _, rfl, rfl, _, rfl, ?_⟩
      refine ifT (by simp [lm]) ?_
      refine ⟨_, rfl, _, _, rfl, rfl, _, rfl, ?_⟩
      refine ifF (by simp [mg']) ?_
      exact k _ s2
theorem scPl : FnScope ["place", "low", "high"] ["place", "low", "high"] (defScope sCPl) := ⟨rfl, rfl, rfl, by decide +kernel, rfl, by decide +kernel, by decide +kernel⟩
theorem ok_pl {f fI : Addr} {fd fdI : FuncData} (F : Fun K "check_place" "check_place" sCPl f fd) (gI : mg "is_integer" = some (.ref fI)) (kI : PySem.W.keepIn K (.ref fI) = true) (bI : Binds K fdI ["thing"] []) (GI : FnOk P w K mg base CX0 1 fI fdI ["thing"] spOne) :
    FnOk P w K mg base CX0 2 f fd ["place", "low", "high"] spPl := by
  refine F.ok scPl (fun vs H Q E h => ?_) (fun cdv A outer s H vs Q E hr h => ?_)
  · obtain ⟨p, lo, hi, rfl, _⟩ := h
    rfl
  · obtain ⟨p, lo, hi, rfl, h1, h2, q⟩ := h
    refine ⟨_, pss_one (ps_if (PW.pt (pw_or (pt_not (pt_val (pe_call GI hr rfl gI kI bI .nil pass0 (pa_cons (pv 0) pa_nil)))) (pw_or1 (pt_not (pt_chain op_le op_le (pv 1) (pv 0) (pv 2)))))) pss_never pss_nil), ?_⟩
    refine ⟨_, rfl, _, rfl, _, rfl, ?_⟩
    refine ifF rfl ?_
    refine ⟨_, rfl, _, rfl, _, _, rfl, rfl, _, rfl, ?_⟩
    refine ifT (decide_eq_true h1) ?_
    refine ⟨_, rfl, _, _, rfl, rfl, _, rfl, ?_⟩
    refine ifF (by simp [h2]) ?_
    exact q
theorem scLn : FnScope ["length", "settings"] ["length", "settings"] (defScope sCLen) := ⟨rfl, rfl, rfl, by decide +kernel, rfl, by decide +kernel, by decide +kernel⟩
theorem ok_len {f : Addr} {fd : FuncData} {tok : Tok} (F : Fun K "check_length" "check_length" sCLen f fd) (gN : mg "MOST_PIECES" = some (.int 200 tok)) :
    FnOk P w K mg base CX0 1 f fd ["length", "settings"] spLen := by
  refine F.ok scLn (fun vs H Q E h => ?_) (fun cdv A outer s H vs Q E hr h => ?_)
  · obtain ⟨t, n, l, m, g, rfl, _⟩ := h
    rfl
  · obtain ⟨t, n, l, m, g, rfl, ht, hn, q⟩ := h
    refine ⟨_, pss_one (ps_if (pt_cmpR op_gt (pv 0) (pe_op op_mul (pe_glob (by rfl) gN (v := V.int 200) ⟨_, rfl⟩) (pe_ix ix_tup (pv 1) pe_int (fun _ _ => rfl))) (nomark _)) pss_never pss_nil), ?_⟩
    refine ⟨_, rfl, _, rfl, t, _, _, _, rfl, rfl, SqT.of ht, at_of2 (j := 0) rfl rfl, _, _, rfl, rfl, .inl ⟨by decide, by decide⟩, _, _, rfl, rfl, _, rfl, ?_⟩
    refine ifF (decide_eq_false (by omega)) ?_
    exact q
theorem scSz : FnScope ["row", "settings"] ["row", "settings"] (defScope sCSz) := ⟨rfl, rfl, rfl, by decide +kernel, rfl, by decide +kernel, by decide +kernel⟩
theorem ok_sz {f C fN pL fL pM fM pS fS : Addr} {fd fdN dL dM dS : FuncData} (F : Fun K "check_size" "check_size" sCSz f fd) (R : Cl K mg C) (Gs : Gets P w K mg base C pL fL pM fM pS fS dL dM dS)
    (gN : mg "check_length" = some (.ref fN)) (kN : PySem.W.keepIn K (.ref fN) = true) (bN : Binds K fdN ["length", "settings"] []) (GN : FnOk P w K mg base CX0 1 fN fdN ["length", "settings"] spLen) :
    FnOk P w K mg base CX0 3 f fd ["row", "settings"] (spSz C) := by
  refine F.ok scSz (fun vs H Q E h => ?_) (fun cdv A outer s H vs Q E hr h => ?_)
  · obtain ⟨r, t, n, l, m, g, ms, ss, rfl, _⟩ := h
    rfl
  · obtain ⟨r, t, n, l, m, g, ms, ss, rfl, hR, ht, hn, q⟩ := h
    have hr1 : Room 1 (A.deeper (PyProof.Rows.envOfC "check_size" (defScope sCSz) s.heap.objs.size f cdv)) := hr.mono (by decide)
    refine ⟨_, pss_one (ps_expr (pe_call GN hr1 rfl gN kN bN .nil pass0 (pa_cons (pe_prop (pv 0) R.cl Gs.hL Gs.GL hr Gs.bL .nil pass0 rfl) (pa_cons (pv 1) pa_nil)))), ?_⟩
    obtain ⟨dx, l1, l2, ho, _, _⟩ := id hR
    refine ⟨_, rfl, r, dx, _, rfl, ho, r, n, ms, ss, rfl, hR, ?_⟩
    exact ⟨_, rfl, t, n, l, m, g, rfl, ht, hn, q⟩
end
end Cw
namespace Cw
open PySem L2
theorem kc_lt {F : Int → Int} {n l s : Int} {m : Nat} (S : Stp F n l) (w : WkOk F n s m) {i j : Nat} (hij : i < j) (hj : j ≤ m) : kc F n s i < kc F n s j := by
  induction j with
  | zero => omega
  | succ j ih =>
    have c := w.bef j (by omega)
    have e := S.gt c
    rw [kc_at c]
    by_cases d : i = j
    · rw [d]
      exact e
    · have := ih (by omega) (by omega)
      omega
theorem wl_asc {F : Int → Int} {n l s : Int} {m : Nat} (S : Stp F n l) (w : WkOk F n s m) : Asc (wl F n s m) := by
  unfold wl
  refine List.pairwise_map.mpr ?_
  refine (List.pairwise_lt_range (n := m + 1)).imp_of_mem fun {i j} hi hj hij => ?_
  rw [List.mem_range] at hj
  exact kc_lt S w hij (by omega)
theorem kc_mem {F : Int → Int} {n s : Int} {m : Nat} {x : Int} : x ∈ wl F n s m ↔ ∃ i, i ≤ m ∧ kc F n s i = x := by
  unfold wl
  rw [List.mem_map]
  constructor
  · rintro ⟨i, hi, rfl⟩
    exact ⟨i, by rw [List.mem_range] at hi; omega, rfl⟩
  · rintro ⟨i, hi, rfl⟩
    exact ⟨i, by rw [List.mem_range]; omega, rfl⟩
/-- all that the calls of a row with settings want -/
structure RwS (C : Addr) (H : Hp) (r t : Addr) (n l m g : Int) (ms ss : List Int) : Prop where
  row : RowAt C H r n ms ss
  tup : H t = some (.tup [.int l, .int m, .int g])
  good : Good n ms ss
  set : SetOk l m g
  big : n ≤ 200 * l
theorem RwS.same {C : Addr} {H H' : Hp} {r t : Addr} {n l m g : Int} {ms ss : List Int} (R : RwS C H r t n l m g ms ss) (s : Same H H') : RwS C H' r t n l m g ms ss := ⟨R.row.same s, s _ _ R.tup, R.good, R.set, R.big⟩
def spCW (C : Addr) : Sp := fun vs H Q _ => ∃ (r t c : Addr) (n l m g : Int) (ms ss ps : List Int), vs = [.ref r, .ref t, .ref c] ∧ RwS C H r t n l m g ms ss ∧ IL H c ps ∧ ps.length ≤ 1000 ∧ (∀ i, i < ps.length → (0 :: ps).getD i 0 ≤ ps.getD i 0 ∧ ps.getD i 0 ≤ n) ∧ ∀ H', Same H H' → Q .non H'
def spNext (C : Addr) : Sp := fun vs H Q _ => ∃ (r t : Addr) (n l m g p : Int) (ms ss : List Int), vs = [.ref r, .ref t, .int p] ∧ RwS C H r t n l m g ms ss ∧ 0 ≤ p ∧ p < n ∧ ∀ H', Same H H' → Q (.int (nx n ms ss l m g p)) H'
def spWalk (C : Addr) : Sp := fun vs H Q _ => ∃ (r t : Addr) (n l m g p : Int) (ms ss : List Int), vs = [.ref r, .ref t, .int p] ∧ RwS C H r t n l m g ms ss ∧ 0 ≤ p ∧ p ≤ n ∧
  ∀ q H' k, Same H H' → H q = none → WkOk (nx n ms ss l m g) n p k → IL H' q (wl (nx n ms ss l m g) n p k) → Q (.ref q) H'
def spWithin (C : Addr) : Sp := fun vs H Q _ => ∃ (r t : Addr) (n l m g p lo hi : Int) (ms ss : List Int), vs = [.ref r, .ref t, .int p, .int lo, .int hi] ∧ RwS C H r t n l m g ms ss ∧ 0 ≤ p ∧ p ≤ lo ∧ lo ≤ hi ∧ hi ≤ n ∧
  ∀ H' k, Same H H' → WkOk (nx n ms ss l m g) n p k → Q (.int ((cb (wl (nx n ms ss l m g) n p k) hi : Nat) - (cb (wl (nx n ms ss l m g) n p k) lo : Nat) : Int)) H'
theorem WkOk.one {F : Int → Int} {n s : Int} {m k : Nat} (w : WkOk F n s m) (u : WkOk F n s k) : m = k := by
  rcases Nat.lt_trichotomy m k with h | h | h
  · have := u.bef _ h
    have := w.fin
    omega
  · exact h
  · have := w.bef _ h
    have := u.fin
    omega
end Cw
namespace Cw
open PySem L2
theorem kc_up {F : Int → Int} {n l s : Int} (S : Stp F n l) {i : Nat} : ∀ j : Nat, kc F n s i ≤ kc F n s (i + j)
  | 0 => Int.le_refl _
  | j + 1 => by
    have h := kc_up S (i := i) (s := s) j
    by_cases c : kc F n s (i + j) < n
    · have e := S.gt c
      have k : kc F n s (i + (j + 1)) = F (kc F n s (i + j)) := kc_at c
      omega
    · have k : kc F n s (i + (j + 1)) = kc F n s (i + j) := if_neg c
      omega
theorem kc_wk {F : Int → Int} {n l s : Int} (S : Stp F n l) {i j : Nat} (h : i ≤ j) : kc F n s i ≤ kc F n s j := by
  have := kc_up S (s := s) (i := i) (j - i)
  rw [Nat.add_sub_cancel' h] at this
  exact this
structure Met (F : Int → Int) (n a b : Int) (i j : Nat) (x y : Int) : Prop where
  ex : kc F n a i = x
  ey : kc F n b j = y
  na : ∀ i', i' < i → ∀ j', kc F n a i' ≠ kc F n b j'
  nb : ∀ j', j' < j → ∀ i', kc F n b j' ≠ kc F n a i'
  pa : 0 < i → kc F n a (i - 1) < y
  pb : 0 < j → kc F n b (j - 1) < x
theorem Met.swap {F : Int → Int} {n a b : Int} {i j : Nat} {x y : Int} (M : Met F n a b i j x y) : Met F n b a j i y x := ⟨M.ey, M.ex, M.nb, M.na, M.pb, M.pa⟩
theorem Met.start {F : Int → Int} {n a b : Int} : Met F n a b 0 0 a b := ⟨rfl, rfl, fun _ h => absurd h (Nat.not_lt_zero _), fun _ h => absurd h (Nat.not_lt_zero _), fun h => absurd h (Nat.lt_irrefl _), fun h => absurd h (Nat.lt_irrefl _)⟩
theorem Met.next {F : Int → Int} {n l a b : Int} {i j : Nat} {x y : Int} (S : Stp F n l) (M : Met F n a b i j x y) (h : x < y) (hy : y ≤ n) : Met F n a b (i + 1) j (F x) y := by
  have c : kc F n a i < n := by rw [M.ex]; omega
  have e := S.gt c
  rw [M.ex] at e
  refine ⟨by rw [kc_at c, M.ex], M.ey, fun i' hi' j' z => ?_, M.nb, fun _ => by rw [Nat.add_sub_cancel, M.ex]; exact h, fun hj => by have := M.pb hj; omega⟩
  by_cases d : i' = i
  · rw [d, M.ex] at z
    by_cases f : j' < j
    · have w := kc_wk S (s := b) (show j' ≤ j - 1 by omega)
      have := M.pb (by omega)
      omega
    · have w := kc_wk S (s := b) (show j ≤ j' by omega)
      rw [M.ey] at w
      omega
  · exact M.na i' (by omega) j' z
/-- where two walks meet -/
def Mt (F : Int → Int) (n a b v : Int) : Prop := ∃ i j, kc F n a i = v ∧ kc F n b j = v ∧ (∀ i', i' < i → ∀ j', kc F n a i' ≠ kc F n b j') ∧ (∀ j', j' < j → ∀ i', kc F n b j' ≠ kc F n a i')
def spMeet (C : Addr) : Sp := fun vs H Q _ => ∃ (r t : Addr) (n l m g a b : Int) (ms ss : List Int), vs = [.ref r, .ref t, .int a, .int b] ∧ RwS C H r t n l m g ms ss ∧ 0 ≤ a ∧ a ≤ n ∧ 0 ≤ b ∧ b ≤ n ∧ ∀ H' v, Same H H' → Mt (nx n ms ss l m g) n a b v → Q (.int v) H'
def muMe (n : Int) : St → Hp → Nat := fun σ _ => match σ with | [_, _, some (.int x), some (.int y)] => (n - x).toNat + (n - y).toNat | _ => 0
section
variable {P : Program} {w : World} {K : PySem.W.Frag} {mg : Str → Option Value} {base : Heap}
abbrev NMe : List Str := ["row", "settings", "first", "second"]
theorem scMe : FnScope NMe NMe (defScope sMeet) := ⟨rfl, rfl, rfl, by decide +kernel, rfl, by decide +kernel, by decide +kernel⟩
theorem ok_meet {f C fA fB fZ fS pL fL pM fM pS fSs : Addr} {fd fdA fdB fdZ fdS dL dM dS : FuncData} (F : Fun K "meeting" "meeting" sMeet f fd) (T : Bl mg) (R : Cl K mg C) (Gs : Gets P w K mg base C pL fL pM fM pS fSs dL dM dS)
    (gA : mg "check_settings" = some (.ref fA)) (kA : PySem.W.keepIn K (.ref fA) = true) (bA : Binds K fdA ["settings"] []) (GA : FnOk P w K mg base CX0 2 fA fdA ["settings"] spCSet)
    (gB : mg "check_place" = some (.ref fB)) (kB : PySem.W.keepIn K (.ref fB) = true) (bB : Binds K fdB ["place", "low", "high"] []) (GB : FnOk P w K mg base CX0 2 fB fdB ["place", "low", "high"] spPl)
    (gZ : mg "check_size" = some (.ref fZ)) (kZ : PySem.W.keepIn K (.ref fZ) = true) (bZ : Binds K fdZ ["row", "settings"] []) (GZ : FnOk P w K mg base CX0 3 fZ fdZ ["row", "settings"] (spSz C))
    (gS : mg "step" = some (.ref fS)) (kS : PySem.W.keepIn K (.ref fS) = true) (bS : Binds K fdS ["row", "settings", "place"] []) (GS : FnOk P w K mg base CX0 3 fS fdS ["row", "settings", "place"] (spStep C)) :
    FnOk P w K mg base CX0 4 f fd NMe (spMeet C) := by
  refine F.ok scMe (fun vs H Q E h => ?_) (fun cdv A outer s H vs Q E hr h => ?_)
  · obtain ⟨r, t, n, l, m, g, a, b, ms, ss, rfl, _⟩ := h
    rfl
  · obtain ⟨r, t, n, l, m, g, a, b, ms, ss, rfl, hR, a0, an, b0, bn, q⟩ := h
    have hr2 : Room 2 (A.deeper (PyProof.Rows.envOfC "meeting" (defScope sMeet) s.heap.objs.size f cdv)) := hr.mono (by decide)
    refine ⟨_, pss_cons (ps_expr (pe_call GA hr2 rfl gA kA bA .nil pass0 (pa_cons (pv 1) pa_nil)))
      (pss_cons (ps_expr (pe_call GB hr2 rfl gB kB bB .nil pass0 (pa_cons (pv 2) (pa_cons pe_int (pa_cons (pe_prop (pv 0) R.cl Gs.hL Gs.GL hr2 Gs.bL .nil pass0 rfl) pa_nil)))))
      (pss_cons (ps_expr (pe_call GB hr2 rfl gB kB bB .nil pass0 (pa_cons (pv 3) (pa_cons pe_int (pa_cons (pe_prop (pv 0) R.cl Gs.hL Gs.GL hr2 Gs.bL .nil pass0 rfl) pa_nil)))))
      (pss_cons (ps_expr (pe_call GZ hr rfl gZ kZ bZ .nil pass0 (pa_cons (pv 0) (pa_cons (pv 1) pa_nil))))
      (pss_cons (ps_while PassesOwn.never (pt_cmpR op_ne (pv 2) (pv 3) (nomark _))
        (pss_one (ps_par (i := 2) (j := 3) rfl scMe.nd rfl rfl (by decide) rfl rfl
          (pa_cons (pe_call GS hr rfl gS kS bS .nil pass0 (pa_cons (pv 0) (pa_cons (pv 1) (pa_cons (pe_callB (call_min2 rfl) (by rfl) T.min (by decide +kernel) (pa_cons (pv 2) (pa_cons (pv 3) pa_nil))) pa_nil))))
          (pa_cons (pe_callB (call_max2 rfl) (by rfl) T.max (by decide +kernel) (pa_cons (pv 2) (pa_cons (pv 3) pa_nil))) pa_nil)) (by rfl))))
      (pss_one (ps_ret (pv 2))))))), ?_⟩
    have ST := nx_stp hR.good hR.set
    refine ⟨_, rfl, t, l, m, g, rfl, hR.tup, hR.set, fun H1 s1 => ?_⟩
    have R1 := hR.same s1
    obtain ⟨dx, l1, l2, ho, _, _⟩ := id R1.row
    refine ⟨_, rfl, _, rfl, r, dx, _, rfl, ho, r, n, ms, ss, rfl, R1.row, a, 0, n, rfl, a0, an, ?_⟩
    refine ⟨_, rfl, _, rfl, r, dx, _, rfl, ho, r, n, ms, ss, rfl, R1.row, b, 0, n, rfl, b0, bn, ?_⟩
    refine ⟨_, rfl, _, rfl, r, t, n, l, m, g, ms, ss, rfl, R1.row, R1.tup, R1.big, ?_⟩
    refine while_by (fun σ H' => ∃ x y i j, σ = [some (.ref r), some (.ref t), some (.int x), some (.int y)] ∧ Same H H' ∧ x ≤ n ∧ y ≤ n ∧ (Met (nx n ms ss l m g) n a b i j x y ∨ Met (nx n ms ss l m g) n a b i j y x))
      (muMe n) ⟨a, b, 0, 0, rfl, s1, an, bn, .inl Met.start⟩ ?_ (fun σ H Q Q' hQ h => by repeat' (first | exact hQ _ _ h | (obtain ⟨x, h⟩ := h; refine ⟨x, ?_⟩)))
    rintro σ H' ⟨x, y, i, j, rfl, s2, xn, yn, M⟩
    have R2 := hR.same s2
    refine ⟨_, rfl, _, rfl, rfl, _, rfl, ?_⟩
    by_cases c : x = y
    · refine ifF (by rw [c]; simp) ?_
      refine ⟨_, rfl, q H' x s2 ?_⟩
      subst c
      rcases M with M | M <;> exact ⟨i, j, M.ex, M.ey, M.na, M.nb⟩
    · refine ifT (by simp; exact fun z => c z) ?_
      refine ⟨_, rfl, _, rfl, _, rfl, _, rfl, _, _, rfl, ?_⟩
      refine ⟨r, t, n, l, m, g, _, ms, ss, rfl, R2.row, R2.tup, R2.good, fun H3 s3 => ?_⟩
      refine ⟨_, rfl, _, rfl, _, _, rfl, ?_⟩
      by_cases d : x < y
      · rw [if_neg (by omega), if_pos (by omega)]
        have mu : (n - nx n ms ss l m g x).toNat + (n - y).toNat < (n - x).toNat + (n - y).toNat := by
          have := ST.gt (show x < n by omega)
          have := ST.le x
          omega
        rcases M with M | M
        · exact ⟨_, _, rfl, ⟨_, _, i + 1, j, rfl, s2.trans s3, ST.le _, yn, .inl (M.next ST d yn)⟩, mu⟩
        · exact ⟨_, _, rfl, ⟨_, _, i, j + 1, rfl, s2.trans s3, ST.le _, yn, .inr (M.swap.next ST d yn).swap⟩, mu⟩
      · have d' : y < x := by omega
        rw [if_pos (by omega), if_neg (by omega)]
        have mu : (n - nx n ms ss l m g y).toNat + (n - x).toNat < (n - x).toNat + (n - y).toNat := by
          have := ST.gt (show y < n by omega)
          have := ST.le y
          omega
        rcases M with M | M
        · exact ⟨_, _, rfl, ⟨_, _, i, j + 1, rfl, s2.trans s3, ST.le _, xn,   .inr (M.swap.next ST d' xn).swap⟩, mu⟩
        · exact ⟨_, _, rfl, ⟨_, _, i + 1, j, rfl, s2.trans s3, ST.le _, xn, .inl (M.next ST d' xn)⟩, mu⟩
end
end Cw
namespace Cw
open PySem L2
theorem take_fil {ns : List Int} {i : Nat} {z : Int} (h : ns[i]? = some z) (p : Int → Bool) : (ns.take (i + 1)).filter p = (ns.take i).filter p ++ (if p z = true then [z] else []) := by
  rw [List.take_add_one, h, List.filter_append]
  congr 1
  show List.filter p [z] = _
  rw [List.filter_cons]
  rfl
/-- a raw row with its three numbers -/
def RawS (H : Hp) (p : Addr) (n : Int) (prs : List (Int × Int)) (l m g : Int) : Prop := ∃ lp t ts, H p = some (.tup [.int n, .ref lp, .ref t]) ∧ H lp = some (.lst (ts.map V.ref)) ∧ PrAt H ts prs ∧ H t = some (.tup [.int l, .int m, .int g])
theorem RawS.raw {H : Hp} {p : Addr} {n : Int} {prs : List (Int × Int)} {l m g : Int} (r : RawS H p n prs l m g) : RawAt H p n prs := by
  obtain ⟨lp, t, ts, h1, h2, h3, _⟩ := r
  exact ⟨lp, t, ts, h1, h2, h3⟩
theorem RawS.but {H H' : Hp} {p a : Addr} {k : Nat} {n : Int} {prs : List (Int × Int)} {l m g : Int} (r : RawS H p n prs l m g) (J : JarAt H a k) (s : But H H' a) : RawS H' p n prs l m g := by
  obtain ⟨lp, t, ts, h1, h2, h3, h4⟩ := r
  refine ⟨lp, t, ts, s _ _ h1 (J.no h1 fun _ _ _ z => nomatch z), s _ _ h2 (J.no h2 fun r m n z => ?_), h3.imp fun t p h => s _ _ h (J.no h fun _ _ _ z => nomatch z), s _ _ h4 (J.no h4 fun _ _ _ z => nomatch z)⟩
  injection z with z
  cases ts with
  | nil => cases z
  | cons t ts => cases z
def spSmall : Sp := fun vs H Q _ => ∃ (a : Addr) (k : Nat) (mo : Int), vs = [.ref a, .int mo] ∧ 1 ≤ mo ∧ mo ≤ 40 ∧ JarAt H a (k + 60) ∧ ∀ (p : Addr) (H' : Hp) (n l m g : Int) (prs : List (Int × Int)), n ≤ mo → GoodP n prs → prs.length ≤ 39 → RawS H' p n prs l m g → SetOk l m g → n ≤ 200 * l → g ≤ 40 → JarAt H' a k → But H H' a → Q (.ref p) H'
theorem asc_snoc {ms : List Int} {z : Int} (h : Asc ms) (k : ∀ x ∈ ms, x < z) : Asc (ms ++ [z]) := by
  rw [Asc, List.pairwise_append]
  refine ⟨h, List.pairwise_singleton _ _, fun x hx y hy => ?_⟩
  rw [List.mem_singleton.mp hy]
  exact k x hx
/-- what the loop has found: the pairs, all below the place i -/
structure Found (i : Int) (prs : List (Int × Int)) : Prop where
  rng : ∀ q ∈ prs, 1 ≤ q.1 ∧ q.1 < i ∧ (q.2 = 1 ∨ q.2 = 2)
  asc : Asc (prs.map (·.1))
theorem Found.nil (i : Int) : Found i [] := ⟨fun _ h => (nomatch h), List.Pairwise.nil⟩
theorem Found.up {i : Int} {prs : List (Int × Int)} (h : Found i prs) : Found (i + 1) prs := by
  refine ⟨fun q hq => ?_, h.asc⟩
  have := h.rng q hq
  omega
theorem Found.snoc {i : Int} {prs : List (Int × Int)} {z : Int} (h : Found i prs) (h0 : 1 ≤ i) (hz : z = 1 ∨ z = 2) : Found (i + 1) (prs ++ [(i, z)]) := by
  refine ⟨fun q hq => ?_, ?_⟩
  · rcases List.mem_append.mp hq with hq | hq
    · have := h.rng q hq
      omega
    · rw [List.mem_singleton.mp hq]
      refine ⟨h0, ?_, hz⟩
      show i < i + 1
      omega
  · rw [List.map_append]
    refine asc_snoc h.asc fun x hx => ?_
    obtain ⟨q, hq, rfl⟩ := List.mem_map.mp hx
    exact (h.rng q hq).2.1
section
variable {P : Program} {w : World} {K : PySem.W.Frag} {mg : Str → Option Value} {base : Heap}
abbrev NSm : List Str := ["jar", "most", "length", "way", "found", "spot", "kind"]
theorem scSm : FnScope NSm ["jar", "most"] (defScope sSmall) := ⟨rfl, rfl, rfl, by decide +kernel, rfl, by decide +kernel, by decide +kernel⟩
theorem ok_small {f fD fT : Addr} {fd fdD fdT : FuncData} (F : Fun K "_law_small" "_law_small" sSmall f fd) (T : Bl mg)
    (gD : mg "_law_dip" = some (.ref fD)) (kD : PySem.W.keepIn K (.ref fD) = true) (bD : Binds K fdD ["jar", "many"] []) (GD : FnOk P w K mg base CX0 1 fD fdD ["jar", "many"] spDip)
    (gT : mg "_law_three" = some (.ref fT)) (kT : PySem.W.keepIn K (.ref fT) = true) (bT : Binds K fdT ["jar", "wide"] []) (GT : FnOk P w K mg base CX0 2 fT fdT ["jar", "wide"] spThree) :
    FnOk P w K mg base CX0 3 f fd ["jar", "most"] spSmall := by
  refine F.ok scSm (fun vs H Q E h => ?_) (fun cdv A outer s H vs Q E hr h => ?_)
  · obtain ⟨a, k, mo, rfl, _⟩ := h
    rfl
  · obtain ⟨a, k, mo, rfl, mo1, mo2, J, q⟩ := h
    have hr1 : Room 1 (A.deeper (PyProof.Rows.envOfC "_law_small" (defScope sSmall) s.heap.objs.size f cdv)) := hr.mono (by decide)
    refine ⟨_, pss_cons (ps_par3 (i := 2) (j := 3) (l := 4) rfl scSm.nd rfl rfl rfl (by decide) (by decide) (by decide) rfl rfl rfl (pa_cons (pe_op op_add pe_int (pe_call GD hr1 rfl gD kD bD .nil pass0 (pa_cons (pv 0) (pa_cons (pv 1) pa_nil)))) (pa_cons (pe_call GD hr1 rfl gD kD bD .nil pass0 (pa_cons (pv 0) (pa_cons pe_int pa_nil))) (pa_cons (pe_lst pa_nil) pa_nil))) (by rfl))
      (pss_cons (ps_for PassesOwn.never rfl (pi_range2 (by rfl) T.range (pa_cons pe_int (pa_cons (pv 2) pa_nil))) (pg_name (i := 5) scSm.nd rfl (Or.inl rfl))
        (pss_cons (ps_set (i := 6) scSm.nd rfl (Or.inl rfl) (pe_ifExp (pt_cmpR op_eq (pv 3) pe_int (nomark _)) (pe_op op_add pe_int (pe_call GD hr1 rfl gD kD bD .nil pass0 (pa_cons (pv 0) (pa_cons pe_int pa_nil))))
            (pe_callB (call_max2 rfl) (by rfl) T.max (by decide +kernel) (pa_cons pe_int (pa_cons (pe_op op_sub (pe_call GD hr1 rfl gD kD bD .nil pass0 (pa_cons (pv 0) (pa_cons pe_int pa_nil))) pe_int) pa_nil)))))
        (pss_one (ps_if (PW.pt (pw_and (pt_cmpR op_gt (pv 6) pe_int (nomark _)) (pw_and1 (pt_cmpR op_ne (pv 3) pe_int (nomark _)))))
          (pss_one (ps_expr (pe_bm PySem.F.plainAttrs_list PySem.F.slot_list_append PySem.F.type_list_append mt_append (pv 4) (pa_cons (pe_tup (pa_cons (pv 5) (pa_cons (pv 6) pa_nil))) pa_nil)))) pss_nil))))
      (pss_one (ps_ret (pe_tup (pa_cons (pv 2) (pa_cons (pv 4) (pa_cons (pe_call GT hr rfl gT kT bT .nil pass0 (pa_cons (pv 0) (pa_cons pe_int pa_nil))) pa_nil))))))), ?_⟩
    refine ⟨_, rfl, _, rfl, a, k + 59, mo, rfl, J, by omega, by omega, fun v1 H1 a1 b1 J1 B1 => ⟨_, _, rfl, rfl, ?_⟩⟩
    refine ⟨_, rfl, a, k + 58, 5, rfl, J1, by decide, by decide, fun v2 H2 a2 b2 J2 B2 => ⟨Nat.zero_le _, fun l hl => ⟨_, _, _, rfl, ?_⟩⟩⟩
    have nla : a ≠ l := J2.ne hl
    have nl : H l = none := none_of (fun c o e => by
      by_cases z : c = a
      · obtain ⟨r, m, n, e', _⟩ := J2
        exact ⟨_, by rw [z]; exact e'⟩
      · exact ⟨o, (B1.trans B2) _ _ e z⟩) hl
    refine ⟨_, rfl, _, _, rfl, ⟨by decide, by decide, by omega, by omega⟩, for_range (lo := 1) (n := (1 + v1 - 1).toNat) (fun i σ H' => ∃ (v5 v6 : Option V) (ts : List Addr) (prs : List (Int × Int)),
        σ = [some (.ref a), some (.int mo), some (.int (1 + v1)), some (.int v2), some (.ref l), v5, v6] ∧ JarAt H' a (k + 7 + (50 - i)) ∧ But H H' a ∧ H' l = some (.lst (ts.map V.ref)) ∧ PrAt H' ts prs ∧ Found (1 + i) prs ∧ prs.length ≤ i)
      ⟨none, none, [], [], rfl, (J2.put nla).mono (by omega), (B1.trans B2).new hl, upd_same, .nil, Found.nil _, Nat.le_refl _⟩ ?_ ?_⟩
    · rintro i σ H' hi ⟨v5, v6, ts, prs, rfl, J', B', hL, hP, hF, hlen⟩
      have Jd : JarAt H' a (k + 7 + (50 - (i + 1)) + 1) := J'.mono (by omega)
      refine ⟨_, rfl, rfl, _, rfl, ?_⟩
      refine ite2 (fun hv => ?ga) (fun hv => ?gb)
      case' ga =>
        refine ⟨_, rfl, a, _, 2, rfl, Jd, by decide, by decide, fun v3 H3 a3 b3 J3 B3 => ⟨_, _, rfl, rfl, ?_⟩⟩
        have z0 : 0 ≤ 1 + v3 := by omega
        have z2 : 1 + v3 ≤ 2 := by omega
        dsimp only
        generalize 1 + v3 = z at z0 z2 ⊢
      case' gb =>
        refine ⟨_, rfl, a, _, 5, rfl, Jd, by decide, by decide, fun v3 H3 a3 b3 J3 B3 => ⟨_, _, rfl, rfl, _, _, rfl, ?_⟩⟩
        have z0 : 0 ≤ (if v3 - 2 > 0 then v3 - 2 else 0) := by split <;> omega
        have z2 : (if v3 - 2 > 0 then v3 - 2 else 0) ≤ 2 := by split <;> omega
        dsimp only
        generalize (if v3 - 2 > 0 then v3 - 2 else 0) = z at z0 z2 ⊢
      all_goals
        have hL3 : H3 l = some (.lst (ts.map V.ref)) := B3 _ _ hL nla.symm
        have hP3 : PrAt H3 ts prs := hP.imp fun t p h => B3 _ _ h (J'.no h (fun _ _ _ y => nomatch y))
        have stay : ∃ (v5 v6 : Option V) (ts : List Addr) (prs : List (Int × Int)), [some (V.ref a), some (V.int mo), some (V.int (1 + v1)), some (V.int v2), some (V.ref l), some (V.int (1 + (i : Int))), some (V.int z)] = [some (V.ref a), some (V.int mo), some (V.int (1 + v1)), some (V.int v2), some (V.ref l), v5, v6] ∧ JarAt H3 a (k + 7 + (50 - (i + 1))) ∧ But H H3 a ∧ H3 l = some (.lst (ts.map V.ref)) ∧ PrAt H3 ts prs ∧ Found (1 + ((i + 1 : Nat) : Int)) prs ∧ prs.length ≤ i + 1 :=
          ⟨_, _, ts, prs, rfl, J3, B'.trans B3, hL3, hP3, by have := hF.up; rwa [show (1 : Int) + ((i + 1 : Nat) : Int) = 1 + i + 1 by omega], by omega⟩
        refine ⟨_, rfl, _, _, rfl, rfl, _, rfl, ?_⟩
        by_cases c1 : z > 0
        · refine ifT (decide_eq_true c1) ?_
          refine ⟨_, rfl, rfl, _, rfl, ?_⟩
          by_cases c2 : v2 = 1
          · refine ifF (by simp [c2]) ?_
            exact stay
          · refine ifT (by simp [c2]) ?_
            refine ⟨_, rfl, .inl ⟨rfl, _, SqL.of hL3⟩, _, rfl, _, rfl, (by show 2 ≤ sizeLine; decide), fun t ht => ?_⟩
            have nlt : l ≠ t := ne_of_none hL3 ht
            have hts := hP3.len
            refine ⟨l, _, _, rfl, rfl, by rw [upd_ne nlt]; exact hL3, by rw [List.length_map]; exact small1000 (by omega), ?_⟩
            refine ⟨_, _, ts ++ [t], prs ++ [(1 + (i : Int), z)], rfl, ((J3.put (J3.ne ht)).put nla), ?_, ?_, ?_, ?_, ?_⟩
            · exact ((B'.trans B3).new ht).put nl
            · rw [upd_same, List.map_append]
              rfl
            · refine PrAt.app (hP3.imp fun u p h => ?_) (.cons ?_ .nil)
              · rw [upd_ne (ne_of h hL3 (by intro y; cases y)), upd_ne (ne_of_none h ht)]
                exact h
              · rw [upd_ne (Ne.symm nlt)]
                exact upd_same
            · have := hF.snoc (z := z) (by omega) (by omega)
              rwa [show (1 : Int) + ((i + 1 : Nat) : Int) = 1 + i + 1 by omega]
            · rw [List.length_append]
              exact Nat.succ_le_succ hlen
        · refine ifF (decide_eq_false c1) ?_
          refine ifF rfl ?_
          exact stay
    · rintro σ H' ⟨v5, v6, ts, prs, rfl, J', B', hL, hP, hF, hlen⟩
      have hlen' : prs.length ≤ 39 := by omega
      refine ⟨_, rfl, _, rfl, _, rfl, a, k, 4, rfl, J'.mono (by omega), by decide, by decide, fun p H3 x y g x1 x2 y1 y2 g1 g2 J3 B3 hp _ => ⟨(by show 3 ≤ sizeLine; decide), fun r hr' => ?_⟩⟩
      have s3 : Same H3 (upd H3 r (.tup [.int (1 + v1), .ref l, .ref p])) := same_new (Same.refl H3) hr'
      refine q r _ (1 + v1) x y g prs (by omega) ⟨by omega, by omega, fun w hw => ?_, hF.asc⟩ hlen' ⟨l, p, ts, upd_same, s3 _ _ (B3 _ _ hL nla.symm), hP.imp fun t w h => s3 _ _ (B3 _ _ h (J'.no h (fun _ _ _ y => nomatch y))), s3 _ _ hp⟩ ⟨x1, y1, g1⟩ (by omega) (by omega) (J3.put (J3.ne hr')) ((B'.trans B3).new hr')
      have z := hF.rng w hw
      exact ⟨z.1, by omega, z.2.2⟩
end
end Cw
namespace Cw
open PySem L2
def spGreat : Sp := fun vs H Q _ => ∃ (a : Addr) (k : Nat) (mo : Int), vs = [.ref a, .int mo] ∧ 1 ≤ mo ∧ mo ≤ 40 ∧ JarAt H a (k + 120) ∧ ∀ (p : Addr) (H' : Hp) (n l m g : Int) (prs : List (Int × Int)), GoodP n prs → prs.length ≤ 16 → RawS H' p n prs l m g → SetOk l m g → n ≤ 200 * l → g ≤ 10000000000000000000000000000 → JarAt H' a k → But H H' a → Q (.ref p) H'
theorem none_but {H H' : Hp} {a l : Addr} {k : Nat} (J : JarAt H' a k) (B : But H H' a) (h : H' l = none) : H l = none := none_of (fun c o e => by
  by_cases z : c = a
  · obtain ⟨r, m, n, e', _⟩ := J
    exact ⟨_, by rw [z]; exact e'⟩
  · exact ⟨o, B _ _ e z⟩) h
theorem at4 {z x y u v : Int} (h0 : 0 ≤ z) (h1 : z < 4) : ∃ r, atI [V.int x, V.int y, V.int u, V.int v] z = some (V.int r) := by
  obtain ⟨r, e, m⟩ := at_lt (xs := [V.int x, V.int y, V.int u, V.int v]) h0 (by simpa using h1)
  simp only [List.mem_cons, List.not_mem_nil, or_false] at m
  rcases m with rfl | rfl | rfl | rfl <;> exact ⟨_, e⟩
theorem at2b {x y : Int} (c : Bool) : ∃ r, atI [V.int x, V.int y] (if c = true then 1 else 0) = some (V.int r) := by
  cases c
  · exact ⟨x, rfl⟩
  · exact ⟨y, rfl⟩
section
variable {P : Program} {w : World} {K : PySem.W.Frag} {mg : Str → Option Value} {base : Heap}
abbrev NG : List Str := ["jar", "most", "three", "length", "spots", "spot", "turn", "gap", "inner", "one"]
theorem scGr : FnScope NG ["jar", "most"] (defScope sGreat) := ⟨rfl, rfl, rfl, by decide +kernel, rfl, by decide +kernel, by decide +kernel⟩
theorem ok_great {f fD fT : Addr} {fd fdD fdT : FuncData} (F : Fun K "_law_great" "_law_great" sGreat f fd) (T : Bl mg)
    (gD : mg "_law_dip" = some (.ref fD)) (kD : PySem.W.keepIn K (.ref fD) = true) (bD : Binds K fdD ["jar", "many"] []) (GD : FnOk P w K mg base CX0 1 fD fdD ["jar", "many"] spDip)
    (gT : mg "_law_three" = some (.ref fT)) (kT : PySem.W.keepIn K (.ref fT) = true) (bT : Binds K fdT ["jar", "wide"] []) (GT : FnOk P w K mg base CX0 2 fT fdT ["jar", "wide"] spThree) :
    FnOk P w K mg base CX0 3 f fd ["jar", "most"] spGreat := by
  refine F.ok scGr (fun vs H Q E h => ?_) (fun cdv A outer s H vs Q E hr h => ?_)
  · obtain ⟨a, k, mo, rfl, _⟩ := h
    rfl
  · obtain ⟨a, k, mo, rfl, mo1, mo2, J, q⟩ := h
    have hr1 : Room 1 (A.deeper (PyProof.Rows.envOfC "_law_great" (defScope sGreat) s.heap.objs.size f cdv)) := hr.mono (by decide)
    refine ⟨_, pss_cons (ps_set (i := 2) scGr.nd rfl (Or.inl rfl) (pe_call GT hr rfl gT kT bT .nil pass0 (pa_cons (pv 0) (pa_cons (pe_ix ix_list (pe_lst (pa_cons (pe_op op_pow pe_int pe_int) (pa_cons (pe_op op_pow pe_int pe_int) (pa_cons (pe_op op_pow pe_int pe_int) pa_nil))))
          (pe_call GD hr1 rfl gD kD bD .nil pass0 (pa_cons (pv 0) (pa_cons pe_int pa_nil))) (fun _ _ => rfl)) pa_nil))))
      (pss_cons (ps_set (i := 3) scGr.nd rfl (Or.inr rfl) (pe_op op_add pe_int (pe_call GD hr1 rfl gD kD bD .nil pass0 (pa_cons (pv 0) (pa_cons (pe_op op_mul (pe_op op_add pe_int (pe_call GD hr1 rfl gD kD bD .nil pass0 (pa_cons (pv 0) (pa_cons (pv 1) pa_nil)))) (pe_ix ix_tup (pv 2) pe_int (fun _ _ => rfl))) pa_nil)))))
      (pss_cons (ps_par (i := 4) (j := 5) rfl scGr.nd rfl rfl (by decide) rfl rfl (pa_cons (pe_lst pa_nil) (pa_cons pe_int pa_nil)) (by rfl))
      (pss_cons (ps_for PassesOwn.never rfl (pi_range1 (by rfl) T.range (pa_cons (pe_call GD hr1 rfl gD kD bD .nil pass0 (pa_cons (pv 0) (pa_cons pe_int pa_nil))) pa_nil)) (pg_name (i := 6) scGr.nd rfl (Or.inl rfl))
        (pss_cons (ps_set (i := 7) scGr.nd rfl (Or.inl rfl) (pe_ix ix_list (pe_lst (pa_cons (pe_ix ix_tup (pv 2) pe_int (fun _ _ => rfl)) (pa_cons (pe_ix ix_tup (pv 2) pe_int (fun _ _ => rfl)) (pa_cons (pe_ix ix_tup (pv 2) pe_int (fun _ _ => rfl))
            (pa_cons (pe_op op_add pe_int (pe_call GD hr1 rfl gD kD bD .nil pass0 (pa_cons (pv 0) (pa_cons (pe_op op_mul pe_int (pe_ix ix_tup (pv 2) pe_int (fun _ _ => rfl))) pa_nil)))) pa_nil)))))
            (pe_call GD hr1 rfl gD kD bD .nil pass0 (pa_cons (pv 0) (pa_cons pe_int pa_nil))) (fun _ _ => rfl)))
        (pss_cons (ps_set (i := 5) scGr.nd rfl (Or.inl rfl) (pe_op op_add (pe_ix ix_list (pe_lst (pa_cons (pv 5) (pa_cons (pe_call GD hr1 rfl gD kD bD .nil pass0 (pa_cons (pv 0) (pa_cons (pv 3) pa_nil))) pa_nil)))
            (pe_callTy call_int1 (by rfl) T.int (by decide +kernel) (pa_cons (pe_cmpR op_eq (pe_call GD hr1 rfl gD kD bD .nil pass0 (pa_cons (pv 0) (pa_cons pe_int pa_nil))) pe_int (nomark _)) pa_nil)) (fun _ _ => rfl))
            (pe_callB (call_max2 rfl) (by rfl) T.max (by decide +kernel) (pa_cons pe_int (pa_cons (pe_op op_sub (pe_op op_add (pv 7) (pe_call GD hr1 rfl gD kD bD .nil pass0 (pa_cons (pv 0) (pa_cons pe_int pa_nil)))) pe_int) pa_nil)))))
        (pss_one (ps_expr (pe_bm PySem.F.plainAttrs_list PySem.F.slot_list_append PySem.F.type_list_append mt_append (pv 4) (pa_cons (pv 5) pa_nil)))))))
      (pss_cons (ps_setLc (i := 8) (own := [("one", 9)]) (g := gName 9) rfl scGr.nd rfl rfl (sw_true rfl rfl rfl (by decide +kernel)) (pi_list (pe_callB (cr_sortedSet rfl) (by rfl) T.sorted (by decide +kernel) (pa_cons (pe_callTy (cr_setOf rfl) (by rfl) T.set (by decide +kernel) (pa_cons (pv 4) pa_nil)) pa_nil)))
          (blkOk_by (own := [("one", 9)]) (N := NG) (sc := defScope sGreat) (by decide +kernel)) (fun _ _ _ _ _ => pg_name (i := 9) scGr.nd rfl (Or.inl rfl)) (fun _ _ _ _ _ => pts_one (pt_chain op_lt op_lt pe_int (pv 9) (pv 3))) (fun _ _ _ _ _ => pv 9))
      (pss_one (ps_ret (pe_tup (pa_cons (pv 3) (pa_cons (pe_lc (own := [("one", 9)]) (g := gName 9) (tt := tYes) rfl scGr.nd (pi_list (pv 8)) (blkOk_by (own := [("one", 9)]) (N := NG) (sc := defScope sGreat) (by decide +kernel)) (fun _ _ _ _ _ => pg_name (i := 9) scGr.nd rfl (Or.inl rfl)) (fun _ _ _ _ _ => pts_nil)
          (fun _ _ _ _ _ => pe_tup (pa_cons (pv 9) (pa_cons (pe_op op_add pe_int (pe_call GD hr1 rfl gD kD bD .nil pass0 (pa_cons (pv 0) (pa_cons pe_int pa_nil)))) pa_nil)))) (pa_cons (pv 2) pa_nil)))))))))), ?_⟩
    have t3 : (0 : Int) < 3 ∧ (3 : Int) < 2 ^ 120 := ⟨by decide, by decide⟩
    refine ⟨_, rfl, _, _, rfl, rfl, ⟨by decide, by decide, by decide⟩, _, _, rfl, rfl, ⟨by decide, by decide, by decide⟩, _, _, rfl, rfl, ⟨by decide, by decide, by decide⟩, (by show 3 ≤ sizeLine; decide), fun p hp => ?_⟩
    have np : a ≠ p := J.ne hp
    refine ⟨_, rfl, a, k + 119, 3, rfl, J.put np, t3.1, t3.2, fun v1 H1 a1 b1 J1 B1 => ?_⟩
    obtain ⟨W, e1, c1⟩ := at3 (x := 10 ^ Int.toNat 3) (y := 10 ^ Int.toNat 15) (u := 10 ^ Int.toNat 27) a1 b1
    refine ⟨p, _, _, _, rfl, rfl, SqL.of (B1 _ _ upd_same np.symm), e1, ?_⟩
    have w0 : 1000 ≤ W ∧ W ≤ 10 ^ 27 := by
      have z1 : (10 : Int) ^ Int.toNat 3 = 1000 := by decide +kernel
      have z2 : (10 : Int) ^ Int.toNat 15 = 1000000000000000 := by decide +kernel
      have z3 : (10 : Int) ^ Int.toNat 27 = 1000000000000000000000000000 := by decide +kernel
      have z4 : (10 : Int) ^ 27 = 1000000000000000000000000000 := by decide +kernel
      omega
    have z4 : (10 : Int) ^ 27 = 1000000000000000000000000000 := by decide +kernel
    have z5 : (2 : Int) ^ 120 = 1329227995784915872903807060280344576 := by decide +kernel
    refine ⟨a, k + 112, W, rfl, J1, by omega, by omega, fun p3 H2 x y g hx1 hx2 hy1 hy2 hg1 hg2 J2 B2 hp3 _ => ?_⟩
    have B02 := ((But.refl H a).new hp).trans (B1.trans B2)
    have npa : p3 ≠ a := J2.no hp3 (fun _ _ _ z => nomatch z)
    refine ⟨_, rfl, _, rfl, _, rfl, a, k + 111, mo, rfl, J2, by omega, by omega, fun v2 H3 a2 b2 J3 B3 => ⟨_, _, rfl, rfl, ?_⟩⟩
    have hp3' : H3 p3 = some (.tup [.int x, .int y, .int g]) := B3 _ _ hp3 npa
    have mp : 0 < (1 + v2) * x := Int.mul_pos (by omega) (by omega)
    have mu : (1 + v2) * x ≤ 40 * x := Int.mul_le_mul_of_nonneg_right (by omega) (by omega)
    refine ⟨_, rfl, p3, _, _, _, rfl, rfl, SqT.of hp3', at_of2 (j := 0) rfl rfl, _, _, rfl, rfl, .inl ⟨by omega, by omega⟩, ?_⟩
    refine ⟨a, k + 110, (1 + v2) * x, rfl, J3, mp, by omega, fun v3 H4 a3 b3 J4 B4 => ⟨_, _, rfl, rfl, ?_⟩⟩
    have B04 := (B02.trans B3).trans B4
    have hp4 := B4 _ _ hp3' npa
    refine ⟨Nat.zero_le _, fun l hl => ⟨_, _, rfl, ?_⟩⟩
    have nla : a ≠ l := J4.ne hl
    have npl : p3 ≠ l := ne_of_none hp4 hl
    have nl : H l = none := none_but J4 B04 hl
    refine ⟨_, rfl, a, k + 109, 17, rfl, J4.put nla, by decide, by decide, fun v4 H5 a4 b4 J5 B5 => ⟨_, rfl, by omega, by omega, ?_⟩⟩
    have B05 := (B04.new (o := .lst []) hl).trans B5
    refine for_range (lo := 0) (n := v4.toNat) (fun i σ H' => ∃ (sp : Int) (v6 v7 v8 v9 : Option V) (sps : List Int),
        σ = [some (.ref a), some (.int mo), some (.ref p3), some (.int (1 + v3)), some (.ref l), some (.int sp), v6, v7, v8, v9] ∧ JarAt H' a (k + 20 + 5 * (17 - i)) ∧ But H H' a ∧ H' p3 = some (.tup [.int x, .int y, .int g]) ∧ IL H' l sps ∧ sps.length = i)
      ⟨0, none, none, none, none, [], rfl, J5.mono (by omega), B05, B5 _ _ (by rw [upd_ne npl]; exact hp4) npa, B5 _ _ upd_same nla.symm, rfl⟩ ?_ ?_
    · rintro i σ H' hi ⟨sp, v6, v7, v8, v9, sps, rfl, J', B', h3, hL, hlen⟩
      have hi16 : i < 16 := by omega
      have Jd : JarAt H' a (k + 20 + 5 * (17 - (i + 1)) + 5) := J'.mono (by omega)
      generalize k + 20 + 5 * (17 - (i + 1)) = kk at Jd ⊢
      refine ⟨_, rfl, p3, _, _, _, rfl, rfl, SqT.of h3, at_of2 (j := 0) rfl rfl, _, rfl, p3, _, _, _, rfl, rfl, SqT.of h3, at_of2 (j := 1) rfl rfl, _, rfl, p3, _, _, _, rfl, rfl, SqT.of h3, at_of2 (j := 2) rfl rfl, ?_⟩
      refine ⟨_, rfl, _, rfl, p3, _, _, _, rfl, rfl, SqT.of h3, at_of2 (j := 2) rfl rfl, _, _, rfl, rfl, .inl ⟨by decide, by decide⟩, ?_⟩
      refine ⟨a, kk + 4, 2 * g, rfl, Jd, by omega, by omega, fun u1 G1 _ _ K1 C1 => ⟨_, _, rfl, rfl, (by show 4 ≤ sizeLine; decide), fun q1 hq1 => ?_⟩⟩
      have nq1 : a ≠ q1 := K1.ne hq1
      refine ⟨_, rfl, a, kk + 3, 4, rfl, K1.put nq1, by decide, by decide, fun u2 G2 d0 d1 K2 C2 => ?_⟩
      obtain ⟨gap, e2⟩ := at4 (x := x) (y := y) (u := g) (v := 1 + u1) d0 d1
      refine ⟨q1, _, _, _, rfl, rfl, SqL.of (C2 _ _ upd_same nq1.symm), e2, ?_⟩
      have D2 := (C1.new (o := .lst [.int x, .int y, .int g, .int (1 + u1)]) hq1).trans C2
      refine ⟨_, rfl, _, rfl, _, rfl, a, kk + 2, 1 + v3, rfl, K2, by omega, by omega, fun u3 G3 _ _ K3 C3 => ⟨(by show 2 ≤ sizeLine; decide), fun q2 hq2 => ?_⟩⟩
      have nq2 : a ≠ q2 := K3.ne hq2
      refine ⟨_, rfl, a, kk + 1, 3, rfl, K3.put nq2, t3.1, t3.2, fun u4 G4 _ _ K4 C4 => ⟨rfl, .inr ⟨_, rfl, ?_⟩⟩⟩
      obtain ⟨s1, e3⟩ := at2b (x := sp) (y := u3) (decide (V.int u4 = V.int 0))
      refine ⟨q2, _, _, _, rfl, rfl, SqL.of (C4 _ _ upd_same nq2.symm), e3, ?_⟩
      refine ⟨_, rfl, _, rfl, a, kk, 3, rfl, K4, t3.1, t3.2, fun u5 G5 _ _ K5 C5 => ⟨_, _, rfl, rfl, _, _, rfl, rfl, _, _, rfl, _, _, rfl, rfl, ?_⟩⟩
      have D5 := (((D2.trans C3).new (o := .lst [.int sp, .int u3]) hq2).trans C4).trans C5
      have hL5 : IL G5 l sps := D5 _ _ hL nla.symm
      have hp5 := D5 _ _ h3 npa
      refine ⟨_, rfl, .inl ⟨rfl, _, SqL.of hL5⟩, _, rfl, l, _, _, rfl, rfl, hL5, by rw [List.length_map]; exact small1000 (by omega), ?_⟩
      refine ⟨_, _, _, _, _, sps ++ [s1 + (if gap + u5 - 1 > 0 then gap + u5 - 1 else 0)], rfl, K5.put nla, (B'.trans D5).put nl, by rw [upd_ne npl]; exact hp5, ?_, by rw [List.length_append, hlen]; rfl⟩
      show upd _ _ _ l = _
      rw [upd_same, ints_app]
    · rintro σ H' ⟨sp, v6, v7, v8, v9, sps, rfl, J', B', h3, hL, hlen⟩
      have hl16 : sps.length ≤ 16 := by omega
      refine ⟨_, rfl, l, sps, rfl, SqL.of hL, by omega, fun ps c hc hps => ⟨ps, _, _, rfl, upd_same, by omega, fun ns2 ps2 asc mem len hps2 => ⟨ps2, rfl, ⟨_, SqL.of upd_same⟩, fun D hD => ?_⟩⟩⟩
      have S2 := same_new (o := .lst (ns2.map V.int)) (same_new (o := SetO w ps (fun j => decide (j ∈ sps)) c) (Same.refl H') hps) hps2
      have hN2 : IL (upd (upd H' ps (SetO w ps (fun j => decide (j ∈ sps)) c)) ps2 (.lst (ns2.map V.int))) ps2 ns2 := upd_same
      have n2D : ps2 ≠ D := ne_of_none hN2 hD
      have nD' : H' D = none := S2.free hD
      refine lc_list (K := K) (a := ps2) (xs := ns2.map V.int) (fun i H2 => Same H' H2 ∧ IL H2 ps2 ns2 ∧ IL H2 D ((ns2.take i).filter (fun x => decide (0 < x) && decide (x < 1 + v3)))) ⟨same_new S2 hD, by show upd _ _ _ ps2 = _; rw [upd_ne n2D]; exact hN2, upd_same⟩ (fun i H2 _ z => SqL.of z.2.1) ?_ ?_
      · rintro i x' H2 hx ⟨s1, hP, hE⟩
        obtain ⟨z, rfl, hz⟩ := il_at hx
        have hil : i < ns2.length := (List.getElem?_eq_some_iff.mp hz).1
        have tf := take_fil hz (fun x => decide (0 < x) && decide (x < 1 + v3))
        have sm : (List.map V.int ((ns2.take i).filter (fun x => decide (0 < x) && decide (x < 1 + v3)))).length < sizeLine := by
          rw [List.length_map]
          have z1 := List.length_filter_le (fun x => decide (0 < x) && decide (x < 1 + v3)) (ns2.take i)
          rw [List.length_take] at z1
          exact small1000 (by omega)
        refine ⟨rfl, ?_⟩
        refine ⟨_, rfl, _, _, rfl, rfl, _, rfl, ?_⟩
        by_cases c1 : 0 < z
        · refine ifT (decide_eq_true c1) ?_
          refine ⟨_, rfl, _, _, rfl, rfl, _, rfl, ?_⟩
          by_cases c2 : z < 1 + v3
          · refine ifT (decide_eq_true c2) ?_
            refine ⟨_, rfl, _, hE, sm, same_put s1 nD', by show upd _ _ _ ps2 = _; rw [upd_ne n2D]; exact hP, ?_⟩
            show upd _ _ _ D = _
            rw [upd_same, ints_app, tf]
            simp [c1, c2]
          · refine ifF (decide_eq_false c2) ?_
            refine ⟨s1, hP, ?_⟩
            show H2 D = _
            rw [hE, tf]
            simp [c2]
        · refine ifF (decide_eq_false c1) ?_
          refine ⟨_, rfl, ?_⟩
          refine ifF rfl ?_
          refine ⟨s1, hP, ?_⟩
          show H2 D = _
          rw [hE, tf]
          simp [c1]
      · rintro H2 ⟨s1, hP, hE⟩
        rw [List.length_map, List.take_length] at hE
        generalize hins : ns2.filter (fun x => decide (0 < x) && decide (x < 1 + v3)) = ins at hE
        have iasc : Asc ins := by
          rw [← hins]
          exact asc.filter _
        have ilen : ins.length ≤ 16 := by
          have z1 := List.length_filter_le (fun x => decide (0 < x) && decide (x < 1 + v3)) ns2
          rw [hins] at z1
          omega
        have irng : ∀ x ∈ ins, 0 < x ∧ x < 1 + v3 := fun x hx => by
          rw [← hins] at hx
          have z1 := (List.mem_filter.mp hx).2
          simpa using z1
        have JD : JarAt H2 a (k + 20) := (J'.same s1).mono (by omega)
        have BD : But H H2 a := B'.trans (But.of s1)
        have nDa : D ≠ a := fun e => (J'.ne nD') e.symm
        refine ⟨_, rfl, _, rfl, D, rfl, ⟨_, SqL.of hE⟩, fun D2 hD2 => ?_⟩
        have nDD : D ≠ D2 := ne_of_none hE hD2
        have naD2 : a ≠ D2 := JD.ne hD2
        have nD2 : H D2 = none := none_but JD BD hD2
        refine lc_list (K := K) (a := D) (xs := ins.map V.int) (fun i H3 => ∃ (ts : List Addr) (prs : List (Int × Int)), JarAt H3 a (k + (20 - i)) ∧ But H2 H3 a ∧ IL H3 D ins ∧ H3 D2 = some (.lst (ts.map V.ref)) ∧ PrAt H3 ts prs ∧ prs.map (·.1) = ins.take i ∧ ∀ q ∈ prs, q.2 = 1 ∨ q.2 = 2)
          ⟨[], [], JD.put naD2, (But.refl H2 a).new hD2, by show upd _ _ _ D = _; rw [upd_ne nDD]; exact hE, upd_same, .nil, rfl, fun _ h => (nomatch h)⟩ (fun i H3 _ ⟨ts, prs, z⟩ => SqL.of z.2.2.1) ?_ ?_
        · rintro i x' H3 hx ⟨ts, prs, K1, C1, hF, hG, hPr, hfst, hk⟩
          obtain ⟨z, rfl, hz⟩ := il_at hx
          have hil : i < ins.length := (List.getElem?_eq_some_iff.mp hz).1
          have Kd : JarAt H3 a (k + (20 - (i + 1)) + 1) := K1.mono (by omega)
          refine ⟨rfl, ?_⟩
          unfold tYes
          refine iteT ?_
          refine ⟨_, rfl, _, rfl, a, _, 2, rfl, Kd, by decide, by decide, fun u G u0 u1 K2 C2 => ⟨_, _, rfl, rfl, (by show 2 ≤ sizeLine; decide), fun t ht => ?_⟩⟩
          have hG2 := C2 _ _ hG naD2.symm
          have hF2 := C2 _ _ hF nDa
          have hP2 : PrAt G ts prs := hPr.imp fun t p h => C2 _ _ h (K1.no h (fun _ _ _ y => nomatch y))
          have ntD2 : D2 ≠ t := ne_of_none hG2 ht
          have hts : ts.length = i := by
            rw [hPr.len, ← List.length_map (f := (·.1)), hfst, List.length_take]
            omega
          refine ⟨_, (by rw [upd_ne ntD2]; exact hG2), by rw [List.length_map]; exact small1000 (by omega), ts ++ [t], prs ++ [(z, 1 + u)], (K2.put (K2.ne ht)).put naD2, ((C1.trans C2).new ht).put hD2, ?_, ?_, ?_, ?_, ?_⟩
          · show upd _ _ _ D = _
            rw [upd_ne nDD, upd_ne (ne_of_none hF2 ht)]
            exact hF2
          · rw [upd_same, List.map_append]
            rfl
          · refine PrAt.app (hP2.imp fun v p h => ?_) (.cons ?_ .nil)
            · rw [upd_ne (ne_of h hG2 (by intro y; cases y)), upd_ne (ne_of_none h ht)]
              exact h
            · rw [upd_ne (Ne.symm ntD2)]
              exact upd_same
          · rw [List.map_append, hfst, List.take_add_one, hz]
            rfl
          · intro q hq
            rcases List.mem_append.mp hq with hq | hq
            · exact hk q hq
            · rw [List.mem_singleton.mp hq]
              show 1 + u = 1 ∨ 1 + u = 2
              omega
        · rintro H3 ⟨ts, prs, K1, C1, hF, hG, hPr, hfst, hk⟩
          rw [List.length_map, List.take_length] at hfst
          have pl : prs.length = ins.length := by rw [← hfst, List.length_map]
          refine ⟨_, rfl, (by show 3 ≤ sizeLine; decide), fun r hr' => ?_⟩
          have s3 : Same H3 (upd H3 r (.tup [.int (1 + v3), .ref D2, .ref p3])) := same_new (Same.refl H3) hr'
          have hp6 := C1 _ _ (s1 _ _ h3) npa
          refine q r _ (1 + v3) x y g prs ⟨by omega, by omega, fun y hy => ?_, by rw [hfst]; exact iasc⟩ (by omega) ⟨D2, p3, ts, upd_same, s3 _ _ hG, hPr.imp fun t y h => s3 _ _ h, s3 _ _ hp6⟩ ⟨hx1, hy1, hg1⟩ (by omega) (by omega) ((K1.mono (by omega)).put (K1.ne hr')) ((BD.trans C1).new hr')
          have z1 := irng y.1 (by rw [← hfst]; exact List.mem_map.mpr ⟨y, hy, rfl⟩)
          exact ⟨by omega, by omega, hk y hy⟩
end
end Cw
namespace Cw
open PySem PySem.Spec PyProof.Rows L2
/-! ## defs of which it is known that no list's text is being made around them -/
structure FnG (P : Program) (w : World) (K : PySem.W.Frag) (mg : Str → Option Value) (base : Heap) (k : Nat) (f : Addr) (fd : FuncData) (ps : List Str) (sp : Sp) : Prop where
  len : ∀ vs H Q E, sp vs H Q E → vs.length = ps.length
  run : ∀ (A : Around) (outer : List Env) (s : Shared) (H : Hp) (args : Args) (us : List Value) (vs : List V) (Q : VK) (E : XK), Room k A → A.guards = some [] → Env0 P w K mg base A outer s H → BindsTo s fd args (ps.zip us) → Vals vs us → sp vs H Q E →
    codeAny (model P w) A (.call (.ref f) args) (CR CX0 outer P w H s Q E) s
theorem FnG.of {P : Program} {w : World} {K : PySem.W.Frag} {mg : Str → Option Value} {base : Heap} {k : Nat} {f : Addr} {fd : FuncData} {ps : List Str} {sp : Sp} (F : FnOk P w K mg base CX0 k f fd ps sp) : FnG P w K mg base k f fd ps sp :=
  ⟨F.len, fun A outer s H args us vs Q E hr _ => F.run A outer s H args us vs Q E hr⟩
section
variable {P : Program} {w : World} {K : PySem.W.Frag} {mg : Str → Option Value} {base : Heap}
theorem okG {x qual : Str} {st : Stmt} {f : Addr} {fd : FuncData} {N ps : List Str} {k : Nat} {sp : Sp} (F : Fun K x qual st f fd) (S : FnScope N ps (defScope st)) (len : ∀ vs H Q E, sp vs H Q E → vs.length = ps.length)
    (body : ∀ (cdv : Value) (A : Around) (outer : List Env) (s : Shared) (H : Hp) (vs : List V) (Q : VK) (E : XK), Room k (A.deeper (envOfC qual (defScope st) s.heap.objs.size f cdv)) → A.guards = some [] → sp vs H Q E →
      ∃ t, PSs (cxOf CX0 P w K mg base N qual (defScope st) f cdv A outer s H E).nox (defBody st) t ∧ t { nx := fun _ H' => Q .non H', rt := Q } (start N vs) H) : FnG P w K mg base (k + 1) f fd ps sp := by
  obtain ⟨oc, od, kV, doc, pm, an, cdv, ct, osl, rfl, look, hcd⟩ := F.ex
  refine ⟨len, fun A outer s H args us vs Q E room gu env bind rel prom => ?_⟩
  have here : K.In s.heap := env.mod.kin.keeps fun b o e => (env.bs b o e).1
  have free : s.heap.NoLimit := env.mod.nolimit.keeps fun b o e => (env.bs b o e).1
  have kinds : ∀ y ∈ ps.zip us, (defScope st).names.lookup y.1 = some .local ∨ ((defScope st).names.lookup y.1 = some .cell ∧ ((cellsFrom (s.heap.objs.size + 1) (defScope st).names []).lookup y.1).isSome = true) := fun y hy =>
    (S.par y.1 (List.of_mem_zip (show (y.1, y.2) ∈ ps.zip us from hy)).1).imp id fun z => ⟨z, PySem.W.cellsFrom_some _ _ _ (.inl z)⟩
  refine codeAny_call_function room.depth (here _ _ look) rfl S.co S.gen rfl (PySem.W.codeRec_of here hcd) (bind _ _ _ _ (wpAny_newFunctionEnv_cells S.kind kinds fun e he s1 ic => ?_))
  subst he
  obtain ⟨t, ht, hq⟩ := body cdv A outer s H vs Q E (room.deeper _) gu prom
  refine ⟨free.keeps ic.toInCall.keep, codeAny_func (wpAny_mono (ht.nox.run [] s1 (start N vs) H _ (inv_start S room.hd env (len _ _ _ _ prom) rel ic) hq) (fun fl s2 z => ?_) fun _ _ z => z)⟩
  cases fl with
  | ret u =>
    obtain ⟨v, _, H2, J, rv, qq⟩ := z
    exact ⟨v, H2, J.os, J.bare, J.base, J.hok, rv, qq⟩
  | next =>
    obtain ⟨_, H2, J, qq⟩ := z
    exact ⟨V.non, H2, J.os, J.bare, J.base, J.hok, rfl, qq⟩
  | brk =>
    obtain ⟨_, _, _, qq⟩ := z
    exact qq.elim
  | cont =>
    obtain ⟨_, _, _, qq⟩ := z
    exact qq.elim
end
section
variable {X : Cx} {k : Nat} {f : Addr} {fd : FuncData} {ps : List Str} {sp : Sp} {x : Str} {p pos : Pos} {e : Expr} {es : List Expr} {t : TA}
/-- a call of such a def where no list's text is being made -/
theorem pe_callG (F : FnG X.prog X.w X.K X.mg X.base k f fd ps sp) (room : Room k X.A) (gu : X.A.guards = some []) (gl : Gl X x) (hm : X.mg x = some (.ref f)) (kp : PySem.W.keepIn X.K (.ref f) = true) (bi : Binds X.K fd ps [])
    (ha : PA X (e :: es) t) (hdb : (x == ("__debug__" : Str)) = false := by decide) (he : starEach (e :: es) X.env = (false, eval e X.env) :: starEach es X.env := by rfl) (hpl : (backTo pos (starEach es X.env)).any (·.1) = false := by rfl) :
    PE X (.Call (.Name x p) (e :: es) [] pos) (tCall sp [] E0 t) := by
  refine ⟨fun pins s σ H Q I h => wpAny_Call_Name_kw (ld_glob I gl hm (PySem.W.callWith_K (h₀ := X.base) I.ok.mod.kin kp (thn (ha.run pos pins s σ H _ I h) fun us s1 ⟨vs, H1, I1, r, q⟩ => ⟨I1.kIn, ?_⟩) he hpl) hdb)⟩
  have q' : sp vs H1 Q E0 := by
    have z : sp (vs ++ []) H1 Q E0 := q
    rw [List.append_nil] at z
    exact z
  have many : us.length = ps.length := by rw [← r.length]; exact F.len _ _ _ _ q'
  refine wpAny_call (codeAny_mono (F.run X.A X.stack s1 H1 ⟨us, []⟩ us vs Q E0 room gu I1.env0 (by have z := bi s1 us I1.kIn (by rw [List.append_nil]; exact many); rw [List.append_nil] at z; exact z) r q') fun res s2 z => ?_)
  cases res with
  | error er => exact z.elim
  | ok fl =>
    cases fl with
    | ret u => exact I1.after z
    | next => exact z.elim
    | brk => exact z.elim
    | cont => exact z.elim
/-- repr of data: none of its lists is being shown around here -/
def rReprD (K : PySem.W.Frag) : List V → Hp → VK → Prop := fun xs H Q => ∃ a d, xs = [V.ref a] ∧ Dp K H (.ref a) d ∧ d.showable = true ∧ d.hasDict = false ∧ d.depth ≤ 60 ∧ d.shown.length ≤ sizeLine ∧ Q (.str d.shown) H
theorem call_reprD (gu : X.A.guards = some []) (hu : X.A.units + 64 < cLine) : CallR X (.builtin "repr") (rReprD X.K) := by
  intro pins s σ H xs us Q I r h
  obtain ⟨a, d, rfl, hd, sh, nd, dp, sz, q⟩ := h
  obtain ⟨u, rfl, rx⟩ := vals1 r
  obtain rfl : u = Value.ref a := rx
  obtain ⟨as, rd⟩ := Dp.reads I d (.ref a) (.ref a) hd rfl
  exact repr_of_reads' rd sh (fun z => by rw [nd] at z; cases z) gu (by omega) (fun _ _ e => e) (fun h' u tk keep => ⟨.str d.shown, H, I.kept keep, ⟨_, rfl⟩, q⟩) sz
end
end Cw
namespace Cw
open PySem PySem.Spec PyProof.Rows L2
/-- the law's call, its def being one of FnG; H tracks at most the script -/
theorem startG {P : Program} {w : World} {K : PySem.W.Frag} {mg mb : Str → Option Value} {k : Nat} {fa a : Addr} {fd : FuncData} {x : Str} {sp : Sp} {s1 : Shared} {vs : List Value} {ns : List Int}
    (kin : K.In s1.heap) (glob : s1.heap.Ns mainGlobals mg) (bns : s1.heap.Ns builtinsNs mb) (boot : ∀ y : Str, y ≠ "__name__" → mb y = bootBuiltins y) (lim : s1.heap.NoLimit) (gens : s1.gens = #[])
    (scr : s1.heap.get? a = some { cls := .type "list", data := .seq vs.toArray }) (room : Room k callerA)
    (F : ∀ base : Heap, K.In base → base.Ns mainGlobals mg → FnG P w K mg base k fa fd [x] sp) (bind : ∀ (s : Shared) (u : Value), BindsTo s fd ⟨[u], []⟩ [(x, u)])
    (H : Hp) (only : Only H) (prom : sp [.ref a] H (fun v _ => v = .bl true) E0) (hok : HOk P w H s1.heap) (at_ : ∀ b, H b ≠ none → b = a) (off : H a ≠ none → K.lookup a = none) :
    codeAny (model P w) callerA (.call (.ref fa) ⟨[.ref a], []⟩) (fun r s' => r = .ok (.ret (.bool true)) ∧ OldK s1.heap s'.heap ∧ s'.os = s1.os ∧ AllBare s'.gens) s1 := by
  have none_at : ∀ {b : Addr}, b ≠ a → H b = none := fun {b} nb => by
    cases z : H b with
    | none => rfl
    | some o => exact absurd (at_ b (by rw [z]; exact fun y => nomatch y)) nb
  have dicts : ∀ {b : Addr} {m : Str → Option Value}, s1.heap.Ns b m → (hidT s1.heap H).Ns b m := fun {b m} ⟨o, es, ep, e, d, r⟩ => by
    refine ⟨o, es, ep, hidT_get e (none_at fun z => ?_), d, r⟩
    rw [z, scr] at e
    cases e
    exact nomatch (show Data.seq vs.toArray _ = Data.dict es ep from d)
  have kin2 : K.In (hidT s1.heap H) := fun b o e => by
    refine hidT_get (kin b o e) ?_
    by_cases nb : b = a
    · subst nb
      cases z : H b with
      | none => rfl
      | some y =>
        rw [off (by rw [z]; exact fun y => nomatch y)] at e
        cases e
    · exact none_at nb
  obtain ⟨mc, lm1, lm2⟩ := lim
  have e0 : Env0 P w K mg (hidT s1.heap H) callerA [] s1 H := ⟨rfl, ⟨kin2, dicts glob, ⟨mb, dicts bns, boot⟩, ⟨mc, dicts lm1, lm2⟩⟩, fun _ _ e => of_hidT e, Nat.le_of_eq (hidT_size _ _), trivial, fun b hb => (List.not_mem_nil hb).elim, hok, .of_eq gens⟩
  refine codeAny_mono ((F _ kin2 (dicts glob)).run callerA [] s1 H ⟨[.ref a], []⟩ [.ref a] [.ref a] _ E0 room rfl e0 (bind s1 (.ref a)) (.cons rfl .nil) prom) fun res s2 z => ?_
  cases res with
  | error er => exact z.elim
  | ok fl =>
    cases fl with
    | next => exact z.elim
    | brk => exact z.elim
    | cont => exact z.elim
    | ret u =>
      obtain ⟨v, H2, os, bare, un, hok2, rel, q⟩ := z
      have qv : v = .bl true := q
      subst qv
      obtain rfl : u = Value.bool true := rel
      refine ⟨rfl, OldK.of_keep fun b o e => ?_, os, bare⟩
      rcases only b with nb | ⟨ob, xs, fz⟩
      · exact un.keep b o e nb (fun y => (List.not_mem_nil y).elim) (fun y => (List.not_mem_nil y).elim)
      · obtain ⟨h1, _⟩ := hok b _ fz
        obtain ⟨h2, _⟩ := hok2 b _ (un.frzs b ob _ fz)
        rw [e] at h1
        cases h1
        exact h2
theorem callG {P : Program} {w : World} {K : PySem.W.Frag} {mg mb : Str → Option Value} {k : Nat} {fa a : Addr} {fd : FuncData} {x : Str} {sp : Sp} {s1 : Shared} {vs : List Value} {ns : List Int}
    (kin : K.In s1.heap) (glob : s1.heap.Ns mainGlobals mg) (bns : s1.heap.Ns builtinsNs mb) (boot : ∀ y : Str, y ≠ "__name__" → mb y = bootBuiltins y) (lim : s1.heap.NoLimit) (gens : s1.gens = #[])
    (scr : s1.heap.get? a = some { cls := .type "list", data := .seq vs.toArray }) (nts : IntsAre vs ns) (few : ns.length ≤ sizeLine) (room : Room k callerA)
    (F : ∀ base : Heap, K.In base → base.Ns mainGlobals mg → FnG P w K mg base k fa fd [x] sp) (bind : ∀ (s : Shared) (u : Value), BindsTo s fd ⟨[u], []⟩ [(x, u)])
    (prom : ∀ H : Hp, Only H → SqL K H a (ns.map V.int) → sp [.ref a] H (fun v _ => v = .bl true) E0) :
    codeAny (model P w) callerA (.call (.ref fa) ⟨[.ref a], []⟩) (fun r s' => r = .ok (.ret (.bool true)) ∧ OldK s1.heap s'.heap ∧ s'.os = s1.os ∧ AllBare s'.gens) s1 := by
  have rel := vals_ints nts
  have many : vs.length = ns.length := nts.length
  cases hk : K.lookup a with
  | some o =>
    have e := kin a o hk
    rw [scr] at e
    cases e
    have on : Only fun _ => none := fun _ => .inl rfl
    exact startG (ns := ns) kin glob bns boot lim gens scr room F bind (fun _ => none) on (prom _ on (.inr ⟨_, vs.toArray, _, hk, rfl, rfl, rfl, by rw [List.size_toArray, many]; exact few, by simpa using rel⟩)) (fun _ _ z => nomatch z) (fun _ z => (z rfl).elim) fun z => (z rfl).elim
  | none =>
    obtain ⟨H, hH⟩ : ∃ H : Hp, H = fun b => if b = a then some (.frz { cls := .type "list", data := .seq vs.toArray } (.lst (ns.map V.int))) else none := ⟨_, rfl⟩
    have atA : H a = some (.frz { cls := .type "list", data := .seq vs.toArray } (.lst (ns.map V.int))) := by rw [hH]; exact if_pos rfl
    have els : ∀ b, b ≠ a → H b = none := fun b nb => by rw [hH]; exact if_neg nb
    have on : Only H := fun b => by
      by_cases nb : b = a
      · exact .inr ⟨_, _, by rw [nb]; exact atA⟩
      · exact .inl (els b nb)
    refine startG (ns := ns) kin glob bns boot lim gens scr room F bind H on (prom H on (.inl (.inr ⟨_, atA⟩))) (fun b u z => ?_) (fun b z => ?_) fun _ => hk
    · by_cases nb : b = a
      · subst nb
        rw [atA] at z
        cases z
        exact ⟨scr, by rw [List.length_map]; exact few, vs, _, rel, scr⟩
      · rw [els b nb] at z
        cases z
    · by_cases nb : b = a
      · exact nb
      · exact (z (els b nb)).elim
/-- the walk of a law whose def is one of FnG -/
theorem walkG {l : PySem.W.OpenLaw} {n k : Nat} {q : Program} {loose : List Str} {XP : (Str → Option Value) → Heap → Prop} {YP : World → Heap → Prop} {d : DefRec} {K : Params → PySem.W.Frag} {sp : World → Sp} {x : Str}
    (most : l.most = some n) (n2 : n ≤ sizeLine) (dfl : d.params.defaults = []) (room : Room k callerA) (hY : ∀ (w : World) (h : Heap), YP w h → (K w.params).In h)
    (F : ∀ (w : World) (mg : Str → Option Value) (fa : Addr) (h : Heap), (K w.params).In h → h.Ns mainGlobals mg → mg d.name = some (.ref fa) →
      ∃ fd : FuncData, (∀ (s : Shared) (u : Value), BindsTo s fd ⟨[u], []⟩ [(x, u)]) ∧ ∀ base : Heap, (K w.params).In base → base.Ns mainGlobals mg → FnG l.prog w (K w.params) mg base k fa fd [x] (sp w))
    (prom : ∀ (w : World) (H : Hp) (a : Addr) (ns : List Int), ns.length ≤ n → Only H → SqL (K w.params) H a (ns.map V.int) → sp w [.ref a] H (fun v _ => v = .bl true) E0) :
    PySem.W.WalkO q loose XP YP l.row.toRowW d [] (fun f vs => PySem.call f vs) := by
  refine Att.attach_call most dfl fun w s0 s1 mg mb fa o pm cd doc a vs ns G Y ho hd hcd hmg scr nts few gens => ?_
  have kin := hY w _ Y
  obtain ⟨fd, bi, FF⟩ := F w mg fa _ kin G.T.g hmg
  exact callG kin G.T.g G.T.b G.T.builtins G.T.nolimit gens scr nts (Nat.le_trans few n2) room FF bi fun H on hs => prom w H a ns few on hs
end Cw
namespace Cw
open PySem L2
def RowOff (C : Addr) (H : Hp) (a p : Addr) (n : Int) (ms ss : List Int) : Prop := ∃ dx l1 l2, H p = some (.ins C dx (flds n l1 l2)) ∧ IL H l1 ms ∧ IL H l2 ss ∧ l1 ≠ a ∧ l2 ≠ a
theorem RowNew.off {C : Addr} {H H' : Hp} {p a : Addr} {k : Nat} {n : Int} {ms ss : List Int} (r : RowNew C H H' p n ms ss) (J : JarAt H a k) : RowOff C H' a p n ms ss := by
  obtain ⟨dx, l1, l2, h1, h2, h3, n1, n2⟩ := r
  exact ⟨dx, l1, l2, h1, h2, h3, (J.ne n1).symm, (J.ne n2).symm⟩
theorem RowOff.at {C : Addr} {H : Hp} {p a : Addr} {n : Int} {ms ss : List Int} (r : RowOff C H a p n ms ss) : RowAt C H p n ms ss := by
  obtain ⟨dx, l1, l2, h1, h2, h3, _⟩ := r
  exact ⟨dx, l1, l2, h1, h2, h3⟩
theorem RowOff.but {C : Addr} {H H' : Hp} {p a : Addr} {k : Nat} {n : Int} {ms ss : List Int} (r : RowOff C H a p n ms ss) (J : JarAt H a k) (B : But H H' a) : RowOff C H' a p n ms ss := by
  obtain ⟨dx, l1, l2, h1, h2, h3, n1, n2⟩ := r
  exact ⟨dx, l1, l2, B _ _ h1 (J.no h1 fun _ _ _ z => nomatch z), B _ _ h2 n1, B _ _ h3 n2, n1, n2⟩
/-- a row and settings that stay while the jar is drawn from -/
structure RwO (C : Addr) (H : Hp) (a r t : Addr) (n l m g : Int) (ms ss : List Int) : Prop where
  row : RowOff C H a r n ms ss
  tup : H t = some (.tup [.int l, .int m, .int g])
  good : Good n ms ss
  set : SetOk l m g
  big : n ≤ 200 * l
theorem RwO.rws {C : Addr} {H : Hp} {a r t : Addr} {n l m g : Int} {ms ss : List Int} (R : RwO C H a r t n l m g ms ss) : RwS C H r t n l m g ms ss := ⟨R.row.at, R.tup, R.good, R.set, R.big⟩
theorem RwO.but {C : Addr} {H H' : Hp} {a r t : Addr} {k : Nat} {n l m g : Int} {ms ss : List Int} (R : RwO C H a r t n l m g ms ss) (J : JarAt H a k) (B : But H H' a) : RwO C H' a r t n l m g ms ss :=
  ⟨R.row.but J B, B _ _ R.tup (J.no R.tup fun _ _ _ z => nomatch z), R.good, R.set, R.big⟩
theorem inV_il {z : Int} {ns : List Int} : inV (.int z) (ns.map V.int) = decide (z ∈ ns) := by
  unfold inV
  induction ns with
  | nil => rfl
  | cons a r ih =>
    rw [List.map_cons, List.any_cons, ih]
    have e : eqV (.int a) (.int z) = decide (a = z) := by
      by_cases c : a = z
      · subst c; simp [eqV]
      · simp [eqV, c]
    rw [e]
    by_cases c : a = z
    · subst c; simp
    · have c' : ¬ z = a := fun h => c h.symm
      simp [c, c']
theorem flat_il {ns : List Int} : (ns.map V.int).all flatV = true := by
  rw [List.all_map]
  exact List.all_eq_true.mpr fun _ _ => rfl
theorem nx_reach {n l m g p : Int} {ms ss : List Int} : nx n ms ss l m g p ≤ p + g := by
  unfold nx
  omega
/-- a comprehension that takes some whole numbers of a list -/
theorem lc_fil {K : PySem.W.Frag} {a D : Addr} {ns : List Int} {g : TG} {tt : TT} {te : TE} {vs : List Nat} {σ : St} {H1 : Hp} {Qd : Hp → Prop} (f : Int → Bool)
    (ha : IL H1 a ns) (hD : H1 D = none) (few : ns.length ≤ 999)
    (step : ∀ (z : Int) (H : Hp) (A : V → Hp → Prop) (B : Hp → Prop), Same H1 H → (f z = true → A (.int z) H) → (f z = false → B H) →
      g (.int z) (wipe σ vs) H fun σ2 H2 => wipe σ2 vs = wipe σ vs ∧ tt σ2 H2 fun b H3 => if b = true then te σ2 H3 fun y H4 => A y H4 else B H3)
    (fin : ∀ (H : Hp), Same H1 H → IL H D (ns.filter f) → Qd H) :
    ∃ W : Nat → Nat → Hp → Prop, (∃ m, W 0 m (upd H1 D (HO.lst []))) ∧ ∀ (i m : Nat) (H : Hp), W i m H → (Itl K a).stop i H ∧ Qd H ∨ (Itl K a).go i H ∧ ∃ Nx : Hp → Prop, (∀ H', Nx H' → ∃ m', m' < m ∧ W (i + 1) m' H') ∧
      ∀ (x : V) (H' : Hp), (Itl K a).yld i H x H' → g x (wipe σ vs) H' fun σ2 H2 => wipe σ2 vs = wipe σ vs ∧ tt σ2 H2 fun b H3 => if b = true then te σ2 H3 fun y H4 => ∃ acc, H4 D = some (HO.lst acc) ∧ acc.length < sizeLine ∧ Nx (upd H4 D (HO.lst (acc ++ [y]))) else Nx H3 := by
  refine lc_list (K := K) (a := a) (xs := ns.map V.int) (fun i H' => Same H1 H' ∧ IL H' D ((ns.take i).filter f)) ⟨same_new (Same.refl H1) hD, upd_same⟩ (fun i H' _ z => SqL.of (z.1 _ _ ha)) ?_ ?_
  · rintro i x H' hx ⟨s1, hE⟩
    obtain ⟨z, rfl, hz⟩ := il_at hx
    have hil := (List.getElem?_eq_some_iff.mp hz).1
    have tk := take_fil hz f
    have ln : ((ns.take i).filter f).length ≤ 999 := by
      have z1 := List.length_filter_le f (ns.take i)
      rw [List.length_take] at z1
      omega
    refine step z H' _ _ s1 (fun c => ?_) (fun c => ?_)
    · refine ⟨_, hE, by rw [List.length_map]; exact small1000 (by omega), same_put s1 hD, ?_⟩
      show upd _ _ _ D = _
      rw [upd_same, ints_app, tk, if_pos c]
    · refine ⟨s1, ?_⟩
      show H' D = _
      rw [hE, tk, if_neg (by rw [c]; exact Bool.false_ne_true), List.append_nil]
  · rintro H ⟨s1, hE⟩
    rw [List.length_map, List.take_length] at hE
    exact fin H s1 hE
theorem near_at {ks : List Int} {z : Int} (h0 : 0 ≤ z) (h1 : z < (ks.map V.int).length) : ∃ v, atI (ks.map V.int) z = some (V.int v) ∧ v ∈ ks := by
  obtain ⟨v, e, m⟩ := at_lt h0 h1
  obtain ⟨y, hy, rfl⟩ := List.mem_map.mp m
  exact ⟨y, e, hy⟩
theorem refs_no {ts : List Addr} : ∀ r m n : Int, HO.lst (ts.map V.ref) ≠ .lst [.int r, .int m, .int n] := fun r m n z => by
  injection z with z
  cases ts with
  | nil => cases z
  | cons t ts => cases z
theorem same_but {H0 H1 H' : Hp} {p : Addr} (s : Same H0 H1) (n : H0 p = none) (b : But H1 H' p) : Same H0 H' := fun c o e => b c o (s c o e) (ne_of_none e n)
/-- what is said of == of rows -/
structure Eqs (P : Program) (w : World) (K : PySem.W.Frag) (mg : Str → Option Value) (base : Heap) (C fE : Addr) (fdE : FuncData) : Prop where
  ok : FnOk P w K mg base CX0 1 fE fdE ["self", "other"] (spEq (Alike C))
  hm : PySem.W.mroIn K C (.type "object") = some true
  hn : PySem.W.findIn K (.ref C) "__ne__" = some (some (.builtin "object.__ne__"))
  hs : PySem.W.findIn K (.ref C) "__eq__" = some (some (.ref fE))
  hf : PySem.W.isFn K (.ref fE) = true
  hb : Binds K fdE ["self", "other"] []
theorem alike_ins {C : Addr} {H : Hp} {a b : Addr} {n : Int} {ms ss : List Int} (r : RowAt C H a n ms ss) (q : RowAt C H b n ms ss) : DIns C (Alike C) (.ref a) (.ref b) H := by
  obtain ⟨dx, l1, l2, h1, h2, h3⟩ := id r
  obtain ⟨dy, m1, m2, g1, g2, g3⟩ := id q
  exact ⟨a, b, dx, dy, _, _, rfl, rfl, h1, g1, n, ms, ss, r, q⟩
end Cw
namespace Cw
open PySem L2
abbrev sSlow : Stmt := top 34
/-! ## the next cut, place by place -/
def Srv (prs : List (Int × Int)) (p m z : Int) : Prop := (z, 2) ∈ prs ∨ ((z, 1) ∈ prs ∧ z ≥ p + m)
theorem mem_marks {prs : List (Int × Int)} {n x : Int} (G : GoodP n prs) : x ∈ marksOf prs ↔ (x, 1) ∈ prs ∨ (x, 2) ∈ prs := by
  constructor
  · intro h
    obtain ⟨q, hq, rfl⟩ := List.mem_map.mp h
    obtain ⟨q1, q2⟩ := q
    rcases (G.rng _ hq).2.2 with e | e
    · exact .inl (by rw [show q2 = 1 from e] at hq; exact hq)
    · exact .inr (by rw [show q2 = 2 from e] at hq; exact hq)
  · rintro (h | h) <;> exact List.mem_map.mpr ⟨_, h, rfl⟩
theorem mem_strict {prs : List (Int × Int)} {x : Int} : x ∈ strictOf prs ↔ (x, 2) ∈ prs := by
  constructor
  · intro h
    obtain ⟨q, hq, rfl⟩ := List.mem_map.mp h
    obtain ⟨h1, h2⟩ := List.mem_filter.mp hq
    obtain ⟨q1, q2⟩ := q
    have e : q2 = 2 := of_decide_eq_true h2
    rw [e] at h1
    exact h1
  · intro h
    exact List.mem_map.mpr ⟨_, List.mem_filter.mpr ⟨h, decide_eq_true rfl⟩, rfl⟩
theorem nx_found {n l m g p z : Int} {prs : List (Int × Int)} (G : GoodP n prs) (S : SetOk l m g) (h1 : p + l ≤ z) (h2 : z < p + g) (h3 : z < n) (h : Srv prs p m z) (no : ∀ y, p + l ≤ y → y < z → ¬ Srv prs p m y) : nx n (marksOf prs) (strictOf prs) l m g p = z := by
  have l1 := S.l1
  have lm := S.lm
  have Gd := G.good
  have a : z ≤ fm (strictOf prs) (p + l) n := by
    rcases fm_or Gd.asc2 (p + l) n with ⟨k1, k2⟩ | ⟨k1, _⟩
    · by_cases c : fm (strictOf prs) (p + l) n < z
      · exact absurd (.inl (mem_strict.mp k1)) (no _ k2 c)
      · omega
    · omega
  have b : z ≤ fm (marksOf prs) (p + m) n := by
    rcases fm_or Gd.asc (p + m) n with ⟨k1, k2⟩ | ⟨k1, _⟩
    · by_cases c : fm (marksOf prs) (p + m) n < z
      · rcases (mem_marks G).mp k1 with k | k
        · exact absurd (.inr ⟨k, k2⟩) (no _ (by omega) c)
        · exact absurd (.inl k) (no _ (by omega) c)
      · omega
    · omega
  have c : fm (strictOf prs) (p + l) n ≤ z ∨ fm (marksOf prs) (p + m) n ≤ z := by
    rcases h with h | ⟨h, hz⟩
    · exact .inl (fm_le Gd.asc2 (mem_strict.mpr h) h1)
    · exact .inr (fm_le Gd.asc ((mem_marks G).mpr (.inl h)) hz)
  unfold nx
  omega
theorem nx_none {n l m g p : Int} {prs : List (Int × Int)} (G : GoodP n prs) (S : SetOk l m g) (no : ∀ y, p + l ≤ y → y < p + g → y < n → ¬ Srv prs p m y) : nx n (marksOf prs) (strictOf prs) l m g p = min (p + g) n := by
  have l1 := S.l1
  have lm := S.lm
  have Gd := G.good
  have a : min (p + g) n ≤ fm (strictOf prs) (p + l) n := by
    rcases fm_or Gd.asc2 (p + l) n with ⟨k1, k2⟩ | ⟨k1, _⟩
    · by_cases c : fm (strictOf prs) (p + l) n < min (p + g) n
      · exact absurd (.inl (mem_strict.mp k1)) (no _ k2 (by omega) (by omega))
      · omega
    · omega
  have b : min (p + g) n ≤ fm (marksOf prs) (p + m) n := by
    rcases fm_or Gd.asc (p + m) n with ⟨k1, k2⟩ | ⟨k1, _⟩
    · by_cases c : fm (marksOf prs) (p + m) n < min (p + g) n
      · rcases (mem_marks G).mp k1 with k | k
        · exact absurd (.inr ⟨k, k2⟩) (no _ (by omega) (by omega) (by omega))
        · exact absurd (.inl k) (no _ (by omega) (by omega) (by omega))
      · omega
    · omega
  unfold nx
  omega
/-! ## pairs as data -/
abbrev dP (q : Int × Int) : PyData := .tuple [.int q.1, .int q.2]
theorem dp_pair {K : PySem.W.Frag} {H : Hp} {t : Addr} {q : Int × Int} (h : H t = some (.tup [.int q.1, .int q.2])) : Dp K H (.ref t) (dP q) := .tup (SqT.of h) (.cons (.int _) (.cons (.int _) .nil))
theorem dps_pairs {K : PySem.W.Frag} {H : Hp} : ∀ {ts : List Addr} {ps : List (Int × Int)}, PrAt H ts ps → DpAll K H (ts.map V.ref) (ps.map dP)
  | _, _, .nil => .nil
  | _, _, .cons h r => .cons (dp_pair h) (dps_pairs r)
theorem lay_pairs : ∀ ps : List (Int × Int), PyData.canLayAll0 (ps.map dP) = true := fun ps => by
  induction ps with
  | nil => rfl
  | cons q r ih =>
    rw [List.map_cons]
    unfold PyData.canLayAll0
    rw [ih]
    rfl
theorem depth_pairs : ∀ ps : List (Int × Int), PyData.depthAll (ps.map dP) ≤ 3 := fun ps => by
  induction ps with
  | nil => exact Nat.zero_le _
  | cons q r ih =>
    rw [List.map_cons]
    unfold PyData.depthAll
    have e : PyData.depth (dP q) ≤ 3 := by
      have z : PyData.depth (dP q) = PyData.depth (.tuple [.int 0, .int 0]) := rfl
      rw [z]
      decide +kernel
    omega
theorem shape_pairs (ps : List (Int × Int)) : SeqAt.shaped (.list (ps.map dP)) = true := by
  have h1 : PyData.canLay0 (.list (ps.map dP)) = true := by
    unfold PyData.canLay0
    exact lay_pairs ps
  have h2 : PyData.depth (.list (ps.map dP)) ≤ 64 := by
    have z := depth_pairs ps
    unfold PyData.depth
    omega
  unfold SeqAt.shaped
  rw [h1, decide_eq_true h2]
  rfl
theorem shape_pair (q : Int × Int) : SeqAt.shaped (dP q) = true := by
  have z : SeqAt.shaped (dP q) = SeqAt.shaped (.tuple [.int 0, .int 0]) := rfl
  rw [z]
  decide +kernel
theorem any_pairs {q : Int × Int} {ps : List (Int × Int)} : ((ps.map dP).any fun z => PyData.eqv z (dP q)) = decide (q ∈ ps) := by
  induction ps with
  | nil => rfl
  | cons y r ih =>
    rw [List.map_cons, List.any_cons, ih]
    have e : PyData.eqv (dP y) (dP q) = decide (y = q) := by
      obtain ⟨y1, y2⟩ := y
      obtain ⟨q1, q2⟩ := q
      simp only [dP, PyData.eqv, PyData.eqvAll]
      by_cases c1 : y1 = q1 <;> by_cases c2 : y2 = q2 <;> simp [c1, c2]
    rw [e]
    by_cases c : y = q
    · subst c; simp
    · have c' : ¬ q = y := fun h => c h.symm
      simp [c, c']
def spSlow : Sp := fun vs H Q _ => ∃ (p : Addr) (n l m g z : Int) (prs : List (Int × Int)), vs = [.ref p, .int z] ∧ RawS H p n prs l m g ∧ GoodP n prs ∧ SetOk l m g ∧ 0 ≤ z ∧ z ≤ 1000000 ∧ n ≤ 1000 ∧ g ≤ 1000000 ∧
  ∀ H', Same H H' → Q (.int (nx n (marksOf prs) (strictOf prs) l m g z)) H'
section
variable {P : Program} {w : World} {K : PySem.W.Frag} {mg : Str → Option Value} {base : Heap}
abbrev NSl : List Str := ["raw", "spot", "length", "marked", "three", "goal"]
theorem scSl : FnScope NSl ["raw", "spot"] (defScope sSlow) := ⟨rfl, rfl, rfl, by decide +kernel, rfl, by decide +kernel, by decide +kernel⟩
theorem ok_slow {f : Addr} {fd : FuncData} (F : Fun K "_law_slow" "_law_slow" sSlow f fd) (T : Bl mg) : FnOk P w K mg base CX0 1 f fd ["raw", "spot"] spSlow := by
  refine F.ok scSl (fun vs H Q E h => ?_) (fun cdv A outer s H vs Q E hr h => ?_)
  · obtain ⟨p, n, l, m, g, z, prs, rfl, _⟩ := h
    rfl
  · obtain ⟨p, n, l, m, g, z, prs, rfl, ⟨lp, t, ts, hp, hl, hpr, ht⟩, G, S, z0, z1, n1, g1, q⟩ := h
    have hu : A.units + 3 + 65 < cLine := by have := hr.un; show _ < cLine; exact Nat.lt_of_le_of_lt (by show A.units + 3 + 65 ≤ A.units + 3 + 16 * 0 + 200; omega) this
    refine ⟨_, pss_cons (ps_asg (pv 0) (pg_tup (by rfl) (pgs_cons (pg_name (i := 2) scSl.nd rfl (Or.inl rfl)) (pgs_cons (pg_name (i := 3) scSl.nd rfl (Or.inl rfl)) (pgs_cons (pg_name (i := 4) scSl.nd rfl (Or.inl rfl)) pgs_nil)))))
      (pss_cons (ps_for PassesOwn.never rfl (pi_range2 (by rfl) T.range (pa_cons (pe_op op_add (pv 1) (pe_ix ix_tup (pv 4) pe_int (fun _ _ => rfl))) (pa_cons (pe_callB (call_min2 rfl) (by rfl) T.min (by decide +kernel) (pa_cons (pe_op op_add (pv 1) (pe_ix ix_tup (pv 4) pe_int (fun _ _ => rfl))) (pa_cons (pv 2) pa_nil))) pa_nil))) (pg_name (i := 5) scSl.nd rfl (Or.inl rfl))
        (pss_one (ps_if (PW.pt (pw_or (pt_cmpR (op_inD hu) (pe_tup (pa_cons (pv 5) (pa_cons pe_int pa_nil))) (pv 3) (by rfl))
            (pw_or1 (PW.pt (pw_and (pt_cmpR (op_inD hu) (pe_tup (pa_cons (pv 5) (pa_cons pe_int pa_nil))) (pv 3) (by rfl)) (pw_and1 (pt_cmpR op_ge (pv 5) (pe_op op_add (pv 1) (pe_ix ix_tup (pv 4) pe_int (fun _ _ => rfl))) (nomark _))))))))
          (pss_one (ps_ret (pv 5))) pss_nil)))
      (pss_one (ps_ret (pe_callB (call_min2 rfl) (by rfl) T.min (by decide +kernel) (pa_cons (pe_op op_add (pv 1) (pe_ix ix_tup (pv 4) pe_int (fun _ _ => rfl))) (pa_cons (pv 2) pa_nil)))))), ?_⟩
    have l1 := S.l1
    have lm := S.lm
    have mg' := S.mg
    have n0 := G.pos
    refine ⟨_, rfl, p, _, rfl, SqT.of hp, rfl, ?_⟩
    refine ⟨_, _, rfl, _, _, rfl, _, _, rfl, rfl, ?_⟩
    try dsimp only [L2.start, List.set, List.map, List.append, List.replicate, List.length]
    refine ⟨_, rfl, _, rfl, t, _, _, _, rfl, rfl, SqT.of ht, at_of2 (j := 0) rfl rfl, _, _, rfl, rfl, ?_⟩
    refine ⟨_, rfl, _, rfl, t, _, _, _, rfl, rfl, SqT.of ht, at_of2 (j := 2) rfl rfl, _, _, rfl, rfl, ?_⟩
    refine ⟨_, rfl, _, _, rfl, _, _, rfl, ⟨by omega, by omega, by split <;> omega, by split <;> omega⟩, ?_⟩
    refine for_range (fun i σ H' => ∃ v5 : Option V, σ = [some (.ref p), some (.int z), some (.int n), some (.ref lp), some (.ref t), v5] ∧ Same H H' ∧ ∀ y, z + l ≤ y → y < z + l + i → ¬ Srv prs z m y) ⟨none, rfl, Same.refl H, fun y a b => by omega⟩ ?_ ?_
    · rintro i σ H' hi ⟨v5, rfl, s1, no⟩
      have hil : z + l + i < z + g ∧ z + l + i < n := by
        revert hi
        split <;> omega
      have dl : ∀ H2, Same H H2 → Dp K H2 (.ref lp) (.list (prs.map dP)) := fun H2 s2 => .lst (SqL.of (s2 _ _ hl)) (dps_pairs (hpr.imp fun t p h => s2 _ _ h))
      have nosucc : ¬ Srv prs z m (z + l + i) → ∀ y, z + l ≤ y → y < z + l + ((i + 1 : Nat) : Int) → ¬ Srv prs z m y := fun h y a b => by
        by_cases c : y = z + l + i
        · rw [c]; exact h
        · exact no y a (by omega)
      have fin : ∀ H2, Same H H2 → Srv prs z m (z + l + i) → Q (.int (z + l + i)) H2 := fun H2 s2 h => by
        have w := q H2 s2
        rw [nx_found G S (by omega) hil.1 hil.2 h no] at w
        exact w
      refine ⟨_, rfl, (by show 2 ≤ sizeLine; decide), fun u hu1 => ?_⟩
      have s2 := same_new (o := .tup [.int (z + l + i), .int 2]) s1 hu1
      have hu2 : upd H' u (.tup [.int (z + l + i), .int 2]) u = some (.tup [.int (z + l + i), .int 2]) := upd_same
      generalize upd H' u (.tup [.int (z + l + i), .int 2]) = H2 at s2 hu2 ⊢
      refine ⟨_, rfl, dP (z + l + i, 2), prs.map dP, dp_pair (q := (z + l + i, 2)) hu2, dl _ s2, shape_pair _, shape_pairs _, _, rfl, ?_⟩
      rw [any_pairs]
      refine ite2 (fun hv => ?_) (fun hv => ?_)
      · refine ifT rfl ?_
        exact ⟨_, rfl, fin _ s2 (.inl (of_decide_eq_true hv))⟩
      · refine ⟨_, rfl, (by show 2 ≤ sizeLine; decide), fun u hu1 => ?_⟩
        have s3 := same_new (o := .tup [.int (z + l + i), .int 1]) s2 hu1
        have hu2 : upd H2 u (.tup [.int (z + l + i), .int 1]) u = some (.tup [.int (z + l + i), .int 1]) := upd_same
        generalize upd H2 u (.tup [.int (z + l + i), .int 1]) = H3 at s3 hu2 ⊢
        refine ⟨_, rfl, dP (z + l + i, 1), prs.map dP, dp_pair (q := (z + l + i, 1)) hu2, dl _ s3, shape_pair _, shape_pairs _, _, rfl, ?_⟩
        rw [any_pairs]
        refine ite2 (fun hw => ?_) (fun hw => ?_)
        · refine ⟨_, rfl, _, rfl, _, rfl, t, _, _, _, rfl, rfl, SqT.of (s3 _ _ ht), at_of2 (j := 1) rfl rfl, _, _, rfl, rfl, ?_⟩
          refine ⟨_, _, rfl, rfl, _, rfl, ?_⟩
          refine ite2 (fun hx => ?_) (fun hx => ?_)
          · exact ⟨_, rfl, fin _ s3 (.inr ⟨of_decide_eq_true hw, of_decide_eq_true hx⟩)⟩
          · refine ⟨_, rfl, s3, nosucc fun h => ?_⟩
            rcases h with h | ⟨h1, h2⟩
            · exact hv (decide_eq_true h)
            · exact hx (decide_eq_true h2)
        · refine ifF rfl ?_
          refine ⟨_, rfl, s3, nosucc fun h => ?_⟩
          rcases h with h | ⟨h1, h2⟩
          · exact hv (decide_eq_true h)
          · exact hw (decide_eq_true h1)
    · rintro σ H' ⟨v5, rfl, s1, no⟩
      have e := nx_none G S (p := z) fun y a b c => no y a (by
        split <;> omega)
      refine ⟨_, rfl, _, rfl, t, _, _, _, rfl, rfl, SqT.of (s1 _ _ ht), at_of2 (j := 2) rfl rfl, _, _, rfl, rfl, ?_⟩
      refine ⟨_, rfl, _, _, rfl, ?_⟩
      have w := q H' s1
      rw [e, show min (z + g) n = if n < z + g then n else z + g by split <;> omega] at w
      exact w
end
end Cw
namespace Cw
open PySem L2
abbrev sFar : Stmt := top 36
abbrev sFarW : Stmt := top 37
abbrev sOther : Stmt := top 38
/-! ## the next cut, mark by mark -/
theorem RawS.same {H H' : Hp} {p : Addr} {n : Int} {prs : List (Int × Int)} {l m g : Int} (r : RawS H p n prs l m g) (s : Same H H') : RawS H' p n prs l m g := by
  obtain ⟨lp, t, ts, h1, h2, h3, h4⟩ := r
  exact ⟨lp, t, ts, s _ _ h1, s _ _ h2, h3.imp fun _ _ h => s _ _ h, s _ _ h4⟩
def Hit (p l m g : Int) (q : Int × Int) : Prop := p + (if q.2 = 2 then l else m) ≤ q.1 ∧ q.1 ≤ p + g
theorem no_hit {n l m g p z : Int} {prs : List (Int × Int)} {i : Nat} (G : GoodP n prs) (S : SetOk l m g) (no : ∀ j, j < i → ∀ q, prs[j]? = some q → ¬ Hit p l m g q) (hz : ∀ j, i ≤ j → ∀ q, prs[j]? = some q → z ≤ q.1) (zg : z ≤ p + g) :
    ∀ y, p + l ≤ y → y < z → ¬ Srv prs p m y := by
  have lm := S.lm
  intro y a b h
  have : ∀ k : Int, (y, k) ∈ prs → Hit p l m g (y, k) → False := fun k hm hh => by
    obtain ⟨j, hj, e⟩ := List.mem_iff_getElem.mp hm
    have e' : prs[j]? = some (y, k) := by rw [List.getElem?_eq_getElem hj, e]
    by_cases c : j < i
    · exact no j c _ e' hh
    · have := hz j (by omega) _ e'
      dsimp only at this
      omega
  rcases h with h | ⟨h, h2⟩
  · exact this 2 h ⟨by show p + l ≤ y; exact a, by show y ≤ p + g; omega⟩
  · exact this 1 h ⟨by show p + m ≤ y; omega, by show y ≤ p + g; omega⟩
theorem far_found {n l m g p : Int} {prs : List (Int × Int)} {i : Nat} {q : Int × Int} (G : GoodP n prs) (S : SetOk l m g) (hq : prs[i]? = some q) (hit : Hit p l m g q) (no : ∀ j, j < i → ∀ q, prs[j]? = some q → ¬ Hit p l m g q) : nx n (marksOf prs) (strictOf prs) l m g p = q.1 := by
  have l1 := S.l1
  have lm := S.lm
  have mem := List.mem_of_getElem? hq
  have rg := G.rng q mem
  have up : ∀ j, i ≤ j → ∀ y, prs[j]? = some y → q.1 ≤ y.1 := fun j hj y hy => by
    obtain ⟨li, ei⟩ := List.getElem?_eq_some_iff.mp hq
    obtain ⟨lj, ej⟩ := List.getElem?_eq_some_iff.mp hy
    by_cases c : i = j
    · subst c
      rw [hq] at hy
      cases hy
      omega
    · have z := List.pairwise_iff_getElem.mp G.asc i j (by rw [List.length_map]; exact li) (by rw [List.length_map]; exact lj) (by omega)
      rw [List.getElem_map, List.getElem_map, ei, ej] at z
      omega
  have none := no_hit G S no up hit.2
  have hs : Srv prs p m q.1 := by
    obtain ⟨q1, q2⟩ := q
    rcases rg.2.2 with e | e
    · have e : q2 = 1 := e
      subst e
      have z : p + m ≤ q1 := hit.1
      exact .inr ⟨mem, z⟩
    · have e : q2 = 2 := e
      subst e
      exact .inl mem
  have low : p + l ≤ q.1 := by
    have z := hit.1
    split at z <;> omega
  by_cases c : q.1 < p + g
  · exact nx_found G S low c (by omega) hs none
  · have e : q.1 = p + g := by have := hit.2; omega
    rw [nx_none G S fun y a b d => none y a (by omega)]
    omega
theorem far_none {n l m g p : Int} {prs : List (Int × Int)} (G : GoodP n prs) (S : SetOk l m g) (no : ∀ j, j < prs.length → ∀ q, prs[j]? = some q → ¬ Hit p l m g q) : nx n (marksOf prs) (strictOf prs) l m g p = min (p + g) n :=
  nx_none G S fun y a b _ => no_hit (i := prs.length) (z := p + g) G S no (fun j hj q hq => absurd (List.getElem?_eq_some_iff.mp hq).1 (by omega)) (Int.le_refl _) y a b
def spFar : Sp := fun vs H Q _ => ∃ (p : Addr) (n l m g z : Int) (prs : List (Int × Int)), vs = [.ref p, .int z] ∧ RawS H p n prs l m g ∧ GoodP n prs ∧ SetOk l m g ∧
  ∀ H', Same H H' → Q (.int (nx n (marksOf prs) (strictOf prs) l m g z)) H'
section
variable {P : Program} {w : World} {K : PySem.W.Frag} {mg : Str → Option Value} {base : Heap}
abbrev NFa : List Str := ["raw", "spot", "goal", "kind"]
theorem scFa : FnScope NFa ["raw", "spot"] (defScope sFar) := ⟨rfl, rfl, rfl, by decide +kernel, rfl, by decide +kernel, by decide +kernel⟩
theorem ok_far {f : Addr} {fd : FuncData} (F : Fun K "_law_far" "_law_far" sFar f fd) (T : Bl mg) : FnOk P w K mg base CX0 1 f fd ["raw", "spot"] spFar := by
  refine F.ok scFa (fun vs H Q E h => ?_) (fun cdv A outer s H vs Q E hr h => ?_)
  · obtain ⟨p, n, l, m, g, z, prs, rfl, _⟩ := h
    rfl
  · obtain ⟨p, n, l, m, g, z, prs, rfl, ⟨lp, t, ts, hp, hl, hpr, ht⟩, G, S, q⟩ := h
    refine ⟨_, pss_cons (ps_for PassesOwn.never rfl (pi_list (pe_ix ix_tup (pv 0) pe_int (fun _ _ => rfl))) (pg_tup (by rfl) (pgs_cons (pg_name (i := 2) scFa.nd rfl (Or.inl rfl)) (pgs_cons (pg_name (i := 3) scFa.nd rfl (Or.inl rfl)) pgs_nil)))
        (pss_one (ps_if (pt_chain op_le op_le (pe_op op_add (pv 1) (pe_ix ix_tup (pe_ix ix_tup (pv 0) pe_int (fun _ _ => rfl)) (pe_op op_sub pe_int (pv 3)) (fun _ _ => rfl))) (pv 2) (pe_op op_add (pv 1) (pe_ix ix_tup (pe_ix ix_tup (pv 0) pe_int (fun _ _ => rfl)) pe_int (fun _ _ => rfl))))
          (pss_one (ps_ret (pv 2))) pss_nil)))
      (pss_one (ps_ret (pe_callB (call_min2 rfl) (by rfl) T.min (by decide +kernel) (pa_cons (pe_ix ix_tup (pv 0) pe_int (fun _ _ => rfl)) (pa_cons (pe_op op_add (pv 1) (pe_ix ix_tup (pe_ix ix_tup (pv 0) pe_int (fun _ _ => rfl)) pe_int (fun _ _ => rfl))) pa_nil))))), ?_⟩
    have lt := hpr.len
    refine ⟨_, rfl, p, _, _, _, rfl, rfl, SqT.of hp, at_of2 (j := 1) rfl rfl, lp, rfl, ⟨_, SqL.of hl⟩, ?_⟩
    refine for_list (xs := ts.map V.ref) (fun i σ H' => ∃ (v2 v3 : Option V), σ = [some (.ref p), some (.int z), v2, v3] ∧ Same H H' ∧ ∀ j, j < i → ∀ q, prs[j]? = some q → ¬ Hit z l m g q)
      ⟨_, _, rfl, Same.refl H, fun j hj => absurd hj (Nat.not_lt_zero _)⟩ (fun i σ H' _ ⟨v2, v3, _, s1, _⟩ => SqL.of (s1 _ _ hl)) ?_ ?_
    · rintro i x σ H' hx ⟨v2, v3, rfl, s1, no⟩
      obtain ⟨u, y, rfl, hy, hu⟩ := hpr.get hx
      have rg := (G.rng y (List.mem_of_getElem? hy)).2.2
      refine ⟨u, _, rfl, SqT.of (s1 _ _ hu), rfl, _, _, rfl, _, _, rfl, rfl, ?_⟩
      have a1 : ∃ r : Int, atI [V.int l, V.int m, V.int g] (2 - y.2) = some (V.int r) ∧ r = if y.2 = 2 then l else m := by
        rcases rg with e | e <;> rw [e]
        · exact ⟨m, rfl, rfl⟩
        · exact ⟨l, rfl, rfl⟩
      obtain ⟨r, a1, er⟩ := a1
      have stay : ¬ Hit z l m g y → ∀ j, j < i + 1 → ∀ q, prs[j]? = some q → ¬ Hit z l m g q := fun nh j hj q hq => by
        by_cases c : j = i
        · subst c
          rw [hy] at hq
          cases hq
          exact nh
        · exact no j (by omega) q hq
      have pa := SqT.of (K := K) (s1 _ _ hp)
      have ta := SqT.of (K := K) (s1 _ _ ht)
      refine ⟨_, rfl, _, rfl, p, _, _, _, rfl, rfl, pa, at_of2 (j := 2) rfl rfl, ?_⟩
      refine ⟨_, rfl, _, _, rfl, rfl, t, _, _, _, rfl, rfl, ta, a1, _, _, rfl, rfl, _, rfl, _, _, rfl, rfl, _, rfl, ?_⟩
      by_cases c : z + r ≤ y.1
      · refine ifT (decide_eq_true c) ?_
        refine ⟨_, rfl, _, rfl, p, _, _, _, rfl, rfl, pa, at_of2 (j := 2) rfl rfl, t, _, _, _, rfl, rfl, ta, at_of2 (j := 2) rfl rfl, _, _, rfl, rfl, _, _, rfl, rfl, _, rfl, ?_⟩
        by_cases d : y.1 ≤ z + g
        · refine ifT (decide_eq_true d) ?_
          refine ⟨_, rfl, ?_⟩
          have w := q H' s1
          rw [far_found G S hy ⟨by rw [← er]; exact c, d⟩ no] at w
          exact w
        · refine ifF (decide_eq_false d) ?_
          exact ⟨_, _, rfl, s1, stay fun h => d h.2⟩
      · refine ifF (decide_eq_false c) ?_
        have z0 : ∃ (v2 v3 : Option V), [some (V.ref p), some (V.int z), some (V.int y.1), some (V.int y.2)] = [some (.ref p), some (.int z), v2, v3] ∧ Same H H' ∧ ∀ j, j < i + 1 → ∀ q, prs[j]? = some q → ¬ Hit z l m g q := ⟨_, _, rfl, s1, stay fun h => c (by rw [er]; exact h.1)⟩
        first | exact ⟨_, rfl, ifF rfl z0⟩ | exact ifF rfl z0 | exact ifF rfl ⟨_, rfl, ifF rfl z0⟩ | exact ⟨_, rfl, z0⟩
    · rintro σ H' ⟨v2, v3, rfl, s1, no⟩
      rw [List.length_map, lt] at no
      refine ⟨_, rfl, p, _, _, _, rfl, rfl, SqT.of (s1 _ _ hp), at_of2 (j := 0) rfl rfl, _, rfl, _, rfl, p, _, _, _, rfl, rfl, SqT.of (s1 _ _ hp), at_of2 (j := 2) rfl rfl, t, _, _, _, rfl, rfl, SqT.of (s1 _ _ ht), at_of2 (j := 2) rfl rfl, _, _, rfl, rfl, _, _, rfl, ?_⟩
      have w := q H' s1
      rw [far_none G S no] at w
      have e : min (z + g) n = if z + g < n then z + g else n := by split <;> omega
      rw [e] at w
      exact w
end
def spFarW : Sp := fun vs H Q _ => ∃ (p : Addr) (n l m g b : Int) (prs : List (Int × Int)), vs = [.ref p, .int b] ∧ RawS H p n prs l m g ∧ GoodP n prs ∧ SetOk l m g ∧ n ≤ 200 * l ∧ 0 ≤ b ∧ b ≤ n ∧
  ∀ q H' k, Same H H' → H q = none → WkOk (nx n (marksOf prs) (strictOf prs) l m g) n b k → IL H' q (wl (nx n (marksOf prs) (strictOf prs) l m g) n b k) → Q (.ref q) H'
section
variable {P : Program} {w : World} {K : PySem.W.Frag} {mg : Str → Option Value} {base : Heap}
abbrev NFw : List Str := ["raw", "begin", "found"]
theorem scFw : FnScope NFw ["raw", "begin"] (defScope sFarW) := ⟨rfl, rfl, rfl, by decide +kernel, rfl, by decide +kernel, by decide +kernel⟩
theorem ok_farw {f fS : Addr} {fd fdS : FuncData} (F : Fun K "_law_far_walk" "_law_far_walk" sFarW f fd)
    (gS : mg "_law_far" = some (.ref fS)) (kS : PySem.W.keepIn K (.ref fS) = true) (bS : Binds K fdS ["raw", "spot"] []) (GS : FnOk P w K mg base CX0 1 fS fdS ["raw", "spot"] spFar) :
    FnOk P w K mg base CX0 2 f fd ["raw", "begin"] spFarW := by
  refine F.ok scFw (fun vs H Q E h => ?_) (fun cdv A outer s H vs Q E hr h => ?_)
  · obtain ⟨p, n, l, m, g, b, prs, rfl, _⟩ := h
    rfl
  · obtain ⟨r, n, l, m, g, p, prs, rfl, hR, G, S, big, p0, pn, q⟩ := h
    refine ⟨_, pss_cons (ps_set (i := 2) scFw.nd rfl (Or.inl rfl) (pe_lst (pa_cons (pv 1) pa_nil)))
      (pss_cons (ps_while PassesOwn.never (pt_cmpR op_lt (pe_ix (r := rIxL K) ix_list (pv 2) (pe_un un_neg pe_int) (fun _ _ => rfl)) (pe_ix ix_tup (pv 0) pe_int (fun _ _ => rfl)) (nomark _))
        (pss_one (ps_expr (pe_bm PySem.F.plainAttrs_list PySem.F.slot_list_append PySem.F.type_list_append mt_append (pv 2) (pa_cons (pe_call GS hr rfl gS kS bS .nil pass0 (pa_cons (pv 0) (pa_cons (pe_ix (r := rIxL K) ix_list (pv 2) (pe_un un_neg pe_int) (fun _ _ => rfl)) pa_nil))) pa_nil)))))
      (pss_one (ps_ret (pv 2)))), ?_⟩
    have ST := nx_stp G.good S
    generalize hF : nx n (marksOf prs) (strictOf prs) l m g = W at q ST
    refine ⟨_, rfl, (by show 1 ≤ sizeLine; decide), fun D hD => ?_⟩
    refine while_by (fun σ H' => ∃ k, σ = [some (.ref r), some (.int p), some (.ref D)] ∧ Same H H' ∧ IL H' D (wl W n p k) ∧ (∀ i, i < k → kc W n p i < n))
      (muCu n D) ⟨0, rfl, same_new (Same.refl H) hD, upd_same, fun i hi => absurd hi (Nat.not_lt_zero _)⟩ ?_
      (fun σ H Q Q' hQ h => by repeat' (first | exact hQ _ _ h | (obtain ⟨x, h⟩ := h; refine ⟨x, ?_⟩)))
    rintro σ H' ⟨k, rfl, s1, hI, hb⟩
    obtain ⟨lp, t, ts, hp, hl, hpr, ht⟩ := hR.same s1
    have kle := kc_le ST pn k
    have few : k ≤ 200 := by
      by_cases c : k = 0
      · omega
      · have := kc_few ST p0 big (hb (k - 1) (by omega))
        omega
    obtain ⟨xs, hxs⟩ : ∃ xs, (wl W n p k).map V.int = xs ++ [V.int (kc W n p k)] := by
      unfold wl
      rw [List.range_succ, List.map_append, List.map_append]
      exact ⟨_, rfl⟩
    have at1 : atI ((wl W n p k).map V.int) (-1) = some (V.int (kc W n p k)) := by
      rw [hxs]
      exact atI_last _ _
    refine ⟨_, rfl, _, rfl, D, _, _, _, rfl, rfl, SqL.of hI, at1, ?_⟩
    refine ⟨_, rfl, r, _, _, _, rfl, rfl, SqT.of hp, at_of2 (j := 0) rfl rfl, _, _, rfl, rfl, _, rfl, ?_⟩
    by_cases c : kc W n p k < n
    · refine ifT (decide_eq_true c) ?_
      have few2 : k < 200 := kc_few ST p0 big c
      have low : 0 ≤ kc W n p k := by
        have z := kc_ge ST k c
        have l1 := ST.l1
        have y : (0 : Int) ≤ (k : Int) * l := Int.mul_nonneg (by omega) (by omega)
        omega
      refine ⟨_, rfl, .inl ⟨rfl, _, SqL.of hI⟩, ?_⟩
      refine ⟨_, rfl, _, rfl, _, rfl, D, _, _, _, rfl, rfl, SqL.of hI, at1, ?_⟩
      refine ⟨r, n, l, m, g, _, prs, rfl, hR.same s1, G, S, fun H2 s2 => ?_⟩
      rw [hF]
      have hI2 := s2 _ _ hI
      have mu1 : muCu n D [some (.ref r), some (.int p), some (.ref D)] H' = (n - kc W n p k).toNat := muCu_at (hI.trans (by rw [hxs]))
      refine ⟨D, _, _, rfl, rfl, hI2, by rw [List.length_map, wl_len]; exact small1000 (by omega), ⟨k + 1, rfl, same_put (s1.trans s2) hD, ?_, fun i hi => ?_⟩, ?_⟩
      · show upd _ _ _ D = _
        rw [upd_same, wl_succ, kc_at c, List.map_append]
        rfl
      · by_cases e : i = k
        · rw [e]
          exact c
        · exact hb i (by omega)
      · rw [mu1, muCu_at upd_same]
        have := ST.gt c
        omega
    · refine ifF (decide_eq_false c) ?_
      exact ⟨_, rfl, q D H' k s1 hD ⟨few, by omega, hb⟩ hI⟩

end
def spOther : Sp := fun vs H Q _ => ∃ (a p : Addr) (k : Nat) (n l m g : Int) (prs : List (Int × Int)), vs = [.ref a, .ref p] ∧ JarAt H a (k + 3) ∧ RawS H p n prs l m g ∧ SetOk l m g ∧ g ≤ 10000000000000000000000000000 ∧
  ∀ (u : Addr) (H' : Hp) (l' m' g' : Int), l ≤ l' → SetOk l' m' g' → g' ≤ 100000000000000000000000000000 → RawS H' u n prs l' m' g' → JarAt H' a k → But H H' a → Q (.ref u) H'
section
variable {P : Program} {w : World} {K : PySem.W.Frag} {mg : Str → Option Value} {base : Heap}
abbrev NOt : List Str := ["jar", "raw", "least", "normal"]
theorem scOt : FnScope NOt ["jar", "raw"] (defScope sOther) := ⟨rfl, rfl, rfl, by decide +kernel, rfl, by decide +kernel, by decide +kernel⟩
theorem ok_other {f fD : Addr} {fd fdD : FuncData} (F : Fun K "_law_other" "_law_other" sOther f fd) (T : Bl mg)
    (gD : mg "_law_dip" = some (.ref fD)) (kD : PySem.W.keepIn K (.ref fD) = true) (bD : Binds K fdD ["jar", "many"] []) (GD : FnOk P w K mg base CX0 1 fD fdD ["jar", "many"] spDip) :
    FnOk P w K mg base CX0 2 f fd ["jar", "raw"] spOther := by
  refine F.ok scOt (fun vs H Q E h => ?_) (fun cdv A outer s H vs Q E hr h => ?_)
  · obtain ⟨a, p, k, n, l, m, g, prs, rfl, _⟩ := h
    rfl
  · obtain ⟨a, p, k, n, l, m, g, prs, rfl, J, ⟨lp, t, ts, hp, hl, hpr, ht⟩, S, g1, q⟩ := h
    refine ⟨_, pss_cons (ps_set (i := 2) scOt.nd rfl (Or.inl rfl) (pe_op op_add (pe_ix ix_tup (pe_ix ix_tup (pv 1) pe_int (fun _ _ => rfl)) pe_int (fun _ _ => rfl)) (pe_call GD hr rfl gD kD bD .nil pass0 (pa_cons (pv 0) (pa_cons (pe_op op_add (pe_ix ix_tup (pe_ix ix_tup (pv 1) pe_int (fun _ _ => rfl)) pe_int (fun _ _ => rfl)) pe_int) pa_nil)))))
      (pss_cons (ps_set (i := 3) scOt.nd rfl (Or.inl rfl) (pe_op op_add (pv 2) (pe_call GD hr rfl gD kD bD .nil pass0 (pa_cons (pv 0) (pa_cons (pe_op op_add (pe_ix ix_tup (pe_ix ix_tup (pv 1) pe_int (fun _ _ => rfl)) pe_int (fun _ _ => rfl)) pe_int) pa_nil)))))
      (pss_one (ps_ret (pe_tup (pa_cons (pe_ix ix_tup (pv 1) pe_int (fun _ _ => rfl)) (pa_cons (pe_ix ix_tup (pv 1) pe_int (fun _ _ => rfl)) (pa_cons (pe_tup (pa_cons (pv 2) (pa_cons (pv 3) (pa_cons (pe_op op_add
        (pe_callB (call_max2 rfl) (by rfl) T.max (by decide +kernel) (pa_cons (pv 3) (pa_cons (pe_ix ix_tup (pe_ix ix_tup (pv 1) pe_int (fun _ _ => rfl)) pe_int (fun _ _ => rfl)) pa_nil)))
        (pe_call GD hr rfl gD kD bD .nil pass0 (pa_cons (pv 0) (pa_cons (pe_op op_add (pe_ix ix_tup (pe_ix ix_tup (pv 1) pe_int (fun _ _ => rfl)) pe_int (fun _ _ => rfl)) pe_int) pa_nil)))) pa_nil)))) pa_nil))))))), ?_⟩
    have l1 := S.l1
    have lm := S.lm
    have mg' := S.mg
    have big : l + 1 < 2 ^ 120 := Int.lt_of_le_of_lt (show l + 1 ≤ 100000000000000000000000000000 by omega) (by decide)
    have R0 : RawS H p n prs l m g := ⟨lp, t, ts, hp, hl, hpr, ht⟩
    refine ⟨_, rfl, p, _, _, _, rfl, rfl, SqT.of hp, at_of2 (j := 2) rfl rfl, t, _, _, _, rfl, rfl, SqT.of ht, at_of2 (j := 0) rfl rfl, ?_⟩
    refine ⟨_, rfl, _, rfl, p, _, _, _, rfl, rfl, SqT.of hp, at_of2 (j := 2) rfl rfl, t, _, _, _, rfl, rfl, SqT.of ht, at_of2 (j := 0) rfl rfl, _, _, rfl, rfl, ?_⟩
    refine ⟨a, k + 2, l + 1, rfl, J, by omega, big, fun v1 H1 a1 b1 J1 B1 => ⟨_, _, rfl, rfl, ?_⟩⟩
    have hp1 := B1 _ _ hp (J.no hp fun _ _ _ z => nomatch z)
    have ht1 := B1 _ _ ht (J.no ht fun _ _ _ z => nomatch z)
    refine ⟨_, rfl, _, rfl, _, rfl, p, _, _, _, rfl, rfl, SqT.of hp1, at_of2 (j := 2) rfl rfl, t, _, _, _, rfl, rfl, SqT.of ht1, at_of2 (j := 0) rfl rfl, _, _, rfl, rfl, ?_⟩
    refine ⟨a, k + 1, l + 1, rfl, J1, by omega, big, fun v2 H2 a2 b2 J2 B2 => ⟨_, _, rfl, rfl, ?_⟩⟩
    have hp2 := B2 _ _ hp1 (J1.no hp1 fun _ _ _ z => nomatch z)
    have ht2 := B2 _ _ ht1 (J1.no ht1 fun _ _ _ z => nomatch z)
    refine ⟨_, rfl, p, _, _, _, rfl, rfl, SqT.of hp2, at_of2 (j := 0) rfl rfl, _, rfl, p, _, _, _, rfl, rfl, SqT.of hp2, at_of2 (j := 1) rfl rfl, ?_⟩
    refine ⟨_, rfl, _, rfl, _, rfl, _, rfl, p, _, _, _, rfl, rfl, SqT.of hp2, at_of2 (j := 2) rfl rfl, t, _, _, _, rfl, rfl, SqT.of ht2, at_of2 (j := 2) rfl rfl, _, _, rfl, ?_⟩
    refine ⟨_, rfl, _, rfl, p, _, _, _, rfl, rfl, SqT.of hp2, at_of2 (j := 2) rfl rfl, t, _, _, _, rfl, rfl, SqT.of ht2, at_of2 (j := 0) rfl rfl, _, _, rfl, rfl, ?_⟩
    refine ⟨a, k, l + 1, rfl, J2, by omega, big, fun v3 H3 a3 b3 J3 B3 => ⟨_, _, rfl, rfl, (by show 3 ≤ sizeLine; decide), fun u hu => ⟨(by show 3 ≤ sizeLine; decide), fun y hy => ?_⟩⟩⟩
    dsimp only at hy ⊢
    have s1 := same_new (o := .tup [.int (l + v1), .int (l + v1 + v2), .int ((if g > l + v1 + v2 then g else l + v1 + v2) + v3)]) (Same.refl H3) hu
    have hu' : upd H3 u (.tup [.int (l + v1), .int (l + v1 + v2), .int ((if g > l + v1 + v2 then g else l + v1 + v2) + v3)]) u = _ := upd_same
    have J4 := J3.put (o := .tup [.int (l + v1), .int (l + v1 + v2), .int ((if g > l + v1 + v2 then g else l + v1 + v2) + v3)]) (J3.ne hu)
    generalize upd H3 u (.tup [.int (l + v1), .int (l + v1 + v2), .int ((if g > l + v1 + v2 then g else l + v1 + v2) + v3)]) = H4 at hy s1 hu' J4 ⊢
    have s2 := same_new (o := .tup [.int n, .ref lp, .ref u]) s1 hy
    have s3 := same_new (o := .tup [.int n, .ref lp, .ref u]) (Same.refl H4) hy
    have hl3 := B3 _ _ (B2 _ _ (B1 _ _ hl (J.no hl refs_no)) (J1.no (B1 _ _ hl (J.no hl refs_no)) refs_no)) (J2.no (B2 _ _ (B1 _ _ hl (J.no hl refs_no)) (J1.no (B1 _ _ hl (J.no hl refs_no)) refs_no)) refs_no)
    have hr3 : PrAt H3 ts prs := ((hpr.imp fun t p h => B1 _ _ h (J.no h fun _ _ _ z => nomatch z)).imp fun t p h => B2 _ _ h (J1.no h fun _ _ _ z => nomatch z)).imp fun t p h => B3 _ _ h (J2.no h fun _ _ _ z => nomatch z)
    refine q y _ (l + v1) (l + v1 + v2) ((if g > l + v1 + v2 then g else l + v1 + v2) + v3) (by omega) ⟨by omega, by omega, by split <;> omega⟩ (by split <;> omega) ⟨lp, u, ts, upd_same, s2 _ _ hl3, hr3.imp fun _ _ h => s2 _ _ h, s3 _ _ hu'⟩ (J4.put (J4.ne hy)) (((B1.trans B2).trans B3).trans (But.of s2))
end
end Cw
namespace Cw
open PySem L2
abbrev sSW : Stmt := top 35
def spSW : Sp := fun vs H Q _ => ∃ (p : Addr) (n l m g b : Int) (prs : List (Int × Int)), vs = [.ref p, .int b] ∧ RawS H p n prs l m g ∧ GoodP n prs ∧ SetOk l m g ∧ n ≤ 200 * l ∧ n ≤ 1000 ∧ g ≤ 1000 ∧ 0 ≤ b ∧ b ≤ n ∧
  ∀ q H' k, Same H H' → H q = none → WkOk (nx n (marksOf prs) (strictOf prs) l m g) n b k → IL H' q (wl (nx n (marksOf prs) (strictOf prs) l m g) n b k) → Q (.ref q) H'
section
variable {P : Program} {w : World} {K : PySem.W.Frag} {mg : Str → Option Value} {base : Heap}
abbrev NSw : List Str := ["raw", "begin", "found"]
theorem scSw : FnScope NSw ["raw", "begin"] (defScope sSW) := ⟨rfl, rfl, rfl, by decide +kernel, rfl, by decide +kernel, by decide +kernel⟩
theorem ok_sw {f fS : Addr} {fd fdS : FuncData} (F : Fun K "_law_slow_walk" "_law_slow_walk" sSW f fd)
    (gS : mg "_law_slow" = some (.ref fS)) (kS : PySem.W.keepIn K (.ref fS) = true) (bS : Binds K fdS ["raw", "spot"] []) (GS : FnOk P w K mg base CX0 1 fS fdS ["raw", "spot"] spSlow) :
    FnOk P w K mg base CX0 2 f fd ["raw", "begin"] spSW := by
  refine F.ok scSw (fun vs H Q E h => ?_) (fun cdv A outer s H vs Q E hr h => ?_)
  · obtain ⟨p, n, l, m, g, b, prs, rfl, _⟩ := h
    rfl
  · obtain ⟨r, n, l, m, g, p, prs, rfl, hR, G, S, big, n1, g1, p0, pn, q⟩ := h
    refine ⟨_, pss_cons (ps_set (i := 2) scSw.nd rfl (Or.inl rfl) (pe_lst (pa_cons (pv 1) pa_nil)))
      (pss_cons (ps_while PassesOwn.never (pt_cmpR op_lt (pe_ix (r := rIxL K) ix_list (pv 2) (pe_un un_neg pe_int) (fun _ _ => rfl)) (pe_ix ix_tup (pv 0) pe_int (fun _ _ => rfl)) (nomark _))
        (pss_one (ps_expr (pe_bm PySem.F.plainAttrs_list PySem.F.slot_list_append PySem.F.type_list_append mt_append (pv 2) (pa_cons (pe_call GS hr rfl gS kS bS .nil pass0 (pa_cons (pv 0) (pa_cons (pe_ix (r := rIxL K) ix_list (pv 2) (pe_un un_neg pe_int) (fun _ _ => rfl)) pa_nil))) pa_nil)))))
      (pss_one (ps_ret (pv 2)))), ?_⟩
    have ST := nx_stp G.good S
    generalize hF : nx n (marksOf prs) (strictOf prs) l m g = W at q ST
    refine ⟨_, rfl, (by show 1 ≤ sizeLine; decide), fun D hD => ?_⟩
    refine while_by (fun σ H' => ∃ k, σ = [some (.ref r), some (.int p), some (.ref D)] ∧ Same H H' ∧ IL H' D (wl W n p k) ∧ (∀ i, i < k → kc W n p i < n))
      (muCu n D) ⟨0, rfl, same_new (Same.refl H) hD, upd_same, fun i hi => absurd hi (Nat.not_lt_zero _)⟩ ?_
      (fun σ H Q Q' hQ h => by repeat' (first | exact hQ _ _ h | (obtain ⟨x, h⟩ := h; refine ⟨x, ?_⟩)))
    rintro σ H' ⟨k, rfl, s1, hI, hb⟩
    obtain ⟨lp, t, ts, hp, hl, hpr, ht⟩ := hR.same s1
    have kle := kc_le ST pn k
    have few : k ≤ 200 := by
      by_cases c : k = 0
      · omega
      · have := kc_few ST p0 big (hb (k - 1) (by omega))
        omega
    obtain ⟨xs, hxs⟩ : ∃ xs, (wl W n p k).map V.int = xs ++ [V.int (kc W n p k)] := by
      unfold wl
      rw [List.range_succ, List.map_append, List.map_append]
      exact ⟨_, rfl⟩
    have at1 : atI ((wl W n p k).map V.int) (-1) = some (V.int (kc W n p k)) := by
      rw [hxs]
      exact atI_last _ _
    refine ⟨_, rfl, _, rfl, D, _, _, _, rfl, rfl, SqL.of hI, at1, ?_⟩
    refine ⟨_, rfl, r, _, _, _, rfl, rfl, SqT.of hp, at_of2 (j := 0) rfl rfl, _, _, rfl, rfl, _, rfl, ?_⟩
    by_cases c : kc W n p k < n
    · refine ifT (decide_eq_true c) ?_
      have few2 : k < 200 := kc_few ST p0 big c
      have low : 0 ≤ kc W n p k := by
        have z := kc_ge ST k c
        have l1 := ST.l1
        have y : (0 : Int) ≤ (k : Int) * l := Int.mul_nonneg (by omega) (by omega)
        omega
      refine ⟨_, rfl, .inl ⟨rfl, _, SqL.of hI⟩, ?_⟩
      refine ⟨_, rfl, _, rfl, _, rfl, D, _, _, _, rfl, rfl, SqL.of hI, at1, ?_⟩
      refine ⟨r, n, l, m, g, _, prs, rfl, hR.same s1, G, S, low, by omega, by omega, by omega, fun H2 s2 => ?_⟩
      rw [hF]
      have hI2 := s2 _ _ hI
      have mu1 : muCu n D [some (.ref r), some (.int p), some (.ref D)] H' = (n - kc W n p k).toNat := muCu_at (hI.trans (by rw [hxs]))
      refine ⟨D, _, _, rfl, rfl, hI2, by rw [List.length_map, wl_len]; exact small1000 (by omega), ⟨k + 1, rfl, same_put (s1.trans s2) hD, ?_, fun i hi => ?_⟩, ?_⟩
      · show upd _ _ _ D = _
        rw [upd_same, wl_succ, kc_at c, List.map_append]
        rfl
      · by_cases e : i = k
        · rw [e]
          exact c
        · exact hb i (by omega)
      · rw [mu1, muCu_at upd_same]
        have := ST.gt c
        omega
    · refine ifF (decide_eq_false c) ?_
      exact ⟨_, rfl, q D H' k s1 hD ⟨few, by omega, hb⟩ hI⟩
end
end Cw
namespace Cw
open PySem L2
abbrev sFirst : Stmt := top 40
theorem WkOk.later {F : Int → Int} {n s : Int} {m k : Nat} (w : WkOk F n s m) (h : m ≤ k) : kc F n s k = n := by
  have z := kc_end (F := F) (n := n) (s := s) (m := m) (by rw [w.fin]; omega) (k - m)
  rw [Nat.add_sub_cancel' h, w.fin] at z
  exact z

/-- the first cut of a walk that the other one has -/
def FstC (F : Int → Int) (n a b v : Int) : Prop := ∃ i, kc F n a i = v ∧ (∃ j, kc F n b j = v) ∧ ∀ i', i' < i → ∀ j, kc F n a i' ≠ kc F n b j
theorem Mt.swap {F : Int → Int} {n a b v : Int} (M : Mt F n a b v) : Mt F n b a v := by
  obtain ⟨i, j, h1, h2, h3, h4⟩ := M
  exact ⟨j, i, h2, h1, h4, h3⟩
theorem FstC.mt {F : Int → Int} {n a b u v : Int} (c : FstC F n a b v) (M : Mt F n a b u) : u = v := by
  obtain ⟨i, h1, ⟨j, h2⟩, h3⟩ := c
  obtain ⟨i', j', k1, k2, k3, _⟩ := M
  by_cases d : i < i'
  · exact absurd (h1.trans h2.symm) (k3 i d j)
  · by_cases e : i' < i
    · exact absurd (k1.trans k2.symm) (h3 i' e j')
    · have : i = i' := by omega
      rw [← k1, ← h1, this]
theorem kc_all {F : Int → Int} {n s : Int} {k : Nat} (w : WkOk F n s k) (j : Nat) : kc F n s j ∈ wl F n s k := by
  by_cases c : j ≤ k
  · exact kc_mem.mpr ⟨j, c, rfl⟩
  · rw [w.later (by omega)]
    exact kc_mem.mpr ⟨k, Nat.le_refl _, w.fin⟩
theorem fst_of {F : Int → Int} {n a b v : Int} {k k2 : Nat} {r : List Int} (w : WkOk F n a k) (w2 : WkOk F n b k2) (h : (wl F n a k).filter (fun c => decide (c ∈ wl F n b k2)) = v :: r) : FstC F n a b v := by
  obtain ⟨x1, x2, e, no, yes, _⟩ := List.filter_eq_cons_iff.mp h
  have len : x1.length < k + 1 := by
    have z := congrArg List.length e
    rw [wl_len, List.length_append, List.length_cons] at z
    omega
  have get : ∀ i, i ≤ k → (wl F n a k)[i]? = some (kc F n a i) := fun i hi => by
    unfold wl
    rw [List.getElem?_map, List.getElem?_range (by omega)]
    rfl
  have hv : kc F n a x1.length = v := by
    have z := get x1.length (by omega)
    rw [e, List.getElem?_append_right (Nat.le_refl _), Nat.sub_self] at z
    exact (Option.some.inj z).symm
  have m : v ∈ wl F n b k2 := of_decide_eq_true yes
  obtain ⟨j, _, hj⟩ := kc_mem.mp m
  refine ⟨x1.length, hv, ⟨j, hj⟩, fun i' hi j' he => ?_⟩
  have z := get i' (by omega)
  rw [e, List.getElem?_append_left hi] at z
  have mem : kc F n a i' ∈ x1 := List.mem_of_getElem? z
  refine no _ mem (decide_eq_true ?_)
  rw [he]
  exact kc_all w2 j'
def spFirst : Sp := fun vs H Q _ => ∃ (x y : Addr) (F : Int → Int) (n a b : Int) (k k2 : Nat), vs = [.ref x, .ref y] ∧ WkOk F n a k ∧ WkOk F n b k2 ∧ IL H x (wl F n a k) ∧ IL H y (wl F n b k2) ∧ ∀ v H', Same H H' → FstC F n a b v → Q (.int v) H'
section
variable {P : Program} {w : World} {K : PySem.W.Frag} {mg : Str → Option Value} {base : Heap}
abbrev NFi : List Str := ["walk_here", "other", "cut"]
theorem scFi : FnScope NFi ["walk_here", "other"] (defScope sFirst) := ⟨rfl, rfl, rfl, by decide +kernel, rfl, by decide +kernel, by decide +kernel⟩
theorem ok_first {f : Addr} {fd : FuncData} (F : Fun K "_law_first" "_law_first" sFirst f fd) : FnOk P w K mg base CX0 1 f fd ["walk_here", "other"] spFirst := by
  refine F.ok scFi (fun vs H Q E h => ?_) (fun cdv A outer s H vs Q E hr h => ?_)
  · obtain ⟨x, y, F, n, a, b, k, k2, rfl, _⟩ := h
    rfl
  · obtain ⟨x, y, F, n, a, b, k, k2, rfl, w1, w2, hx, hy, q⟩ := h
    refine ⟨_, pss_one (ps_ret (pe_ix (r := rIxL K) ix_list (pe_lc (own := [("cut", 2)]) (g := gName 2) rfl scFi.nd (pi_list (pv 0)) (blkOk_by (own := [("cut", 2)]) (N := NFi) (sc := defScope sFirst) (by decide +kernel)) (fun _ _ _ _ _ => pg_name (i := 2) scFi.nd rfl (Or.inl rfl))
      (fun _ _ _ _ _ => pts_one (pt_cmpR (show OpR _ (compareOp .In) (rIn K false) from op_in_seq) (pv 2) (pv 1) (by rfl))) (fun _ _ _ _ _ => pv 2)) pe_int (fun _ _ => rfl))), ?_⟩
    have few := w1.few
    refine ⟨_, rfl, x, rfl, ⟨_, SqL.of hx⟩, fun D1 hD1 => ?_⟩
    refine lc_fil (K := K) (fun c => decide (c ∈ wl F n b k2)) hx hD1 (by rw [wl_len]; omega) ?_ ?_
    · intro z H1 A B s ka kb
      refine ⟨rfl, ?_⟩
      refine ⟨_, rfl, _, rfl, y, _, rfl, .inl (SqL.of (s _ _ hy)), rfl, flat_il, _, rfl, ?_⟩
      have e : inV (.int z) ((wl F n b k2).map V.int) = decide (z ∈ wl F n b k2) := inV_il
      by_cases d : z ∈ wl F n b k2
      · refine ifT (e.trans (decide_eq_true d)) ?_
        exact ⟨_, rfl, ka (decide_eq_true d)⟩
      · exact ifF (e.trans (decide_eq_false d)) (kb (decide_eq_false d))
    intro H1 s1 f1
    cases hf : (wl F n a k).filter fun c => decide (c ∈ wl F n b k2) with
    | nil =>
      have m : n ∈ (wl F n a k).filter fun c => decide (c ∈ wl F n b k2) := List.mem_filter.mpr ⟨kc_mem.mpr ⟨k, Nat.le_refl _, w1.fin⟩, decide_eq_true (kc_mem.mpr ⟨k2, Nat.le_refl _, w2.fin⟩)⟩
      rw [hf] at m
      cases m
    | cons v r =>
      rw [hf] at f1
      exact ⟨D1, _, _, _, rfl, rfl, SqL.of f1, at_of2 (j := 0) rfl rfl, q v H1 s1 (fst_of w1 w2 hf)⟩
end
end Cw
namespace Cw
open PySem L2
theorem log_wide {i : Int} (h0 : 0 ≤ i) (h1 : i ≤ 1000000000000000000000000000000000) : i.natAbs.log2 < 1920 := by
  by_cases c : i.natAbs = 0
  · rw [c]; decide
  · have z : i.natAbs.log2 < 120 := (Nat.log2_lt c).mpr (by
      have e : (2 : Nat) ^ 120 = 1329227995784915872903807060280344576 := by decide +kernel
      rw [e]; omega)
    omega
theorem shown_wide {i : Int} (h0 : 0 ≤ i) (h1 : i ≤ 1000000000000000000000000000000000) : (PyData.shown (.int i)).length ≤ 1921 := by
  have e := int_text_length_le (k := 1920) (by decide) (log_wide h0 h1)
  simp only [PyData.shown]
  rw [PySem.ofString_length]
  exact e
def Wide (ns : List Int) : Prop := ns.length ≤ 900 ∧ ∀ x ∈ ns, 0 ≤ x ∧ x ≤ 1000000000000000000000000000000000
theorem all_show : ∀ {ns : List Int}, (∀ x ∈ ns, 0 ≤ x ∧ x ≤ 1000000000000000000000000000000000) → PyData.showableAll (ns.map PyData.int) = true ∧ PyData.hasDictAll (ns.map PyData.int) = false ∧ PyData.depthAll (ns.map PyData.int) ≤ 2 ∧
    ((PyData.shownAll (ns.map PyData.int)).map (·.length)).sum ≤ 1921 * ns.length ∧ (PyData.shownAll (ns.map PyData.int)).length = ns.length
  | [], _ => ⟨rfl, rfl, Nat.zero_le _, Nat.zero_le _, rfl⟩
  | x :: r, h => by
    obtain ⟨i1, i2, i3, i4, i5⟩ := all_show (ns := r) fun y hy => h y (List.mem_cons_of_mem _ hy)
    obtain ⟨x0, x1⟩ := h x (List.mem_cons_self ..)
    have sx := shown_wide x0 x1
    simp only [List.map_cons, PyData.showableAll, PyData.showable, PyData.hasDictAll, PyData.hasDict, PyData.depthAll, PyData.depth, PyData.shownAll, List.sum_cons, List.length_cons, i1, i2, i5, decide_eq_true (log_wide x0 x1)]
    refine ⟨rfl, rfl, by omega, ?_, trivial⟩
    omega
def Txt (K : PySem.W.Frag) (H : Hp) (p : Addr) (d : PyData) : Prop := Dp K H (.ref p) d ∧ d.showable = true ∧ d.hasDict = false ∧ d.depth ≤ 60 ∧ d.shown.length ≤ sizeLine
theorem txt_il {K : PySem.W.Frag} {H : Hp} {p : Addr} {ns : List Int} (h : IL H p ns) (wm : Wide ns) : Txt K H p (.list (ns.map PyData.int)) := by
  obtain ⟨a1, a2, a3, a4, a5⟩ := all_show wm.2
  refine ⟨dp_il h, ?_, ?_, ?_, ?_⟩
  · simp only [PyData.showable, a1]
  · simp only [PyData.hasDict, a2]
  · simp only [PyData.depth]
    omega
  · have zm := listText_len_le (PyData.shownAll (ns.map PyData.int))
    simp only [PyData.shown]
    have w1 := wm.1
    rw [sizeLine_eq]
    omega
/-! ## the least cut from a place on; how many lie between two places -/
theorem wl_wide {n l m g p : Int} {ms ss : List Int} {k : Nat} (G : Good n ms ss) (S : SetOk l m g) (w : WkOk (nx n ms ss l m g) n p k) (p0 : 0 ≤ p) (pn : p ≤ n) (n1 : n ≤ 1000000000000000000000000000000000) : Wide (wl (nx n ms ss l m g) n p k) := by
  have ST := nx_stp G S
  refine ⟨by rw [wl_len]; have := w.few; omega, fun x hx => ?_⟩
  obtain ⟨i, hi, rfl⟩ := kc_mem.mp hx
  have u := kc_le ST pn i
  refine ⟨?_, by omega⟩
  by_cases c : kc (nx n ms ss l m g) n p i < n
  · have z := kc_ge ST i c
    have l1 := ST.l1
    have y : (0 : Int) ≤ (i : Int) * l := Int.mul_nonneg (by omega) (by omega)
    omega
  · omega
abbrev sOthers : Stmt := top 39
abbrev sSmR : Stmt := top 41
def spOthers : Sp := fun vs H Q _ => ∃ (a p : Addr) (k : Nat) (n l m g : Int) (prs : List (Int × Int)), vs = [.ref a, .ref p] ∧ JarAt H a (k + 1 + 1 + 1) ∧ RawS H p n prs l m g ∧ SetOk l m g ∧ g ≤ 40 ∧
  ∀ (q : Addr) (H' : Hp) (us : List Addr), H' q = some (.lst (us.map V.ref)) → us.length = 4 → q ≠ a → (∀ u ∈ us, ∃ l' m' g' : Int, SetOk l' m' g' ∧ g' ≤ 1000 ∧ RawS H' u n prs l' m' g') → JarAt H' a k → But H H' a → Q (.ref q) H'
section
variable {P : Program} {w : World} {K : PySem.W.Frag} {mg : Str → Option Value} {base : Heap}
abbrev NOs : List Str := ["jar", "raw", "least", "normal", "greatest", "some", "three"]
theorem scOs : FnScope NOs ["jar", "raw"] (defScope sOthers) := ⟨rfl, rfl, rfl, by decide +kernel, rfl, by decide +kernel, by decide +kernel⟩
theorem ok_others {f fD : Addr} {fd fdD : FuncData} (F : Fun K "_law_others" "_law_others" sOthers f fd)
    (gD : mg "_law_dip" = some (.ref fD)) (kD : PySem.W.keepIn K (.ref fD) = true) (bD : Binds K fdD ["jar", "many"] []) (GD : FnOk P w K mg base CX0 1 fD fdD ["jar", "many"] spDip) :
    FnOk P w K mg base CX0 2 f fd ["jar", "raw"] spOthers := by
  refine F.ok scOs (fun vs H Q E h => ?_) (fun cdv A outer s H vs Q E hr h => ?_)
  · obtain ⟨a, p, k, n, l, m, g, prs, rfl, _⟩ := h
    rfl
  · obtain ⟨a, p, k, n, l, m, g, prs, rfl, J, ⟨lp, t, ts, hp, hl, hpr, ht⟩, S, g40, q⟩ := h
    have hr1 : Room 1 (A.deeper (PyProof.Rows.envOfC "_law_others" (defScope sOthers) s.heap.objs.size f cdv)) := hr.mono (by decide)
    refine ⟨_, (pss_cons (ps_asg (pe_ix  ix_tup (pv 1) pe_int (fun _ _ => rfl)) (pg_tup (by rfl) (pgs_cons (pg_name (i := 2) scOs.nd rfl (Or.inl rfl)) (pgs_cons (pg_name (i := 3) scOs.nd rfl (Or.inl rfl)) (pgs_cons (pg_name (i := 4) scOs.nd rfl (Or.inl rfl)) pgs_nil)))))
        (pss_cons (ps_set (i := 5) scOs.nd rfl (Or.inl rfl) (pe_lst (pa_cons (pe_tup (pa_cons (pv 2) (pa_cons (pe_op op_add (pv 2) (pe_call GD hr1 rfl gD kD bD .nil pass0 (pa_cons (pv 0) (pa_cons (pe_op op_add (pe_op op_sub (pv 4) (pv 2)) pe_int) pa_nil)))) (pa_cons (pv 4) pa_nil)))) pa_nil)))
        (pss_cons (ps_set (i := 5) scOs.nd rfl (Or.inl rfl) (pe_op op_cat (pv 5) (pe_lst (pa_cons (pe_tup (pa_cons (pe_op op_add pe_int (pe_call GD hr1 rfl gD kD bD .nil pass0 (pa_cons (pv 0) (pa_cons (pv 3) pa_nil)))) (pa_cons (pv 3) (pa_cons (pv 4) pa_nil)))) pa_nil))))
        (pss_cons (ps_set (i := 5) scOs.nd rfl (Or.inl rfl) (pe_op op_cat (pv 5) (pe_lst (pa_cons (pe_tup (pa_cons (pv 2) (pa_cons (pv 3) (pa_cons (pe_op op_add (pv 3) (pe_call GD hr1 rfl gD kD bD .nil pass0 (pa_cons (pv 0) (pa_cons (pe_op op_add (pv 4) pe_int) pa_nil)))) pa_nil)))) (pa_cons (pe_ix  ix_tup (pv 1) pe_int (fun _ _ => rfl)) pa_nil)))))
        (pss_one (ps_ret (pe_lc (own := [("three", 6)]) (g := gName 6) (tt := tYes) rfl scOs.nd (pi_list (pv 5)) (blkOk_by (own := [("three", 6)]) (N := NOs) (sc := defScope sOthers) (by decide +kernel)) (fun _ _ _ _ _ => pg_name (i := 6) scOs.nd rfl (Or.inl rfl)) (fun _ _ _ _ _ => pts_nil) (fun _ _ _ _ _ => (pe_tup (pa_cons (pe_ix (r := rIxT K) ix_tup (pv 1) pe_int (fun _ _ => rfl)) (pa_cons (pe_ix (r := rIxT K) ix_tup (pv 1) pe_int (fun _ _ => rfl)) (pa_cons (pv 6) pa_nil)))))))))))), ?_⟩
    have l1 := S.l1
    have lm := S.lm
    have mg' := S.mg
    have nb : ∀ x : Int, x ≤ 1000 → x < 2 ^ 120 := fun x h => Int.lt_of_le_of_lt h (by decide)
    have nta : ∀ {c : Addr} {H' : Hp} {xs : List V} {kk : Nat}, JarAt H' a kk → H' c = some (.tup xs) → c ≠ a := fun J h => J.no h fun _ _ _ z => nomatch z
    refine ⟨_, rfl, p, _, _, _, rfl, rfl, SqT.of hp, at_of2 (j := 2) rfl rfl, t, _, rfl, SqT.of ht, rfl, _, _, rfl, _, _, rfl, _, _, rfl, rfl, ?_⟩
    try dsimp only [L2.start, List.set, List.map, List.append, List.replicate, List.length]
    -- the first
    refine ⟨_, rfl, _, rfl, _, rfl, _, rfl, _, rfl, _, _, rfl, rfl, _, _, rfl, rfl, a, _, g - l + 1, rfl, J, by omega, nb _ (by omega), fun v1 H1 a1 b1 J1 B1 => ⟨_, _, rfl, rfl, _, rfl, (by show 3 ≤ sizeLine; decide), fun t1 ht1 => ⟨(by show 1 ≤ sizeLine; decide), fun L1 hL1 => ?_⟩⟩⟩
    dsimp only at ht1 hL1 ⊢
    have x1 : upd H1 t1 (.tup [.int l, .int (l + v1), .int g]) t1 = some (.tup [.int l, .int (l + v1), .int g]) := upd_same
    have xt := same_new (o := .tup [.int l, .int (l + v1), .int g]) (Same.refl H1) ht1 _ _ (B1 _ _ ht (nta J ht))
    have J2 := J1.put (o := .tup [.int l, .int (l + v1), .int g]) (J1.ne ht1)
    have B2 := B1.new (o := .tup [.int l, .int (l + v1), .int g]) ht1
    generalize upd H1 t1 (.tup [.int l, .int (l + v1), .int g]) = H2 at hL1 x1 xt J2 B2 ⊢
    have y1 : upd H2 L1 (.lst [.ref t1]) L1 = some (.lst [.ref t1]) := upd_same
    have x1 := same_new (o := .lst [.ref t1]) (Same.refl H2) hL1 _ _ x1
    have xt := same_new (o := .lst [.ref t1]) (Same.refl H2) hL1 _ _ xt
    have J3 := J2.put (o := .lst [.ref t1]) (J2.ne hL1)
    have B3 := B2.new (o := .lst [.ref t1]) hL1
    have nL1 : L1 ≠ a := (J2.ne hL1).symm
    generalize upd H2 L1 (.lst [.ref t1]) = H3 at y1 x1 xt J3 B3 ⊢
    try dsimp only [L2.start, List.set, List.map, List.append, List.replicate, List.length]
    -- the second
    refine ⟨_, rfl, _, rfl, _, rfl, a, _, m, rfl, J3, by omega, nb _ (by omega), fun v2 H4 a2 b2 J4 B4 => ⟨_, _, rfl, rfl, _, rfl, _, rfl, (by show 3 ≤ sizeLine; decide), fun t2 ht2 => ⟨(by show 1 ≤ sizeLine; decide), fun L2' hL2 => ?_⟩⟩⟩
    dsimp only at ht2 hL2 ⊢
    have x2 : upd H4 t2 (.tup [.int (1 + v2), .int m, .int g]) t2 = some (.tup [.int (1 + v2), .int m, .int g]) := upd_same
    have x1 := same_new (o := .tup [.int (1 + v2), .int m, .int g]) (Same.refl H4) ht2 _ _ (B4 _ _ x1 (nta J3 x1))
    have xt := same_new (o := .tup [.int (1 + v2), .int m, .int g]) (Same.refl H4) ht2 _ _ (B4 _ _ xt (nta J3 xt))
    have y1 := same_new (o := .tup [.int (1 + v2), .int m, .int g]) (Same.refl H4) ht2 _ _ (B4 _ _ y1 nL1)
    have J5 := J4.put (o := .tup [.int (1 + v2), .int m, .int g]) (J4.ne ht2)
    have B5 := (B3.trans B4).new (o := .tup [.int (1 + v2), .int m, .int g]) ht2
    generalize upd H4 t2 (.tup [.int (1 + v2), .int m, .int g]) = H5 at hL2 x1 x2 xt y1 J5 B5 ⊢
    have y2 : upd H5 L2' (.lst [.ref t2]) L2' = some (.lst [.ref t2]) := upd_same
    have x1 := same_new (o := .lst [.ref t2]) (Same.refl H5) hL2 _ _ x1
    have x2 := same_new (o := .lst [.ref t2]) (Same.refl H5) hL2 _ _ x2
    have xt := same_new (o := .lst [.ref t2]) (Same.refl H5) hL2 _ _ xt
    have y1 := same_new (o := .lst [.ref t2]) (Same.refl H5) hL2 _ _ y1
    have J6 := J5.put (o := .lst [.ref t2]) (J5.ne hL2)
    have B6 := B5.new (o := .lst [.ref t2]) hL2
    generalize upd H5 L2' (.lst [.ref t2]) = H6 at y1 y2 x1 x2 xt J6 B6 ⊢
    refine ⟨L1, L2', _, _, rfl, rfl, y1, y2, (by show 1 + 1 ≤ sizeLine; decide), fun L3 hL3 => ?_⟩
    have y3 : upd H6 L3 (.lst [.ref t1, .ref t2]) L3 = some (.lst [.ref t1, .ref t2]) := upd_same
    have x1 := same_new (o := .lst [.ref t1, .ref t2]) (Same.refl H6) hL3 _ _ x1
    have x2 := same_new (o := .lst [.ref t1, .ref t2]) (Same.refl H6) hL3 _ _ x2
    have xt := same_new (o := .lst [.ref t1, .ref t2]) (Same.refl H6) hL3 _ _ xt
    have J7 := J6.put (o := .lst [.ref t1, .ref t2]) (J6.ne hL3)
    have B7 := B6.new (o := .lst [.ref t1, .ref t2]) hL3
    have nL3 : L3 ≠ a := (J6.ne hL3).symm
    have e7 : ([V.ref t1] ++ [V.ref t2]) = [V.ref t1, V.ref t2] := rfl
    rw [e7]
    generalize upd H6 L3 (.lst [.ref t1, .ref t2]) = H7 at y3 x1 x2 xt J7 B7 ⊢
    clear y1 y2 hL1 hL2 hL3
    try dsimp only [L2.start, List.set, List.map, List.append, List.replicate, List.length]
    -- the third and the fourth
    refine ⟨_, rfl, _, rfl, _, rfl, _, rfl, _, rfl, _, rfl, _, _, rfl, rfl, a, _, g + 1, rfl, J7, by omega, nb _ (by omega), fun v3 H8 a3 b3 J8 B8 => ⟨_, _, rfl, rfl, (by show 3 ≤ sizeLine; decide), fun t3 ht3 => ?_⟩⟩
    dsimp only at ht3 ⊢
    have B8' := B7.trans B8
    have npa : p ≠ a := nta J hp
    have x3 : upd H8 t3 (.tup [.int l, .int m, .int (m + v3)]) t3 = some (.tup [.int l, .int m, .int (m + v3)]) := upd_same
    have x1 := same_new (o := .tup [.int l, .int m, .int (m + v3)]) (Same.refl H8) ht3 _ _ (B8 _ _ x1 (nta J7 x1))
    have x2 := same_new (o := .tup [.int l, .int m, .int (m + v3)]) (Same.refl H8) ht3 _ _ (B8 _ _ x2 (nta J7 x2))
    have xt := same_new (o := .tup [.int l, .int m, .int (m + v3)]) (Same.refl H8) ht3 _ _ (B8 _ _ xt (nta J7 xt))
    have y3 := same_new (o := .tup [.int l, .int m, .int (m + v3)]) (Same.refl H8) ht3 _ _ (B8 _ _ y3 nL3)
    have J9 := J8.put (o := .tup [.int l, .int m, .int (m + v3)]) (J8.ne ht3)
    have B9 := B8'.new (o := .tup [.int l, .int m, .int (m + v3)]) ht3
    generalize upd H8 t3 (.tup [.int l, .int m, .int (m + v3)]) = H9 at x1 x2 x3 xt y3 J9 B9 ⊢
    have hp9 := B9 _ _ hp npa
    refine ⟨_, rfl, p, _, _, _, rfl, rfl, SqT.of hp9, at_of2 (j := 2) rfl rfl, (by show 2 ≤ sizeLine; decide), fun L4 hL4 => ?_⟩
    have y4 : upd H9 L4 (.lst [.ref t3, .ref t]) L4 = some (.lst [.ref t3, .ref t]) := upd_same
    have sA := same_new (o := .lst [.ref t3, .ref t]) (Same.refl H9) hL4
    have J10 := J9.put (o := .lst [.ref t3, .ref t]) (J9.ne hL4)
    have B10 := B9.new (o := .lst [.ref t3, .ref t]) hL4
    generalize upd H9 L4 (.lst [.ref t3, .ref t]) = H10 at y4 sA J10 B10 ⊢
    refine ⟨L3, L4, _, _, rfl, rfl, sA _ _ y3, y4, (by show 2 + 2 ≤ sizeLine; decide), fun L5 hL5 => ?_⟩
    have sB := same_new (o := .lst [.ref t1, .ref t2, .ref t3, .ref t]) (Same.refl H10) hL5
    have y5 : upd H10 L5 (.lst [.ref t1, .ref t2, .ref t3, .ref t]) L5 = some (.lst ([t1, t2, t3, t].map V.ref)) := upd_same
    have J11 := J10.put (o := .lst [.ref t1, .ref t2, .ref t3, .ref t]) (J10.ne hL5)
    have B11 := B10.new (o := .lst [.ref t1, .ref t2, .ref t3, .ref t]) hL5
    have e11 : ([V.ref t1, V.ref t2] ++ [V.ref t3, V.ref t]) = [V.ref t1, V.ref t2, V.ref t3, V.ref t] := rfl
    rw [e11]
    generalize upd H10 L5 (.lst [.ref t1, .ref t2, .ref t3, .ref t]) = H11 at sB y5 J11 B11 ⊢
    have sAB := sA.trans sB
    have all : ∀ c ∈ [t1, t2, t3, t], ∃ l' m' g' : Int, SetOk l' m' g' ∧ g' ≤ 1000 ∧ H11 c = some (.tup [.int l', .int m', .int g']) := fun c hc => by
      simp only [List.mem_cons, List.not_mem_nil, or_false] at hc
      rcases hc with rfl | rfl | rfl | rfl
      · exact ⟨_, _, _, ⟨by omega, by omega, by omega⟩, by omega, sAB _ _ x1⟩
      · exact ⟨_, _, _, ⟨by omega, by omega, by omega⟩, by omega, sAB _ _ x2⟩
      · exact ⟨_, _, _, ⟨by omega, by omega, by omega⟩, by omega, sAB _ _ x3⟩
      · exact ⟨_, _, _, ⟨by omega, by omega, by omega⟩, by omega, sAB _ _ xt⟩
    generalize hcs : [t1, t2, t3, t] = cs at y5 all
    have cl : cs.length = 4 := by rw [← hcs]; rfl
    have hp11 := B11 _ _ hp npa
    have hl11 := B11 _ _ hl (J.no hl refs_no)
    have hpr11 : PrAt H11 ts prs := hpr.imp fun t p h => B11 _ _ h (J.no h fun _ _ _ z => nomatch z)
    try dsimp only [L2.start, List.set, List.map, List.append, List.replicate, List.length]
    refine ⟨_, rfl, L5, rfl, ⟨_, SqL.of y5⟩, fun D hD => ?_⟩
    refine lc_list (K := K) (a := L5) (xs := cs.map V.ref) (fun i H' => Same H11 H' ∧ ∃ us : List Addr, H' D = some (.lst (us.map V.ref)) ∧ us.length = i ∧ ∀ u ∈ us, ∃ c ∈ cs, H' u = some (.tup [.int n, .ref lp, .ref c])) ⟨same_new (Same.refl H11) hD, [], upd_same, rfl, fun _ h => (nomatch h)⟩ (fun i H' _ z => SqL.of (z.1 _ _ y5)) ?_ ?_
    · rintro i x H' hx ⟨s1, us, hU, ul, hus⟩
      obtain ⟨c, hc, rfl⟩ : ∃ c, c ∈ cs ∧ x = .ref c := by
        obtain ⟨c, hc, e⟩ := List.mem_map.mp (List.mem_of_getElem? hx)
        exact ⟨c, hc, e.symm⟩
      obtain ⟨l', m', g', S', gb', hcc⟩ := all c hc
      have il := ref_at hx
      refine ⟨rfl, ?_⟩
      unfold tYes
      refine iteT ?_
      refine ⟨_, rfl, p, _, _, _, rfl, rfl, SqT.of (s1 _ _ hp11), at_of2 (j := 0) rfl rfl, _, rfl, p, _, _, _, rfl, rfl, SqT.of (s1 _ _ hp11), at_of2 (j := 1) rfl rfl, _, rfl, (by show 3 ≤ sizeLine; decide), fun u hu => ?_⟩
      have s2 := same_new (o := .tup [.int n, .ref lp, .ref c]) s1 hu
      have sH := same_new (o := .tup [.int n, .ref lp, .ref c]) (Same.refl H') hu
      have s3 := same_put (o := .lst (us.map V.ref ++ [.ref u])) s2 hD
      have nDu : D ≠ u := ne_of_none hU hu
      refine ⟨_, sH _ _ hU, by rw [List.length_map]; exact small1000 (by omega), s3, us ++ [u], by rw [upd_same, List.map_append]; rfl, by rw [List.length_append, ul]; rfl, fun v hv => ?_⟩
      rcases List.mem_append.mp hv with hv | hv
      · obtain ⟨c2, m2, a2⟩ := hus v hv
        refine ⟨c2, m2, ?_⟩
        rw [upd_ne (ne_of a2 hU (by intro y; cases y)), upd_ne (ne_of_none a2 hu)]
        exact a2
      · rw [List.mem_singleton.mp hv]
        refine ⟨c, hc, ?_⟩
        rw [upd_ne (Ne.symm nDu)]
        exact upd_same
    · rintro H' ⟨s1, us, hU, ul, hus⟩
      rw [List.length_map, cl] at ul
      refine q D H' us hU ul (J11.ne hD).symm (fun u hu => ?_) ((J11.same s1).mono (by omega)) (B11.trans (But.of s1))
      obtain ⟨c, hc, hu'⟩ := hus u hu
      obtain ⟨l', m', g', S', gb', hcc⟩ := all c hc
      exact ⟨l', m', g', S', gb', lp, c, ts, hu', s1 _ _ hl11, hpr11.imp fun _ _ h => s1 _ _ h, s1 _ _ hcc⟩
end
end Cw
namespace Cw
open PySem L2
/-- the walks from all places -/
def Walks (H : Hp) (W : Int → Int) (n : Int) (ws : List Addr) (i : Nat) : Prop := ws.length = i ∧ ∀ j, j < i → ∃ v k, ws[j]? = some v ∧ WkOk W n (j : Int) k ∧ IL H v (wl W n (j : Int) k)
theorem Walks.imp {H H' : Hp} {W : Int → Int} {n : Int} {ws : List Addr} {i : Nat} (r : Walks H W n ws i) (k : ∀ v xs, IL H v xs → IL H' v xs) : Walks H' W n ws i :=
  ⟨r.1, fun j hj => by
    obtain ⟨v, kk, h1, h2, h3⟩ := r.2 j hj
    exact ⟨v, kk, h1, h2, k _ _ h3⟩⟩
def spSmR (C : Addr) : Sp := fun vs H Q _ => ∃ (r p : Addr) (n l m g : Int) (prs : List (Int × Int)), vs = [.ref r, .ref p] ∧ RawS H p n prs l m g ∧ GoodP n prs ∧ SetOk l m g ∧ n ≤ 200 * l ∧ g ≤ 1000 ∧ n ≤ 16 ∧ RowAt C H r n (marksOf prs) (strictOf prs) ∧
  ∀ H', Same H H' → Q (.bl true) H'
section
variable {P : Program} {w : World} {K : PySem.W.Frag} {mg : Str → Option Value} {base : Heap}
abbrev NSR : List Str := ["made", "raw", "length", "walks_here", "one", "two", "due", "spot"]
theorem scSR : FnScope NSR ["made", "raw"] (defScope sSmR) := ⟨rfl, rfl, rfl, by decide +kernel, rfl, by decide +kernel, by decide +kernel⟩
theorem ok_smr {f C fS fB fM fH fE : Addr} {fd fdS fdB fdM fdH fdE : FuncData} (F : Fun K "_law_small_right" "_law_small_right" sSmR f fd) (T : Bl mg) (hRp : mg "repr" = none) (Z : Eqs P w K mg base C fE fdE)
    (gS : mg "_law_slow_walk" = some (.ref fS)) (kS : PySem.W.keepIn K (.ref fS) = true) (bS : Binds K fdS ["raw", "begin"] []) (GS : FnOk P w K mg base CX0 2 fS fdS ["raw", "begin"] spSW)
    (gB : mg "_law_first" = some (.ref fB)) (kB : PySem.W.keepIn K (.ref fB) = true) (bB : Binds K fdB ["walk_here", "other"] []) (GB : FnOk P w K mg base CX0 1 fB fdB ["walk_here", "other"] spFirst)
    (gM : mg "meeting" = some (.ref fM)) (kM : PySem.W.keepIn K (.ref fM) = true) (bM : Binds K fdM NMe []) (GM : FnOk P w K mg base CX0 4 fM fdM NMe (spMeet C))
    (gH : mg "_law_heap" = some (.ref fH)) (kH : PySem.W.keepIn K (.ref fH) = true) (bH : Binds K fdH ["raw"] []) (GH : FnOk P w K mg base CX0 7 fH fdH ["raw"] (spHeap C)) :
    FnG P w K mg base 8 f fd ["made", "raw"] (spSmR C) := by
  refine okG F scSR (fun vs H Q E h => ?_) (fun cdv A outer s H vs Q E hr hg h => ?_)
  · obtain ⟨r, p, n, l, m, g, prs, rfl, _⟩ := h
    rfl
  · obtain ⟨r, p, n, l, m, g, prs, rfl, RR, G, S, big, g1, n1, row, q⟩ := h
    have hr1 : Room 1 (A.deeper (PyProof.Rows.envOfC "_law_small_right" (defScope sSmR) s.heap.objs.size f cdv)) := hr.mono (by decide)
    have hr2 : Room 2 (A.deeper (PyProof.Rows.envOfC "_law_small_right" (defScope sSmR) s.heap.objs.size f cdv)) := hr.mono (by decide)
    have hr4 : Room 4 (A.deeper (PyProof.Rows.envOfC "_law_small_right" (defScope sSmR) s.heap.objs.size f cdv)) := hr.mono (by decide)
    have hu : (A.deeper (PyProof.Rows.envOfC "_law_small_right" (defScope sSmR) s.heap.objs.size f cdv)).units + 64 < cLine := Nat.lt_of_le_of_lt (by omega) hr.un
    have gu : (A.deeper (PyProof.Rows.envOfC "_law_small_right" (defScope sSmR) s.heap.objs.size f cdv)).guards = some [] := hg
    refine ⟨_, (pss_cons (ps_set (i := 2) scSR.nd rfl (Or.inl rfl) (pe_ix ix_tup (pv 1) pe_int (fun _ _ => rfl)))
        (pss_cons (ps_setLc (i := 3) (own := [("spot", 7)]) (g := gName 7) (tt := tYes) rfl scSR.nd rfl rfl (sw_true rfl rfl rfl (by decide +kernel)) (pi_range1 (by rfl) T.range (pa_cons (pe_op op_add (pv 2) pe_int) pa_nil)) (blkOk_by (own := [("spot", 7)]) (N := NSR) (sc := defScope sSmR) (by decide +kernel)) (fun _ _ _ _ _ => pg_name (i := 7) scSR.nd rfl (Or.inl rfl)) (fun _ _ _ _ _ => pts_nil) (fun _ _ _ _ _ => (pe_call GS (hr.mono (by decide)) rfl gS kS bS .nil pass0 (pa_cons (pv 1) (pa_cons (pv 7) pa_nil)))))
        (pss_cons (ps_for PassesOwn.never rfl (pi_range1 (by rfl) T.range (pa_cons (pe_op op_add (pv 2) pe_int) pa_nil)) (pg_name (i := 4) scSR.nd rfl (Or.inl rfl))
        (pss_one (ps_for PassesOwn.never rfl (pi_range2 (by rfl) T.range (pa_cons (pv 4) (pa_cons (pe_op op_add (pv 2) pe_int) pa_nil))) (pg_name (i := 5) scSR.nd rfl (Or.inl rfl))
        (pss_cons (ps_set (i := 6) scSR.nd rfl (Or.inl rfl) (pe_call GB hr1 rfl gB kB bB .nil pass0 (pa_cons (pe_ix (r := rIxL K) ix_list (pv 3) (pv 4) (fun _ _ => rfl)) (pa_cons (pe_ix (r := rIxL K) ix_list (pv 3) (pv 5) (fun _ _ => rfl)) pa_nil))))
        (pss_one (ps_if (pt_cmpR op_ne (pe_callB (call_reprD gu hu) (by rfl) hRp (by decide +kernel) (pa_cons (pe_lst (pa_cons (pe_call GM hr4 rfl gM kM bM .nil pass0 (pa_cons (pv 0) (pa_cons (pe_ix ix_tup (pv 1) pe_int (fun _ _ => rfl)) (pa_cons (pv 4) (pa_cons (pv 5) pa_nil))))) (pa_cons (pe_call GM hr4 rfl gM kM bM .nil pass0 (pa_cons (pv 0) (pa_cons (pe_ix ix_tup (pv 1) pe_int (fun _ _ => rfl)) (pa_cons (pv 5) (pa_cons (pv 4) pa_nil))))) pa_nil))) pa_nil)) (pe_callB (call_reprD gu hu) (by rfl) hRp (by decide +kernel) (pa_cons (pe_lst (pa_cons (pv 6) (pa_cons (pv 6) pa_nil))) pa_nil)) (nomark _)) (pss_one (ps_ret pe_bl)) pss_nil))))))
        (pss_one (ps_ret (pe_cmpR (op_eqG (rcG_ins Z.ok Z.hs Z.hf Z.hb pass0) hr1) (pv 0) (pe_call GH (hr.mono (by decide)) rfl gH kH bH .nil pass0 (pa_cons (pv 1) pa_nil)) (nomark _))))))), ?_⟩
    have l1 := S.l1
    have n0 := G.pos
    have ST := nx_stp G.good S
    have R0 := RR
    obtain ⟨lp, t, ts, hp, hl, hpr, ht⟩ := RR
    refine ⟨_, rfl, p, _, _, _, rfl, rfl, SqT.of hp, at_of2 (j := 0) rfl rfl, ?_⟩
    try dsimp only [L2.start, List.set, List.map, List.append, List.replicate, List.length]
    generalize hW : nx n (marksOf prs) (strictOf prs) l m g = W at ST
    refine ⟨_, rfl, _, _, rfl, rfl, _, rfl, by omega, by omega, fun D hD => ?_⟩
    refine lc_range (lo := 0) (n := Int.toNat _) (fun i H' => Same H H' ∧ ∃ ws : List Addr, H' D = some (.lst (ws.map V.ref)) ∧ Walks H' W n ws i ∧ D ∉ ws) ⟨same_new (Same.refl H) hD, [], upd_same, ⟨rfl, fun j hj => absurd hj (Nat.not_lt_zero _)⟩, fun h => (nomatch h)⟩ ?_ ?_
    · rintro i H' hi ⟨s1, ws, hU, hws, nDw⟩
      refine ⟨rfl, ?_⟩
      unfold tYes
      refine iteT ?_
      refine ⟨_, rfl, _, rfl, p, n, l, m, g, 0 + (i : Int), prs, rfl, R0.same s1, G, S, big, by omega, g1, by omega, by omega, fun x H2 e s2 nx' wk ix => ?_⟩
      rw [hW, Int.zero_add] at wk ix
      have nDx : D ≠ x := ne_of_none hU nx'
      refine ⟨_, s2 _ _ hU, by rw [List.length_map, hws.1]; exact small1000 (by omega), same_put (s1.trans s2) hD, ws ++ [x], by rw [upd_same, List.map_append]; rfl, ⟨by rw [List.length_append, hws.1]; rfl, fun j hj => ?_⟩, fun hm => ?_⟩
      · by_cases c : j = i
        · subst c
          refine ⟨x, e, by rw [List.getElem?_append_right (by rw [hws.1]; exact Nat.le_refl _), hws.1, Nat.sub_self]; rfl, wk, ?_⟩
          show upd _ _ _ x = _
          rw [upd_ne (Ne.symm nDx)]
          exact ix
        · obtain ⟨v, k, h1, h2, h3⟩ := hws.2 j (by omega)
          refine ⟨v, k, by rw [List.getElem?_append_left (by rw [hws.1]; omega)]; exact h1, h2, ?_⟩
          have nv : v ≠ D := fun c => nDw (by rw [← c]; exact List.mem_of_getElem? h1)
          show upd _ _ _ v = _
          rw [upd_ne nv]
          exact s2 _ _ h3
      · rcases List.mem_append.mp hm with hm | hm
        · exact nDw hm
        · exact nDx (List.mem_singleton.mp hm)
    rintro H1 ⟨s1, ws, hU, hws, _⟩
    try dsimp only [L2.start, List.set, List.map, List.append, List.replicate, List.length]
    have wsl := hws.1
    refine ⟨_, rfl, _, _, rfl, rfl, _, rfl, by omega, by omega, ?_⟩
    refine for_range (lo := 0) (n := Int.toNat _) (fun i σ H' => ∃ (v4 v5 v6 : Option V), σ = [some (.ref r), some (.ref p), some (.int n), some (.ref D), v4, v5, v6, none] ∧ Same H1 H') ⟨_, _, _, rfl, Same.refl H1⟩ ?_ ?_
    · rintro i σ H2 hi ⟨v4, v5, v6, rfl, s2⟩
      have ia : (0 : Int) + i = i := Int.zero_add _
      have il : (i : Int) ≤ n := by omega
      try dsimp only [L2.start, List.set, List.map, List.append, List.replicate, List.length]
      rw [ia]
      refine ⟨_, rfl, _, rfl, _, _, rfl, rfl, _, _, rfl, ⟨by omega, by omega, by omega, by omega⟩, ?_⟩
      refine for_range (fun j σ H' => ∃ (v5 v6 : Option V), σ = [some (.ref r), some (.ref p), some (.int n), some (.ref D), some (.int i), v5, v6, none] ∧ Same H1 H') ⟨_, _, rfl, s2⟩ ?_ ?_
      · rintro j σ H3 hj ⟨v5, v6, rfl, s3⟩
        obtain ⟨jj, ej⟩ : ∃ jj : Nat, (i : Int) + j = jj := ⟨i + j, by omega⟩
        have jl : (jj : Int) ≤ n := by omega
        rw [ej]
        try dsimp only [L2.start, List.set, List.map, List.append, List.replicate, List.length]
        obtain ⟨x1, k1, e1, w1, i1⟩ := hws.2 i (by omega)
        obtain ⟨x2, k2, e2, w2, i2⟩ := hws.2 jj (by omega)
        have at1 : atI (ws.map V.ref) (i : Int) = some (V.ref x1) := at_of2 (j := i) rfl (by rw [List.getElem?_map, e1]; rfl)
        have at2 : atI (ws.map V.ref) (jj : Int) = some (V.ref x2) := at_of2 (j := jj) rfl (by rw [List.getElem?_map, e2]; rfl)
        have hU3 := SqL.of (K := K) (s3 _ _ hU)
        refine ⟨_, rfl, _, rfl, D, _, _, _, rfl, rfl, hU3, at1, _, rfl, _, rfl, D, _, _, _, rfl, rfl, hU3, at2, x1, x2, W, n, i, jj, k1, k2, rfl, w1, w2, s3 _ _ i1, s3 _ _ i2, fun v H4 s4 fc => ?_⟩
        have s34 := s3.trans s4
        have S14 := s1.trans s34
        try dsimp only [L2.start, List.set, List.map, List.append, List.replicate, List.length]
        have RW : ∀ H', Same H4 H' → RwS C H' r t n l m g (marksOf prs) (strictOf prs) := fun H' s => ⟨row.same (S14.trans s), (S14.trans s) _ _ ht, G.good, S, big⟩
        refine ⟨_, rfl, _, rfl, p, _, _, _, rfl, rfl, SqT.of (S14 _ _ hp), at_of2 (j := 2) rfl rfl, _, rfl, _, rfl, r, t, n, l, m, g, i, jj, _, _, rfl, RW _ (Same.refl H4), by omega, il, by omega, jl, fun H5 u s5 M => ?_⟩
        rw [hW] at M
        have eu := fc.mt M
        subst eu
        refine ⟨_, rfl, _, rfl, p, _, _, _, rfl, rfl, SqT.of ((S14.trans s5) _ _ hp), at_of2 (j := 2) rfl rfl, _, rfl, _, rfl, r, t, n, l, m, g, jj, i, _, _, rfl, RW _ s5, by omega, jl, by omega, il, fun H6 u2 s6 M2 => ?_⟩
        rw [hW] at M2
        have eu2 := fc.mt M2.swap
        subst eu2
        refine ⟨(by show 2 ≤ sizeLine; decide), fun d1 hd1 => ?_⟩
        have vr : Wide [u2, u2] := by
          have wd := wl_wide (n := n) G.good S (p := (i : Int)) (k := k1) (by rw [hW]; exact w1) (by omega) il (by omega)
          rw [hW] at wd
          obtain ⟨a1, e1, _⟩ := fc
          have z := wd.2 u2 (by rw [← e1]; exact kc_all w1 a1)
          exact ⟨(by show 2 ≤ 900; decide), fun x hx => by
            simp only [List.mem_cons, List.not_mem_nil, or_false, or_self] at hx
            rw [hx]
            exact z⟩
        have b1 : IL (upd H6 d1 (.lst [.int u2, .int u2])) d1 [u2, u2] := upd_same
        have s7 := same_new (o := .lst [.int u2, .int u2]) (Same.refl H6) hd1
        generalize upd H6 d1 (.lst [.int u2, .int u2]) = H7 at b1 s7 ⊢
        obtain ⟨z1, z2, z3, z4, z5⟩ := txt_il (K := K) b1 vr
        refine ⟨d1, _, rfl, z1, z2, z3, z4, z5, ?_⟩
        clear z1 z2 z3 z4 z5
        refine ⟨_, rfl, _, rfl, (by show 2 ≤ sizeLine; decide), fun d2 hd2 => ?_⟩
        have b2 : IL (upd H7 d2 (.lst [.int u2, .int u2])) d2 [u2, u2] := upd_same
        have s8 := same_new (o := .lst [.int u2, .int u2]) (Same.refl H7) hd2
        generalize upd H7 d2 (.lst [.int u2, .int u2]) = H8 at b2 s8 ⊢
        obtain ⟨z1, z2, z3, z4, z5⟩ := txt_il (K := K) b2 vr
        refine ⟨d2, _, rfl, z1, z2, z3, z4, z5, ?_⟩
        clear z1 z2 z3 z4 z5
        refine ⟨rfl, _, rfl, ?_⟩
        refine ifF (by simp) ?_
        exact ⟨_, _, rfl, (((s34.trans s5).trans s6).trans s7).trans s8⟩
      · rintro σ H3 ⟨v5, v6, rfl, s3⟩
        exact ⟨_, _, _, rfl, s3⟩
    · rintro σ H2 ⟨v4, v5, v6, rfl, s2⟩
      refine ⟨_, rfl, _, rfl, p, n, prs, rfl, (R0.same (s1.trans s2)).raw, G, fun r2 H3 s3 row2 => ?_⟩
      have s13 := (s1.trans s2).trans s3
      refine ⟨alike_ins (row.same s13) row2.at, fun H4 e4 => ?_⟩
      exact q _ fun c o h => e4 c o (s13 c o h)
end
end Cw
namespace Cw
open PySem L2
abbrev sGrR : Stmt := top 42
def spGrR (C : Addr) : Sp := fun vs H Q _ => ∃ (a r p : Addr) (k : Nat) (n l m g : Int) (prs : List (Int × Int)), vs = [.ref a, .ref r, .ref p] ∧ JarAt H a (k + 24 + 1) ∧ RawS H p n prs l m g ∧ GoodP n prs ∧ prs.length ≤ 16 ∧ SetOk l m g ∧ n ≤ 200 * l ∧ n ≤ 10000000000000000000000000000000 ∧ RowOff C H a r n (marksOf prs) (strictOf prs) ∧
  ∀ H', JarAt H' a k → But H H' a → Q (.bl true) H'
section
variable {P : Program} {w : World} {K : PySem.W.Frag} {mg : Str → Option Value} {base : Heap}
abbrev NGR : List Str := ["jar", "made", "raw", "near", "spot", "kind", "turn", "one", "walk_here", "two", "due"]
theorem scGR : FnScope NGR ["jar", "made", "raw"] (defScope sGrR) := ⟨rfl, rfl, rfl, by decide +kernel, rfl, by decide +kernel, by decide +kernel⟩
theorem ok_grr {f C fD fS fB fM : Addr} {fd fdD fdS fdB fdM : FuncData} (F : Fun K "_law_great_right" "_law_great_right" sGrR f fd) (T : Bl mg)
    (gD : mg "_law_dip" = some (.ref fD)) (kD : PySem.W.keepIn K (.ref fD) = true) (bD : Binds K fdD ["jar", "many"] []) (GD : FnOk P w K mg base CX0 1 fD fdD ["jar", "many"] spDip)
    (gS : mg "_law_far_walk" = some (.ref fS)) (kS : PySem.W.keepIn K (.ref fS) = true) (bS : Binds K fdS ["raw", "begin"] []) (GS : FnOk P w K mg base CX0 2 fS fdS ["raw", "begin"] spFarW)
    (gB : mg "_law_first" = some (.ref fB)) (kB : PySem.W.keepIn K (.ref fB) = true) (bB : Binds K fdB ["walk_here", "other"] []) (GB : FnOk P w K mg base CX0 1 fB fdB ["walk_here", "other"] spFirst)
    (gM : mg "meeting" = some (.ref fM)) (kM : PySem.W.keepIn K (.ref fM) = true) (bM : Binds K fdM NMe []) (GM : FnOk P w K mg base CX0 4 fM fdM NMe (spMeet C)) :
    FnOk P w K mg base CX0 7 f fd ["jar", "made", "raw"] (spGrR C) := by
  refine F.ok scGR (fun vs H Q E h => ?_) (fun cdv A outer s H vs Q E hr h => ?_)
  · obtain ⟨a, r, p, k, n, l, m, g, prs, rfl, _⟩ := h
    rfl
  · obtain ⟨a, r, p, k, n, l, m, g, prs, rfl, J, RR, G, few, S, big, nlim, ro, q⟩ := h
    have hr1 : Room 1 (A.deeper (PyProof.Rows.envOfC "_law_great_right" (defScope sGrR) s.heap.objs.size f cdv)) := hr.mono (by decide)
    have hr2 : Room 2 (A.deeper (PyProof.Rows.envOfC "_law_great_right" (defScope sGrR) s.heap.objs.size f cdv)) := hr.mono (by decide)
    have hr4 : Room 4 (A.deeper (PyProof.Rows.envOfC "_law_great_right" (defScope sGrR) s.heap.objs.size f cdv)) := hr.mono (by decide)
    refine ⟨_, (pss_cons (ps_set (i := 3) scGR.nd rfl (Or.inl rfl) (pe_lst (pa_cons pe_int (pa_cons (pe_ix ix_tup (pv 2) pe_int (fun _ _ => rfl)) (pa_cons (pe_call GD hr1 rfl gD kD bD .nil pass0 (pa_cons (pv 0) (pa_cons (pe_ix ix_tup (pv 2) pe_int (fun _ _ => rfl)) pa_nil))) pa_nil)))))
        (pss_cons (ps_for PassesOwn.never rfl (pi_list (pe_ix ix_tup (pv 2) pe_int (fun _ _ => rfl))) (pg_tup (by rfl) (pgs_cons (pg_name (i := 4) scGR.nd rfl (Or.inl rfl)) (pgs_cons (pg_name (i := 5) scGR.nd rfl (Or.inl rfl)) pgs_nil)))
        (pss_one (ps_expr (pe_bm PySem.F.plainAttrs_list PySem.F.slot_list_extend PySem.F.type_list_extend mt_extend (pv 3) (pa_cons (pe_lst (pa_cons (pv 4) (pa_cons (pe_op op_sub (pv 4) (pe_ix ix_tup (pe_ix ix_tup (pv 2) pe_int (fun _ _ => rfl)) pe_int (fun _ _ => rfl))) (pa_cons (pe_op op_sub (pv 4) (pe_ix ix_tup (pe_ix ix_tup (pv 2) pe_int (fun _ _ => rfl)) (pe_op op_sub pe_int (pv 5)) (fun _ _ => rfl))) pa_nil)))) pa_nil)))))
        (pss_cons (ps_for PassesOwn.never rfl (pi_range1 (by rfl) T.range (pa_cons pe_int pa_nil)) (pg_name (i := 6) scGR.nd rfl (Or.inl rfl))
        (pss_cons (ps_set (i := 7) scGR.nd rfl (Or.inl rfl) (pe_callB (call_min2 rfl) (by rfl) T.min (by decide +kernel) (pa_cons (pe_ix ix_tup (pv 2) pe_int (fun _ _ => rfl)) (pa_cons (pe_callB (call_max2 rfl) (by rfl) T.max (by decide +kernel) (pa_cons pe_int (pa_cons (pe_op op_sub (pe_op op_add (pe_ix (r := rIxL K) ix_list (pv 3) (pe_call GD hr1 rfl gD kD bD .nil pass0 (pa_cons (pv 0) (pa_cons (pe_callB call_len_seq (by rfl) T.len PySem.boot_len (pa_cons (pv 3) pa_nil)) pa_nil))) (fun _ _ => rfl)) (pe_call GD hr1 rfl gD kD bD .nil pass0 (pa_cons (pv 0) (pa_cons pe_int pa_nil)))) pe_int) pa_nil))) pa_nil))))
        (pss_cons (ps_set (i := 8) scGR.nd rfl (Or.inl rfl) (pe_call GS hr2 rfl gS kS bS .nil pass0 (pa_cons (pv 2) (pa_cons (pv 7) pa_nil))))
        (pss_cons (ps_set (i := 9) scGR.nd rfl (Or.inl rfl) (pe_ix (r := rIxL K) ix_list (pe_lst (pa_cons (pe_ix (r := rIxL K) ix_list (pv 3) (pe_call GD hr1 rfl gD kD bD .nil pass0 (pa_cons (pv 0) (pa_cons (pe_callB call_len_seq (by rfl) T.len PySem.boot_len (pa_cons (pv 3) pa_nil)) pa_nil))) (fun _ _ => rfl)) (pa_cons (pe_ix (r := rIxL K) ix_list (pv 8) (pe_call GD hr1 rfl gD kD bD .nil pass0 (pa_cons (pv 0) (pa_cons (pe_callB call_len_seq (by rfl) T.len PySem.boot_len (pa_cons (pv 8) pa_nil)) pa_nil))) (fun _ _ => rfl)) pa_nil))) (pe_call GD hr1 rfl gD kD bD .nil pass0 (pa_cons (pv 0) (pa_cons pe_int pa_nil))) (fun _ _ => rfl)))
        (pss_cons (ps_set (i := 9) scGR.nd rfl (Or.inl rfl) (pe_callB (call_min2 rfl) (by rfl) T.min (by decide +kernel) (pa_cons (pe_ix ix_tup (pv 2) pe_int (fun _ _ => rfl)) (pa_cons (pe_callB (call_max2 rfl) (by rfl) T.max (by decide +kernel) (pa_cons pe_int (pa_cons (pe_op op_sub (pv 9) (pe_call GD hr1 rfl gD kD bD .nil pass0 (pa_cons (pv 0) (pa_cons pe_int pa_nil)))) pa_nil))) pa_nil))))
        (pss_cons (ps_set (i := 10) scGR.nd rfl (Or.inl rfl) (pe_call GB hr1 rfl gB kB bB .nil pass0 (pa_cons (pv 8) (pa_cons (pe_call GS hr2 rfl gS kS bS .nil pass0 (pa_cons (pv 2) (pa_cons (pv 9) pa_nil))) pa_nil))))
        (pss_one (ps_if (pt_cmpR (op_neD hr.units) (pe_lst (pa_cons (pe_call GM hr4 rfl gM kM bM .nil pass0 (pa_cons (pv 1) (pa_cons (pe_ix ix_tup (pv 2) pe_int (fun _ _ => rfl)) (pa_cons (pv 7) (pa_cons (pv 9) pa_nil))))) (pa_cons (pe_call GM hr4 rfl gM kM bM .nil pass0 (pa_cons (pv 1) (pa_cons (pe_ix ix_tup (pv 2) pe_int (fun _ _ => rfl)) (pa_cons (pv 9) (pa_cons (pv 7) pa_nil))))) pa_nil))) (pe_lst (pa_cons (pv 10) (pa_cons (pv 10) pa_nil))) (nomark _)) (pss_one (ps_ret pe_bl)) pss_nil))))))))
        (pss_one (ps_ret pe_bl))))), ?_⟩
    have l1 := S.l1
    have n0 := G.pos
    have ST := nx_stp G.good S
    have R0 := RR
    have nb : ∀ x : Int, x ≤ 10000000000000000000000000000001 → x < 2 ^ 120 := fun x h => Int.lt_of_le_of_lt h (by decide)
    obtain ⟨lp, t, ts, hp, hl, hpr, ht⟩ := RR
    have lt := hpr.len
    have npa : p ≠ a := J.no hp fun _ _ _ z => nomatch z
    have nta : t ≠ a := J.no ht fun _ _ _ z => nomatch z
    have nla : lp ≠ a := J.no hl refs_no
    generalize hW : nx n (marksOf prs) (strictOf prs) l m g = W at ST
    refine ⟨_, rfl, p, _, _, _, rfl, rfl, SqT.of hp, at_of2 (j := 0) rfl rfl, _, rfl, _, rfl, p, _, _, _, rfl, rfl, SqT.of hp, at_of2 (j := 0) rfl rfl, a, k + 24, n, rfl, J, by omega, nb _ (by omega), fun v0 H1 a0 b0 J1 B1 => ⟨(by show 3 ≤ sizeLine; decide), fun L hL => ?_⟩⟩
    have nLa : L ≠ a := (J1.ne hL).symm
    have B2 := B1.new (o := .lst [.int 0, .int n, .int v0]) hL
    have J2 := J1.put (o := .lst [.int 0, .int n, .int v0]) nLa.symm
    have hL2 : IL (upd H1 L (.lst [.int 0, .int n, .int v0])) L [0, n, v0] := upd_same
    have s12 := same_new (o := .lst [.int 0, .int n, .int v0]) (Same.refl H1) hL
    have hl1 := s12 _ _ (B1 _ _ hl nla)
    have fL : H L = none := none_but J1 B1 hL
    generalize upd H1 L (.lst [.int 0, .int n, .int v0]) = H2 at B2 J2 hL2 s12 hl1 ⊢
    try dsimp only [L2.start, List.set, List.map, List.append, List.replicate, List.length]
    have pH : ∀ H', But H H' a → H' p = some (.tup [.int n, .ref lp, .ref t]) := fun H' B => B _ _ hp npa
    have tH : ∀ H', But H H' a → H' t = some (.tup [.int l, .int m, .int g]) := fun H' B => B _ _ ht nta
    refine ⟨_, rfl, p, _, _, _, rfl, rfl, SqT.of (pH _ B2), at_of2 (j := 1) rfl rfl, lp, rfl, ⟨_, SqL.of hl1⟩, ?_⟩
    refine for_list (xs := ts.map V.ref) (fun i σ H' => ∃ (v4 v5 : Option V) (ks : List Int), σ = [some (.ref a), some (.ref r), some (.ref p), some (.ref L), v4, v5, none, none, none, none, none] ∧ JarAt H' a (k + 24) ∧ But H H' a ∧ IL H' L ks ∧ ks.length = 3 + 3 * i) ⟨_, _, _, rfl, J2, B2, hL2, rfl⟩ (fun i σ H' _ ⟨v4, v5, ks, z⟩ => SqL.of (z.2.2.1 _ _ hl nla)) ?_ ?_
    · rintro i x σ H3 hx ⟨v4, v5, ks, rfl, J3, B3, hK, kl⟩
      obtain ⟨u, y, rfl, hy, hu⟩ := hpr.get hx
      have il := ref_at hx
      have rg := (G.rng y (List.mem_of_getElem? hy)).2.2
      have a1 : ∃ r : Int, atI [V.int l, V.int m, V.int g] (2 - y.2) = some (V.int r) := by
        rcases rg with e | e <;> rw [e]
        · exact ⟨m, rfl⟩
        · exact ⟨l, rfl⟩
      obtain ⟨rr, a1⟩ := a1
      have pa := SqT.of (K := K) (pH _ B3)
      have ta := SqT.of (K := K) (tH _ B3)
      refine ⟨u, _, rfl, SqT.of (B3 _ _ hu (J.no hu fun _ _ _ z => nomatch z)), rfl, _, _, rfl, _, _, rfl, rfl, ?_⟩
      try dsimp only [L2.start, List.set, List.map, List.append, List.replicate, List.length]
      refine ⟨_, rfl, .inl ⟨rfl, _, SqL.of hK⟩, ?_⟩
      refine ⟨_, rfl, _, rfl, _, rfl, p, _, _, _, rfl, rfl, pa, at_of2 (j := 2) rfl rfl, t, _, _, _, rfl, rfl, ta, at_of2 (j := 2) rfl rfl, _, _, rfl, rfl, ?_⟩
      refine ⟨_, rfl, _, rfl, p, _, _, _, rfl, rfl, pa, at_of2 (j := 2) rfl rfl, _, rfl, _, _, rfl, rfl, t, _, _, _, rfl, rfl, ta, a1, _, _, rfl, rfl, (by show 3 ≤ sizeLine; decide), fun b hb => ?_⟩
      have nLb : L ≠ b := ne_of_none hK hb
      dsimp only at hb ⊢
      refine ⟨L, b, _, _, rfl, rfl, (by rw [upd_ne nLb]; exact hK), upd_same, ?_, ?_⟩
      · rw [List.length_map, sizeLine_eq]
        show ks.length + 3 ≤ _
        omega
      have B4 := (B3.new (o := .lst [.int y.1, .int (y.1 - g), .int (y.1 - rr)]) hb)
      refine ⟨_, _, ks ++ [y.1, y.1 - g, y.1 - rr], rfl, (J3.put (J3.ne hb)).put nLa.symm, B4.put fL, ?_, by rw [List.length_append, kl]; show 3 + 3 * i + 3 = _; omega⟩
      show upd _ _ _ L = _
      rw [upd_same, List.map_append]
      rfl
    rintro σ H3 ⟨v4, v5, ks, rfl, J3, B3, hK, kl⟩
    rw [List.length_map, lt] at kl
    try dsimp only [L2.start, List.set, List.map, List.append, List.replicate, List.length]
    have J3 : JarAt H3 a (k + 6 * 4) := J3
    refine ⟨_, rfl, by decide, by decide, ?_⟩
    refine for_range (lo := 0) (n := 4) (fun i σ H' => ∃ (v6 v7 v8 v9 v10 : Option V), σ = [some (.ref a), some (.ref r), some (.ref p), some (.ref L), v4, v5, v6, v7, v8, v9, v10] ∧ JarAt H' a (k + 6 * (4 - i)) ∧ But H3 H' a) ⟨_, _, _, _, _, rfl, J3, But.refl _ _⟩ ?_ ?_
    · rintro i σ H4 hi ⟨v6, v7, v8, v9, v10, rfl, J4, B4⟩
      have J4 : JarAt H4 a (k + 6 * (4 - (i + 1)) + 1 + 1 + 1 + 1 + 1 + 1) := J4.mono (by omega)
      generalize k + 6 * (4 - (i + 1)) = kk at J4 ⊢
      have hK4 := B4 _ _ hK nLa
      have B04 := B3.trans B4
      have klen : 0 < ((ks.map V.int).length : Int) ∧ ((ks.map V.int).length : Int) ≤ 1000 := by
        rw [List.length_map]
        omega
      try dsimp only [L2.start, List.set, List.map, List.append, List.replicate, List.length]
      refine ⟨_, rfl, p, _, _, _, rfl, rfl, SqT.of (pH _ B04), at_of2 (j := 0) rfl rfl, _, rfl, _, rfl, _, rfl, L, _, rfl, .inl (SqL.of hK4), a, _, _, rfl, J4, klen.1, nb _ (by omega), fun x1 H5 c1 d1 J5 B5 => ?_⟩
      obtain ⟨y1, ey1, my1⟩ := near_at c1 d1
      refine ⟨L, _, _, _, rfl, rfl, SqL.of (B5 _ _ hK4 nLa), ey1, _, rfl, a, _, 3, rfl, J5, by decide, by decide, fun u1 H6 _ _ J6 B6 => ⟨_, _, rfl, rfl, _, _, rfl, rfl, _, _, rfl, _, _, rfl, ?_⟩⟩
      have pr : 0 ≤ (if (if y1 + u1 - 1 > 0 then y1 + u1 - 1 else 0) < n then if y1 + u1 - 1 > 0 then y1 + u1 - 1 else 0 else n) ∧ (if (if y1 + u1 - 1 > 0 then y1 + u1 - 1 else 0) < n then if y1 + u1 - 1 > 0 then y1 + u1 - 1 else 0 else n) ≤ n := by
        by_cases h1 : y1 + u1 - 1 > 0 <;> simp only [h1, if_true, if_false] <;> split <;> omega
      generalize (if (if y1 + u1 - 1 > 0 then y1 + u1 - 1 else 0) < n then if y1 + u1 - 1 > 0 then y1 + u1 - 1 else 0 else n) = one at pr ⊢
      have B6' := (B4.trans B5).trans B6
      try dsimp only [L2.start, List.set, List.map, List.append, List.replicate, List.length]
      refine ⟨_, rfl, _, rfl, p, n, l, m, g, one, prs, rfl, R0.but J (B3.trans B6'), G, S, big, pr.1, pr.2, fun D1 H7 e1 s7 nD1 wk1 i1 => ?_⟩
      rw [hW] at wk1 i1
      have few1 := wk1.few
      have nDa : D1 ≠ a := (J6.ne nD1).symm
      have J7 := J6.same s7
      have B7 := B6'.trans (But.of s7)
      have wlen : 0 < (((wl W n one e1).map V.int).length : Int) ∧ (((wl W n one e1).map V.int).length : Int) ≤ 1000 := by
        rw [List.length_map, wl_len]
        omega
      try dsimp only [L2.start, List.set, List.map, List.append, List.replicate, List.length]
      refine ⟨_, rfl, _, rfl, _, rfl, L, _, rfl, .inl (SqL.of (B7 _ _ hK nLa)), a, _, _, rfl, J7, klen.1, nb _ (by omega), fun x2 H8 c2 d2 J8 B8 => ?_⟩
      obtain ⟨y2, ey2, my2⟩ := near_at c2 d2
      have B8' := B7.trans B8
      have i8 := B8 _ _ i1 nDa
      refine ⟨L, _, _, _, rfl, rfl, SqL.of (B8' _ _ hK nLa), ey2, _, rfl, _, rfl, _, rfl, D1, _, rfl, .inl (SqL.of i8), a, _, _, rfl, J8, wlen.1, nb _ (by omega), fun x3 H9 c3 d3 J9 B9 => ?_⟩
      obtain ⟨y3, ey3, my3⟩ := near_at c3 d3
      have B9' := B8'.trans B9
      have i9 := B9 _ _ i8 nDa
      refine ⟨D1, _, _, _, rfl, rfl, SqL.of i9, ey3, (by show 2 ≤ sizeLine; decide), fun M hM => ?_⟩
      have nMa : M ≠ a := (J9.ne hM).symm
      have J10 := J9.put (o := .lst [.int y2, .int y3]) (J9.ne hM)
      have B10 := B9'.new (o := .lst [.int y2, .int y3]) hM
      have iM : IL (upd H9 M (.lst [.int y2, .int y3])) M [y2, y3] := upd_same
      have i10 := same_new (o := .lst [.int y2, .int y3]) (Same.refl H9) hM _ _ i9
      generalize upd H9 M (.lst [.int y2, .int y3]) = H10 at J10 B10 iM i10 ⊢
      refine ⟨_, rfl, a, _, 2, rfl, J10, by decide, by decide, fun x4 H11 c4 d4 J11 B11 => ?_⟩
      obtain ⟨y4, ey4, my4⟩ := near_at (ks := [y2, y3]) c4 d4
      have B11' := B10.trans B11
      have i11 := B11 _ _ i10 nDa
      refine ⟨M, _, _, _, rfl, rfl, SqL.of (B11 _ _ iM nMa), ey4, ?_⟩
      try dsimp only [L2.start, List.set, List.map, List.append, List.replicate, List.length]
      refine ⟨_, rfl, p, _, _, _, rfl, rfl, SqT.of (pH _ (B3.trans B11')), at_of2 (j := 0) rfl rfl, _, rfl, _, rfl, a, _, 2, rfl, J11, by decide, by decide, fun x5 H12 _ _ J12 B12 => ⟨_, _, rfl, rfl, _, _, rfl, _, _, rfl, ?_⟩⟩
      have pr2 : 0 ≤ (if (if y4 - x5 > 0 then y4 - x5 else 0) < n then if y4 - x5 > 0 then y4 - x5 else 0 else n) ∧ (if (if y4 - x5 > 0 then y4 - x5 else 0) < n then if y4 - x5 > 0 then y4 - x5 else 0 else n) ≤ n := by
        by_cases h1 : y4 - x5 > 0 <;> simp only [h1, if_true, if_false] <;> split <;> omega
      generalize (if (if y4 - x5 > 0 then y4 - x5 else 0) < n then if y4 - x5 > 0 then y4 - x5 else 0 else n) = two at pr2 ⊢
      have B12' := B11'.trans B12
      have i12 := B12 _ _ i11 nDa
      try dsimp only [L2.start, List.set, List.map, List.append, List.replicate, List.length]
      refine ⟨_, rfl, _, rfl, _, rfl, p, n, l, m, g, two, prs, rfl, R0.but J (B3.trans B12'), G, S, big, pr2.1, pr2.2, fun D2 H13 e2 s13 nD2 wk2 i2 => ?_⟩
      rw [hW] at wk2 i2
      refine ⟨D1, D2, W, n, one, two, e1, e2, rfl, wk1, wk2, s13 _ _ i12, i2, fun v H14 s14 fc => ?_⟩
      have s124 := s13.trans s14
      have B14 := B3.trans (B12'.trans (But.of s124))
      have RW : ∀ H', Same H14 H' → RwS C H' r t n l m g (marksOf prs) (strictOf prs) := fun H' s => ⟨(ro.but J (B14.trans (But.of s))).at, tH _ (B14.trans (But.of s)), G.good, S, big⟩
      try dsimp only [L2.start, List.set, List.map, List.append, List.replicate, List.length]
      refine ⟨_, rfl, _, rfl, p, _, _, _, rfl, rfl, SqT.of (pH _ B14), at_of2 (j := 2) rfl rfl, _, rfl, _, rfl, r, t, n, l, m, g, one, two, _, _, rfl, RW _ (Same.refl H14), pr.1, pr.2, pr2.1, pr2.2, fun H15 u s15 M1 => ?_⟩
      rw [hW] at M1
      have eu := fc.mt M1
      subst eu
      refine ⟨_, rfl, _, rfl, p, _, _, _, rfl, rfl, SqT.of (pH _ (B14.trans (But.of s15))), at_of2 (j := 2) rfl rfl, _, rfl, _, rfl, r, t, n, l, m, g, two, one, _, _, rfl, RW _ s15, pr2.1, pr2.2, pr.1, pr.2, fun H16 u2 s16 M2 => ?_⟩
      rw [hW] at M2
      have eu2 := fc.mt M2.swap
      subst eu2
      refine ⟨(by show 2 ≤ sizeLine; decide), fun d1 hd1 => ?_⟩
      have b1 : IL (upd H16 d1 (.lst [.int u2, .int u2])) d1 [u2, u2] := upd_same
      have s17 := same_new (o := .lst [.int u2, .int u2]) (Same.refl H16) hd1
      generalize upd H16 d1 (.lst [.int u2, .int u2]) = H17 at b1 s17 ⊢
      refine ⟨_, rfl, _, rfl, (by show 2 ≤ sizeLine; decide), fun d2 hd2 => ?_⟩
      have b2 : IL (upd H17 d2 (.lst [.int u2, .int u2])) d2 [u2, u2] := upd_same
      have s18 := same_new (o := .lst [.int u2, .int u2]) (Same.refl H17) hd2
      generalize upd H17 d2 (.lst [.int u2, .int u2]) = H18 at b2 s18 ⊢
      refine ⟨_, _, dp_il (s18 _ _ b1), dp_il b2, shape_il _, shape_il _, _, rfl, ?_⟩
      rw [eqv_il]
      refine ifF rfl ?_
      have sz := ((s124.trans s15).trans s16).trans (s17.trans s18)
      exact ⟨_, _, _, _, _, rfl, J12.same sz, B12'.trans (But.of sz)⟩
    · rintro σ H4 ⟨v6, v7, v8, v9, v10, rfl, J4, B4⟩
      exact q _ (J4.mono (by omega)) (B3.trans B4)
end
end Cw
namespace Cw
open PySem PySem.Spec L2
section
variable {X : Cx} {CX : CXT} {k : Nat} {f : Addr} {fd : FuncData} {ps ks : List Str} {sp : Sp} {E : XK} {x : Str} {p pos : Pos} {kws : List Keyword} {tk : TA} {g : List Value → List Value → List Value} {gV : List V → List V → List V}
/-- f(k = v, ..) -/
theorem pe_callK0 (F : FnOk X.prog X.w X.K X.mg X.base CX k f fd ps sp) (hr : Room k X.A) (hg : Gl X x) (hm : X.mg x = some (.ref f)) (hk : PySem.W.keepIn X.K (.ref f) = true) (hb : KBinds X.K fd ps ks g gV) (hx : Passes CX X E)
    (hkw : PK X kws tk) (hall : (backToKw pos (keywordEach kws X.env)).all (·.1.isSome) = true := by rfl) (hks : (backToKw pos (keywordEach kws X.env)).filterMap (·.1) = ks := by rfl)
    (hdb : (x == ("__debug__" : Str)) = false := by decide)
    (hpl : ((backTo pos (starEach [] X.env)).any (·.1) || (backToKw pos (keywordEach kws X.env)).any (·.1.isNone)) = false := by rfl) :
    PE X (.Call (.Name x p) [] kws pos) (tCallK sp gV E tNil tk) := by
  refine ⟨fun pins s σ H Q I h => ?_⟩
  refine wpAny_Call_Name_kw (ld_glob I hg hm ?_ hdb)
  refine PySem.W.callWith_KW0 (h₀ := X.base) I.ok.mod.kin hk hall (thn (hkw.run pos pins s σ H _ I h) fun ws s2 ⟨zs, H2, I2, rz, q2⟩ => ⟨I2.kIn, ?_⟩) hpl
  rw [hks]
  exact run_fnk F hr hb hx I2 .nil rz q2
end
theorem RowOff.same {C : Addr} {H H' : Hp} {a p : Addr} {n : Int} {ms ss : List Int} (r : RowOff C H a p n ms ss) (s : Same H H') : RowOff C H' a p n ms ss := by
  obtain ⟨dx, l1, l2, h1, h2, h3, n1, n2⟩ := r
  exact ⟨dx, l1, l2, s _ _ h1, s _ _ h2, s _ _ h3, n1, n2⟩
abbrev sLaw : Stmt := top 43
abbrev NL : List Str := ["script", "k", "jar", "turn", "raw", "made", "one", "told"]
def spLaw (K : PySem.W.Frag) : Sp := fun vs H Q _ => ∃ (a : Addr) (ns : List Int), vs = [.ref a] ∧ SqL K H a (ns.map V.int) ∧ ns.length ≤ 63 ∧ ∀ H', Q (.bl true) H'
def gMe : List Value → List Value → List Value
  | [], [f, s, r, t] => [r, t, f, s]
  | _, _ => []
def gMeV : List V → List V → List V
  | [], [f, s, r, t] => [r, t, f, s]
  | _, _ => []
abbrev KMe : List Str := ["first", "second", "row", "settings"]
theorem good20 : Good 20 [3, 7, 8, 13] [3, 8] := ⟨by decide, by decide, by decide, by decide, by decide, by decide⟩
abbrev W20 : Int → Int := nx 20 [3, 7, 8, 13] [3, 8] 2 4 5
def chk (s : Int) (k : Nat) : Bool := decide (k ≤ 200) && decide (kc W20 20 s k = 20) && (List.range k).all fun i => decide (kc W20 20 s i < 20)
theorem wk_of {s : Int} {k : Nat} (h : chk s k = true) : WkOk W20 20 s k := by
  unfold chk at h
  rw [Bool.and_eq_true, Bool.and_eq_true] at h
  obtain ⟨⟨h1, h2⟩, h3⟩ := h
  exact ⟨of_decide_eq_true h1, of_decide_eq_true h2, fun i hi => of_decide_eq_true (List.all_eq_true.mp h3 i (List.mem_range.mpr hi))⟩
theorem meet_is {a b v u : Int} {k k2 : Nat} {r : List Int} (M : Mt W20 20 a b u) (h1 : chk a k = true) (h2 : chk b k2 = true) (hf : ((wl W20 20 a k).filter fun c => decide (c ∈ wl W20 20 b k2)) = v :: r) : u = v :=
  (fst_of (wk_of h1) (wk_of h2) hf).mt M
/-- a raw great row -/
def RawG (H : Hp) (u : Addr) : Prop := ∃ (n l m g : Int) (prs : List (Int × Int)), RawS H u n prs l m g ∧ GoodP n prs ∧ prs.length ≤ 16 ∧ SetOk l m g ∧ n ≤ 200 * l ∧ g ≤ 10000000000000000000000000000
theorem RawG.but {H H' : Hp} {u a : Addr} {k : Nat} (r : RawG H u) (J : JarAt H a k) (B : But H H' a) : RawG H' u := by
  obtain ⟨n, l, m, g, prs, h, r⟩ := r
  exact ⟨n, l, m, g, prs, h.but J B, r⟩
theorem RawG.same {H H' : Hp} {u : Addr} (r : RawG H u) (s : Same H H') : RawG H' u := by
  obtain ⟨n, l, m, g, prs, h, r⟩ := r
  exact ⟨n, l, m, g, prs, h.same s, r⟩
section
variable {P : Program} {w : World} {K : PySem.W.Frag} {mg : Str → Option Value} {base : Heap}
theorem scL : FnScope NL ["script"] (defScope sLaw) := ⟨rfl, rfl, rfl, by decide +kernel, rfl, by decide +kernel, by decide +kernel⟩
theorem ok_law {f C fJ fS fG fA fB fH fO fX fM fN : Addr} {fd fdJ fdS fdG fdA fdB fdH fdO fdX fdM fdN : FuncData} (F : Fun K "law" "law" sLaw f fd) (T : Bl mg) (R : Cl K mg C) (M : Mk K C fN)
    (gJ : mg "_law_jar" = some (.ref fJ)) (kJ : PySem.W.keepIn K (.ref fJ) = true) (bJ : Binds K fdJ ["script", "k"] []) (GJ : FnOk P w K mg base CX0 1 fJ fdJ ["script", "k"] (spJar K))
    (gS : mg "_law_small" = some (.ref fS)) (kS : PySem.W.keepIn K (.ref fS) = true) (bS : Binds K fdS ["jar", "most"] []) (GS : FnOk P w K mg base CX0 3 fS fdS ["jar", "most"] spSmall)
    (gG : mg "_law_great" = some (.ref fG)) (kG : PySem.W.keepIn K (.ref fG) = true) (bG : Binds K fdG ["jar", "most"] []) (GG : FnOk P w K mg base CX0 3 fG fdG ["jar", "most"] spGreat)
    (gA : mg "_law_small_right" = some (.ref fA)) (kA : PySem.W.keepIn K (.ref fA) = true) (bA : Binds K fdA ["made", "raw"] []) (GA : FnG P w K mg base 8 fA fdA ["made", "raw"] (spSmR C))
    (gB : mg "_law_great_right" = some (.ref fB)) (kB : PySem.W.keepIn K (.ref fB) = true) (bB : Binds K fdB ["jar", "made", "raw"] []) (GB : FnOk P w K mg base CX0 7 fB fdB ["jar", "made", "raw"] (spGrR C))
    (gH : mg "_law_heap" = some (.ref fH)) (kH : PySem.W.keepIn K (.ref fH) = true) (bH : Binds K fdH ["raw"] []) (GH : FnOk P w K mg base CX0 7 fH fdH ["raw"] (spHeap C))
    (gO : mg "_law_other" = some (.ref fO)) (kO : PySem.W.keepIn K (.ref fO) = true) (bO : Binds K fdO ["jar", "raw"] []) (GO : FnOk P w K mg base CX0 2 fO fdO ["jar", "raw"] spOther)
    (gX : mg "_law_others" = some (.ref fX)) (kX : PySem.W.keepIn K (.ref fX) = true) (bX : Binds K fdX ["jar", "raw"] []) (GX : FnOk P w K mg base CX0 2 fX fdX ["jar", "raw"] spOthers)
    (gM : mg "meeting" = some (.ref fM)) (kM : PySem.W.keepIn K (.ref fM) = true) (bM : Binds K fdM NMe []) (kbM : KBinds K fdM NMe KMe gMe gMeV) (GM : FnOk P w K mg base CX0 4 fM fdM NMe (spMeet C))
    (bN : Binds K fdN NI []) (GN : FnOk P w K mg base CX0 5 fN fdN NI (spInit C)) :
    FnG P w K mg base 9 f fd ["script"] (spLaw K) := by
  refine okG F scL (fun vs H Q E h => ?_) (fun cdv A outer s H vs Q E hr hg h => ?_)
  · obtain ⟨a, ns, rfl, _⟩ := h
    rfl
  · obtain ⟨a, ns, rfl, hS, hl, q⟩ := h
    have hr1 : Room 1 (A.deeper (PyProof.Rows.envOfC "law" (defScope sLaw) s.heap.objs.size f cdv)) := hr.mono (by decide)
    have hr2 : Room 2 (A.deeper (PyProof.Rows.envOfC "law" (defScope sLaw) s.heap.objs.size f cdv)) := hr.mono (by decide)
    have hr3 : Room 3 (A.deeper (PyProof.Rows.envOfC "law" (defScope sLaw) s.heap.objs.size f cdv)) := hr.mono (by decide)
    have hr4 : Room 4 (A.deeper (PyProof.Rows.envOfC "law" (defScope sLaw) s.heap.objs.size f cdv)) := hr.mono (by decide)
    have hr6 : Room 6 (A.deeper (PyProof.Rows.envOfC "law" (defScope sLaw) s.heap.objs.size f cdv)) := hr.mono (by decide)
    have hr7 : Room 7 (A.deeper (PyProof.Rows.envOfC "law" (defScope sLaw) s.heap.objs.size f cdv)) := hr.mono (by decide)
    have gu : (A.deeper (PyProof.Rows.envOfC "law" (defScope sLaw) s.heap.objs.size f cdv)).guards = some [] := hg
    refine ⟨_, (pss_cons (ps_for PassesOwn.never rfl (pi_range1 (by rfl) T.range (pa_cons (pe_callB (call_max2 rfl) (by rfl) T.max (by decide +kernel) (pa_cons pe_int (pa_cons (pe_callB (call_min2 rfl) (by rfl) T.min (by decide +kernel) (pa_cons pe_int (pa_cons (pe_callB call_len_seq (by rfl) T.len PySem.boot_len (pa_cons (pv 0) pa_nil)) pa_nil))) pa_nil))) pa_nil)) (pg_name (i := 1) scL.nd rfl (Or.inl rfl))
        (pss_cons (ps_set (i := 2) scL.nd rfl (Or.inl rfl) (pe_call GJ hr1 rfl gJ kJ bJ .nil pass0 (pa_cons (pv 0) (pa_cons (pv 1) pa_nil))))
        (pss_one (ps_for PassesOwn.never rfl (pi_range1 (by rfl) T.range (pa_cons pe_int pa_nil)) (pg_name (i := 3) scL.nd rfl (Or.inl rfl))
        (pss_cons (ps_set (i := 4) scL.nd rfl (Or.inl rfl) (pe_call GS hr3 rfl gS kS bS .nil pass0 (pa_cons (pv 2) (pa_cons pe_int pa_nil))))
        (pss_cons (ps_set (i := 5) scL.nd rfl (Or.inl rfl) (pe_call GH hr7 rfl gH kH bH .nil pass0 (pa_cons (pv 4) pa_nil)))
        (pss_cons (ps_for PassesOwn.never rfl (pi_list (pe_op op_cat (pe_lst (pa_cons (pv 4) pa_nil)) (pe_call GX hr2 rfl gX kX bX .nil pass0 (pa_cons (pv 2) (pa_cons (pv 4) pa_nil))))) (pg_name (i := 6) scL.nd rfl (Or.inl rfl))
        (pss_one (ps_if (pt_not (pt_val (pe_callG GA hr gu rfl gA kA bA (pa_cons (pv 5) (pa_cons (pv 6) pa_nil))))) (pss_one (ps_ret pe_bl)) pss_nil)))
        (pss_one (ps_for PassesOwn.never rfl (pi_list (pe_lst (pa_cons (pe_call GG hr3 rfl gG kG bG .nil pass0 (pa_cons (pv 2) (pa_cons pe_int pa_nil))) (pa_cons (pe_call GG hr3 rfl gG kG bG .nil pass0 (pa_cons (pv 2) (pa_cons pe_int pa_nil))) pa_nil)))) (pg_name (i := 4) scL.nd rfl (Or.inl rfl))
        (pss_cons (ps_set (i := 5) scL.nd rfl (Or.inl rfl) (pe_call GH hr7 rfl gH kH bH .nil pass0 (pa_cons (pv 4) pa_nil)))
        (pss_one (ps_if (PW.pt (pw_or (pt_not (pt_val (pe_call GB hr7 rfl gB kB bB .nil pass0 (pa_cons (pv 2) (pa_cons (pv 5) (pa_cons (pv 4) pa_nil)))))) (pw_or1 (pt_not (pt_val (pe_call GB hr7 rfl gB kB bB .nil pass0 (pa_cons (pv 2) (pa_cons (pv 5) (pa_cons (pe_call GO hr2 rfl gO kO bO .nil pass0 (pa_cons (pv 2) (pa_cons (pv 4) pa_nil))) pa_nil))))))))) (pss_one (ps_ret pe_bl)) pss_nil))))))))))))
        (pss_cons (ps_set (i := 5) scL.nd rfl (Or.inl rfl) (pe_make M GN hr6 rfl R.mgR bN .nil pass0 (pa_cons pe_int (pa_cons (pe_lst (pa_cons pe_int (pa_cons pe_int (pa_cons pe_int (pa_cons pe_int pa_nil))))) (pa_cons (pe_lst (pa_cons pe_int (pa_cons pe_int pa_nil))) pa_nil)))))
        (pss_cons (ps_set (i := 7) scL.nd rfl (Or.inl rfl) (pe_lst (pa_cons (pe_call GM hr4 rfl gM kM bM .nil pass0 (pa_cons (pv 5) (pa_cons (pe_tup (pa_cons pe_int (pa_cons pe_int (pa_cons pe_int pa_nil)))) (pa_cons pe_int (pa_cons pe_int pa_nil))))) (pa_cons (pe_call GM hr4 rfl gM kM bM .nil pass0 (pa_cons (pv 5) (pa_cons (pe_tup (pa_cons pe_int (pa_cons pe_int (pa_cons pe_int pa_nil)))) (pa_cons pe_int (pa_cons pe_int pa_nil))))) (pa_cons (pe_call GM hr4 rfl gM kM bM .nil pass0 (pa_cons (pv 5) (pa_cons (pe_tup (pa_cons pe_int (pa_cons pe_int (pa_cons pe_int pa_nil)))) (pa_cons pe_int (pa_cons pe_int pa_nil))))) pa_nil)))))
        (pss_cons (ps_if (PW.pt (pw_or (pt_cmpR (op_neD hr.units) (pv 7) (pe_lst (pa_cons pe_int (pa_cons pe_int (pa_cons pe_int pa_nil)))) (nomark _)) (pw_or1 (pt_cmpR op_ne (pe_call GM hr4 rfl gM kM bM .nil pass0 (pa_cons (pv 5) (pa_cons (pe_tup (pa_cons pe_int (pa_cons pe_int (pa_cons pe_int pa_nil)))) (pa_cons pe_int (pa_cons pe_int pa_nil))))) pe_int (nomark _))))) (pss_one (ps_ret pe_bl)) pss_nil)
        (pss_one (ps_ret (pe_and (pe_cmpR op_eq (pe_callK0 GM hr4 rfl gM kM kbM pass0 (pk_cons pe_int (pk_cons pe_int (pk_cons (pv 5) (pk_cons (pe_tup (pa_cons pe_int (pa_cons pe_int (pa_cons pe_int pa_nil)))) pk_nil))))) pe_int (nomark _)) (pe_one (pe_cmpR op_eq (pe_call GM hr4 rfl gM kM bM .nil pass0 (pa_cons (pv 5) (pa_cons (pe_tup (pa_cons pe_int (pa_cons pe_int (pa_cons pe_int pa_nil)))) (pa_cons pe_int (pa_cons pe_int pa_nil))))) pe_int (nomark _)))))))))), ?_⟩
    refine ⟨_, rfl, a, _, rfl, .inl hS, _, _, rfl, _, _, rfl, _, rfl, ?_, ?_, for_range (lo := 0) (n := Int.toNat _) (fun _ σ H' => ∃ v1 v2 v3 v4 v5 v6, σ = [some (.ref a), v1, v2, v3, v4, v5, v6, none] ∧ Same H H') ⟨_, _, _, _, _, _, rfl, Same.refl H⟩ ?_ ?_⟩
    · rw [List.length_map]
      split <;> split <;> omega
    · rw [List.length_map]
      split <;> split <;> omega
    · rintro i σ H1 hi ⟨v1, v2, v3, v4, v5, v6, rfl, s1⟩
      have hil : i ≤ ns.length := by
        rw [List.length_map] at hi
        split at hi <;> split at hi <;> omega
      refine ⟨_, rfl, _, rfl, a, ns, i, by rw [Int.zero_add]; rfl, hS.ext s1, hil, hl, fun p H2 s2 np J2 => ?_⟩
      have p0 : H p = none := s1.free np
      have s12 := s1.trans s2
      refine ⟨_, rfl, by decide, by decide, for_range (lo := 0) (n := 2) (fun t σ H' => ∃ v1 v3 v4 v5 v6, σ = [some (.ref a), v1, some (.ref p), v3, v4, v5, v6, none] ∧ JarAt H' p (409 * (2 - t)) ∧ Same H H') ⟨_, _, _, _, _, rfl, J2.mono (by omega), s12⟩ ?_ ?_⟩
      · rintro t σ H3 ht ⟨v1, v3, v4, v5, v6, rfl, J3, s3⟩
        have Jd : JarAt H3 p (409 * (2 - (t + 1)) + 53 * 2 + 120 + 120 + 1 + 1 + 1 + 60) := J3.mono (by omega)
        generalize 409 * (2 - (t + 1)) = kk at Jd ⊢
        refine ⟨_, rfl, p, _, 16, rfl, by decide, by decide, Jd, fun r1 H4 n l m g prs n16 G l39 hR S big gb J4 B4 => ?_⟩
        try dsimp only [L2.start, List.set, List.map, List.append, List.replicate, List.length]
        refine ⟨_, rfl, r1, n, prs, rfl, hR.raw, G, fun mp H5 s5 row => ?_⟩
        have J5 := J4.same s5
        have hR5 := hR.same s5
        have s35 := (same_but s3 p0 B4).trans s5
        have ro := row.off J4
        try dsimp only [L2.start, List.set, List.map, List.append, List.replicate, List.length]
        refine ⟨_, rfl, (by show 1 ≤ sizeLine; decide), fun L1 hL1 => ?_⟩
        have y1 : upd H5 L1 (.lst [.ref r1]) L1 = some (.lst [.ref r1]) := upd_same
        have sA := same_new (o := .lst [.ref r1]) (Same.refl H5) hL1
        have J6 := J5.put (o := .lst [.ref r1]) (J5.ne hL1)
        have nL1 : L1 ≠ p := (J5.ne hL1).symm
        generalize upd H5 L1 (.lst [.ref r1]) = H6 at y1 sA J6 ⊢
        have s36 := s35.trans sA
        have hR6 := hR5.same sA
        have ro6 := ro.same sA
        refine ⟨_, rfl, _, rfl, p, r1, _, n, l, m, g, prs, rfl, J6, hR6, S, gb, fun q4 H7 us hq4 ul nq4 hus J7 B7 => ?_⟩
        have y17 := B7 _ _ y1 nL1
        have ro7 := ro6.but J6 B7
        have hR7 := hR6.but J6 B7
        refine ⟨L1, q4, _, _, rfl, rfl, y17, hq4, by rw [List.length_map, ul]; show 1 + 4 ≤ sizeLine; decide, fun L2' hL2 => ?_⟩
        have eL : [V.ref r1] ++ us.map V.ref = (r1 :: us).map V.ref := rfl
        rw [eL]
        have y2 : upd H7 L2' (.lst ((r1 :: us).map V.ref)) L2' = some (.lst ((r1 :: us).map V.ref)) := upd_same
        have sB := same_new (o := .lst ((r1 :: us).map V.ref)) (Same.refl H7) hL2
        have J8 := J7.put (o := .lst ((r1 :: us).map V.ref)) (J7.ne hL2)
        generalize upd H7 L2' (.lst ((r1 :: us).map V.ref)) = H8 at y2 sB J8 ⊢
        have s38 := (same_but s36 p0 B7).trans sB
        have all : ∀ u ∈ r1 :: us, ∃ l' m' g' : Int, SetOk l' m' g' ∧ g' ≤ 1000 ∧ RawS H8 u n prs l' m' g' := fun u hu => by
          rcases List.mem_cons.mp hu with rfl | hu
          · exact ⟨l, m, g, S, by omega, hR7.same sB⟩
          · obtain ⟨l', m', g', S', gb', r⟩ := hus u hu
            exact ⟨l', m', g', S', gb', r.same sB⟩
        have row8 := ro7.at.same sB
        generalize hcs : r1 :: us = cs at y2 all
        refine ⟨L2', rfl, ⟨_, SqL.of y2⟩, for_list (xs := cs.map V.ref) (fun i σ H' => ∃ v6, σ = [some (.ref a), v1, some (.ref p), some (.int (0 + (t : Int))), some (.ref r1), some (.ref mp), v6, none] ∧ Same H8 H') ⟨_, rfl, Same.refl H8⟩ (fun i σ H' _ ⟨v6, _, z⟩ => SqL.of (z _ _ y2)) ?_ ?_⟩
        · rintro i x σ H9 hx ⟨v6, rfl, s9⟩
          obtain ⟨u, hu, rfl⟩ : ∃ u, u ∈ cs ∧ x = .ref u := by
            obtain ⟨c, hc, e⟩ := List.mem_map.mp (List.mem_of_getElem? hx)
            exact ⟨c, hc, e.symm⟩
          obtain ⟨l', m', g', S', gb', r⟩ := all u hu
          have l1' := S'.l1
          try dsimp only [L2.start, List.set, List.map, List.append, List.replicate, List.length]
          refine ⟨_, rfl, _, rfl, mp, u, n, l', m', g', prs, rfl, r.same s9, G, S', by omega, gb', n16, row8.same s9, fun H10 s10 => ⟨_, rfl, ?_⟩⟩
          refine ifF rfl ?_
          exact ⟨_, rfl, s9.trans s10⟩
        rintro σ H9 ⟨v6, rfl, s9⟩
        have J9 := J8.same s9
        have s39 := s38.trans s9
        clear all y2 row8
        try dsimp only [L2.start, List.set, List.map, List.append, List.replicate, List.length]
        -- the great ones
        refine ⟨_, rfl, p, _, 40, rfl, by decide, by decide, J9, fun u1 H10 n1 l1 m1 g1 prs1 G1 f1 R1 S1 b1 gb1 J10 B10 => ?_⟩
        refine ⟨_, rfl, p, _, 12, rfl, by decide, by decide, J10, fun u2 H11 n2 l2 m2 g2 prs2 G2 f2 R2 S2 b2 gb2 J11 B11 => ?_⟩
        have X1 : RawG H11 u1 := ⟨n1, l1, m1, g1, prs1, R1.but J10 B11, G1, f1, S1, b1, gb1⟩
        have X2 : RawG H11 u2 := ⟨n2, l2, m2, g2, prs2, R2, G2, f2, S2, b2, gb2⟩
        refine ⟨(by show 2 ≤ sizeLine; decide), fun LG hLG => ?_⟩
        have yG : upd H11 LG (.lst [.ref u1, .ref u2]) LG = some (.lst [.ref u1, .ref u2]) := upd_same
        have sG := same_new (o := .lst [.ref u1, .ref u2]) (Same.refl H11) hLG
        have J12 := J11.put (o := .lst [.ref u1, .ref u2]) (J11.ne hLG)
        have nLG : LG ≠ p := (J11.ne hLG).symm
        generalize upd H11 LG (.lst [.ref u1, .ref u2]) = H12 at yG sG J12 ⊢
        have X1 := X1.same sG
        have X2 := X2.same sG
        have sX := (same_but (same_but s39 p0 B10) p0 B11).trans sG
        refine ⟨LG, rfl, ⟨_, SqL.of yG⟩, for_list (xs := [.ref u1, .ref u2]) (fun i σ H' => ∃ v4 v5, σ = [some (.ref a), v1, some (.ref p), some (.int (0 + (t : Int))), v4, v5, v6, none] ∧ JarAt H' p (kk + 53 * (2 - i)) ∧ But H12 H' p) ⟨_, _, rfl, J12, But.refl _ _⟩ (fun i σ H' _ ⟨v4, v5, _, _, z⟩ => SqL.of (z _ _ yG nLG)) ?_ ?_⟩
        · rintro i x σ H13 hx ⟨v4, v5, rfl, J13, B13⟩
          have i2 : i < 2 := (List.getElem?_eq_some_iff.mp hx).1
          obtain ⟨u, hu, rfl⟩ : ∃ u, RawG H12 u ∧ x = .ref u := by
            rcases i with _ | _ | i
            · exact ⟨u1, X1, (Option.some.inj hx).symm⟩
            · exact ⟨u2, X2, (Option.some.inj hx).symm⟩
            · cases hx
          have J13 : JarAt H13 p (kk + 53 * (2 - (i + 1)) + 24 + 1 + 3 + 24 + 1) := J13.mono (by omega)
          generalize kk + 53 * (2 - (i + 1)) = kj at J13 ⊢
          obtain ⟨n, l, m, g, prs, R, G, few, S, big, gb⟩ := hu.but J12 B13
          have lm := S.lm
          have mg' := S.mg
          have l1 := S.l1
          try dsimp only [L2.start, List.set, List.map, List.append, List.replicate, List.length]
          refine ⟨_, rfl, u, n, prs, rfl, R.raw, G, fun mq H14 s14 row => ?_⟩
          have J14 := J13.same s14
          have ro := row.off J13
          try dsimp only [L2.start, List.set, List.map, List.append, List.replicate, List.length]
          refine ⟨_, rfl, _, rfl, _, rfl, p, mq, u, kj + 24 + 1 + 3, n, l, m, g, prs, rfl, J14, R.same s14, G, few, S, big, by omega, ro, fun H15 J15 B15 => ⟨_, rfl, ?_⟩⟩
          refine ifF rfl ?_
          have R15 := (R.same s14).but J14 B15
          have ro15 := ro.but J14 B15
          refine ⟨_, rfl, _, rfl, _, rfl, _, rfl, p, u, kj + 24 + 1, n, l, m, g, prs, rfl, J15, R15, S, gb, fun z H16 l' m' g' ll S' gb' R16 J16 B16 => ?_⟩
          have ro16 := ro15.but J15 B16
          refine ⟨p, mq, z, kj, n, l', m', g', prs, rfl, J16, R16, G, few, S', by omega, by omega, ro16, fun H17 J17 B17 => ⟨_, rfl, ?_⟩⟩
          refine ifF rfl ?_
          exact ⟨_, _, rfl, J17, (((B13.trans (But.of s14)).trans B15).trans B16).trans B17⟩
        · rintro σ H13 ⟨v4, v5, rfl, J13, B13⟩
          exact ⟨_, _, _, _, _, rfl, J13.mono (by omega), same_but sX p0 B13⟩
      · rintro σ H3 ⟨v1, v3, v4, v5, v6, rfl, J3, s3⟩
        exact ⟨_, _, _, _, _, _, rfl, s3⟩
    · rintro σ H1 ⟨v1, v2, v3, v4, v5, v6, rfl, s1⟩
      refine ⟨(by show 4 ≤ sizeLine; decide), fun c1 hc1 => ⟨(by show 2 ≤ sizeLine; decide), fun c2 hc2 => ?_⟩⟩
      have m1 : IL (upd (upd H1 c1 (.lst [.int 3, .int 7, .int 8, .int 13])) c2 (.lst [.int 3, .int 8])) c1 [3, 7, 8, 13] := by
        show upd _ _ _ c1 = _
        rw [upd_ne (ne_of_none upd_same hc2)]
        exact upd_same
      have m2 : IL (upd (upd H1 c1 (.lst [.int 3, .int 7, .int 8, .int 13])) c2 (.lst [.int 3, .int 8])) c2 [3, 8] := upd_same
      generalize upd (upd H1 c1 (.lst [.int 3, .int 7, .int 8, .int 13])) c2 (.lst [.int 3, .int 8]) = H2 at m1 m2 ⊢
      refine fun x dx nx' nd ne => ?_
      have s3 : Same H2 (upd (upd H2 dx (.own x)) x (.ins C dx [])) := same_new (same_new (Same.refl H2) nd) (by rw [upd_ne (Ne.symm ne)]; exact nx')
      refine ⟨x, dx, c1, c2, 20, _, _, rfl, upd_same, s3 _ _ m1, s3 _ _ m2, good20, fun H3 row kp => ⟨rfl, ?_⟩⟩
      have rm := row.at
      clear row kp s3 nx' nd ne m1 m2 hc1 hc2
      have S20 : SetOk 2 4 5 := ⟨by decide, by decide, by decide⟩
      try dsimp only [L2.start, List.set, List.map, List.append, List.replicate, List.length]
      have RW : ∀ {H' : Hp} {t : Addr}, Same H3 H' → H' t = some (.tup [.int 2, .int 4, .int 5]) → RwS C H' x t 20 2 4 5 [3, 7, 8, 13] [3, 8] := fun s h => ⟨rm.same s, h, good20, S20, by decide⟩
      try dsimp only [L2.start, List.set, List.map, List.append, List.replicate, List.length]
      refine ⟨_, rfl, (by show 3 ≤ sizeLine; decide), fun t1 ht1 => ?_⟩
      have y1 := same_new (o := .tup [.int 2, .int 4, .int 5]) (Same.refl H3) ht1
      refine ⟨x, t1, 20, 2, 4, 5, 0, 4, _, _, rfl, RW y1 upd_same, by decide, by decide, by decide, by decide, fun H4 u1 s1 M1 => ?_⟩
      have e1 := meet_is (v := 20) (r := []) (k := 5) (k2 := 4) M1 (by decide +kernel) (by decide +kernel) (by decide +kernel)
      subst e1
      have z1 := y1.trans s1
      refine ⟨_, rfl, (by show 3 ≤ sizeLine; decide), fun t2 ht2 => ?_⟩
      have y2 := same_new (o := .tup [.int 2, .int 4, .int 5]) (z1) ht2
      refine ⟨x, t2, 20, 2, 4, 5, 4, 6, _, _, rfl, RW y2 upd_same, by decide, by decide, by decide, by decide, fun H5 u2 s2 M2 => ?_⟩
      have e2 := meet_is (v := 8) (r := [13, 18, 20]) (k := 4) (k2 := 4) M2 (by decide +kernel) (by decide +kernel) (by decide +kernel)
      subst e2
      have z2 := y2.trans s2
      refine ⟨_, rfl, (by show 3 ≤ sizeLine; decide), fun t3 ht3 => ?_⟩
      have y3 := same_new (o := .tup [.int 2, .int 4, .int 5]) (z2) ht3
      refine ⟨x, t3, 20, 2, 4, 5, 13, 4, _, _, rfl, RW y3 upd_same, by decide, by decide, by decide, by decide, fun H6 u3 s3 M3 => ?_⟩
      have e3 := meet_is (v := 13) (r := [18, 20]) (k := 2) (k2 := 4) M3 (by decide +kernel) (by decide +kernel) (by decide +kernel)
      subst e3
      have z3 := y3.trans s3
      refine ⟨(by show 3 ≤ sizeLine; decide), fun L hL => ?_⟩
      have gL : IL (upd H6 L (.lst [.int 20, .int 8, .int 13])) L [20, 8, 13] := upd_same
      have z4 := same_new (o := .lst [.int 20, .int 8, .int 13]) z3 hL
      generalize upd H6 L (.lst [.int 20, .int 8, .int 13]) = H7 at gL z4 ⊢
      try dsimp only [L2.start, List.set, List.map, List.append, List.replicate, List.length]
      refine ⟨_, rfl, (by show 3 ≤ sizeLine; decide), fun d hd => ?_⟩
      have gd : IL (upd H7 d (.lst [.int 20, .int 8, .int 13])) d [20, 8, 13] := upd_same
      have sd := same_new (o := .lst [.int 20, .int 8, .int 13]) (Same.refl H7) hd
      generalize upd H7 d (.lst [.int 20, .int 8, .int 13]) = H8 at gd sd ⊢
      refine ⟨_, _, dp_il (sd _ _ gL), dp_il gd, shape_il _, shape_il _, _, rfl, ?_⟩
      rw [eqv_il]
      refine ifF rfl ?_
      have z5 := z4.trans sd
      refine ⟨_, rfl, (by show 3 ≤ sizeLine; decide), fun t6 ht6 => ?_⟩
      have y6 := same_new (o := .tup [.int 2, .int 4, .int 5]) (z5) ht6
      refine ⟨x, t6, 20, 2, 4, 5, 9, 9, _, _, rfl, RW y6 upd_same, by decide, by decide, by decide, by decide, fun H9 u6 s6 M6 => ?_⟩
      have e6 := meet_is (v := 9) (r := [13, 18, 20]) (k := 3) (k2 := 3) M6 (by decide +kernel) (by decide +kernel) (by decide +kernel)
      subst e6
      have z6 := y6.trans s6
      refine ⟨rfl, _, rfl, ?_⟩
      refine ifF (by simp) ?_
      try dsimp only [L2.start, List.set, List.map, List.append, List.replicate, List.length]
      refine ⟨_, rfl, (by show 3 ≤ sizeLine; decide), fun t7 ht7 => ?_⟩
      have y7 := same_new (o := .tup [.int 2, .int 4, .int 5]) (z6) ht7
      refine ⟨x, t7, 20, 2, 4, 5, 1, 0, _, _, rfl, RW y7 upd_same, by decide, by decide, by decide, by decide, fun H10 u7 s7 M7 => ?_⟩
      have e7 := meet_is (v := 3) (r := [7, 12, 17, 20]) (k := 5) (k2 := 5) M7 (by decide +kernel) (by decide +kernel) (by decide +kernel)
      subst e7
      have z7 := y7.trans s7
      refine ⟨rfl, _, rfl, ifT (by rw [decide_eq_true rfl]) ?_⟩
      refine ⟨_, rfl, (by show 3 ≤ sizeLine; decide), fun t8 ht8 => ?_⟩
      have y8 := same_new (o := .tup [.int 2, .int 4, .int 5]) (z7) ht8
      refine ⟨x, t8, 20, 2, 4, 5, 20, 0, _, _, rfl, RW y8 upd_same, by decide, by decide, by decide, by decide, fun H11 u8 s8 M8 => ?_⟩
      have e8 := meet_is (v := 20) (r := []) (k := 0) (k2 := 5) M8 (by decide +kernel) (by decide +kernel) (by decide +kernel)
      subst e8
      refine ⟨rfl, ?_⟩
      rw [decide_eq_true rfl]
      exact q H11
end
end Cw
namespace Cw
open PySem L2
theorem kb_meet {K : PySem.W.Frag} {f : Addr} {fd : FuncData} (F : Fun K "meeting" "meeting" sMeet f fd) : KBinds K fd ["row", "settings", "first", "second"] KMe gMe gMeV := by
  obtain ⟨oc, od, kV, doc, pm, an, cdv, ct, osl, rfl, lk, hcd⟩ := F.ex
  refine ⟨fun s us ws _ hl => ?_, fun {vs us zs ws} r z => ?_⟩
  · match us, ws, hl with
    | [], [f, s, r, t], _ => exact .of_eq rfl
  · cases r with
    | cons a b => exact .nil
    | nil =>
      cases z with
      | nil => exact .nil
      | cons a z =>
        cases z with
        | nil => exact .nil
        | cons b z =>
          cases z with
          | nil => exact .nil
          | cons c z =>
            cases z with
            | nil => exact .nil
            | cons d z =>
              cases z with
              | nil => exact .cons c (.cons d (.cons a (.cons b .nil)))
              | cons e z => exact .nil
/-! ## what the top has written -/
theorem all_mk {l : PySem.W.OpenLaw} {w : World} {K : PySem.W.Frag} {h : Heap} {mg : Str → Option Value} {fa : Addr} (X : K.In h) (G : h.Ns mainGlobals mg) (hfa : mg "law" = some (.ref fa))
    {C pL pM pS fII fAP fAA fAM fAS fCS fCP fCN fCZ fME fST fFM fCB fJR fDP fTH fSM fHP fSL fSW fGR fFA fFW fOT fOS fFI fSR fGT fLW fIn fGl fGm fGs fEq : Addr} {tN tN2 : Tok} {restpL restpM restpS : List Value}
    {ocII kVII dcII pmII cdII ctII : Value} {odII anII : Option Addr} {slII : Array (Option Value)}
    {ocAP kVAP dcAP pmAP cdAP ctAP : Value} {odAP anAP : Option Addr} {slAP : Array (Option Value)}
    {ocAA kVAA dcAA pmAA cdAA ctAA : Value} {odAA anAA : Option Addr} {slAA : Array (Option Value)}
    {ocAM kVAM dcAM pmAM cdAM ctAM : Value} {odAM anAM : Option Addr} {slAM : Array (Option Value)}
    {ocAS kVAS dcAS pmAS cdAS ctAS : Value} {odAS anAS : Option Addr} {slAS : Array (Option Value)}
    {ocCS kVCS dcCS pmCS cdCS ctCS : Value} {odCS anCS : Option Addr} {slCS : Array (Option Value)}
    {ocCP kVCP dcCP pmCP cdCP ctCP : Value} {odCP anCP : Option Addr} {slCP : Array (Option Value)}
    {ocCN kVCN dcCN pmCN cdCN ctCN : Value} {odCN anCN : Option Addr} {slCN : Array (Option Value)}
    {ocCZ kVCZ dcCZ pmCZ cdCZ ctCZ : Value} {odCZ anCZ : Option Addr} {slCZ : Array (Option Value)}
    {ocME kVME dcME pmME cdME ctME : Value} {odME anME : Option Addr} {slME : Array (Option Value)}
    {ocST kVST dcST pmST cdST ctST : Value} {odST anST : Option Addr} {slST : Array (Option Value)}
    {ocFM kVFM dcFM pmFM cdFM ctFM : Value} {odFM anFM : Option Addr} {slFM : Array (Option Value)}
    {ocCB kVCB dcCB pmCB cdCB ctCB : Value} {odCB anCB : Option Addr} {slCB : Array (Option Value)}
    {ocJR kVJR dcJR pmJR cdJR ctJR : Value} {odJR anJR : Option Addr} {slJR : Array (Option Value)}
    {ocDP kVDP dcDP pmDP cdDP ctDP : Value} {odDP anDP : Option Addr} {slDP : Array (Option Value)}
    {ocTH kVTH dcTH pmTH cdTH ctTH : Value} {odTH anTH : Option Addr} {slTH : Array (Option Value)}
    {ocSM kVSM dcSM pmSM cdSM ctSM : Value} {odSM anSM : Option Addr} {slSM : Array (Option Value)}
    {ocHP kVHP dcHP pmHP cdHP ctHP : Value} {odHP anHP : Option Addr} {slHP : Array (Option Value)}
    {ocSL kVSL dcSL pmSL cdSL ctSL : Value} {odSL anSL : Option Addr} {slSL : Array (Option Value)}
    {ocSW kVSW dcSW pmSW cdSW ctSW : Value} {odSW anSW : Option Addr} {slSW : Array (Option Value)}
    {ocGR kVGR dcGR pmGR cdGR ctGR : Value} {odGR anGR : Option Addr} {slGR : Array (Option Value)}
    {ocFA kVFA dcFA pmFA cdFA ctFA : Value} {odFA anFA : Option Addr} {slFA : Array (Option Value)}
    {ocFW kVFW dcFW pmFW cdFW ctFW : Value} {odFW anFW : Option Addr} {slFW : Array (Option Value)}
    {ocOT kVOT dcOT pmOT cdOT ctOT : Value} {odOT anOT : Option Addr} {slOT : Array (Option Value)}
    {ocOS kVOS dcOS pmOS cdOS ctOS : Value} {odOS anOS : Option Addr} {slOS : Array (Option Value)}
    {ocFI kVFI dcFI pmFI cdFI ctFI : Value} {odFI anFI : Option Addr} {slFI : Array (Option Value)}
    {ocSR kVSR dcSR pmSR cdSR ctSR : Value} {odSR anSR : Option Addr} {slSR : Array (Option Value)}
    {ocGT kVGT dcGT pmGT cdGT ctGT : Value} {odGT anGT : Option Addr} {slGT : Array (Option Value)}
    {ocLW kVLW dcLW pmLW cdLW ctLW : Value} {odLW anLW : Option Addr} {slLW : Array (Option Value)}
    {ocIn kVIn dcIn pmIn cdIn ctIn : Value} {odIn anIn : Option Addr} {slIn : Array (Option Value)}
    {ocGl kVGl dcGl pmGl cdGl ctGl : Value} {odGl anGl : Option Addr} {slGl : Array (Option Value)}
    {ocGm kVGm dcGm pmGm cdGm ctGm : Value} {odGm anGm : Option Addr} {slGm : Array (Option Value)}
    {ocGs kVGs dcGs pmGs cdGs ctGs : Value} {odGs anGs : Option Addr} {slGs : Array (Option Value)}
    {ocEq kVEq dcEq pmEq cdEq ctEq : Value} {odEq anEq : Option Addr} {slEq : Array (Option Value)}
    (aC : PySem.W.nsIn K mainGlobals "Row" = some (some (.ref C)))
    (aN : PySem.W.nsIn K mainGlobals "MOST_MARKS" = some (some (.int 400 tN)))
    (aN2 : PySem.W.nsIn K mainGlobals "MOST_PIECES" = some (some (.int 200 tN2)))
    (n_int : PySem.W.nsIn K mainGlobals "int" = some none)
    (n_bool : PySem.W.nsIn K mainGlobals "bool" = some none)
    (n_list : PySem.W.nsIn K mainGlobals "list" = some none)
    (n_tuple : PySem.W.nsIn K mainGlobals "tuple" = some none)
    (n_range : PySem.W.nsIn K mainGlobals "range" = some none)
    (n_len : PySem.W.nsIn K mainGlobals "len" = some none)
    (n_abs : PySem.W.nsIn K mainGlobals "abs" = some none)
    (n_all : PySem.W.nsIn K mainGlobals "all" = some none)
    (n_isi : PySem.W.nsIn K mainGlobals "isinstance" = some none)
    (n_zip : PySem.W.nsIn K mainGlobals "zip" = some none)
    (n_max : PySem.W.nsIn K mainGlobals "max" = some none)
    (n_min : PySem.W.nsIn K mainGlobals "min" = some none)
    (n_set : PySem.W.nsIn K mainGlobals "set" = some none)
    (n_sorted : PySem.W.nsIn K mainGlobals "sorted" = some none)
    (n_dict : PySem.W.nsIn K mainGlobals "dict" = some none)
    (n_repr : PySem.W.nsIn K mainGlobals "repr" = some none)
    (aII : PySem.W.nsIn K mainGlobals "is_integer" = some (some (.ref fII)))
    (lII : K.lookup fII = some ⟨ocII, odII, .func (PySem.W.fnOf "is_integer" "is_integer" (defArgs sIsInt) (defBody sIsInt) (defScope sIsInt) .none kVII dcII pmII anII cdII ctII), slII⟩)
    (coII : PySem.W.codeIn K cdII "is_integer" = true)
    (kII : PySem.W.keepIn K (.ref fII) = true)
    (aAP : PySem.W.nsIn K mainGlobals "are_places" = some (some (.ref fAP)))
    (lAP : K.lookup fAP = some ⟨ocAP, odAP, .func (PySem.W.fnOf "are_places" "are_places" (defArgs sPlaces) (defBody sPlaces) (defScope sPlaces) .none kVAP dcAP pmAP anAP cdAP ctAP), slAP⟩)
    (coAP : PySem.W.codeIn K cdAP "are_places" = true)
    (kAP : PySem.W.keepIn K (.ref fAP) = true)
    (aAA : PySem.W.nsIn K mainGlobals "are_ascending" = some (some (.ref fAA)))
    (lAA : K.lookup fAA = some ⟨ocAA, odAA, .func (PySem.W.fnOf "are_ascending" "are_ascending" (defArgs sAsc) (defBody sAsc) (defScope sAsc) .none kVAA dcAA pmAA anAA cdAA ctAA), slAA⟩)
    (coAA : PySem.W.codeIn K cdAA "are_ascending" = true)
    (kAA : PySem.W.keepIn K (.ref fAA) = true)
    (aAM : PySem.W.nsIn K mainGlobals "are_marks" = some (some (.ref fAM)))
    (lAM : K.lookup fAM = some ⟨ocAM, odAM, .func (PySem.W.fnOf "are_marks" "are_marks" (defArgs sMarks) (defBody sMarks) (defScope sMarks) .none kVAM dcAM pmAM anAM cdAM ctAM), slAM⟩)
    (coAM : PySem.W.codeIn K cdAM "are_marks" = true)
    (kAM : PySem.W.keepIn K (.ref fAM) = true)
    (aAS : PySem.W.nsIn K mainGlobals "are_some_of" = some (some (.ref fAS)))
    (lAS : K.lookup fAS = some ⟨ocAS, odAS, .func (PySem.W.fnOf "are_some_of" "are_some_of" (defArgs sSome) (defBody sSome) (defScope sSome) .none kVAS dcAS pmAS anAS cdAS ctAS), slAS⟩)
    (coAS : PySem.W.codeIn K cdAS "are_some_of" = true)
    (kAS : PySem.W.keepIn K (.ref fAS) = true)
    (aCS : PySem.W.nsIn K mainGlobals "check_settings" = some (some (.ref fCS)))
    (lCS : K.lookup fCS = some ⟨ocCS, odCS, .func (PySem.W.fnOf "check_settings" "check_settings" (defArgs sCSet) (defBody sCSet) (defScope sCSet) .none kVCS dcCS pmCS anCS cdCS ctCS), slCS⟩)
    (coCS : PySem.W.codeIn K cdCS "check_settings" = true)
    (kCS : PySem.W.keepIn K (.ref fCS) = true)
    (aCP : PySem.W.nsIn K mainGlobals "check_place" = some (some (.ref fCP)))
    (lCP : K.lookup fCP = some ⟨ocCP, odCP, .func (PySem.W.fnOf "check_place" "check_place" (defArgs sCPl) (defBody sCPl) (defScope sCPl) .none kVCP dcCP pmCP anCP cdCP ctCP), slCP⟩)
    (coCP : PySem.W.codeIn K cdCP "check_place" = true)
    (kCP : PySem.W.keepIn K (.ref fCP) = true)
    (aCN : PySem.W.nsIn K mainGlobals "check_length" = some (some (.ref fCN)))
    (lCN : K.lookup fCN = some ⟨ocCN, odCN, .func (PySem.W.fnOf "check_length" "check_length" (defArgs sCLen) (defBody sCLen) (defScope sCLen) .none kVCN dcCN pmCN anCN cdCN ctCN), slCN⟩)
    (coCN : PySem.W.codeIn K cdCN "check_length" = true)
    (kCN : PySem.W.keepIn K (.ref fCN) = true)
    (aCZ : PySem.W.nsIn K mainGlobals "check_size" = some (some (.ref fCZ)))
    (lCZ : K.lookup fCZ = some ⟨ocCZ, odCZ, .func (PySem.W.fnOf "check_size" "check_size" (defArgs sCSz) (defBody sCSz) (defScope sCSz) .none kVCZ dcCZ pmCZ anCZ cdCZ ctCZ), slCZ⟩)
    (coCZ : PySem.W.codeIn K cdCZ "check_size" = true)
    (kCZ : PySem.W.keepIn K (.ref fCZ) = true)
    (aME : PySem.W.nsIn K mainGlobals "meeting" = some (some (.ref fME)))
    (lME : K.lookup fME = some ⟨ocME, odME, .func (PySem.W.fnOf "meeting" "meeting" (defArgs sMeet) (defBody sMeet) (defScope sMeet) .none kVME dcME pmME anME cdME ctME), slME⟩)
    (coME : PySem.W.codeIn K cdME "meeting" = true)
    (kME : PySem.W.keepIn K (.ref fME) = true)
    (aST : PySem.W.nsIn K mainGlobals "step" = some (some (.ref fST)))
    (lST : K.lookup fST = some ⟨ocST, odST, .func (PySem.W.fnOf "step" "step" (defArgs sStep) (defBody sStep) (defScope sStep) .none kVST dcST pmST anST cdST ctST), slST⟩)
    (coST : PySem.W.codeIn K cdST "step" = true)
    (kST : PySem.W.keepIn K (.ref fST) = true)
    (aFM : PySem.W.nsIn K mainGlobals "first_mark" = some (some (.ref fFM)))
    (lFM : K.lookup fFM = some ⟨ocFM, odFM, .func (PySem.W.fnOf "first_mark" "first_mark" (defArgs sFM) (defBody sFM) (defScope sFM) .none kVFM dcFM pmFM anFM cdFM ctFM), slFM⟩)
    (coFM : PySem.W.codeIn K cdFM "first_mark" = true)
    (kFM : PySem.W.keepIn K (.ref fFM) = true)
    (aCB : PySem.W.nsIn K mainGlobals "count_before" = some (some (.ref fCB)))
    (lCB : K.lookup fCB = some ⟨ocCB, odCB, .func (PySem.W.fnOf "count_before" "count_before" (defArgs sCB) (defBody sCB) (defScope sCB) .none kVCB dcCB pmCB anCB cdCB ctCB), slCB⟩)
    (coCB : PySem.W.codeIn K cdCB "count_before" = true)
    (kCB : PySem.W.keepIn K (.ref fCB) = true)
    (aJR : PySem.W.nsIn K mainGlobals "_law_jar" = some (some (.ref fJR)))
    (lJR : K.lookup fJR = some ⟨ocJR, odJR, .func (PySem.W.fnOf "_law_jar" "_law_jar" (defArgs sJar) (defBody sJar) (defScope sJar) .none kVJR dcJR pmJR anJR cdJR ctJR), slJR⟩)
    (coJR : PySem.W.codeIn K cdJR "_law_jar" = true)
    (kJR : PySem.W.keepIn K (.ref fJR) = true)
    (aDP : PySem.W.nsIn K mainGlobals "_law_dip" = some (some (.ref fDP)))
    (lDP : K.lookup fDP = some ⟨ocDP, odDP, .func (PySem.W.fnOf "_law_dip" "_law_dip" (defArgs sDip) (defBody sDip) (defScope sDip) .none kVDP dcDP pmDP anDP cdDP ctDP), slDP⟩)
    (coDP : PySem.W.codeIn K cdDP "_law_dip" = true)
    (kDP : PySem.W.keepIn K (.ref fDP) = true)
    (aTH : PySem.W.nsIn K mainGlobals "_law_three" = some (some (.ref fTH)))
    (lTH : K.lookup fTH = some ⟨ocTH, odTH, .func (PySem.W.fnOf "_law_three" "_law_three" (defArgs sThree) (defBody sThree) (defScope sThree) .none kVTH dcTH pmTH anTH cdTH ctTH), slTH⟩)
    (coTH : PySem.W.codeIn K cdTH "_law_three" = true)
    (kTH : PySem.W.keepIn K (.ref fTH) = true)
    (aSM : PySem.W.nsIn K mainGlobals "_law_small" = some (some (.ref fSM)))
    (lSM : K.lookup fSM = some ⟨ocSM, odSM, .func (PySem.W.fnOf "_law_small" "_law_small" (defArgs sSmall) (defBody sSmall) (defScope sSmall) .none kVSM dcSM pmSM anSM cdSM ctSM), slSM⟩)
    (coSM : PySem.W.codeIn K cdSM "_law_small" = true)
    (kSM : PySem.W.keepIn K (.ref fSM) = true)
    (aHP : PySem.W.nsIn K mainGlobals "_law_heap" = some (some (.ref fHP)))
    (lHP : K.lookup fHP = some ⟨ocHP, odHP, .func (PySem.W.fnOf "_law_heap" "_law_heap" (defArgs sHeap) (defBody sHeap) (defScope sHeap) .none kVHP dcHP pmHP anHP cdHP ctHP), slHP⟩)
    (coHP : PySem.W.codeIn K cdHP "_law_heap" = true)
    (kHP : PySem.W.keepIn K (.ref fHP) = true)
    (aSL : PySem.W.nsIn K mainGlobals "_law_slow" = some (some (.ref fSL)))
    (lSL : K.lookup fSL = some ⟨ocSL, odSL, .func (PySem.W.fnOf "_law_slow" "_law_slow" (defArgs sSlow) (defBody sSlow) (defScope sSlow) .none kVSL dcSL pmSL anSL cdSL ctSL), slSL⟩)
    (coSL : PySem.W.codeIn K cdSL "_law_slow" = true)
    (kSL : PySem.W.keepIn K (.ref fSL) = true)
    (aSW : PySem.W.nsIn K mainGlobals "_law_slow_walk" = some (some (.ref fSW)))
    (lSW : K.lookup fSW = some ⟨ocSW, odSW, .func (PySem.W.fnOf "_law_slow_walk" "_law_slow_walk" (defArgs sSW) (defBody sSW) (defScope sSW) .none kVSW dcSW pmSW anSW cdSW ctSW), slSW⟩)
    (coSW : PySem.W.codeIn K cdSW "_law_slow_walk" = true)
    (kSW : PySem.W.keepIn K (.ref fSW) = true)
    (aGR : PySem.W.nsIn K mainGlobals "_law_great" = some (some (.ref fGR)))
    (lGR : K.lookup fGR = some ⟨ocGR, odGR, .func (PySem.W.fnOf "_law_great" "_law_great" (defArgs sGreat) (defBody sGreat) (defScope sGreat) .none kVGR dcGR pmGR anGR cdGR ctGR), slGR⟩)
    (coGR : PySem.W.codeIn K cdGR "_law_great" = true)
    (kGR : PySem.W.keepIn K (.ref fGR) = true)
    (aFA : PySem.W.nsIn K mainGlobals "_law_far" = some (some (.ref fFA)))
    (lFA : K.lookup fFA = some ⟨ocFA, odFA, .func (PySem.W.fnOf "_law_far" "_law_far" (defArgs sFar) (defBody sFar) (defScope sFar) .none kVFA dcFA pmFA anFA cdFA ctFA), slFA⟩)
    (coFA : PySem.W.codeIn K cdFA "_law_far" = true)
    (kFA : PySem.W.keepIn K (.ref fFA) = true)
    (aFW : PySem.W.nsIn K mainGlobals "_law_far_walk" = some (some (.ref fFW)))
    (lFW : K.lookup fFW = some ⟨ocFW, odFW, .func (PySem.W.fnOf "_law_far_walk" "_law_far_walk" (defArgs sFarW) (defBody sFarW) (defScope sFarW) .none kVFW dcFW pmFW anFW cdFW ctFW), slFW⟩)
    (coFW : PySem.W.codeIn K cdFW "_law_far_walk" = true)
    (kFW : PySem.W.keepIn K (.ref fFW) = true)
    (aOT : PySem.W.nsIn K mainGlobals "_law_other" = some (some (.ref fOT)))
    (lOT : K.lookup fOT = some ⟨ocOT, odOT, .func (PySem.W.fnOf "_law_other" "_law_other" (defArgs sOther) (defBody sOther) (defScope sOther) .none kVOT dcOT pmOT anOT cdOT ctOT), slOT⟩)
    (coOT : PySem.W.codeIn K cdOT "_law_other" = true)
    (kOT : PySem.W.keepIn K (.ref fOT) = true)
    (aOS : PySem.W.nsIn K mainGlobals "_law_others" = some (some (.ref fOS)))
    (lOS : K.lookup fOS = some ⟨ocOS, odOS, .func (PySem.W.fnOf "_law_others" "_law_others" (defArgs sOthers) (defBody sOthers) (defScope sOthers) .none kVOS dcOS pmOS anOS cdOS ctOS), slOS⟩)
    (coOS : PySem.W.codeIn K cdOS "_law_others" = true)
    (kOS : PySem.W.keepIn K (.ref fOS) = true)
    (aFI : PySem.W.nsIn K mainGlobals "_law_first" = some (some (.ref fFI)))
    (lFI : K.lookup fFI = some ⟨ocFI, odFI, .func (PySem.W.fnOf "_law_first" "_law_first" (defArgs sFirst) (defBody sFirst) (defScope sFirst) .none kVFI dcFI pmFI anFI cdFI ctFI), slFI⟩)
    (coFI : PySem.W.codeIn K cdFI "_law_first" = true)
    (kFI : PySem.W.keepIn K (.ref fFI) = true)
    (aSR : PySem.W.nsIn K mainGlobals "_law_small_right" = some (some (.ref fSR)))
    (lSR : K.lookup fSR = some ⟨ocSR, odSR, .func (PySem.W.fnOf "_law_small_right" "_law_small_right" (defArgs sSmR) (defBody sSmR) (defScope sSmR) .none kVSR dcSR pmSR anSR cdSR ctSR), slSR⟩)
    (coSR : PySem.W.codeIn K cdSR "_law_small_right" = true)
    (kSR : PySem.W.keepIn K (.ref fSR) = true)
    (aGT : PySem.W.nsIn K mainGlobals "_law_great_right" = some (some (.ref fGT)))
    (lGT : K.lookup fGT = some ⟨ocGT, odGT, .func (PySem.W.fnOf "_law_great_right" "_law_great_right" (defArgs sGrR) (defBody sGrR) (defScope sGrR) .none kVGT dcGT pmGT anGT cdGT ctGT), slGT⟩)
    (coGT : PySem.W.codeIn K cdGT "_law_great_right" = true)
    (kGT : PySem.W.keepIn K (.ref fGT) = true)
    (aLW : PySem.W.nsIn K mainGlobals "law" = some (some (.ref fLW)))
    (lLW : K.lookup fLW = some ⟨ocLW, odLW, .func (PySem.W.fnOf "law" "law" (defArgs sLaw) (defBody sLaw) (defScope sLaw) .none kVLW dcLW pmLW anLW cdLW ctLW), slLW⟩)
    (coLW : PySem.W.codeIn K cdLW "law" = true)
    (kLW : PySem.W.keepIn K (.ref fLW) = true)
    (apL : PySem.W.findIn K (.ref C) "length" = some (some (.ref pL)))
    (gpL : PySem.W.specialIn K (.ref pL) "__get__" = some (some (.builtin "property.__get__")))
    (tpL : PySem.W.takesIn K (.ref pL) = some true)
    (rpL : PySem.W.recIn K pL "property" = some (.ref fGl :: restpL))
    (apM : PySem.W.findIn K (.ref C) "marks" = some (some (.ref pM)))
    (gpM : PySem.W.specialIn K (.ref pM) "__get__" = some (some (.builtin "property.__get__")))
    (tpM : PySem.W.takesIn K (.ref pM) = some true)
    (rpM : PySem.W.recIn K pM "property" = some (.ref fGm :: restpM))
    (apS : PySem.W.findIn K (.ref C) "strict" = some (some (.ref pS)))
    (gpS : PySem.W.specialIn K (.ref pS) "__get__" = some (some (.builtin "property.__get__")))
    (tpS : PySem.W.takesIn K (.ref pS) = some true)
    (rpS : PySem.W.recIn K pS "property" = some (.ref fGs :: restpS))
    (aIn : PySem.W.findIn K (.ref C) "__init__" = some (some (.ref fIn)))
    (iIn : PySem.W.isFn K (.ref fIn) = true)
    (lIn : K.lookup fIn = some ⟨ocIn, odIn, .func (PySem.W.fnOf "__init__" "Row.__init__" (defArgs sInit) (defBody sInit) (defScope sInit) .none kVIn dcIn pmIn anIn cdIn ctIn), slIn⟩)
    (coIn : PySem.W.codeIn K cdIn "Row.__init__" = true)
    (kIn : PySem.W.keepIn K (.ref fIn) = true)
    (lGl : K.lookup fGl = some ⟨ocGl, odGl, .func (PySem.W.fnOf "length" "Row.length" (defArgs sGetL) (defBody sGetL) (defScope sGetL) .none kVGl dcGl pmGl anGl cdGl ctGl), slGl⟩)
    (coGl : PySem.W.codeIn K cdGl "Row.length" = true)
    (kGl : PySem.W.keepIn K (.ref fGl) = true)
    (lGm : K.lookup fGm = some ⟨ocGm, odGm, .func (PySem.W.fnOf "marks" "Row.marks" (defArgs sGetM) (defBody sGetM) (defScope sGetM) .none kVGm dcGm pmGm anGm cdGm ctGm), slGm⟩)
    (coGm : PySem.W.codeIn K cdGm "Row.marks" = true)
    (kGm : PySem.W.keepIn K (.ref fGm) = true)
    (lGs : K.lookup fGs = some ⟨ocGs, odGs, .func (PySem.W.fnOf "strict" "Row.strict" (defArgs sGetS) (defBody sGetS) (defScope sGetS) .none kVGs dcGs pmGs anGs cdGs ctGs), slGs⟩)
    (coGs : PySem.W.codeIn K cdGs "Row.strict" = true)
    (kGs : PySem.W.keepIn K (.ref fGs) = true)
    (aEq : PySem.W.findIn K (.ref C) "__eq__" = some (some (.ref fEq)))
    (iEq : PySem.W.isFn K (.ref fEq) = true)
    (lEq : K.lookup fEq = some ⟨ocEq, odEq, .func (PySem.W.fnOf "__eq__" "Row.__eq__" (defArgs sEq) (defBody sEq) (defScope sEq) .none kVEq dcEq pmEq anEq cdEq ctEq), slEq⟩)
    (coEq : PySem.W.codeIn K cdEq "Row.__eq__" = true)
    (kEq : PySem.W.keepIn K (.ref fEq) = true)
    (pg : PySem.W.plainGet K C Str.empty = true)
    (hd : PySem.W.hasDictIn K C = true)
    (po : PySem.W.plainOver K C = true)
    (sa : PySem.W.findIn K (.ref C) "__setattr__" = some (some (.builtin "object.__setattr__")))
    (mk : PySem.W.makesIn K C = true)
    (kc : PySem.W.keepIn K (.ref C) = true)
    (nL : PySem.W.findIn K (.ref C) "_length" = some none)
    (nM : PySem.W.findIn K (.ref C) "_marks" = some none)
    (nS : PySem.W.findIn K (.ref C) "_strict" = some none)
    (kt : PySem.W.kitOne K (.ref C) (.ref C) = some true)
    (ca : PySem.W.findIn K (.ref C) "__class__" = some (some (.builtin "object.__class__")))
    (cn : PySem.W.specialIn K (.builtin "object.__class__") "__get__" = some (some (.builtin "getset_descriptor.__get__")))
    (ct : PySem.W.takesIn K (.builtin "object.__class__") = some true)
    (cm : PySem.W.mroIn K C (.type "object") = some true)
    (en : PySem.W.findIn K (.ref C) "__ne__" = some (some (.builtin "object.__ne__")))
    : ∃ fd : FuncData, (∀ (s : Shared) (v : Value), BindsTo s fd ⟨[v], []⟩ [("script", v)]) ∧ ∀ base : Heap, K.In base → base.Ns mainGlobals mg → FnG l.prog w K mg base 9 fa fd ["script"] (spLaw K) := by
  have e := hfa.symm.trans (PySem.W.mg_of X G aLW)
  cases e
  have T : Bl mg := ⟨PySem.W.mg_none_of X G n_int, PySem.W.mg_none_of X G n_bool, PySem.W.mg_none_of X G n_list, PySem.W.mg_none_of X G n_tuple, PySem.W.mg_none_of X G n_range, PySem.W.mg_none_of X G n_len, PySem.W.mg_none_of X G n_abs, PySem.W.mg_none_of X G n_all, PySem.W.mg_none_of X G n_isi, PySem.W.mg_none_of X G n_zip, PySem.W.mg_none_of X G n_max, PySem.W.mg_none_of X G n_min, PySem.W.mg_none_of X G n_set, PySem.W.mg_none_of X G n_sorted, PySem.W.mg_none_of X G n_dict⟩
  have R : Cl K mg C := ⟨⟨pg, hd, po, sa⟩, nL, nM, nS, PySem.W.mg_of X G aC, kt⟩
  have N : Ci K C := ⟨ca, cn, ct, cm⟩
  have M : Mk K C fIn := ⟨mk, aIn, iIn, kc⟩
  have FII := fun_mk (st := sIsInt) lII coII kII
  have bII := FII.binds (ps := ["thing"]) fun _ _ _ _ _ _ us hl => match us, hl with | [_], _ => rfl
  have gII := PySem.W.mg_of X G aII
  have FAP := fun_mk (st := sPlaces) lAP coAP kAP
  have bAP := FAP.binds (ps := ["thing", "low", "high"]) fun _ _ _ _ _ _ us hl => match us, hl with | [_, _, _], _ => rfl
  have gAP := PySem.W.mg_of X G aAP
  have FAA := fun_mk (st := sAsc) lAA coAA kAA
  have bAA := FAA.binds (ps := ["thing", "low", "high"]) fun _ _ _ _ _ _ us hl => match us, hl with | [_, _, _], _ => rfl
  have gAA := PySem.W.mg_of X G aAA
  have FAM := fun_mk (st := sMarks) lAM coAM kAM
  have bAM := FAM.binds (ps := ["thing", "high"]) fun _ _ _ _ _ _ us hl => match us, hl with | [_, _], _ => rfl
  have gAM := PySem.W.mg_of X G aAM
  have FAS := fun_mk (st := sSome) lAS coAS kAS
  have bAS := FAS.binds (ps := ["thing", "marks"]) fun _ _ _ _ _ _ us hl => match us, hl with | [_, _], _ => rfl
  have gAS := PySem.W.mg_of X G aAS
  have FCS := fun_mk (st := sCSet) lCS coCS kCS
  have bCS := FCS.binds (ps := ["settings"]) fun _ _ _ _ _ _ us hl => match us, hl with | [_], _ => rfl
  have gCS := PySem.W.mg_of X G aCS
  have FCP := fun_mk (st := sCPl) lCP coCP kCP
  have bCP := FCP.binds (ps := ["place", "low", "high"]) fun _ _ _ _ _ _ us hl => match us, hl with | [_, _, _], _ => rfl
  have gCP := PySem.W.mg_of X G aCP
  have FCN := fun_mk (st := sCLen) lCN coCN kCN
  have bCN := FCN.binds (ps := ["length", "settings"]) fun _ _ _ _ _ _ us hl => match us, hl with | [_, _], _ => rfl
  have gCN := PySem.W.mg_of X G aCN
  have FCZ := fun_mk (st := sCSz) lCZ coCZ kCZ
  have bCZ := FCZ.binds (ps := ["row", "settings"]) fun _ _ _ _ _ _ us hl => match us, hl with | [_, _], _ => rfl
  have gCZ := PySem.W.mg_of X G aCZ
  have FME := fun_mk (st := sMeet) lME coME kME
  have bME := FME.binds (ps := ["row", "settings", "first", "second"]) fun _ _ _ _ _ _ us hl => match us, hl with | [_, _, _, _], _ => rfl
  have gME := PySem.W.mg_of X G aME
  have FST := fun_mk (st := sStep) lST coST kST
  have bST := FST.binds (ps := ["row", "settings", "place"]) fun _ _ _ _ _ _ us hl => match us, hl with | [_, _, _], _ => rfl
  have gST := PySem.W.mg_of X G aST
  have FFM := fun_mk (st := sFM) lFM coFM kFM
  have bFM := FFM.binds (ps := ["marks", "place", "end"]) fun _ _ _ _ _ _ us hl => match us, hl with | [_, _, _], _ => rfl
  have gFM := PySem.W.mg_of X G aFM
  have FCB := fun_mk (st := sCB) lCB coCB kCB
  have bCB := FCB.binds (ps := ["places", "place"]) fun _ _ _ _ _ _ us hl => match us, hl with | [_, _], _ => rfl
  have gCB := PySem.W.mg_of X G aCB
  have FJR := fun_mk (st := sJar) lJR coJR kJR
  have bJR := FJR.binds (ps := ["script", "k"]) fun _ _ _ _ _ _ us hl => match us, hl with | [_, _], _ => rfl
  have gJR := PySem.W.mg_of X G aJR
  have FDP := fun_mk (st := sDip) lDP coDP kDP
  have bDP := FDP.binds (ps := ["jar", "many"]) fun _ _ _ _ _ _ us hl => match us, hl with | [_, _], _ => rfl
  have gDP := PySem.W.mg_of X G aDP
  have FTH := fun_mk (st := sThree) lTH coTH kTH
  have bTH := FTH.binds (ps := ["jar", "wide"]) fun _ _ _ _ _ _ us hl => match us, hl with | [_, _], _ => rfl
  have gTH := PySem.W.mg_of X G aTH
  have FSM := fun_mk (st := sSmall) lSM coSM kSM
  have bSM := FSM.binds (ps := ["jar", "most"]) fun _ _ _ _ _ _ us hl => match us, hl with | [_, _], _ => rfl
  have gSM := PySem.W.mg_of X G aSM
  have FHP := fun_mk (st := sHeap) lHP coHP kHP
  have bHP := FHP.binds (ps := ["raw"]) fun _ _ _ _ _ _ us hl => match us, hl with | [_], _ => rfl
  have gHP := PySem.W.mg_of X G aHP
  have FSL := fun_mk (st := sSlow) lSL coSL kSL
  have bSL := FSL.binds (ps := ["raw", "spot"]) fun _ _ _ _ _ _ us hl => match us, hl with | [_, _], _ => rfl
  have gSL := PySem.W.mg_of X G aSL
  have FSW := fun_mk (st := sSW) lSW coSW kSW
  have bSW := FSW.binds (ps := ["raw", "begin"]) fun _ _ _ _ _ _ us hl => match us, hl with | [_, _], _ => rfl
  have gSW := PySem.W.mg_of X G aSW
  have FGR := fun_mk (st := sGreat) lGR coGR kGR
  have bGR := FGR.binds (ps := ["jar", "most"]) fun _ _ _ _ _ _ us hl => match us, hl with | [_, _], _ => rfl
  have gGR := PySem.W.mg_of X G aGR
  have FFA := fun_mk (st := sFar) lFA coFA kFA
  have bFA := FFA.binds (ps := ["raw", "spot"]) fun _ _ _ _ _ _ us hl => match us, hl with | [_, _], _ => rfl
  have gFA := PySem.W.mg_of X G aFA
  have FFW := fun_mk (st := sFarW) lFW coFW kFW
  have bFW := FFW.binds (ps := ["raw", "begin"]) fun _ _ _ _ _ _ us hl => match us, hl with | [_, _], _ => rfl
  have gFW := PySem.W.mg_of X G aFW
  have FOT := fun_mk (st := sOther) lOT coOT kOT
  have bOT := FOT.binds (ps := ["jar", "raw"]) fun _ _ _ _ _ _ us hl => match us, hl with | [_, _], _ => rfl
  have gOT := PySem.W.mg_of X G aOT
  have FOS := fun_mk (st := sOthers) lOS coOS kOS
  have bOS := FOS.binds (ps := ["jar", "raw"]) fun _ _ _ _ _ _ us hl => match us, hl with | [_, _], _ => rfl
  have gOS := PySem.W.mg_of X G aOS
  have FFI := fun_mk (st := sFirst) lFI coFI kFI
  have bFI := FFI.binds (ps := ["walk_here", "other"]) fun _ _ _ _ _ _ us hl => match us, hl with | [_, _], _ => rfl
  have gFI := PySem.W.mg_of X G aFI
  have FSR := fun_mk (st := sSmR) lSR coSR kSR
  have bSR := FSR.binds (ps := ["made", "raw"]) fun _ _ _ _ _ _ us hl => match us, hl with | [_, _], _ => rfl
  have gSR := PySem.W.mg_of X G aSR
  have FGT := fun_mk (st := sGrR) lGT coGT kGT
  have bGT := FGT.binds (ps := ["jar", "made", "raw"]) fun _ _ _ _ _ _ us hl => match us, hl with | [_, _, _], _ => rfl
  have gGT := PySem.W.mg_of X G aGT
  have FLW := fun_mk (st := sLaw) lLW coLW kLW
  have gLW := PySem.W.mg_of X G aLW
  have FIn := fun_mk (st := sInit) lIn coIn kIn
  have bIn := FIn.binds (ps := ["self", "length", "marks", "strict"]) fun _ _ _ _ _ _ us hl => match us, hl with | [_, _, _, _], _ => rfl
  have FGl := fun_mk (st := sGetL) lGl coGl kGl
  have bGl := FGl.binds (ps := ["self"]) fun _ _ _ _ _ _ us hl => match us, hl with | [_], _ => rfl
  have FGm := fun_mk (st := sGetM) lGm coGm kGm
  have bGm := FGm.binds (ps := ["self"]) fun _ _ _ _ _ _ us hl => match us, hl with | [_], _ => rfl
  have FGs := fun_mk (st := sGetS) lGs coGs kGs
  have bGs := FGs.binds (ps := ["self"]) fun _ _ _ _ _ _ us hl => match us, hl with | [_], _ => rfl
  have FEq := fun_mk (st := sEq) lEq coEq kEq
  have bEq := FEq.binds (ps := ["self", "other"]) fun _ _ _ _ _ _ us hl => match us, hl with | [_, _], _ => rfl
  refine ⟨PySem.W.fnOf "law" "law" (defArgs sLaw) (defBody sLaw) (defScope sLaw) .none kVLW dcLW pmLW anLW cdLW ctLW, fun s v => .of_eq rfl, fun base _ _ => ?_⟩
  have GII := ok_int (P := l.prog) (w := w) (base := base) FII T
  have GAP := ok_places FAP T gII kII bII GII
  have GAA := ok_asc FAA T gAP kAP bAP GAP
  have GAM := ok_marks FAM T (PySem.W.mg_of X G aN) gAA kAA bAA GAA
  have GAS := ok_some FAS T gAA kAA bAA GAA
  have GIn := ok_init FIn T R gII kII bII GII gAM kAM bAM GAM gAS kAS bAS GAS
  have GGl := ok_getL (P := l.prog) (w := w) (base := base) FGl R
  have GGm := ok_getM (P := l.prog) (w := w) (base := base) FGm T R
  have GGs := ok_getS (P := l.prog) (w := w) (base := base) FGs T R
  have Gs : Gets l.prog w K mg base C pL fGl pM fGm pS fGs _ _ _ := ⟨⟨apL, gpL, tpL, ⟨restpL, rpL⟩⟩, bGl, GGl, ⟨apM, gpM, tpM, ⟨restpM, rpM⟩⟩, bGm, GGm, ⟨apS, gpS, tpS, ⟨restpS, rpS⟩⟩, bGs, GGs⟩
  have GCB := ok_cb (P := l.prog) (w := w) (base := base) FCB T
  have GFM := ok_fm FFM T gCB kCB bCB GCB
  have GST := ok_step FST T R Gs gFM kFM bFM GFM
  have GCS := ok_cset FCS T gII kII bII GII
  have GCP := ok_pl FCP gII kII bII GII
  have GCN := ok_len (P := l.prog) (w := w) (base := base) FCN (PySem.W.mg_of X G aN2)
  have GCZ := ok_sz FCZ R Gs gCN kCN bCN GCN
  have GME := ok_meet FME T R Gs gCS kCS bCS GCS gCP kCP bCP GCP gCZ kCZ bCZ GCZ gST kST bST GST
  have kbME := kb_meet FME
  have GEq := ok_eq (P := l.prog) (w := w) (base := base) FEq T R N
  have Z : Eqs l.prog w K mg base C fEq _ := ⟨GEq, cm, en, aEq, iEq, bEq⟩
  have GJR := ok_jar (P := l.prog) (w := w) (base := base) FJR T
  have GDP := ok_dip (P := l.prog) (w := w) (base := base) FDP T
  have GTH := ok_three FTH gDP kDP bDP GDP
  have GSM := ok_small FSM T gDP kDP bDP GDP gTH kTH bTH GTH
  have GHP := ok_heap FHP R M bIn GIn
  have GSL := ok_slow (P := l.prog) (w := w) (base := base) FSL T
  have GSW := ok_sw FSW gSL kSL bSL GSL
  have GGR := ok_great FGR T gDP kDP bDP GDP gTH kTH bTH GTH
  have GFA := ok_far (P := l.prog) (w := w) (base := base) FFA T
  have GFW := ok_farw FFW gFA kFA bFA GFA
  have GOT := ok_other FOT T gDP kDP bDP GDP
  have GOS := ok_others FOS gDP kDP bDP GDP
  have GFI := ok_first (P := l.prog) (w := w) (base := base) (mg := mg) FFI
  have GSR := ok_smr FSR T (PySem.W.mg_none_of X G n_repr) Z gSW kSW bSW GSW gFI kFI bFI GFI gME kME bME GME gHP kHP bHP GHP
  have GGT := ok_grr FGT T gDP kDP bDP GDP gFW kFW bFW GFW gFI kFI bFI GFI gME kME bME GME
  exact ok_law FLW T R M gJR kJR bJR GJR gSM kSM bSM GSM gGR kGR bGR GGR gSR kSR bSR GSR gGT kGT bGT GGT gHP kHP bHP GHP gOT kOT bOT GOT gOS kOS bOS GOS gME kME bME kbME GME bIn GIn
theorem walk_here {l : PySem.W.OpenLaw} {q : Program} {loose : List Str} {XP : (Str → Option Value) → Heap → Prop} {YP : World → Heap → Prop} {d : DefRec} {K : Params → PySem.W.Frag} (hn : l.most = some 63) (hdf : d.params.defaults = [])
    (hY : ∀ (w : World) (h : Heap), YP w h → (K w.params).In h)
    (F : ∀ (w : World) (mg : Str → Option Value) (fa : Addr) (h : Heap), (K w.params).In h → h.Ns mainGlobals mg → mg d.name = some (.ref fa) →
      ∃ fd : FuncData, (∀ (s : Shared) (u : Value), BindsTo s fd ⟨[u], []⟩ [("script", u)]) ∧ ∀ base : Heap, (K w.params).In base → base.Ns mainGlobals mg → FnG l.prog w (K w.params) mg base 9 fa fd ["script"] (spLaw (K w.params))) :
    PySem.W.WalkO q loose XP YP l.row.toRowW d [] (fun f vs => PySem.call f vs) :=
  walkG (n := 63) (k := 9) (x := "script") (sp := fun w => spLaw (K w.params)) hn (by decide) hdf ⟨rfl, by decide, by decide⟩ hY F fun _ _ a ns hl _ hS => ⟨a, ns, rfl, hS, hl, fun _ => rfl⟩
end Cw
open PySem PySem.W PyProof.Rows
set_option maxRecDepth 100000 in
set_option maxHeartbeats 0 in
theorem PySem.Challenge.cw_cutwalks_k20_meetings_of_walks_holds : PySem.Challenge.rw_cutwalks_k20_meetings_of_walks.Holds := by
  w_on; o_law; k_head; (case hw => w_witness2)
  k_fill
  refine Cw.walk_here (l := PySem.Challenge.rw_cutwalks_k20_meetings_of_walks) rfl rfl (fun w h Y => PySem.W.kIn_of Y) ?F
  case F =>
    intro w mg fa h KX G hmg
    refine' Cw.all_mk KX G hmg ?aC ?aN ?aN2 ?n_int ?n_bool ?n_list ?n_tuple ?n_range ?n_len ?n_abs ?n_all ?n_isi ?n_zip ?n_max ?n_min ?n_set ?n_sorted ?n_dict ?n_repr ?aII ?lII ?coII ?kII ?aAP ?lAP ?coAP ?kAP ?aAA ?lAA ?coAA ?kAA ?aAM ?lAM ?coAM ?kAM ?aAS ?lAS ?coAS ?kAS ?aCS ?lCS ?coCS ?kCS ?aCP ?lCP ?coCP ?kCP ?aCN ?lCN ?coCN ?kCN ?aCZ ?lCZ ?coCZ ?kCZ ?aME ?lME ?coME ?kME ?aST ?lST ?coST ?kST ?aFM ?lFM ?coFM ?kFM ?aCB ?lCB ?coCB ?kCB ?aJR ?lJR ?coJR ?kJR ?aDP ?lDP ?coDP ?kDP ?aTH ?lTH ?coTH ?kTH ?aSM ?lSM ?coSM ?kSM ?aHP ?lHP ?coHP ?kHP ?aSL ?lSL ?coSL ?kSL ?aSW ?lSW ?coSW ?kSW ?aGR ?lGR ?coGR ?kGR ?aFA ?lFA ?coFA ?kFA ?aFW ?lFW ?coFW ?kFW ?aOT ?lOT ?coOT ?kOT ?aOS ?lOS ?coOS ?kOS ?aFI ?lFI ?coFI ?kFI ?aSR ?lSR ?coSR ?kSR ?aGT ?lGT ?coGT ?kGT ?aLW ?lLW ?coLW ?kLW ?apL ?gpL ?tpL ?rpL ?apM ?gpM ?tpM ?rpM ?apS ?gpS ?tpS ?rpS ?aIn ?iIn ?lIn ?coIn ?kIn ?lGl ?coGl ?kGl ?lGm ?coGm ?kGm ?lGs ?coGs ?kGs ?aEq ?iEq ?lEq ?coEq ?kEq ?pg ?hd ?po ?sa ?mk ?kc ?nL ?nM ?nS ?kt ?ca ?cn ?ct ?cm ?en
    (case aC => k_is)
    (case aN => k_is)
    (case aN2 => k_is)
    (case n_int => k_is)
    (case n_bool => k_is)
    (case n_list => k_is)
    (case n_tuple => k_is)
    (case n_range => k_is)
    (case n_len => k_is)
    (case n_abs => k_is)
    (case n_all => k_is)
    (case n_isi => k_is)
    (case n_zip => k_is)
    (case n_max => k_is)
    (case n_min => k_is)
    (case n_set => k_is)
    (case n_sorted => k_is)
    (case n_dict => k_is)
    (case n_repr => k_is)
    (case aII => k_is)
    (case lII => k_is)
    (case coII => k_is)
    (case kII => k_is)
    (case aAP => k_is)
    (case lAP => k_is)
    (case coAP => k_is)
    (case kAP => k_is)
    (case aAA => k_is)
    (case lAA => k_is)
    (case coAA => k_is)
    (case kAA => k_is)
    (case aAM => k_is)
    (case lAM => k_is)
    (case coAM => k_is)
    (case kAM => k_is)
    (case aAS => k_is)
    (case lAS => k_is)
    (case coAS => k_is)
    (case kAS => k_is)
    (case aCS => k_is)
    (case lCS => k_is)
    (case coCS => k_is)
    (case kCS => k_is)
    (case aCP => k_is)
    (case lCP => k_is)
    (case coCP => k_is)
    (case kCP => k_is)
    (case aCN => k_is)
    (case lCN => k_is)
    (case coCN => k_is)
    (case kCN => k_is)
    (case aCZ => k_is)
    (case lCZ => k_is)
    (case coCZ => k_is)
    (case kCZ => k_is)
    (case aME => k_is)
    (case lME => k_is)
    (case coME => k_is)
    (case kME => k_is)
    (case aST => k_is)
    (case lST => k_is)
    (case coST => k_is)
    (case kST => k_is)
    (case aFM => k_is)
    (case lFM => k_is)
    (case coFM => k_is)
    (case kFM => k_is)
    (case aCB => k_is)
    (case lCB => k_is)
    (case coCB => k_is)
    (case kCB => k_is)
    (case aJR => k_is)
    (case lJR => k_is)
    (case coJR => k_is)
    (case kJR => k_is)
    (case aDP => k_is)
    (case lDP => k_is)
    (case coDP => k_is)
    (case kDP => k_is)
    (case aTH => k_is)
    (case lTH => k_is)
    (case coTH => k_is)
    (case kTH => k_is)
    (case aSM => k_is)
    (case lSM => k_is)
    (case coSM => k_is)
    (case kSM => k_is)
    (case aHP => k_is)
    (case lHP => k_is)
    (case coHP => k_is)
    (case kHP => k_is)
    (case aSL => k_is)
    (case lSL => k_is)
    (case coSL => k_is)
    (case kSL => k_is)
    (case aSW => k_is)
    (case lSW => k_is)
    (case coSW => k_is)
    (case kSW => k_is)
    (case aGR => k_is)
    (case lGR => k_is)
    (case coGR => k_is)
    (case kGR => k_is)
    (case aFA => k_is)
    (case lFA => k_is)
    (case coFA => k_is)
    (case kFA => k_is)
    (case aFW => k_is)
    (case lFW => k_is)
    (case coFW => k_is)
    (case kFW => k_is)
    (case aOT => k_is)
    (case lOT => k_is)
    (case coOT => k_is)
    (case kOT => k_is)
    (case aOS => k_is)
    (case lOS => k_is)
    (case coOS => k_is)
    (case kOS => k_is)
    (case aFI => k_is)
    (case lFI => k_is)
    (case coFI => k_is)
    (case kFI => k_is)
    (case aSR => k_is)
    (case lSR => k_is)
    (case coSR => k_is)
    (case kSR => k_is)
    (case aGT => k_is)
    (case lGT => k_is)
    (case coGT => k_is)
    (case kGT => k_is)
    (case aLW => k_is)
    (case lLW => k_is)
    (case coLW => k_is)
    (case kLW => k_is)
    (case apL => k_is)
    (case gpL => first | k_is | kernel_rfl)
    (case tpL => first | k_is | kernel_rfl)
    (case rpL => k_is)
    (case apM => k_is)
    (case gpM => first | k_is | kernel_rfl)
    (case tpM => first | k_is | kernel_rfl)
    (case rpM => k_is)
    (case apS => k_is)
    (case gpS => first | k_is | kernel_rfl)
    (case tpS => first | k_is | kernel_rfl)
    (case rpS => k_is)
    (case aIn => k_is)
    (case iIn => k_is)
    (case lIn => k_is)
    (case coIn => k_is)
    (case kIn => k_is)
    (case lGl => k_is)
    (case coGl => k_is)
    (case kGl => k_is)
    (case lGm => k_is)
    (case coGm => k_is)
    (case kGm => k_is)
    (case lGs => k_is)
    (case coGs => k_is)
    (case kGs => k_is)
    (case aEq => k_is)
    (case iEq => k_is)
    (case lEq => k_is)
    (case coEq => k_is)
    (case kEq => k_is)
    (case pg => k_is)
    (case hd => k_is)
    (case po => k_is)
    (case sa => k_is)
    (case mk => k_is)
    (case kc => k_is)
    (case nL => k_is)
    (case nM => k_is)
    (case nS => k_is)
    (case kt => first | k_is | kernel_rfl)
    (case ca => first | k_is | kernel_rfl)
    (case cn => first | k_is | kernel_rfl)
    (case ct => first | k_is | kernel_rfl)
    (case cm => first | k_is | kernel_rfl)
    (case en => first | k_is | kernel_rfl)
#print axioms PySem.Challenge.cw_cutwalks_k20_meetings_of_walks_holds
