import PyProof.Rows.All
import Wide.All
import OpenK.AllK
import Wide.FinOn
import HandS.ForMost
import HandS.Strs
import HandS.SetFor
import HandS.SortKw
import KE.DataMinMax
import HandS.OwnEq
import PyProof.InstNe
import HandS.IsInst
import HandS.Walk
import HandS.Exc
import PySem.Challenge.RW_cutwalks_k03_rows_joined_and_parted
import HandS.Property
import HandS.WideBits
import HandS.Style
import HandS.Words
import PyProof.ReprRoads
import PyProof.ReprLen
set_option Elab.async false
set_option maxRecDepth 100000
set_option maxHeartbeats 8000000
namespace Cw
open PySem PySem.Spec PyProof.Rows L2
/-! ## set(xs) of a list of nts -/
section
variable {P : Program} {w : World} {A : Around} {E : Value → Shared → Prop} {s : Shared}
abbrev newS (w : World) : Obj := { cls := .type "set", dict := none, data := .set #[] 0 (.fresh 0 0 (!w.params.followText "set-order")) }
theorem set_list {l : Addr} {its : Array Value} (ns : List Int) {Q : Value → Shared → Prop} (hand : A.handled = none) (isl : s.heap.IsList l its) (nts : IntsAre its.toList ns) (room : ns.length + 1 < scanBound)
    (q : ∀ (g' : Heap) (tk c : Nat), SetR w g' s.heap.objs.size (fun j => decide (j ∈ ns)) c → c ≤ ns.length → (∀ b o, s.heap.get? b = some o → g'.get? b = some o) → Q (.ref s.heap.objs.size) { s with heap := g', toks := tk }) :
    wpAny (model P w) A (call (.type "set") [.ref l]) Q E s := by
  have len : its.size = ns.length := by rw [← IntsAre.length nts, Array.length_toList]
  obtain ⟨c, tl, hmro⟩ := F.called_set.mro; have hmade := F.called_set.made; have hsub := F.called_set.sub
  refine wpAny_call (codeAny_of_tree ?_); show wpAny _ _ (callAny (.type "set") _) _ _ _
  refine wpAny_pure ⟨Code.quiet_builtin _ (by decide +kernel), codeAny_builtin F.entry_type_call ?_⟩; rw [Around.under_plain (weight_type_call_type "set" [.ref l] []) rfl]
  have h1 := F.called_set.notType; have h2 := F.called_set.canCreate; have hct := F.typeCall_set_1 (.ref l)
  repeat (any_goals (first | assumption | wp_step))
  refine codeAny_mono (code_set_led1 (.ref l) (E := E) (Q₁ := fun ob t₁ => ob = .ref s.heap.objs.size ∧ t₁ = { s with heap := s.heap.push (newS w) }) ⟨rfl, rfl⟩) fun r t₁ hr => ?_
  cases r with
  | error e => exact hr
  | ok fl =>
    cases fl with
    | ret ob =>
      obtain ⟨rfl, rfl⟩ := hr
      have at0 : (s.heap.push (newS w)).get? s.heap.objs.size = some (newS w) := Heap.get?_push_size _ rfl
      have ty0 : Shared.TypeIs { s with heap := s.heap.push (newS w) } (.ref s.heap.objs.size) "set" := ⟨_, at0, rfl⟩
      have hli := F.called_set.init.lookup; have hbi := F.called_set.init.bind (.ref s.heap.objs.size)
      repeat (any_goals (first | assumption | wp_step))
      refine codeAny_mono (codeAny_call_builtin (R := wants (fun r t₂ => r = .none ∧ ∃ g' tk c, t₂ = { s with heap := g', toks := tk } ∧ SetR w g' s.heap.objs.size (fun j => decide (j ∈ ns)) c ∧ c ≤ ns.length ∧ (∀ b o, s.heap.get? b = some o → g'.get? b = some o)) E)
        F.called_set.init.plain F.entry_set_init (check_set_init_1 ty0 ?_)) fun r₂ t₂ hr₂ => ?_
      · obtain ⟨ol, lo, lc, nl, ld⟩ := isl
        obtain ⟨oc, odi, oda, osl⟩ := ol
        simp only at lc ld; subst lc; subst ld
        have lo' : (s.heap.push (newS w)).get? l = some { cls := .type "list", dict := odi, data := .seq its nl, slots := osl } := Heap.get?_push_of_some _ lo
        have u1 := F.sub_list_set; have u2 := F.sub_list_frozenset
        have u3 : (Value.type "list" == Value.type "dict") = false := by decide
        have il : (s.heap.push (newS w)).IsList l its := ⟨_, lo', rfl, nl, rfl⟩
        unfold Builtin.«set.__init__» noKeywords Builtin.Frozenset.updateFrom
        generalize hPI : pyIter = PI; wp_walk; subst hPI
        refine wpAny_pyIter_list il ?_; refine wpAny_bind (wpAny_runValue ?_)
        have lt : l < s.heap.objs.size := Heap.lt_size lo
        have hand3 : A.in1.in1.in1.handled = none := by simp [hand]
        have ne1 : l ≠ (s.heap.push (newS w)).objs.size := by rw [Heap.size_push]; exact Nat.ne_of_lt (Nat.lt_succ_of_lt lt)
        have nin : s.heap.objs.size ∉ [(s.heap.push (newS w)).objs.size, l] := by
          rw [Heap.size_push]
          simp only [List.mem_cons, List.mem_singleton, List.not_mem_nil, or_false, not_or]
          exact ⟨Nat.ne_of_lt (Nat.lt_succ_self _), Nat.ne_of_gt lt⟩
        have val : ∀ (i : Nat) (v : Value), its[i]? = some v → ∃ k t, ns[i]? = some k ∧ v = .int k t := fun i v hv => by
          have hi : i < ns.length := by rw [← len]; exact (Array.getElem?_eq_some_iff.mp hv).1
          obtain ⟨t, e⟩ := PyProof.Rows.IntsAre.int_at nts i v (by rw [Array.getElem?_toList]; exact hv)
          exact ⟨ns[i], t, List.getElem?_eq_getElem hi, by rw [e, List.getD_eq_getElem?_getD, List.getElem?_eq_getElem hi] <;> rfl⟩
        refine set_update_ints ((Walks.list hand3 _ l ne1 its).toS) s.heap.objs.size nin ns len room val (its.size - 0) 0 _ (by omega) (Nat.zero_le _) ⟨⟨_, Heap.get?_push_size _ rfl, rfl, rfl⟩, (il.push _)⟩ ?z0 ?zR
        case z0 => exact ⟨0, Nat.le_refl 0, setR_new_at (Heap.get?_push_of_some _ at0)⟩
        case zR =>
          intro t' c' hm hc' hS'
          obtain ⟨g', g2, d', tk', os'⟩ := t'
          have eg : g2 = s.gens := hm.gens; have ed : d' = s.drawn := hm.drawn; have eo : os' = s.os := hm.os
          subst eg; subst ed; subst eo
          show wpAny _ _ _ _ _ _
          refine wpAny_pure ?_; show wpAny _ _ (ret Value.none) _ _ _
          rw [len] at hc'
          refine wpAny_pure ⟨rfl, g', tk', c', rfl, hS', hc', fun b o e => ?_⟩
          have b0 : b < s.heap.objs.size := Heap.lt_size e
          have b2 : b ≠ (s.heap.push (newS w)).objs.size := by rw [Heap.size_push]; exact Nat.ne_of_lt (Nat.lt_succ_of_lt b0)
          exact hm.heap b o (by simp only [List.mem_cons, List.mem_singleton, List.not_mem_nil, or_false, not_or]; exact ⟨Nat.ne_of_lt b0, b2⟩) (Heap.get?_push_of_some _ (Heap.get?_push_of_some _ e))
      · cases r₂ with
        | error e => exact hr₂
        | ok fl₂ =>
          cases fl₂ with
          | ret r =>
            obtain ⟨rfl, g', tk, c', rfl, hS', hc', hk'⟩ := hr₂
            repeat (any_goals (first | assumption | wp_step))
            exact q _ _ _ hS' hc' hk'
          | _ => exact hr₂.elim
    | _ => exact hr.elim
end
section
variable {P : Program} {w : World} {A : Around} {E : Value → Shared → Prop} {s : Shared}
theorem entry_sub : entryFor table "set.__sub__" = some Builtin.«frozenset.__sub__» := entryFor_alias (id' := "frozenset.__sub__") (by kernel_rfl) rfl (by decide +kernel) (by kernel_rfl)
theorem sub_form (a b : Value) : Builtin.«frozenset.__sub__» ⟨[a, b], []⟩ = (do
    let p ← Builtin.Frozenset.slot1 "__sub__" ⟨[a, b], []⟩
    if !(← (Builtin.Frozenset.isAnySet p.1 <&&> Builtin.Frozenset.isAnySet p.2)) then
      rule "frozenset.__sub__.declined"
      ret .notImplemented
    else ret (← Builtin.Frozenset.difference "frozenset.__sub__" (← Builtin.Frozenset.addrOf p.1) p.2)) := by
  rfl
variable {a b : Addr} {S T : Int → Bool} {n m : Nat}
theorem isSet_at {s : Shared} {Q : Bool → Shared → Prop} {a : Addr} (ty : s.TypeIs (.ref a) "set") (q : Q true s) : wpAny (model P w) A (Builtin.Frozenset.isAnySet (.ref a)) Q E s := by
  unfold Builtin.Frozenset.isAnySet isInstance
  have z := sub_set_self
  wp_walk
  exact q
/-- what is walked: all of the set's members -/
def Mem (xs : Array (Int × Value)) (S : Int → Bool) : Prop := ∀ e ∈ xs.toList, GoodE e ∧ S (keyOf e) = true
section
variable {o : Obj} {es : Array (Int × Value)} {ep : Nat} {t : SetTable}
theorem walk_at (ho : s.heap.get? a = some o) (hd : o.data = .set es ep t) (hf : t.fits es.size = true) (hl : w.params.followText "set-order" = true ∨ t.led = true) (hp : w.params.followText "set-order" = true ∨ (!t.plain && decide (es.size > 1)) = false)
    {Q : Array (Int × Value) → Shared → Prop} (q : ∀ xs, (∀ e ∈ xs.toList, e ∈ es.toList) → Q xs s) : wpAny (model P w) A (setWalk a) Q E s := by
  unfold setWalk
  refine wpAny_bind (wpAny_setState_of ho hd hf ?_)
  dsimp only
  refine wpAny_bind (wpAny_byText ?_)
  by_cases c : w.params.followText "set-order" = true
  · refine wp_if_pos c ?_
    refine wpAny_bind (wpAny_askSetting (wpAny_pure (q _ fun e he => ?_)))
    exact (pick_perm _ es).mem_iff.mp he
  · refine wp_if_neg c ?_
    have p1 := hp.resolve_left c
    have p2 := hl.resolve_left c
    try refine wpAny_bind (wpAny_pure ?_)
    refine wp_if_neg (by show ¬ ((!t.plain && decide (es.size > 1)) = true); rw [p1]; exact Bool.false_ne_true) ?_
    try refine wpAny_bind (wpAny_pure ?_)
    refine wpAny_bind (wpAny_of_eq (a := ()) ?_ (wpAny_pure (q es fun _ h => h)))
    show (if (!t.led && decide (es.size > 1)) = true then unsupported "set:maker-not-led" else pure ()) = pure ()
    rw [p2]
    rfl
end
theorem forIn_keep {α β : Type} {M : Model} {f : α → β → Sem (ForInStep β)} {b : β} (I : Shared → Prop) : ∀ (l : List α) {s : Shared} {Q : β → Shared → Prop},
    (∀ x ∈ l, ∀ (s : Shared) (Q' : ForInStep β → Shared → Prop), I s → (∀ s', I s' → Q' (.yield b) s') → wpAny M A (f x b) Q' E s) → I s → (∀ s', I s' → Q b s') → wpAny M A (forIn l b f) Q E s
  | [], s, Q, _, i, q => by
    rw [List.forIn_nil]
    exact wpAny_pure (q s i)
  | x :: l, s, Q, h, i, q => by
    rw [List.forIn_cons]
    exact wpAny_bind (h x (List.mem_cons_self ..) s _ i fun s' i' => forIn_keep I l (fun y hy => h y (List.mem_cons_of_mem _ hy)) i' q)
theorem forIn_keepA {α β : Type} {M : Model} {f : α → β → Sem (ForInStep β)} {b : β} (I : Shared → Prop) (l : Array α) {s : Shared} {Q : β → Shared → Prop}
    (h : ∀ x ∈ l.toList, ∀ (s : Shared) (Q' : ForInStep β → Shared → Prop), I s → (∀ s', I s' → Q' (.yield b) s') → wpAny M A (f x b) Q' E s) (i : I s) (q : ∀ s', I s' → Q b s') : wpAny M A (forIn l b f) Q E s := by
  rw [← Array.forIn_toList]
  exact forIn_keep I l.toList h i q
theorem quiet_at : ∀ (l : List Addr) {s : Shared} {Q : Bool → Shared → Prop}, (∀ c ∈ l, ∃ S n, SetR w s.heap c S n) → Q true s → wpAny (model P w) A (setsQuiet l) Q E s := by
  intro l s Q h q
  unfold setsQuiet
  refine wpAny_bind (forIn_keep (fun s' => s' = s) l (fun c hc s' Q' hs k => ?_) rfl fun s' hs => ?_)
  · subst hs
    obtain ⟨S, n, o, es, ep, t, ho, hx, hd, g, nd, hm, hb, hf, _⟩ := h c hc
    refine wpAny_bind (wpAny_setEntries_of ho hd hf ?_)
    refine wpAny_bind (forIn_keepA (fun s'' => s'' = s') es (fun e he s'' Q'' hs k' => ?_) rfl fun s'' hs => ?_)
    · subst hs
      obtain ⟨i, tk, h1, h2⟩ := g e he
      obtain ⟨e1, e2⟩ := e
      dsimp only at h1
      subst h1
      exact wpAny_pure (k' _ rfl)
    · subst hs
      exact wpAny_pure (k _ rfl)
  · subst hs
    exact wpAny_pure q
/-- the set at a walked while the empty set at r is filled -/
theorem unseen_at {r : Addr} (R : SetR w s.heap a S n) (Rr : SetR w s.heap r (fun _ => false) 0) {l : List Addr} (hall : ∀ c ∈ a :: l, ∃ S n, SetR w s.heap c S n) {Q : Array (Int × Value) → Shared → Prop}
    (q : ∀ xs h', Mem xs S → (∀ c o, c ≠ r → s.heap.get? c = some o → h'.get? c = some o) → SetR w h' r (fun _ => false) 0 → Q xs { s with heap := h' }) : wpAny (model P w) A (setWalkUnseen a l (some r)) Q E s := by
  obtain ⟨o, es, ep, t, ho, hx, hd, g, nd, hm, hb, hf, hn, hr, hl⟩ := R
  have mem : ∀ xs : Array (Int × Value), (∀ e ∈ xs.toList, e ∈ es.toList) → Mem xs S := fun xs h e he => ⟨g e (h e he), (hm _).mpr (List.mem_map_of_mem (h e he))⟩
  unfold setWalkUnseen
  refine wpAny_bind (wpAny_setState_of ho hd hf ?_)
  dsimp only
  refine wpAny_bind (wpAny_byText ?_)
  by_cases c : (w.params.followText "set-order" || t.led && t.plain || decide (es.size ≤ 1)) = true
  · refine wp_if_pos c ?_
    refine walk_at ho hd hf hl ?_ fun xs h => ?_
    · simp only [Bool.or_eq_true, Bool.and_eq_true, decide_eq_true_eq] at c
      rcases c with (c | c) | c
      · exact .inl c
      · exact .inr (by rw [c.2]; rfl)
      · exact .inr (by rw [decide_eq_false (by omega), Bool.and_false])
    · exact q xs s.heap (mem xs h) (fun _ _ _ e => e) Rr
  · refine wp_if_neg c ?_
    try refine wpAny_bind (wpAny_pure ?_)
    refine wpAny_bind (quiet_at (a :: l) hall ?_)
    refine wp_if_neg (by decide) ?_
    try refine wpAny_bind (wpAny_pure ?_)
    refine wpAny_bind (wpAny_rule ?_)
    obtain ⟨o2, es2, ep2, t2, ho2, hx2, hd2, g2, nd2, hm2, hb2, hf2, hn2, hr2, hl2⟩ := Rr
    try dsimp only
    refine wpAny_bind (wpAny_setState_of ho2 hd2 hf2 ?_)
    dsimp only
    have nb : w.params.followText "set-order" = false := by
      cases z : w.params.followText "set-order" with
      | false => rfl
      | true => rw [z] at c; simp at c
    have l1 : t.led = true := hl.resolve_left (by rw [nb]; exact Bool.false_ne_true)
    have l2 : t2.led = true := hl2.resolve_left (by rw [nb]; exact Bool.false_ne_true)
    by_cases c2 : (t2.led && !t.led || t2.plain && !t.plain) = true
    · refine wp_if_pos c2 ?_
      refine wpAny_bind (wpAny_storeSet_of ho2 hd2 ?_ (fits_of_scanBound hb2))
      refine wpAny_pure (q es _ (mem es fun _ h => h) (fun y o' hy e => by rw [Heap.get?_update_other _ _ (Ne.symm hy)]; exact e) ?_)
      exact ⟨_, es2, _, _, store_at ho2 hd2, hx2, rfl, g2, nd2, hm2, hb2, by exact hf2, hn2, hr2, .inr (by rw [l1, l2]; rfl)⟩
    · refine wp_if_neg c2 ?_
      try refine wpAny_bind (wpAny_pure ?_)
      exact wpAny_pure (q es s.heap (mem es fun _ h => h) (fun _ _ _ e => e) ⟨o2, es2, ep2, t2, ho2, hx2, hd2, g2, nd2, hm2, hb2, hf2, hn2, hr2, hl2⟩)
theorem sub_none (R1 : SetR w s.heap a S n) (R2 : SetR w s.heap b T m) (sub : ∀ k, S k = true → T k = true) (le : n ≤ m) {Q : Value → Shared → Prop}
    (q : ∀ h', (∀ c o, s.heap.get? c = some o → h'.get? c = some o) → SetR w h' s.heap.objs.size (fun _ => false) 0 → Q (.ref s.heap.objs.size) { s with heap := h' }) : wpAny (model P w) A (binaryOp .Sub (.ref a) (.ref b)) Q E s := by
  have ta : s.TypeIs (.ref a) "set" := (R1.setOf (P := P)).typeIs
  have tb : s.TypeIs (.ref b) "set" := (R2.setOf (P := P)).typeIs
  refine wpAny_binaryOp_same (T := "set") ta tb F.fills_set_sub F.slot_set_sub ?_
  refine wpAny_call_entry F.slot_set_sub ta entry_sub ?_ (F.args_set_sub_2 _ _)
  rw [sub_form]
  unfold Builtin.Frozenset.slot1 slotArgs
  refine wpAny_bind (wpAny_bind (wpAny_of_eq (a := (Value.ref a, [Value.ref b])) rfl (wpAny_pure ?_)))
  dsimp only
  refine wpAny_bind (m := _ <&&> _) ?_
  unfold andM
  refine wpAny_bind (isSet_at ta ?_)
  show wpAny _ _ (Builtin.Frozenset.isAnySet (.ref b)) _ _ _
  refine isSet_at tb (wp_if_neg (by decide) ?_)
  refine wpAny_bind (wpAny_pure (wpAny_bind ?_))
  obtain ⟨o, es, ep, t, ho, hx, hd, g, nd, hm, hb, hf, hn, hr, hl⟩ := id R1
  obtain ⟨o2, es2, ep2, t2, ho2, hx2, hd2, g2, nd2, hm2, hb2, hf2, hn2, hr2, hl2⟩ := id R2
  unfold Builtin.Frozenset.difference
  dsimp only
  refine wpAny_bind (isSet_at tb ?_)
  refine wp_if_neg (by decide) ?_
  try refine wpAny_bind (m := Builtin.Frozenset.addrOf (.ref b)) (wpAny_pure ?_)
  refine wp_if_neg (by simp) ?_
  refine wp_if_pos rfl ?_
  unfold Builtin.Frozenset.sizeOf
  refine wpAny_bind (wpAny_bind (wpAny_setEntries_of ho2 hd2 hf2 (wpAny_pure ?_)))
  refine wpAny_bind (wpAny_bind (wpAny_setEntries_of ho hd hf (wpAny_pure ?_)))
  refine wp_if_neg (by rw [hn, hn2]; omega) ?_
  unfold Builtin.Frozenset.baseOf isInstance
  have z := sub_set_self
  obtain ⟨hp, gg, dr, tk, os⟩ := s
  wp_walk
  dsimp only at ho ho2 q R1 R2
  refine wpAny_askSetting (wpAny_pure ?_)
  simp only [newObj, if_true]
  refine wpAny_bind (wpAny_alloc (wpAny_pure ?_))
  dsimp only
  have k1 : ∀ c o, hp.get? c = some o → (hp.push (newS w)).get? c = some o := fun c o e => Heap.get?_push_of_some _ e
  have fr := setR_fresh (h := hp) w
  have na : a ≠ hp.objs.size := Nat.ne_of_lt (Heap.lt_size ho)
  have nb : b ≠ hp.objs.size := Nat.ne_of_lt (Heap.lt_size ho2)
  refine wpAny_bind (m := Builtin.Frozenset.addrOf (.ref hp.objs.size)) (wpAny_pure ?_)
  refine wpAny_bind (wpAny_setEpoch_of (k1 _ _ ho) hd hf ?_)
  refine wpAny_bind (wpAny_holding (wpAny_bind ?_))
  refine unseen_at (R1.at fun o e => k1 _ _ e) fr (fun c hc => ?_) fun xs h' hxs k2 R' => ?_
  · rcases List.mem_cons.mp hc with rfl | hc
    · exact ⟨_, _, R1.at fun o e => k1 _ _ e⟩
    rcases List.mem_cons.mp hc with rfl | hc
    · exact ⟨_, _, R2.at fun o e => k1 _ _ e⟩
    rcases List.mem_cons.mp hc with rfl | hc
    · exact ⟨_, _, fr⟩
    · cases hc
  · have k3 : ∀ c o, hp.get? c = some o → h'.get? c = some o := fun c o e => k2 c o (Nat.ne_of_lt (Heap.lt_size e)) (k1 c o e)
    refine wpAny_bind (forIn_keepA (fun s' => s' = ⟨h', gg, dr, tk, os⟩) xs (fun e he s' Q' hs kk => ?_) rfl fun s' hs => ?_)
    · subst hs
      obtain ⟨⟨i, ti, h1, h2⟩, h3⟩ := hxs e he
      obtain ⟨e1, e2⟩ := e
      dsimp only at h1 h2
      subst h1 h2
      refine wpAny_bind (wpAny_holding (wpAny_bind ?_))
      refine wpAny_setFind_of (knd := intKind P w) (k := i) (intKind_is P w i ti) rfl ((R2.at fun o e => k3 _ _ e).setOf (P := P)) fun r hr => ?_
      refine wpAny_bind (wpAny_pure ?_)
      have hs : r.isSome = true := by rw [hr]; exact sub i h3
      refine wp_if_neg (by rw [hs]; decide) ?_
      refine wpAny_pure ?_
      unfold Builtin.Frozenset.unchanged
      refine wpAny_bind (wpAny_bind (wpAny_setEpoch_of (k3 _ _ ho) hd hf ?_))
      refine wp_if_neg (by simp) (wpAny_pure (wpAny_pure (kk _ rfl)))
    · subst hs
      refine wpAny_pure (wpAny_pure (wpAny_pure ⟨_, rfl, (fun z => nomatch z), q h' k3 R'⟩))
end
end Cw
namespace Cw
open PySem PySem.Spec PyProof.Rows L2
theorem nodup_len : ∀ {l m : List Int}, l.Nodup → (∀ x ∈ l, x ∈ m) → l.length ≤ m.length
  | [], m, _, _ => Nat.zero_le _
  | x :: l, m, nd, h => by
    obtain ⟨nx, nd'⟩ := List.nodup_cons.mp nd
    have hx : x ∈ m := h x (List.mem_cons_self ..)
    have z := nodup_len (l := l) (m := m.erase x) nd' fun y hy => by
      have ne : y ≠ x := fun e => nx (by rw [← e]; exact hy)
      exact (List.mem_erase_of_ne ne).mpr (h y (List.mem_cons_of_mem _ hy))
    rw [List.length_erase_of_mem hx] at z
    have p : 0 < m.length := List.length_pos_of_mem hx
    rw [List.length_cons]
    omega
section
variable {X : Cx}
theorem setR_le {w : World} {h : Heap} {a b : Addr} {S T : Int → Bool} {n m : Nat} (R1 : SetR w h a S n) (R2 : SetR w h b T m) (sub : ∀ k, S k = true → T k = true) : n ≤ m := by
  obtain ⟨o, es, ep, t, ho, hx, hd, g, nd, hm, hb, hf, hn, _⟩ := R1
  obtain ⟨o2, es2, ep2, t2, ho2, hx2, hd2, g2, nd2, hm2, hb2, hf2, hn2, _⟩ := R2
  have z := nodup_len (l := es.toList.map keyOf) (m := es2.toList.map keyOf) nd fun x hx => (hm2 x).mp (sub x ((hm x).mpr hx))
  rw [List.length_map, List.length_map, Array.length_toList, Array.length_toList, hn, hn2] at z
  exact z
/-- set(xs) -/
def rSetOf (X : Cx) : List V → Hp → VK → Prop := fun xs H Q => ∃ (l : Addr) (ns : List Int), xs = [.ref l] ∧ SqL X.K H l (ns.map V.int) ∧ ns.length ≤ 4000 ∧ ∀ p c, c ≤ ns.length → H p = none → Q (.ref p) (upd H p (SetO X.w p (fun j => decide (j ∈ ns)) c))
theorem cr_setOf (hc : X.calm = true) : CallR X (.type "set") (rSetOf X) := by
  intro pins s σ H vs us Q I r h
  obtain ⟨l, ns, rfl, hs, hl, q⟩ := h
  obtain ⟨its, rv, pl, _⟩ := I.list hs
  rw [Vals.ref1 r]
  refine set_list (its := its.toArray) ns (I.ok.hd hc) pl.isList rv.ints (by show ns.length + 1 < 4096; omega) fun g' tk c R hc' k => ?_
  exact ⟨.ref s.heap.objs.size, _, I.laid (t' := tk) k (Nat.le_refl _) (setO_new R), rfl, q _ c hc' (I.hok.fresh (Nat.le_refl _))⟩
/-- a - b, all of a's being b's: a new empty set -/
def rSubN (w : World) : R2 := fun x y H Q => ∃ (a b : Addr) (S T : Int → Bool) (n m : Nat), x = .ref a ∧ y = .ref b ∧ H a = some (SetO w a S n) ∧ H b = some (SetO w b T m) ∧ (∀ k, S k = true → T k = true) ∧ ∀ p, H p = none → Q (.ref p) (upd H p (SetO w p (fun _ => false) 0))
theorem op_subN : OpR X (binaryOp .Sub) (rSubN X.w) := by
  intro pins s σ H x y v u Q I rx ry h
  obtain ⟨a, b, S, T, n, m, rfl, rfl, ha, hb, sub, q⟩ := h
  cases rx
  cases ry
  have R1 := setO_get I ha
  have R2 := setO_get I hb
  refine sub_none R1 R2 sub (setR_le R1 R2 sub) fun h' k R => ?_
  exact ⟨.ref s.heap.objs.size, _, I.laid (t' := s.toks) k (Nat.le_refl _) (setO_new R), rfl, q _ (I.hok.fresh (Nat.le_refl _))⟩
/-- len(s) -/
theorem cr_lenS : CallR X (.builtin "len") (fun xs H Q => ∃ (a : Addr) (S : Int → Bool) (n : Nat), xs = [.ref a] ∧ H a = some (SetO X.w a S n) ∧ Q (.int n) H) := by
  intro pins s σ H vs us Q I r h
  obtain ⟨a, S, n, rfl, ha, q⟩ := h
  rw [Vals.ref1 r]
  obtain ⟨o, es, ep, t, ho, hx, hd, g, nd, hm, hb, hf, hn, _⟩ := setO_get I ha
  have e : scanBound = 4096 := rfl
  refine call_len_set ho hx hd hf (by rw [e] at hb; omega) ?_
  rw [hn]
  exact ⟨.int n, H, I.tok _, ⟨_, rfl⟩, q⟩
/-- max(xs, default=k) -/
def rMaxD (K : PySem.W.Frag) : List V → List V → Hp → VK → Prop := fun xs zs H Q => ∃ (a : Addr) (ns : List Int) (k : Int), xs = [.ref a] ∧ SqL K H a (ns.map V.int) ∧ zs = [.int k] ∧ ∀ M, (ns = [] → M = k) → (∀ y ∈ ns, y ≤ M) → Q (.int M) H
theorem fold_max (n : Int) : ∀ (ns : List Int), n ≤ ns.foldl max n ∧ ∀ y ∈ ns, y ≤ ns.foldl max n := by
  intro ns
  induction ns generalizing n with
  | nil => exact ⟨Int.le_refl _, fun _ h => nomatch h⟩
  | cons k r ih =>
    rw [List.foldl_cons]
    obtain ⟨h1, h2⟩ := ih (max n k)
    refine ⟨Int.le_trans (Int.le_max_left _ _) h1, fun y hy => ?_⟩
    rcases List.mem_cons.mp hy with rfl | hy
    · exact Int.le_trans (Int.le_max_right _ _) h1
    · exact h2 y hy
theorem alike_ints (ns : List Int) : PySem.W.AlikeAll (ns.map PyData.int) := by
  constructor
  · intro x hx y hy
    obtain ⟨i, _, rfl⟩ := List.mem_map.mp hx
    obtain ⟨j, _, rfl⟩ := List.mem_map.mp hy
    rfl
  · intro x hx
    obtain ⟨i, _, rfl⟩ := List.mem_map.mp hx
    exact fun z => nomatch z
theorem cr_maxD (hc : X.calm = true) (hu : X.A.units + 3 < cLine) : CallRK X (.builtin "max") ["default"] (rMaxD X.K) := by
  intro pins s σ H xs zs us ws Q I r rz h
  obtain ⟨a, ns, k, rfl, hs, rfl, q⟩ := h
  obtain ⟨its, rv, pl, _⟩ := I.list hs
  rw [Vals.ref1 r]
  obtain ⟨u, rfl, tk0, rfl⟩ := vals1 rz
  have dpi : ∀ ns : List Int, DpAll X.K H (ns.map V.int) (ns.map PyData.int) := fun ns => by
    induction ns with
    | nil => exact .nil
    | cons n r ih => exact .cons (.int n) ih
  have dpt : ∀ ns : List Int, PyData.depthAll (ns.map PyData.int) ≤ 1 := fun ns => by
    induction ns with
    | nil => exact Nat.zero_le _
    | cons n r ih =>
      rw [List.map_cons]
      unfold PyData.depthAll PyData.depth
      omega
  obtain ⟨as, hr⟩ := Dp.readsAll I _ _ _ (dpi ns) rv
  have hd := dpt ns
  refine PySem.W.max_list_default (vs := its.toArray) (I.ok.hd hc) pl.isList (by rw [List.toList_toArray]; exact hr) (alike_ints ns) (by omega) (fun e h' tk k' => ?_) (fun y ys i v h' tk bs e _ rd k' => ?_)
  · exact ⟨.int k, H, I.kept k', ⟨_, rfl⟩, q k (fun _ => rfl) fun y hy => by rw [List.map_eq_nil_iff.mp e] at hy; cases hy⟩
  · cases ns with
    | nil => cases e
    | cons n r =>
      rw [List.map_cons] at e
      injection e with e1 e2
      subst e1 e2
      rw [PySem.W.maxD_ints] at rd
      cases rd with
      | int i t =>
        obtain ⟨f1, f2⟩ := fold_max n r
        refine ⟨.int (r.foldl max n), H, I.kept k', ⟨t, rfl⟩, q _ (fun z => nomatch z) fun y hy => ?_⟩
        rcases List.mem_cons.mp hy with rfl | hy
        · exact f1
        · exact f2 y hy
end
end Cw
namespace Cw
open PySem PySem.Spec PyProof.Rows PySem.SeqAt L2
/-! ## != by an own __eq__ -/
section
variable {M : Model} {prog : Program} {w : World} {A : Around} {E : Value → Shared → Prop} {s : Shared} {K : PySem.W.Frag} {x y f C : Addr} {ox oy : Obj} {od oe : Option Obj}
theorem objNe_entry (X : K.In s.heap) (I : PySem.W.InstAt s.heap x ox C od) (hs : PySem.W.findIn K (.ref C) "__eq__" = some (some (.ref f))) (hf : PySem.W.isFn K (.ref f) = true) (hu : A.units < cLine) {Q : Fin → Shared → Prop}
    (hcall : wpAny (model prog w) A (call (.ref f) [.ref x, .ref y]) (fun v s' => ∃ b, v = .bool b ∧ Q (.done (.ret (.bool (!b)))) s') E s) :
    wpAny (model prog w) A (Builtin.«object.__ne__» ⟨[.ref x, .ref y], []⟩) Q E s := by
  unfold Builtin.«object.__ne__»
  repeat (first
    | with_reducible refine wpAny_cRoomFor hu ?_
    | (refine wpAny_bind (m := callSpecialIfBound? (.ref x) (Str.ofString "__eq__") [.ref y])
        (PySem.W.ifBound_K X I hs hf (wpAny_mono hcall (fun r s' hr => by
          obtain ⟨b, rfl, hq⟩ := hr
          repeat (first | exact hq | exact wpAny_pure hq | exact wpAny_truthy_bool hq | (refine wpAny_bind (m := truthy (.bool _)) (wpAny_truthy_bool ?_)) | wp_step)) fun _ _ e => e)))
    | wp_step)
theorem ifBound_objNe {args : List Value} {Q : Option Value → Shared → Prop} (X : K.In s.heap) (I : PySem.W.InstAt s.heap x ox C od) (hs : PySem.W.findIn K (.ref C) "__ne__" = some (some (.builtin "object.__ne__")))
    (h : wpAny M A (call (.builtin "object.__ne__") (.ref x :: args)) (fun v => Q (some v)) E s) : wpAny M A (callSpecialIfBound? (.ref x) "__ne__" args) Q E s := by
  simp only [callSpecialIfBound?, bindSpecialIfBound?]
  refine wpAny_holding (wpAny_bind (wpAny_bind (wpAny_bind (I.type.here ((PySem.W.looks_findIn X hs).here ?_)))))
  refine wpAny_bind (wpAny_askSetting (wpAny_ite ?_))
  have fin : wpAny M A (call (.builtin "object.__ne__") ([.ref x] ++ args) >>= fun v => pure (some v)) Q E s := wpAny_bind (wpAny_mono h (fun v s' h' => wpAny_pure h') fun _ _ h' => h')
  split
  · exact wpAny_bind (wpAny_of_eq (F.cmp_object.ne.bind _) (wpAny_pure (by exact fin)))
  · exact wpAny_tryCatch (wpAny_bind (wpAny_of_eq (F.cmp_object.ne.bind _) (wpAny_pure (by exact fin))))
theorem rc_ne (hu : A.units + 1 < cLine) (X : K.In s.heap) (I : PySem.W.InstAt s.heap x ox C od) (J : PySem.W.InstAt s.heap y oy C oe) (hm : PySem.W.mroIn K C (.type "object") = some true) (hn : PySem.W.findIn K (.ref C) "__ne__" = some (some (.builtin "object.__ne__")))
    (hs : PySem.W.findIn K (.ref C) "__eq__" = some (some (.ref f))) (hf : PySem.W.isFn K (.ref f) = true) {Q : Value → Shared → Prop}
    (hcall : wpAny (model prog w) A.in1 (call (.ref f) [.ref x, .ref y]) (fun v s' => ∃ b, v = .bool b ∧ Q (.bool (!b)) s') E s) :
    wpAny (model prog w) A (richCompare .NotEq (.ref x) (.ref y)) Q E s := by
  have one : wpAny (model prog w) A (tryCompare (.ref x) "__ne__" (.ref y)) (fun r s' => ∃ b, r = some (.bool b) ∧ Q (.bool b) s') E s := by
    unfold tryCompare
    refine wpAny_bind (ifBound_objNe X I hn (wpAny_call (codeAny_call_builtin F.cmp_object.ne.plain F.cmpEntry_ne (PySem.W.check_slot F.cmpKind_ne F.cmpSplit_ne (I.type.andThen (PySem.W.looks_mroIn X hm)) (F.cmpArgs_ne _ _)
      (objNe_entry (A := A.in1) X I hs hf (by exact hu) (wpAny_mono hcall (fun v s' hv => ?_) fun _ _ e => e))))))
    obtain ⟨b, rfl, hq⟩ := hv
    first | exact ⟨b, rfl, wpAny_pure ⟨_, rfl, hq⟩⟩ | exact ⟨b, rfl, wpAny_pure (wpAny_pure ⟨_, rfl, hq⟩)⟩
  unfold richCompare
  simp only [oneThing_ref]
  refine wpAny_holding (wpAny_bind (wpAny_cRoomFor (Nat.lt_of_succ_lt hu) ?_))
  rw [cmpInfo_NotEq]
  dsimp only
  refine wpAny_bind (I.type.here (wpAny_bind (J.type.here ?_)))
  rw [show (Value.ref C != Value.ref C) = false from by simp]
  simp only [Bool.false_eq_true, if_false]
  refine wpAny_bind (wpAny_pure ?_)
  simp only [Bool.false_eq_true, if_false]
  refine wpAny_bind (wpAny_mono one (fun v s' hv => ?_) fun _ _ e => e)
  obtain ⟨b, rfl, hq⟩ := hv
  first | exact wpAny_pure hq | exact wpAny_pure (wpAny_pure hq)
end
/-- x != y, equal by the own == -/
def rNeG (D : Eqv) : R2 := fun x y H Q => D x y H ∧ ∀ H', Ext H H' → Q (.bl false) H'
section
variable {X : Cx} {n : Nat}
theorem op_neG {CX : CXT} {C f : Addr} {fd : FuncData} {ps : List Str} {R : Addr → Addr → Hp → Prop} {E : XK} (F : FnOk X.prog X.w X.K X.mg X.base CX n f fd ps (spEq R))
    (hm : PySem.W.mroIn X.K C (.type "object") = some true) (hn : PySem.W.findIn X.K (.ref C) "__ne__" = some (some (.builtin "object.__ne__")))
    (hs : PySem.W.findIn X.K (.ref C) "__eq__" = some (some (.ref f))) (hf : PySem.W.isFn X.K (.ref f) = true) (hb : Binds X.K fd ps []) (hx : Passes CX X E) (hr : Room (n + 1) X.A) : OpR X (compareOp .NotEq) (rNeG (DIns C R)) := by
  intro pins s σ H x y u v Q I rx ry hq
  obtain ⟨⟨a, b, dx, dy, fs, gs, rfl, rfl, ha, hb', hR⟩, q⟩ := hq
  cases rx
  cases ry
  obtain ⟨mA, J, _⟩ := ins_get I.hok ha
  obtain ⟨mB, J', _⟩ := ins_get I.hok hb'
  obtain ⟨od, J, _⟩ := J.look
  obtain ⟨od', J', _⟩ := J'.look
  show wpAny (model X.prog X.w) X.A (richCompare .NotEq (.ref a) (.ref b)) (EP X pins σ Q) X.xe s
  refine rc_ne (hr.mono (Nat.succ_le_succ (Nat.zero_le n)) |>.in1.units0) I.kIn J J' hm hn hs hf ?_
  have hsp : spEq R [.ref a, .ref b] H (fun v H' => v = .bl true ∧ Ext H H') E := ⟨a, b, rfl, hR, fun H' e => ⟨rfl, e⟩⟩
  have hl := F.len _ _ _ _ hsp
  have r2 : Vals [V.ref a, V.ref b] [Value.ref a, Value.ref b] := .cons rfl (.cons rfl .nil)
  have e0 : Env0 X.prog X.w X.K X.mg X.base X.A.in1 X.stack s H := I.env0.in1
  refine wpAny_call (codeAny_mono (F.run X.A.in1 X.stack s H ⟨[.ref a, .ref b], []⟩ [.ref a, .ref b] [.ref a, .ref b] _ E hr.in1 e0 (by
    have := hb s [.ref a, .ref b] I.kIn (by simpa using hl)
    simpa using this) r2 hsp) fun r s' hq => ?_)
  cases r with
  | error e => exact hx pins σ H s e s' I hq
  | ok fl =>
    cases fl with
    | ret w =>
      obtain ⟨z, H', I', rz, ez, ex⟩ := I.after hq
      subst ez
      cases rz
      exact ⟨true, rfl, .bl false, H', I', rfl, q H' ex⟩
    | next => exact False.elim hq
    | brk => exact False.elim hq
    | cont => exact False.elim hq
end
end Cw
namespace Cw
open PySem L2
def top (i : Nat) : Stmt := PySem.Challenge.pw_cutwalks_k03_rows_joined_and_parted.main.body.getD i (.Pass ⟨0, 0, 0, 0⟩)
abbrev sIsInt : Stmt := top 8
abbrev sPlaces : Stmt := top 9
abbrev sAsc : Stmt := top 10
abbrev sMarks : Stmt := top 11
abbrev sSome : Stmt := top 12
abbrev sChange : Stmt := top 0
abbrev sRepl : Stmt := top 0
abbrev sRow : Stmt := top 16
theorem ifT {c : Bool} {A B : Prop} (h : c = true) (x : A) : if c = true then A else B := by
  rw [if_pos h]
  exact x
theorem ifF {c : Bool} {A B : Prop} (h : c = false) (x : B) : if c = true then A else B := by
  rw [h, if_neg Bool.false_ne_true]
  exact x
theorem same_new {H H1 : Hp} {p : Addr} {o : HO} (s : Same H H1) (h : H1 p = none) : Same H (upd H1 p o) := fun b u e => by
  rw [upd_ne (ne_of_none (s b u e) h)]
  exact s b u e
/-- what stands at D is replaced, D being new since H -/
theorem same_put {H H1 : Hp} {p : Addr} {o : HO} (s : Same H H1) (h : H p = none) : Same H (upd H1 p o) := fun b u e => by
  rw [upd_ne (ne_of_none e h)]
  exact s b u e
theorem all_true (n : Nat) : (List.replicate n true).all id = true := by
  induction n with
  | zero => rfl
  | succ n ih => rw [List.replicate_succ, List.all_cons, ih]; rfl
abbrev Asc (ns : List Int) : Prop := ns.Pairwise (· < ·)
/-- a list of ints stands at a -/
abbrev IL (H : Hp) (a : Addr) (ns : List Int) : Prop := H a = some (.lst (ns.map V.int))
theorem il_at {ns : List Int} {i : Nat} {x : V} (h : (ns.map V.int)[i]? = some x) : ∃ z, x = V.int z ∧ ns[i]? = some z := by
  rw [List.getElem?_map] at h
  cases e : ns[i]? with
  | none => rw [e] at h; cases h
  | some z => rw [e] at h; exact ⟨z, (Option.some.inj h).symm, rfl⟩
/-- what the names of the built-ins hold -/
structure Bl (mg : Str → Option Value) : Prop where
  int : mg "int" = none
  bool : mg "bool" = none
  list : mg "list" = none
  tuple : mg "tuple" = none
  range : mg "range" = none
  len : mg "len" = none
  abs : mg "abs" = none
  all : mg "all" = none
  isi : mg "isinstance" = none
  zip : mg "zip" = none
  max : mg "max" = none
  min : mg "min" = none
  set : mg "set" = none
  sorted : mg "sorted" = none
  dict : mg "dict" = none
def spOne : Sp := fun vs H Q _ => ∃ i : Int, vs = [.int i] ∧ Q (.bl true) H
/-- places from low to high -/
def spPlaces : Sp := fun vs H Q _ => ∃ (a : Addr) (ns : List Int) (lo hi : Int), vs = [.ref a, .int lo, .int hi] ∧ IL H a ns ∧ ns.length ≤ 1000 ∧ (∀ x ∈ ns, lo ≤ x ∧ x ≤ hi) ∧ ∀ H', Same H H' → Q (.bl true) H'
def spAsc : Sp := fun vs H Q _ => ∃ (a : Addr) (ns : List Int) (lo hi : Int), vs = [.ref a, .int lo, .int hi] ∧ IL H a ns ∧ ns.length ≤ 1000 ∧ (∀ x ∈ ns, lo ≤ x ∧ x ≤ hi) ∧ Asc ns ∧ ∀ H', Same H H' → Q (.bl true) H'
def spMarks : Sp := fun vs H Q _ => ∃ (a : Addr) (ns : List Int) (hi : Int), vs = [.ref a, .int hi] ∧ IL H a ns ∧ ns.length ≤ 400 ∧ (∀ x ∈ ns, 1 ≤ x ∧ x ≤ hi) ∧ Asc ns ∧ ∀ H', Same H H' → Q (.bl true) H'
def spSome : Sp := fun vs H Q _ => ∃ (a b : Addr) (ns ms : List Int), vs = [.ref a, .ref b] ∧ IL H a ns ∧ IL H b ms ∧ ns.length ≤ 400 ∧ ms.length ≤ 400 ∧ Asc ns ∧ (∀ x ∈ ns, 1 ≤ x) ∧ (∀ x ∈ ns, x ∈ ms) ∧ ∀ H', Same H H' → Q (.bl true) H'
section
variable {P : Program} {w : World} {K : PySem.W.Frag} {mg : Str → Option Value} {base : Heap}
theorem scI : FnScope ["thing"] ["thing"] (defScope sIsInt) := ⟨rfl, rfl, rfl, by decide +kernel, rfl, by decide +kernel, by decide +kernel⟩
theorem ok_int {f : Addr} {fd : FuncData} (F : Fun K "is_integer" "is_integer" sIsInt f fd) (T : Bl mg) : FnOk P w K mg base CX0 1 f fd ["thing"] spOne := by
  refine F.ok scI (fun vs H Q E h => ?_) (fun cdv A outer s H vs Q E hr h => ?_)
  · obtain ⟨i, rfl, _⟩ := h
    rfl
  · obtain ⟨i, rfl, k⟩ := h
    refine ⟨_, pss_one (ps_ret (pe_and (pe_callB call_isi (by rfl) T.isi (by decide +kernel) (pa_cons (pv 0) (pa_cons (pe_bltn (by rfl) T.int (by decide +kernel) (v := V.ty "int") rfl) pa_nil)))
      (pe_one (pe_not (pe_callB call_isi (by rfl) T.isi (by decide +kernel) (pa_cons (pv 0) (pa_cons (pe_bltn (by rfl) T.bool (by decide +kernel) (v := V.ty "bool") rfl) pa_nil))))))), ?_⟩
    refine ⟨_, rfl, _, _, _, _, true, rfl, ClsV.ty _, .base (.int i), kit_ty (by decide +kernel), _, rfl, ?_⟩
    refine ifT rfl ?_
    refine ⟨_, rfl, _, _, _, _, false, rfl, ClsV.ty _, .base (.int i), kit_ty (by decide +kernel), _, rfl, ?_⟩
    exact k
theorem scP : FnScope ["thing", "low", "high", "place"] ["thing", "low", "high"] (defScope sPlaces) := ⟨rfl, rfl, rfl, by decide +kernel, rfl, by decide +kernel, by decide +kernel⟩
theorem ok_places {f fI : Addr} {fd fdI : FuncData} (F : Fun K "are_places" "are_places" sPlaces f fd) (T : Bl mg) (gI : mg "is_integer" = some (.ref fI)) (kI : PySem.W.keepIn K (.ref fI) = true) (bI : Binds K fdI ["thing"] []) (GI : FnOk P w K mg base CX0 1 fI fdI ["thing"] spOne) :
    FnOk P w K mg base CX0 2 f fd ["thing", "low", "high"] spPlaces := by
  refine F.ok scP (fun vs H Q E h => ?_) (fun cdv A outer s H vs Q E hr h => ?_)
  · obtain ⟨a, ns, lo, hi, rfl, _⟩ := h
    rfl
  · obtain ⟨a, ns, lo, hi, rfl, hS, hl, hb, k⟩ := h
    refine ⟨_, pss_cons (ps_if (pt_not (pt_val (pe_callB call_isi (by rfl) T.isi (by decide +kernel) (pa_cons (pv 0) (pa_cons (pe_bltn (by rfl) T.list (by decide +kernel) (v := V.ty "list") rfl) pa_nil))))) (pss_one (ps_ret pe_bl)) pss_nil)
      (pss_one (ps_ret (pe_callB (cr_all rfl) (by rfl) T.all (by decide +kernel) (pa_cons (pe_lc (own := [("place", 3)]) (g := gName 3) (tt := tYes) rfl scP.nd
        (pi_list (pv 0)) (blkOk_by (own := [("place", 3)]) (N := ["thing", "low", "high", "place"]) (sc := defScope sPlaces) (by decide +kernel)) (fun _ _ _ _ _ => pg_name (i := 3) scP.nd rfl (Or.inl rfl)) (fun _ _ _ _ _ => pts_nil)
        (fun _ _ _ _ _ => pe_and (pe_call GI hr rfl gI kI bI .nil pass0 (pa_cons (pv 3) pa_nil)) (pe_one (pe_chain op_le op_le (pv 1) (pv 3) (pv 2))))) pa_nil)))), ?_⟩
    refine ⟨_, rfl, _, _, _, _, true, rfl, ClsV.ty _, .base (.lst hS), kit_ty (by decide +kernel), _, rfl, ?_⟩
    refine ifF rfl ?_
    refine ⟨_, rfl, a, rfl, ⟨_, SqL.of hS⟩, fun D hD => ?_⟩
    refine lc_list (K := K) (a := a) (xs := ns.map V.int) (fun i H' => Same H H' ∧ H' D = some (.lst (List.replicate i (V.bl true)))) ⟨same_new (Same.refl H) hD, upd_same⟩ (fun i H' _ q => SqL.of (q.1 _ _ hS)) ?_ ?_
    · rintro i x H' hx ⟨s1, hD'⟩
      obtain ⟨z, rfl, hz⟩ := il_at hx
      have hil : i < ns.length := (List.getElem?_eq_some_iff.mp hz).1
      obtain ⟨b1, b2⟩ := hb z (List.mem_of_getElem? hz)
      refine ⟨rfl, ?_⟩
      unfold tYes
      refine iteT ?_
      refine ⟨_, rfl, _, rfl, _, rfl, ?_⟩
      refine ifT rfl ?_
      refine ⟨_, rfl, _, rfl, _, _, rfl, rfl, _, rfl, ?_⟩
      refine ifT (by simp [b1]) ?_
      refine ⟨_, rfl, _, _, rfl, rfl, ?_⟩
      refine ⟨_, hD', by rw [List.length_replicate]; exact small1000 (by omega), same_put s1 hD, ?_⟩
      rw [upd_same, List.replicate_succ']
      simp [b2]
    · rintro H' ⟨s1, hD'⟩
      refine ⟨D, List.replicate ns.length true, rfl, SqL.of (by rw [hD', List.map_replicate, List.length_map]), ?_⟩
      rw [all_true]
      exact k _ s1
end
end Cw
namespace Cw
open PySem L2
theorem cut_one (xs : List V) : cutV xs (some 1) none = xs.drop 1 := by
  unfold cutV
  have e1 : HT.sIx xs.length 0 (some 1) = min 1 xs.length := HT.sIx_nat xs.length 0 1
  rw [e1, HT.sIx_none]
  cases xs with
  | nil => rfl
  | cons x r =>
    have e2 : min 1 (x :: r).length = 1 := by
      rw [List.length_cons]
      omega
    rw [e2, List.drop_succ_cons, List.drop_zero, List.length_cons, Nat.add_sub_cancel]
    exact List.take_length
section
variable {P : Program} {w : World} {K : PySem.W.Frag} {mg : Str → Option Value} {base : Heap}
abbrev NA : List Str := ["thing", "low", "high", "before", "place"]
theorem scA : FnScope NA ["thing", "low", "high"] (defScope sAsc) := ⟨rfl, rfl, rfl, by decide +kernel, rfl, by decide +kernel, by decide +kernel⟩
theorem ok_asc {f fP : Addr} {fd fdP : FuncData} (F : Fun K "are_ascending" "are_ascending" sAsc f fd) (T : Bl mg) (gP : mg "are_places" = some (.ref fP)) (kP : PySem.W.keepIn K (.ref fP) = true) (bP : Binds K fdP ["thing", "low", "high"] []) (GP : FnOk P w K mg base CX0 2 fP fdP ["thing", "low", "high"] spPlaces) :
    FnOk P w K mg base CX0 3 f fd ["thing", "low", "high"] spAsc := by
  refine F.ok scA (fun vs H Q E h => ?_) (fun cdv A outer s H vs Q E hr h => ?_)
  · obtain ⟨a, ns, lo, hi, rfl, _⟩ := h
    rfl
  · obtain ⟨a, ns, lo, hi, rfl, hS, hl, hb, ha, k⟩ := h
    refine ⟨_, pss_cons (ps_if (pt_not (pt_val (pe_call GP hr rfl gP kP bP .nil pass0 (pa_cons (pv 0) (pa_cons (pv 1) (pa_cons (pv 2) pa_nil)))))) (pss_one (ps_ret pe_bl)) pss_nil)
      (pss_one (ps_ret (pe_callB (cr_all rfl) (by rfl) T.all (by decide +kernel) (pa_cons (pe_lc (own := [("before", 3), ("place", 4)]) (g := gTup K 2 (gCons (gName 3) (gCons (gName 4) gNil))) (tt := tYes) rfl scA.nd
        (pi_zip (by rfl) T.zip (pa_cons (pv 0) (pa_cons (pe_slice sl_list (pv 0) (po_some pe_int) po_none) pa_nil))) (blkOk_by (own := [("before", 3), ("place", 4)]) (N := NA) (sc := defScope sAsc) (by decide +kernel))
        (fun _ _ _ _ _ => pg_tup rfl (pgs_cons (pg_name (i := 3) scA.nd rfl (Or.inl rfl)) (pgs_cons (pg_name (i := 4) scA.nd rfl (Or.inl rfl)) pgs_nil))) (fun _ _ _ _ _ => pts_nil)
        (fun _ _ _ _ _ => pe_cmpR op_lt (pv 3) (pv 4) (nomark _))) pa_nil)))), ?_⟩
    refine ⟨_, rfl, _, rfl, _, rfl, a, ns, lo, hi, rfl, hS, hl, hb, fun H1 s1 => ⟨_, rfl, ?_⟩⟩
    refine ifF rfl ?_
    refine ⟨_, rfl, _, rfl, 1, rfl, a, _, rfl, SqL.of (s1 _ _ hS), fun c nc => ?_⟩
    have s2 := same_new (o := .lst (cutV (ns.map V.int) (some 1) none)) s1 nc
    rw [cut_one] at s2
    rw [cut_one]
    refine ⟨a, c, _, _, rfl, SqL.of (s2 _ _ hS), SqL.of upd_same, fun D hD => ?_⟩
    have nc' : H c = none := s1.free nc
    have ncD : c ≠ D := ne_of_none upd_same hD
    have hn : ns.length - 1 = min (ns.map V.int).length ((ns.map V.int).drop 1).length := by
      rw [List.length_drop, List.length_map]
      omega
    refine lc_it (walk_zip hn) (fun i H' => Same H H' ∧ H' c = some (.lst ((ns.map V.int).drop 1)) ∧ H' D = some (.lst (List.replicate i (V.bl true)))) ⟨same_new s2 hD, by rw [upd_ne ncD]; exact upd_same, upd_same⟩ (fun i H' _ q => ⟨SqL.of (q.1 _ _ hS), SqL.of q.2.1⟩) ?_ ?_
    · rintro i x H' H'' hi ⟨s3, hc, hD'⟩ ⟨t, x1, x2, rfl, nt, rfl, e1, e2⟩
      have h1 : i < ns.length := by omega
      have h2 : i + 1 < ns.length := by omega
      have g1 : x1 = .int ns[i] := by
        dsimp only at e1
        rw [List.getElem?_map, List.getElem?_eq_getElem h1] at e1
        exact (Option.some.inj e1).symm
      have g2 : x2 = .int ns[i + 1] := by
        dsimp only at e2
        rw [List.getElem?_drop, List.getElem?_map, Nat.add_comm 1 i, List.getElem?_eq_getElem h2] at e2
        exact (Option.some.inj e2).symm
      subst g1 g2
      have hlt : ns[i] < ns[i + 1] := List.pairwise_iff_getElem.mp ha i (i + 1) h1 h2 (Nat.lt_succ_self i)
      have ntc : c ≠ t := ne_of_none hc nt
      have ntD : D ≠ t := ne_of_none hD' nt
      refine ⟨t, _, rfl, SqT.of upd_same, rfl, _, _, rfl, _, _, rfl, rfl, rfl, ?_⟩
      unfold tYes
      refine iteT ?_
      refine ⟨_, rfl, _, rfl, _, _, rfl, rfl, ?_⟩
      refine ⟨_, (by rw [upd_ne ntD]; exact hD'), by rw [List.length_replicate]; exact small1000 (by omega), same_put (same_new s3 nt) (s2.trans (Same.refl _) |>.free hD), ?_, ?_⟩
      · rw [upd_ne ncD, upd_ne ntc]
        exact hc
      · rw [upd_same, List.replicate_succ']
        simp [hlt]
    · rintro H' ⟨s3, hc, hD'⟩
      refine ⟨D, List.replicate (ns.length - 1) true, rfl, SqL.of (by rw [hD', List.map_replicate]), ?_⟩
      rw [all_true]
      exact k _ s3
theorem scM : FnScope ["thing", "high"] ["thing", "high"] (defScope sMarks) := ⟨rfl, rfl, rfl, by decide +kernel, rfl, by decide +kernel, by decide +kernel⟩
theorem ok_marks {f fA : Addr} {fd fdA : FuncData} {t : Tok} (F : Fun K "are_marks" "are_marks" sMarks f fd) (T : Bl mg) (gN : mg "MOST_MARKS" = some (.int 400 t)) (gA : mg "are_ascending" = some (.ref fA)) (kA : PySem.W.keepIn K (.ref fA) = true) (bA : Binds K fdA ["thing", "low", "high"] []) (GA : FnOk P w K mg base CX0 3 fA fdA ["thing", "low", "high"] spAsc) :
    FnOk P w K mg base CX0 4 f fd ["thing", "high"] spMarks := by
  refine F.ok scM (fun vs H Q E h => ?_) (fun cdv A outer s H vs Q E hr h => ?_)
  · obtain ⟨a, ns, hi, rfl, _⟩ := h
    rfl
  · obtain ⟨a, ns, hi, rfl, hS, hl, hb, ha, k⟩ := h
    refine ⟨_, pss_one (ps_ret (pe_and (pe_call GA hr rfl gA kA bA .nil pass0 (pa_cons (pv 0) (pa_cons pe_int (pa_cons (pv 1) pa_nil))))
      (pe_one (pe_cmpR op_le (pe_callB call_len_seq (by rfl) T.len PySem.boot_len (pa_cons (pv 0) pa_nil)) (pe_glob rfl gN (v := V.int 400) ⟨_, rfl⟩) (nomark _))))), ?_⟩
    refine ⟨_, rfl, _, rfl, a, ns, 1, hi, rfl, hS, by omega, hb, ha, fun H1 s1 => ⟨_, rfl, ?_⟩⟩
    refine ifT rfl ?_
    refine ⟨_, rfl, a, _, rfl, .inl (SqL.of (s1 _ _ hS)), _, _, rfl, rfl, ?_⟩
    have e : decide (((ns.map V.int).length : Int) ≤ 400) = true := by
      rw [List.length_map]
      exact decide_eq_true (by omega)
    have z := k _ s1
    rw [← e] at z
    exact z
theorem scSo : FnScope ["thing", "marks"] ["thing", "marks"] (defScope sSome) := ⟨rfl, rfl, rfl, by decide +kernel, rfl, by decide +kernel, by decide +kernel⟩
theorem ok_some {f fA : Addr} {fd fdA : FuncData} (F : Fun K "are_some_of" "are_some_of" sSome f fd) (T : Bl mg) (gA : mg "are_ascending" = some (.ref fA)) (kA : PySem.W.keepIn K (.ref fA) = true) (bA : Binds K fdA ["thing", "low", "high"] []) (GA : FnOk P w K mg base CX0 3 fA fdA ["thing", "low", "high"] spAsc) :
    FnOk P w K mg base CX0 4 f fd ["thing", "marks"] spSome := by
  refine F.ok scSo (fun vs H Q E h => ?_) (fun cdv A outer s H vs Q E hr h => ?_)
  · obtain ⟨a, b, ns, ms, rfl, _⟩ := h
    rfl
  · obtain ⟨a, b, ns, ms, rfl, hS, hM, hl, hm, ha, h1, hsub, k⟩ := h
    have hu := hr.units
    refine ⟨_, pss_cons (ps_if (pt_not (pt_val (pe_call GA hr rfl gA kA bA .nil pass0 (pa_cons (pv 0) (pa_cons pe_int (pa_cons (pe_callBK (cr_maxD rfl (Nat.lt_of_le_of_lt (Nat.add_le_add_left (by decide : 3 ≤ 64) _) hu)) (by rfl) T.max (by decide +kernel) (pa_cons (pv 1) pa_nil) (pk_cons pe_int pk_nil)) pa_nil)))))) (pss_one (ps_ret pe_bl)) pss_nil)
      (pss_one (ps_ret (pe_cmpR op_eq (pe_callB cr_lenS (by rfl) T.len PySem.boot_len (pa_cons (pe_op op_subN (pe_callTy (cr_setOf rfl) (by rfl) T.set (by decide +kernel) (pa_cons (pv 0) pa_nil)) (pe_callTy (cr_setOf rfl) (by rfl) T.set (by decide +kernel) (pa_cons (pv 1) pa_nil))) pa_nil)) pe_int (nomark _)))), ?_⟩
    refine ⟨_, rfl, _, rfl, b, ms, 0, rfl, SqL.of hM, rfl, fun M _ hM2 => ?_⟩
    refine ⟨a, ns, 0, M, rfl, hS, by omega, fun x hx => ⟨Int.le_trans (by decide) (h1 x hx), hM2 x (hsub x hx)⟩, ha, fun H1 s1 => ⟨_, rfl, ?_⟩⟩
    refine ifF rfl ?_
    refine ⟨_, rfl, a, ns, rfl, SqL.of (s1 _ _ hS), by omega, fun p c _ hp => ?_⟩
    have s2 := same_new (o := SetO w p (fun j => decide (j ∈ ns)) c) s1 hp
    refine ⟨_, rfl, b, ms, rfl, SqL.of (s2 _ _ hM), by omega, fun p2 c2 _ hp2 => ?_⟩
    have s3 := same_new (o := SetO w p2 (fun j => decide (j ∈ ms)) c2) s2 hp2
    have n12 : p ≠ p2 := ne_of_none upd_same hp2
    refine ⟨p, p2, _, _, _, _, rfl, rfl, by rw [upd_ne n12]; exact upd_same, upd_same, fun j hj => decide_eq_true (hsub j (of_decide_eq_true hj)), fun p3 hp3 => ?_⟩
    refine ⟨p3, _, 0, rfl, upd_same, rfl, ?_⟩
    have e : decide (V.int ((0 : Nat) : Int) = V.int 0) = true := by simp
    have z := k _ (same_new (o := SetO w p3 (fun _ => false) 0) s3 hp3)
    rw [← e] at z
    exact z
end
end Cw
namespace Cw
open PySem L2
abbrev sInit : Stmt := inClass sRow 0
abbrev sGetM : Stmt := inClass sRow 2
abbrev sEq : Stmt := inClass sRow 6
abbrev sChanged : Stmt := inClass sRow 11
theorem k12 : ¬ (("_length" : Str) = "_marks") := by decide +kernel
theorem k13 : ¬ (("_length" : Str) = "_strict") := by decide +kernel
theorem k23 : ¬ (("_marks" : Str) = "_strict") := by decide +kernel
def flds (n : Int) (l1 l2 : Addr) : List (Str × V) := putF "_strict" (.ref l2) (putF "_marks" (.ref l1) (putF "_length" (.int n) []))
theorem flds_eq (n : Int) (l1 l2 : Addr) : flds n l1 l2 = ([("_length", V.int n), ("_marks", V.ref l1), ("_strict", V.ref l2)] : List (Str × V)) := by
  unfold flds
  rw [show putF "_length" (V.int n) [] = ([("_length", V.int n)] : List (Str × V)) from rfl]
  rw [show putF "_marks" (V.ref l1) ([("_length", V.int n)] : List (Str × V)) = (if ("_length" : Str) = "_marks" then ([("_length", V.ref l1)] : List (Str × V)) else ("_length", V.int n) :: putF "_marks" (V.ref l1) []) from rfl, if_neg k12]
  rw [show putF "_marks" (V.ref l1) [] = ([("_marks", V.ref l1)] : List (Str × V)) from rfl]
  rw [show putF "_strict" (V.ref l2) ([("_length", V.int n), ("_marks", V.ref l1)] : List (Str × V)) = (if ("_length" : Str) = "_strict" then ([("_length", V.ref l2), ("_marks", V.ref l1)] : List (Str × V)) else ("_length", V.int n) :: (if ("_marks" : Str) = "_strict" then ([("_marks", V.ref l2)] : List (Str × V)) else ("_marks", V.ref l1) :: putF "_strict" (V.ref l2) [])) from rfl, if_neg k13, if_neg k23]
  rfl
theorem fl_L (n : Int) (l1 l2 : Addr) : (flds n l1 l2).lookup ("_length" : Str) = some (.int n) := by
  unfold flds
  rw [lookup_putF, if_neg k13, lookup_putF, if_neg k12, lookup_putF, if_pos rfl]
theorem fl_M (n : Int) (l1 l2 : Addr) : (flds n l1 l2).lookup ("_marks" : Str) = some (.ref l1) := by
  unfold flds
  rw [lookup_putF, if_neg k23, lookup_putF, if_pos rfl]
theorem fl_S (n : Int) (l1 l2 : Addr) : (flds n l1 l2).lookup ("_strict" : Str) = some (.ref l2) := by
  unfold flds
  rw [lookup_putF, if_pos rfl]
theorem fl_no (n : Int) (l1 l2 : Addr) {m : Str} (h1 : ¬ m = "_length") (h2 : ¬ m = "_marks") (h3 : ¬ m = "_strict") : (flds n l1 l2).lookup m = none := by
  unfold flds
  rw [lookup_putF, if_neg h3, lookup_putF, if_neg h2, lookup_putF, if_neg h1]
  rfl
/-- what a row is -/
structure Good (n : Int) (ms ss : List Int) : Prop where
  pos : 1 ≤ n
  len : ms.length ≤ 400
  rng : ∀ x ∈ ms, 1 ≤ x ∧ x ≤ n - 1
  asc : Asc ms
  asc2 : Asc ss
  sub : ∀ x ∈ ss, x ∈ ms
theorem Good.len2 {n : Int} {ms ss : List Int} (g : Good n ms ss) : ss.length ≤ 400 :=
  Nat.le_trans (nodup_len (g.asc2.imp fun h e => by omega) g.sub) g.len
/-- a row stands at p -/
def RowAt (C : Addr) (H : Hp) (p : Addr) (n : Int) (ms ss : List Int) : Prop := ∃ dx l1 l2, H p = some (.ins C dx (flds n l1 l2)) ∧ IL H l1 ms ∧ IL H l2 ss
theorem RowAt.same {C : Addr} {H H' : Hp} {p : Addr} {n : Int} {ms ss : List Int} (r : RowAt C H p n ms ss) (s : Same H H') : RowAt C H' p n ms ss := by
  obtain ⟨dx, l1, l2, a, b, c⟩ := r
  exact ⟨dx, l1, l2, s _ _ a, s _ _ b, s _ _ c⟩
/-- a row has been made at p, its lists are new since H -/
def RowNew (C : Addr) (H H' : Hp) (p : Addr) (n : Int) (ms ss : List Int) : Prop := ∃ dx l1 l2, H' p = some (.ins C dx (flds n l1 l2)) ∧ IL H' l1 ms ∧ IL H' l2 ss ∧ H l1 = none ∧ H l2 = none
theorem RowNew.at {C : Addr} {H H' : Hp} {p : Addr} {n : Int} {ms ss : List Int} (r : RowNew C H H' p n ms ss) : RowAt C H' p n ms ss := by
  obtain ⟨dx, l1, l2, a, b, c, _⟩ := r
  exact ⟨dx, l1, l2, a, b, c⟩
theorem none_of {H H' : Hp} {l : Addr} (k : ∀ c o, H c = some o → ∃ o', H' c = some o') (h : H' l = none) : H l = none := by
  cases e : H l with
  | none => rfl
  | some o =>
    obtain ⟨o', z⟩ := k _ _ e
    rw [h] at z
    cases z
theorem RowNew.mono {C : Addr} {H0 H H' : Hp} {p : Addr} {n : Int} {ms ss : List Int} (r : RowNew C H H' p n ms ss) (k : ∀ c o, H0 c = some o → ∃ o', H c = some o') : RowNew C H0 H' p n ms ss := by
  obtain ⟨dx, l1, l2, a, b, c, d, e⟩ := r
  exact ⟨dx, l1, l2, a, b, c, none_of k d, none_of k e⟩
structure Cl (K : PySem.W.Frag) (mg : Str → Option Value) (C : Addr) : Prop where
  cl : Cls K C
  nL : NoAttr K C "_length"
  nM : NoAttr K C "_marks"
  nS : NoAttr K C "_strict"
  mgR : mg "Row" = some (.ref C)
  kit : PySem.W.kitOne K (.ref C) (.ref C) = some true
/-- Row(n, marks, strict): from the new instance on -/
def spInit (C : Addr) : Sp := fun vs H Q _ => ∃ (x dx a b : Addr) (n : Int) (ms ss : List Int), vs = [.ref x, .int n, .ref a, .ref b] ∧ H x = some (.ins C dx []) ∧ IL H a ms ∧ IL H b ss ∧ Good n ms ss ∧
  ∀ H', RowNew C H H' x n ms ss → (∀ c o, H c = some o → c ≠ x → H' c = some o) → Q .non H'
section
variable {P : Program} {w : World} {K : PySem.W.Frag} {mg : Str → Option Value} {base : Heap}
abbrev NI : List Str := ["self", "length", "marks", "strict"]
theorem scIn : FnScope NI NI (defScope sInit) := ⟨rfl, rfl, rfl, by decide +kernel, rfl, by decide +kernel, by decide +kernel⟩
theorem ok_init {f C fI fM fS : Addr} {fd fdI fdM fdS : FuncData} (F : Fun K "__init__" "Row.__init__" sInit f fd) (T : Bl mg) (R : Cl K mg C)
    (gI : mg "is_integer" = some (.ref fI)) (kI : PySem.W.keepIn K (.ref fI) = true) (bI : Binds K fdI ["thing"] []) (GI : FnOk P w K mg base CX0 1 fI fdI ["thing"] spOne)
    (gM : mg "are_marks" = some (.ref fM)) (kM : PySem.W.keepIn K (.ref fM) = true) (bM : Binds K fdM ["thing", "high"] []) (GM : FnOk P w K mg base CX0 4 fM fdM ["thing", "high"] spMarks)
    (gS : mg "are_some_of" = some (.ref fS)) (kS : PySem.W.keepIn K (.ref fS) = true) (bS : Binds K fdS ["thing", "marks"] []) (GS : FnOk P w K mg base CX0 4 fS fdS ["thing", "marks"] spSome) :
    FnOk P w K mg base CX0 5 f fd NI (spInit C) := by
  refine F.ok scIn (fun vs H Q E h => ?_) (fun cdv A outer s H vs Q E hr h => ?_)
  · obtain ⟨x, dx, a, b, n, ms, ss, rfl, _⟩ := h
    rfl
  · obtain ⟨x, dx, a, b, n, ms, ss, rfl, hx, hM, hS, G, k⟩ := h
    have hr1 : Room 1 (A.deeper (PyProof.Rows.envOfC "Row.__init__" (defScope sInit) s.heap.objs.size f cdv)) := hr.mono (by decide)
    refine ⟨_, pss_cons (ps_if (PW.pt (pw_or (pt_not (pt_val (pe_call GI hr1 rfl gI kI bI .nil pass0 (pa_cons (pv 1) pa_nil)))) (pw_or1 (pt_cmpR op_lt (pv 1) pe_int (nomark _))))) pss_never pss_nil)
      (pss_cons (ps_if (pt_not (pt_val (pe_call GM hr rfl gM kM bM .nil pass0 (pa_cons (pv 2) (pa_cons (pe_op op_sub (pv 1) pe_int) pa_nil))))) pss_never pss_nil)
      (pss_cons (ps_if (pt_not (pt_val (pe_call GS hr rfl gS kS bS .nil pass0 (pa_cons (pv 3) (pa_cons (pv 2) pa_nil))))) pss_never pss_nil)
      (pss_cons (ps_fld (pv 0) (pv 1) rfl)
      (pss_cons (ps_fld (pv 0) (pe_callTy call_list_of (by rfl) T.list (by decide +kernel) (pa_cons (pv 2) pa_nil)) rfl)
      (pss_one (ps_fld (pv 0) (pe_callTy call_list_of (by rfl) T.list (by decide +kernel) (pa_cons (pv 3) pa_nil)) rfl)))))), ?_⟩
    have hp := G.pos
    refine ⟨_, rfl, n, rfl, _, rfl, ?_⟩
    refine ifF rfl ?_
    refine ⟨_, rfl, _, _, rfl, rfl, _, rfl, ?_⟩
    refine ifF (decide_eq_false (by omega)) ?_
    refine ⟨_, rfl, _, rfl, _, _, rfl, rfl, a, ms, n - 1, rfl, hM, G.len, G.rng, G.asc, fun H1 s1 => ⟨_, rfl, ?_⟩⟩
    refine ifF rfl ?_
    refine ⟨_, rfl, _, rfl, b, a, ss, ms, rfl, s1 _ _ hS, s1 _ _ hM, G.len2, G.len, G.asc2, (fun y hy => (G.rng y (G.sub y hy)).1), G.sub, fun H2 s2 => ⟨_, rfl, ?_⟩⟩
    refine ifF rfl ?_
    have s12 := s1.trans s2
    refine ⟨_, rfl, _, rfl, x, C, dx, _, rfl, s12 _ _ hx, R.cl, R.nL, (by show 0 < 1000; decide), ?_⟩
    have na : a ≠ x := ne_of hM hx (by intro z; cases z)
    have nb : b ≠ x := ne_of hS hx (by intro z; cases z)
    have hM3 : ∀ o, IL (upd H2 x o) a ms := fun o => by
      show upd H2 x o a = _
      rw [upd_ne na]
      exact s12 _ _ hM
    have hS3 : ∀ o, IL (upd H2 x o) b ss := fun o => by
      show upd H2 x o b = _
      rw [upd_ne nb]
      exact s12 _ _ hS
    refine ⟨_, rfl, a, _, rfl, .inl (SqL.of (hM3 _)), fun l1 h1 => ?_⟩
    have nx1 : x ≠ l1 := ne_of_none upd_same h1
    have nb1 : b ≠ l1 := ne_of_none (hS3 _) h1
    refine ⟨_, rfl, x, C, dx, _, rfl, (by rw [upd_ne nx1]; exact upd_same), R.cl, R.nM, (by show 1 < 1000; decide), ?_⟩
    refine ⟨_, rfl, b, ss.map V.int, rfl, .inl (SqL.of (by rw [upd_ne nb, upd_ne nb1]; exact hS3 _)), fun l2 h2 => ?_⟩
    have nx2 : x ≠ l2 := ne_of_none upd_same h2
    have n12 : l1 ≠ l2 := ne_of_none (show _ = some (HO.lst (ms.map V.int)) by rw [upd_ne (Ne.symm nx1)]; exact upd_same) h2
    refine ⟨_, rfl, x, C, dx, _, rfl, (by rw [upd_ne nx2]; exact upd_same), R.cl, R.nS, (by show 2 < 1000; decide), ?_⟩
    have up : ∀ (H : Hp) (x : Addr) (o' : HO) (c : Addr) (o : HO), H c = some o → ∃ o'', upd H x o' c = some o'' := fun H x o' c o e => by
      by_cases z : c = x
      · exact ⟨o', by rw [z]; exact upd_same⟩
      · exact ⟨o, by rw [upd_ne z]; exact e⟩
    have f1 : H l1 = none := none_of (fun c o e => up _ _ _ _ _ (s12 _ _ e)) h1
    have f2 : H l2 = none := none_of (fun c o e => by
      obtain ⟨o1, e1⟩ := up H2 x (.ins C dx (putF "_length" (V.int n) [])) _ _ (s12 _ _ e)
      obtain ⟨o2, e2⟩ := up _ l1 (.lst (ms.map V.int)) _ _ e1
      exact up _ _ _ _ _ e2) h2
    refine k _ ⟨dx, l1, l2, upd_same, ?_, ?_, f1, f2⟩ ?_
    · show upd _ _ _ l1 = _
      rw [upd_ne (Ne.symm nx1), upd_ne n12, upd_ne (Ne.symm nx1)]
      exact upd_same
    · show upd _ _ _ l2 = _
      rw [upd_ne (Ne.symm nx2)]
      exact upd_same
    · intro c o ec nc
      have e3 : ∀ o', upd H2 x o' c = some o := fun o' => by
        rw [upd_ne nc]
        exact s12 _ _ ec
      have e4 := e3 (.ins C dx (putF "_length" (V.int n) []))
      have ne1 : c ≠ l1 := ne_of_none e4 h1
      rw [upd_ne nc]
      have e5 : upd (upd (upd H2 x (.ins C dx (putF "_length" (V.int n) []))) l1 (.lst (ms.map V.int))) x (.ins C dx (putF "_marks" (V.ref l1) (putF "_length" (V.int n) []))) c = some o := by
        rw [upd_ne nc, upd_ne ne1]
        exact e4
      rw [upd_ne (ne_of_none e5 h2)]
      exact e5
end
end Cw
namespace Cw
open PySem PySem.Spec PyProof.Rows L2
theorem dps_ints {K : PySem.W.Frag} {H : Hp} : ∀ ns : List Int, DpAll K H (ns.map V.int) (ns.map PyData.int)
  | [] => .nil
  | n :: r => .cons (.int n) (dps_ints r)
theorem dp_il {K : PySem.W.Frag} {H : Hp} {a : Addr} {ns : List Int} (h : IL H a ns) : Dp K H (.ref a) (.list (ns.map PyData.int)) := .lst (SqL.of h) (dps_ints ns)
theorem depth_ints : ∀ ns : List Int, PyData.depthAll (ns.map PyData.int) ≤ 1 := fun ns => by
  induction ns with
  | nil => exact Nat.zero_le _
  | cons n r ih =>
    rw [List.map_cons]
    unfold PyData.depthAll PyData.depth
    omega
theorem lay_ints : ∀ ns : List Int, PyData.canLayAll0 (ns.map PyData.int) = true := fun ns => by
  induction ns with
  | nil => rfl
  | cons n r ih =>
    rw [List.map_cons]
    unfold PyData.canLayAll0 PyData.canLay0
    rw [ih]
    rfl
theorem shape_il (ns : List Int) : SeqAt.shaped (.list (ns.map PyData.int)) = true := by
  have h1 : PyData.canLay0 (.list (ns.map PyData.int)) = true := by
    unfold PyData.canLay0
    exact lay_ints ns
  have h2 : PyData.depth (.list (ns.map PyData.int)) ≤ 64 := by
    have z := depth_ints ns
    unfold PyData.depth
    omega
  unfold SeqAt.shaped
  rw [h1, decide_eq_true h2]
  rfl
theorem eqv_il (ns : List Int) : PyData.eqv (.list (ns.map PyData.int)) (.list (ns.map PyData.int)) = true := SeqAt.eqv_refl _ (SeqAt.canLay_of_shaped (shape_il ns))
section
variable {X : Cx} {a b c d : Expr} {ta tb tc td : TE} {pos : Pos}
/-- a op1 b op2 c op3 d -/
def tChain3 (r1 r2 r3 : R2) (ta tb tc td : TE) : TE := fun σ H Q => ta σ H fun x H1 => tb σ H1 fun y H2 => r1 x y H2 fun z H3 => ∃ k, z = .bl k ∧
  (if k = true then tc σ H3 fun u H4 => r2 y u H4 fun z2 H5 => ∃ k2, z2 = .bl k2 ∧ (if k2 = true then td σ H5 fun v H6 => r3 u v H6 Q else Q (.bl false) H5) else Q (.bl false) H3)
theorem pt_chain3 {o1 o2 o3 : CmpOp} {r1 r2 r3 : R2} (h1 : OpR X (compareOp o1) r1) (h2 : OpR X (compareOp o2) r2) (h3 : OpR X (compareOp o3) r3) (ha : PE X a ta) (hb : PE X b tb) (hc : PE X c tc) (hd : PE X d td)
    (hm : lastMarks [o1, o2, o3] [b, c, d] = false := by with_unfolding_all rfl) : PT X (.Compare a [o1, o2, o3] [b, c, d] pos) (tTest (tChain3 r1 r2 r3 ta tb tc td)) := by
  refine ⟨fun pins s σ H Q I h => ?_⟩
  refine isTrue_chain (thn (ha.run pins s σ H _ I h) fun v s1 ⟨x, H1, I1, e1, q1⟩ => test_link (thn (hb.run pins s1 σ H1 _ I1 q1) fun u s2 ⟨y, H2, I2, e2, q2⟩ =>
    thn (h1 pins s2 σ H2 x y v u _ I2 e1 e2 q2) fun d1 s3 ⟨z, H3, I3, e3, k, e, q3⟩ => ?_)) hm
  subst e
  cases e3
  refine wpAny_truthy_bool ?_
  cases k with
  | false =>
    obtain ⟨k', e', q'⟩ := q3
    cases e'
    exact ite_ff ⟨H3, I3, q'⟩
  | true =>
    refine ite_tt (test_link (thn (hc.run pins s3 σ H3 _ I3 q3) fun w' s4 ⟨z', H4, I4, e4, q4⟩ => thn (h2 pins s4 σ H4 y z' u w' _ I4 e2 e4 q4) fun d' s5 ⟨z2, H5, I5, e5, k2, f2, q5⟩ => ?_))
    subst f2
    cases e5
    refine wpAny_truthy_bool ?_
    cases k2 with
    | false =>
      obtain ⟨k', e', q'⟩ := q5
      cases e'
      exact ite_ff ⟨H5, I5, q'⟩
    | true =>
      refine ite_tt (test_last (thn (hd.run pins s5 σ H5 _ I5 q5) fun w2 s6 ⟨y2, H6, I6, e6, q6⟩ => thn (h3 pins s6 σ H6 z' y2 w' w2 _ I6 e4 e6 q6) fun d2 s7 ⟨y3, H7, I7, e7, k3, f3, q7⟩ => ?_))
      subst f3
      cases e7
      exact wpAny_truthy_bool ⟨H7, I7, q7⟩
end
/-- two rows alike -/
def Alike (C : Addr) : Addr → Addr → Hp → Prop := fun a b H => ∃ n ms ss, RowAt C H a n ms ss ∧ RowAt C H b n ms ss
/-- what a row's .marks promises -/
def spGetM (C : Addr) : Sp := fun vs H Q _ => ∃ (a : Addr) (n : Int) (ms ss : List Int), vs = [.ref a] ∧ RowAt C H a n ms ss ∧ ∀ p H', Same H H' → H p = none → IL H' p ms → Q (.ref p) H'
/-- what isinstance asks of the class -/
structure Ci (K : PySem.W.Frag) (C : Addr) : Prop where
  ha : PySem.W.findIn K (.ref C) "__class__" = some (some (.builtin "object.__class__"))
  hn : PySem.W.specialIn K (.builtin "object.__class__") "__get__" = some (some (.builtin "getset_descriptor.__get__"))
  ht : PySem.W.takesIn K (.builtin "object.__class__") = some true
  hm : PySem.W.mroIn K C (.type "object") = some true
section
variable {P : Program} {w : World} {K : PySem.W.Frag} {mg : Str → Option Value} {base : Heap}
theorem scG : FnScope ["self"] ["self"] (defScope sGetM) := ⟨rfl, rfl, rfl, by decide +kernel, rfl, by decide +kernel, by decide +kernel⟩
theorem ok_getM {f C : Addr} {fd : FuncData} (F : Fun K "marks" "Row.marks" sGetM f fd) (T : Bl mg) (R : Cl K mg C) : FnOk P w K mg base CX0 1 f fd ["self"] (spGetM C) := by
  refine F.ok scG (fun vs H Q E h => ?_) (fun cdv A outer s H vs Q E hr h => ?_)
  · obtain ⟨a, n, ms, ss, rfl, _⟩ := h
    rfl
  · obtain ⟨a, n, ms, ss, rfl, ⟨dx, l1, l2, ho, h1, h2⟩, k⟩ := h
    refine ⟨_, pss_one (ps_ret (pe_callTy call_list_of (by rfl) T.list (by decide +kernel) (pa_cons (pe_fld (pv 0) rfl) pa_nil))), ?_⟩
    refine ⟨_, rfl, a, C, dx, _, _, rfl, ho, R.cl, R.nM, fl_M _ _ _, l1, _, rfl, .inl (SqL.of h1), fun p hp => ?_⟩
    exact k p _ (same_new (Same.refl H) hp) hp upd_same
theorem scE : FnScope ["self", "other"] ["self", "other"] (defScope sEq) := ⟨rfl, rfl, rfl, by decide +kernel, rfl, by decide +kernel, by decide +kernel⟩
theorem ok_eq {f C : Addr} {fd : FuncData} (F : Fun K "__eq__" "Row.__eq__" sEq f fd) (T : Bl mg) (R : Cl K mg C) (N : Ci K C) : FnOk P w K mg base CX0 1 f fd ["self", "other"] (spEq (Alike C)) := by
  refine F.ok scE (fun vs H Q E h => ?_) (fun cdv A outer s H vs Q E hr h => ?_)
  · obtain ⟨a, b, rfl, _⟩ := h
    rfl
  · obtain ⟨a, b, rfl, ⟨n, ms, ss, ⟨dx, l1, l2, ho, h1, h2⟩, ⟨dy, m1, m2, hp, g1, g2⟩⟩, k⟩ := h
    refine ⟨_, pss_cons (ps_if (pt_not (pt_val (pe_callB call_isi (by rfl) T.isi (by decide +kernel) (pa_cons (pv 1) (pa_cons (pe_glob (by rfl) R.mgR (v := V.ref C) rfl) pa_nil))))) (pss_one (ps_ret pe_bl)) pss_nil)
      (pss_cons (ps_if (pt_cmpR op_ne (pe_fld (pv 0) rfl) (pe_fld (pv 1) rfl) (nomark _)) (pss_one (ps_ret pe_bl)) pss_nil)
      (pss_one (ps_ret (pe_and (pe_cmpR (op_eqD hr.units) (pe_fld (pv 0) rfl) (pe_fld (pv 1) rfl) (nomark _)) (pe_one (pe_cmpR (op_eqD hr.units) (pe_fld (pv 0) rfl) (pe_fld (pv 1) rfl) (nomark _))))))), ?_⟩
    refine ⟨_, rfl, _, _, _, _, true, rfl, ClsV.own _, .base (.ins hp R.cl N.ha N.hn N.ht N.hm), R.kit, _, rfl, ?_⟩
    refine ifF rfl ?_
    refine ⟨_, rfl, a, C, dx, _, _, rfl, ho, R.cl, R.nL, fl_L _ _ _, _, rfl, b, C, dy, _, _, rfl, hp, R.cl, R.nL, fl_L _ _ _, rfl, _, rfl, ?_⟩
    refine ifF (by simp) ?_
    refine ⟨_, rfl, a, C, dx, _, _, rfl, ho, R.cl, R.nM, fl_M _ _ _, _, rfl, b, C, dy, _, _, rfl, hp, R.cl, R.nM, fl_M _ _ _, _, _, dp_il h1, dp_il g1, shape_il _, shape_il _, _, rfl, ?_⟩
    refine ifT (eqv_il ms) ?_
    refine ⟨_, rfl, a, C, dx, _, _, rfl, ho, R.cl, R.nS, fl_S _ _ _, _, rfl, b, C, dy, _, _, rfl, hp, R.cl, R.nS, fl_S _ _ _, _, _, dp_il h2, dp_il g2, shape_il _, shape_il _, ?_⟩
    have z := k H Ext.rfl'
    rw [← eqv_il ss] at z
    exact z
end
end Cw
namespace Cw
open PySem L2
theorem same_ins {H H1 H' : Hp} {x dx C : Addr} (s : Same H H1) (nx : H1 x = none) (nd : H1 dx = none) (k : ∀ c o, upd (upd H1 dx (.own x)) x (.ins C dx []) c = some o → c ≠ x → H' c = some o) : Same H H' := fun c o e => by
  have z := s _ _ e
  refine k c o ?_ (ne_of_none z nx)
  rw [upd_ne (ne_of_none z nx), upd_ne (ne_of_none z nd)]
  exact z
theorem ints_app {ns : List Int} {z : Int} : ns.map V.int ++ [V.int z] = (ns ++ [z]).map V.int := by rw [List.map_append]; rfl
abbrev sJar : Stmt := top 19
abbrev sDip : Stmt := top 20
abbrev sThree : Stmt := top 21
abbrev sSmall : Stmt := top 22
abbrev sGreat : Stmt := top 23
def But (H H' : Hp) (b : Addr) : Prop := ∀ a o, H a = some o → a ≠ b → H' a = some o
theorem But.refl (H : Hp) (b : Addr) : But H H b := fun _ _ e _ => e
theorem But.trans {H H1 H2 : Hp} {b : Addr} (x : But H H1 b) (y : But H1 H2 b) : But H H2 b := fun a o e n => y a o (x a o e n) n
theorem But.of {H H1 : Hp} {b : Addr} (x : Same H H1) : But H H1 b := fun a o e _ => x a o e
theorem But.upd {H H1 : Hp} {b : Addr} {o : HO} (x : But H H1 b) : But H (upd H1 b o) b := fun a u e n => by
  rw [upd_ne n]
  exact x a u e n
theorem But.put {H H1 : Hp} {b p : Addr} {o : HO} (x : But H H1 b) (h : H p = none) : But H (L2.upd H1 p o) b := fun a u e n => by
  rw [upd_ne (ne_of_none e h)]
  exact x a u e n
theorem But.new {H H1 : Hp} {b p : Addr} {o : HO} (x : But H H1 b) (h : H1 p = none) : But H (L2.upd H1 p o) b := fun a u e n => by
  rw [upd_ne (ne_of_none (x a u e n) h)]
  exact x a u e n
def CPowW (i j : Int) : Prop := 0 ≤ j ∧ ((Builtin.Int.intBits i : Nat) : Int) * j ≤ 2 ^ 27
theorem op_powW {X : Cx} : OpR X (binaryOp .Pow) (rI CPowW fun i j => .int (i ^ j.toNat)) := opI fun _ _ _ _ _ _ _ hc q => PyProof.Rows.pow_int hc.1 hc.2 q
theorem cube_ok {i : Int} (h0 : 0 ≤ i) (h1 : i < 2 ^ 250) : CPowW i 3 := by
  have z : Builtin.Int.intBits i ≤ 250 := PyProof.Rows.intBits_le (k := 250) (by
    have e : ((2 ^ 250 : Nat) : Int) = 2 ^ 250 := by norm_cast
    omega)
  refine ⟨by decide, ?_⟩
  have e : (2 : Int) ^ 27 = 134217728 := by decide
  omega
/-- the draws: what is left of the cell, the stirred number, the turns; k more draws are surely allowed -/
def JarAt (H : Hp) (a : Addr) (k : Nat) : Prop := ∃ r m n : Int, H a = some (.lst [.int r, .int m, .int n]) ∧ 0 ≤ m ∧ m < 2 ^ 200 ∧ 0 ≤ n ∧ n + k ≤ 1000
theorem JarAt.mono {H : Hp} {a : Addr} {k j : Nat} (h : JarAt H a k) (l : j ≤ k) : JarAt H a j := by
  obtain ⟨r, m, n, e, h0, h1, h2, h3⟩ := h
  exact ⟨r, m, n, e, h0, h1, h2, by omega⟩
theorem JarAt.same {H H' : Hp} {a : Addr} {k : Nat} (h : JarAt H a k) (s : Same H H') : JarAt H' a k := by
  obtain ⟨r, m, n, e, q⟩ := h
  exact ⟨r, m, n, s _ _ e, q⟩
theorem JarAt.put {H : Hp} {a p : Addr} {o : HO} {k : Nat} (h : JarAt H a k) (n : a ≠ p) : JarAt (upd H p o) a k := by
  obtain ⟨r, m, i, e, q⟩ := h
  exact ⟨r, m, i, by rw [upd_ne n]; exact e, q⟩
theorem JarAt.ne {H : Hp} {a p : Addr} {k : Nat} (h : JarAt H a k) (n : H p = none) : a ≠ p := by
  obtain ⟨r, m, i, e, q⟩ := h
  exact ne_of_none e n
theorem JarAt.no {H : Hp} {a p : Addr} {o : HO} {k : Nat} (h : JarAt H a k) (e : H p = some o) (z : ∀ r m n : Int, o ≠ .lst [.int r, .int m, .int n]) : p ≠ a := fun x => by
  obtain ⟨r, m, i, f, q⟩ := h
  rw [x, f] at e
  exact z r m i (Option.some.inj e).symm
theorem pos47 : (0 : Int) < 10 ^ Int.toNat 47 + 91 := by decide +kernel
theorem pos46 : (0 : Int) < 10 ^ Int.toNat 46 + 79 := by decide +kernel
def spDip : Sp := fun vs H Q _ => ∃ (a : Addr) (k : Nat) (w : Int), vs = [.ref a, .int w] ∧ JarAt H a (k + 1) ∧ 0 < w ∧ w < 2 ^ 120 ∧ ∀ (v : Int) (H' : Hp), 0 ≤ v → v < w → JarAt H' a k → But H H' a → Q (.int v) H'
/-- the script's jar -/
def spJar (K : PySem.W.Frag) : Sp := fun vs H Q _ => ∃ (a : Addr) (ns : List Int) (i : Nat), vs = [.ref a, .int i] ∧ SqL K H a (ns.map V.int) ∧ i ≤ ns.length ∧ ns.length ≤ 63 ∧ ∀ p H', Same H H' → H p = none → JarAt H' p 1000 → Q (.ref p) H'
section
variable {P : Program} {w : World} {K : PySem.W.Frag} {mg : Str → Option Value} {base : Heap}
theorem scD : FnScope ["jar", "many", "digit", "mixed"] ["jar", "many"] (defScope sDip) := ⟨rfl, rfl, rfl, by decide +kernel, rfl, by decide +kernel, by decide +kernel⟩
theorem ok_dip {f : Addr} {fd : FuncData} (F : Fun K "_law_dip" "_law_dip" sDip f fd) (T : Bl mg) : FnOk P w K mg base CX0 1 f fd ["jar", "many"] spDip := by
  refine F.ok scD (fun vs H Q E h => ?_) (fun cdv A outer s H vs Q E hr h => ?_)
  · obtain ⟨a, k, w, rfl, _⟩ := h
    rfl
  · obtain ⟨a, k, w, rfl, ⟨r, m, n, hj, m0, m1, n0, n1⟩, w0, w1, q⟩ := h
    have wn : w.natAbs < 2 ^ 120 := by
      have e : ((2 ^ 120 : Nat) : Int) = 2 ^ 120 := by norm_cast
      omega
    have dv : ∀ i, CDivW i w := fun i => wide_div w0 wn (by decide) (by decide)
    refine ⟨_, pss_cons (ps_if (pt_cmpR op_gt (pe_ix ix_list (pv 0) pe_int (fun _ _ => rfl)) pe_int (nomark _))
        (pss_cons (ps_set (i := 2) scD.nd rfl (Or.inl rfl) (pe_op op_mod (pe_callTy call_int1 (by rfl) T.int (by decide +kernel) (pa_cons (pe_ix ix_list (pv 0) pe_int (fun _ _ => rfl)) pa_nil)) (pv 1)))
        (pss_cons (ps_asg (pe_op op_fdivW (pe_ix ix_list (pv 0) pe_int (fun _ _ => rfl)) (pv 1)) (pg_sub (pv 0) pe_int L2.set_list))
        (pss_one (ps_ret (pv 2))))) pss_nil)
      (pss_cons (ps_asg (pe_op op_add (pe_ix ix_list (pv 0) pe_int (fun _ _ => rfl)) pe_int) (pg_sub (pv 0) pe_int L2.set_list))
      (pss_cons (ps_set (i := 3) scD.nd rfl (Or.inl rfl) (pe_op op_mod (pe_callTy call_int1 (by rfl) T.int (by decide +kernel) (pa_cons (pe_op op_powW (pe_op op_add (pe_ix ix_list (pv 0) pe_int (fun _ _ => rfl)) (pe_op op_mul pe_int (pe_ix ix_list (pv 0) pe_int (fun _ _ => rfl)))) pe_int) pa_nil)) (pe_op op_add (pe_op op_pow pe_int pe_int) pe_int)))
      (pss_cons (ps_set (i := 3) scD.nd rfl (Or.inl rfl) (pe_op op_mod (pe_callTy call_int1 (by rfl) T.int (by decide +kernel) (pa_cons (pe_op op_powW (pe_op op_add (pv 3) (pe_op op_mul pe_int (pe_ix ix_list (pv 0) pe_int (fun _ _ => rfl)))) pe_int) pa_nil)) (pe_op op_add (pe_op op_pow pe_int pe_int) pe_int)))
      (pss_one (ps_ret (pe_op op_mod (pe_callTy call_int1 (by rfl) T.int (by decide +kernel) (pa_cons (pe_op op_fdivW (pv 3) pe_int) pa_nil)) (pv 1))))))), ?_⟩
    refine ⟨_, rfl, a, _, 0, _, rfl, rfl, SqL.of hj, rfl, _, _, rfl, rfl, _, rfl, ?_⟩
    by_cases hr0 : r > 0
    · refine ifT (decide_eq_true hr0) ?_
      refine ⟨_, rfl, a, _, 0, _, rfl, rfl, SqL.of hj, rfl, .inl ⟨_, rfl, _, rfl, _, _, rfl, rfl, w0, ?_⟩⟩
      refine ⟨_, rfl, a, _, 0, _, rfl, rfl, SqL.of hj, rfl, _, rfl, _, _, rfl, rfl, dv _, _, rfl, a, _, 0, 0, rfl, rfl, hj, rfl, ?_⟩
      refine ⟨_, rfl, ?_⟩
      exact q _ _ (Int.emod_nonneg _ (by omega)) (Int.emod_lt_of_pos _ w0) ⟨_, m, n, upd_same, m0, m1, n0, by omega⟩ (But.refl H a).upd
    · refine ifF (decide_eq_false hr0) ?_
      refine ⟨_, rfl, a, _, 2, _, rfl, rfl, SqL.of hj, rfl, _, _, rfl, rfl, _, rfl, a, _, 2, 2, rfl, rfl, hj, rfl, ?_⟩
      have hj2 : upd H a (.lst [.int r, .int m, .int (n + 1)]) a = some (.lst [.int r, .int m, .int (n + 1)]) := upd_same
      refine ⟨_, rfl, a, _, 1, _, rfl, rfl, SqL.of hj2, rfl, _, rfl, a, _, 2, _, rfl, rfl, SqL.of hj2, rfl, _, _, rfl, rfl, .inl ⟨by decide, by decide⟩, _, _, rfl, rfl, ?_⟩
      have e200 : (2 : Int) ^ 200 + 60000049 * 1001 < 2 ^ 250 := by decide +kernel
      refine ⟨_, _, rfl, rfl, cube_ok (by omega) (by omega), .inl ⟨_, rfl, _, _, rfl, rfl, ⟨by decide, by decide, by decide⟩, _, _, rfl, rfl, _, _, rfl, rfl, pos47, ?_⟩⟩
      generalize hx : ((m + 60000049 * (n + 1)) ^ Int.toNat 3) % (10 ^ Int.toNat 47 + 91) = x
      have x0 : 0 ≤ x := by
        rw [← hx]
        exact Int.emod_nonneg _ (by decide +kernel)
      have x1 : x < 10 ^ Int.toNat 47 + 91 := by
        rw [← hx]
        exact Int.emod_lt_of_pos _ (by decide +kernel)
      have e47 : (10 : Int) ^ Int.toNat 47 + 91 + 35000021 * 1001 < 2 ^ 250 := by decide +kernel
      refine ⟨_, rfl, _, rfl, a, _, 2, _, rfl, rfl, SqL.of hj2, rfl, _, _, rfl, rfl, .inl ⟨by decide, by decide⟩, _, _, rfl, rfl, _, _, rfl, rfl, cube_ok (by omega) (by omega), .inl ⟨_, rfl, _, _, rfl, rfl, ⟨by decide, by decide, by decide⟩, _, _, rfl, rfl, _, _, rfl, rfl, pos46, ?_⟩⟩
      refine ⟨_, rfl, _, _, rfl, rfl, wide_div (b := 31) (by decide) (by decide) (by decide) (by decide), .inl ⟨_, rfl, _, rfl, _, _, rfl, rfl, w0, ?_⟩⟩
      exact q _ _ (Int.emod_nonneg _ (by omega)) (Int.emod_lt_of_pos _ w0) ⟨r, m, n + 1, upd_same, m0, m1, by omega, by omega⟩ (But.refl H a).upd
end
end Cw
namespace Cw
open PySem L2
theorem at_of2 {α : Type} {xs : List α} {z : Int} {j : Nat} {v : α} (e : z = (j : Int)) (h : xs[j]? = some v) : atI xs z = some v := by
  rw [e]
  exact atI_nat h
theorem at_lt {α : Type} {xs : List α} {z : Int} (h0 : 0 ≤ z) (h1 : z < xs.length) : ∃ v, atI xs z = some v ∧ v ∈ xs := by
  have hz : z.toNat < xs.length := by omega
  have hj : z = ((z.toNat : Nat) : Int) := by omega
  exact ⟨xs[z.toNat], at_of2 hj (List.getElem?_eq_getElem hz), List.getElem_mem hz⟩
/-- one of three ints -/
theorem at3 {z x y u : Int} (h0 : 0 ≤ z) (h1 : z < 3) : ∃ v, atI [V.int x, V.int y, V.int u] z = some (V.int v) ∧ (v = x ∨ v = y ∨ v = u) := by
  obtain ⟨v, e, m⟩ := at_lt (xs := [V.int x, V.int y, V.int u]) h0 (by simpa using h1)
  simp only [List.mem_cons, List.not_mem_nil, or_false] at m
  rcases m with rfl | rfl | rfl
  · exact ⟨x, e, .inl rfl⟩
  · exact ⟨y, e, .inr (.inl rfl)⟩
  · exact ⟨u, e, .inr (.inr rfl)⟩
def spThree : Sp := fun vs H Q _ => ∃ (a : Addr) (k : Nat) (w : Int), vs = [.ref a, .int w] ∧ JarAt H a (k + 7) ∧ 0 < w ∧ w < 2 ^ 120 ∧
  ∀ (p : Addr) (H' : Hp) (l n g : Int), 1 ≤ l → l ≤ w → l ≤ n → n ≤ 2 * w + 3 → n ≤ g → g ≤ 3 * w + 6 → JarAt H' a k → But H H' a → H' p = some (.tup [.int l, .int n, .int g]) → H p = none → Q (.ref p) H'
theorem pos43 : (0 : Int) < 10 ^ Int.toNat 43 + 57 := by decide +kernel
section
variable {P : Program} {w : World} {K : PySem.W.Frag} {mg : Str → Option Value} {base : Heap}
theorem scJ : FnScope ["script", "k", "cell_here"] ["script", "k"] (defScope sJar) := ⟨rfl, rfl, rfl, by decide +kernel, rfl, by decide +kernel, by decide +kernel⟩
theorem ok_jar {f : Addr} {fd : FuncData} (F : Fun K "_law_jar" "_law_jar" sJar f fd) (T : Bl mg) : FnOk P w K mg base CX0 1 f fd ["script", "k"] (spJar K) := by
  refine F.ok scJ (fun vs H Q E h => ?_) (fun cdv A outer s H vs Q E hr h => ?_)
  · obtain ⟨a, ns, i, rfl, _⟩ := h
    rfl
  · obtain ⟨a, ns, i, rfl, hS, hi, hl, q⟩ := h
    refine ⟨_, pss_cons (ps_set (i := 2) scJ.nd rfl (Or.inl rfl) (pe_ifExp (pt_cmpR op_lt (pv 1) (pe_callB call_len_seq (by rfl) T.len PySem.boot_len (pa_cons (pv 0) pa_nil)) (nomark _))
        (pe_callB call_abs (by rfl) T.abs (by decide +kernel) (pa_cons (pe_ix ix_list (pv 0) (pv 1) (fun _ _ => rfl)) pa_nil)) pe_int))
      (pss_one (ps_ret (pe_lst (pa_cons (pe_callB (call_max2 rfl) (by rfl) T.max (by decide +kernel) (pa_cons pe_int (pa_cons (pe_op op_sub (pv 2) (pe_op op_pow pe_int pe_int)) pa_nil)))
        (pa_cons (pe_op op_add (pe_op op_mul (pe_op op_mod (pe_callTy call_int1 (by rfl) T.int (by decide +kernel) (pa_cons (pv 2) pa_nil)) (pe_op op_add (pe_op op_pow pe_int pe_int) pe_int)) pe_int) (pe_op op_mul pe_int (pv 1)))
        (pa_cons pe_int pa_nil)))))), ?_⟩
    have main : ∀ c : Int, 0 ≤ (c % (10 ^ Int.toNat 43 + 57)) * 101 + 70001 * (i : Int) ∧ (c % (10 ^ Int.toNat 43 + 57)) * 101 + 70001 * (i : Int) < 2 ^ 200 := fun c => by
      have x0 := Int.emod_nonneg c (b := 10 ^ Int.toNat 43 + 57) (by decide +kernel)
      have x1 := Int.emod_lt_of_pos c pos43
      have e : ((10 : Int) ^ Int.toNat 43 + 57) * 101 + 70001 * 64 < 2 ^ 200 := by decide +kernel
      omega
    refine ⟨_, rfl, _, rfl, a, _, rfl, .inl hS, _, _, rfl, rfl, _, rfl, ?_⟩
    by_cases hi2 : i < ns.length
    · refine ifT (decide_eq_true (by rw [List.length_map]; omega)) ?_
      have e1 : (ns.map V.int)[i]? = some (V.int ns[i]) := by
        rw [List.getElem?_map, List.getElem?_eq_getElem hi2]
        rfl
      refine ⟨_, rfl, _, rfl, a, _, _, _, rfl, rfl, hS, at_of2 (j := i) rfl e1, _, rfl, ?_⟩
      generalize (if ns[i] < 0 then -ns[i] else ns[i]) = c
      refine ⟨_, rfl, _, _, rfl, rfl, ⟨by decide, by decide, by decide⟩, _, _, rfl, rfl, _, _, rfl, ?_⟩
      refine ⟨_, rfl, .inl ⟨_, rfl, _, _, rfl, rfl, ⟨by decide, by decide, by decide⟩, _, _, rfl, rfl, _, _, rfl, rfl, pos43, _, _, rfl, rfl, .inr ⟨by decide, by decide⟩, _, rfl, _, _, rfl, rfl, .inl ⟨by decide, by decide⟩, _, _, rfl, rfl, ?_⟩⟩
      refine ⟨(by show 3 ≤ sizeLine; decide), fun p hp => ?_⟩
      exact q p _ (same_new (Same.refl H) hp) hp ⟨_, _, 0, upd_same, (main c).1, (main c).2, by decide, by decide⟩
    · refine ifF (decide_eq_false (by rw [List.length_map]; omega)) ?_
      refine ⟨_, rfl, _, _, rfl, rfl, ⟨by decide, by decide, by decide⟩, _, _, rfl, rfl, _, _, rfl, ?_⟩
      refine ⟨_, rfl, .inl ⟨_, rfl, _, _, rfl, rfl, ⟨by decide, by decide, by decide⟩, _, _, rfl, rfl, _, _, rfl, rfl, pos43, _, _, rfl, rfl, .inr ⟨by decide, by decide⟩, _, rfl, _, _, rfl, rfl, .inl ⟨by decide, by decide⟩, _, _, rfl, rfl, ?_⟩⟩
      refine ⟨(by show 3 ≤ sizeLine; decide), fun p hp => ?_⟩
      exact q p _ (same_new (Same.refl H) hp) hp ⟨_, _, 0, upd_same, (main 0).1, (main 0).2, by decide, by decide⟩
theorem scT : FnScope ["jar", "wide", "least", "normal"] ["jar", "wide"] (defScope sThree) := ⟨rfl, rfl, rfl, by decide +kernel, rfl, by decide +kernel, by decide +kernel⟩
theorem ok_three {f fD : Addr} {fd fdD : FuncData} (F : Fun K "_law_three" "_law_three" sThree f fd) (gD : mg "_law_dip" = some (.ref fD)) (kD : PySem.W.keepIn K (.ref fD) = true) (bD : Binds K fdD ["jar", "many"] []) (GD : FnOk P w K mg base CX0 1 fD fdD ["jar", "many"] spDip) :
    FnOk P w K mg base CX0 2 f fd ["jar", "wide"] spThree := by
  refine F.ok scT (fun vs H Q E h => ?_) (fun cdv A outer s H vs Q E hr h => ?_)
  · obtain ⟨a, k, w, rfl, _⟩ := h
    rfl
  · obtain ⟨a, k, w, rfl, J, w0, w1, q⟩ := h
    refine ⟨_, pss_cons (ps_set (i := 2) scT.nd rfl (Or.inl rfl) (pe_op op_add pe_int (pe_call GD hr rfl gD kD bD .nil pass0 (pa_cons (pv 0) (pa_cons (pv 1) pa_nil)))))
      (pss_cons (ps_set (i := 3) scT.nd rfl (Or.inl rfl) (pe_op op_add (pv 2) (pe_ix ix_list (pe_lst (pa_cons pe_int (pa_cons (pe_call GD hr rfl gD kD bD .nil pass0 (pa_cons (pv 0) (pa_cons (pv 1) pa_nil))) (pa_cons (pe_call GD hr rfl gD kD bD .nil pass0 (pa_cons (pv 0) (pa_cons pe_int pa_nil))) pa_nil))))
        (pe_call GD hr rfl gD kD bD .nil pass0 (pa_cons (pv 0) (pa_cons pe_int pa_nil))) (fun _ _ => rfl))))
      (pss_one (ps_ret (pe_tup (pa_cons (pv 2) (pa_cons (pv 3) (pa_cons (pe_op op_add (pv 3) (pe_ix ix_list (pe_lst (pa_cons pe_int (pa_cons (pe_call GD hr rfl gD kD bD .nil pass0 (pa_cons (pv 0) (pa_cons (pv 1) pa_nil))) (pa_cons (pe_op op_add pe_int (pe_call GD hr rfl gD kD bD .nil pass0 (pa_cons (pv 0) (pa_cons pe_int pa_nil)))) pa_nil))))
        (pe_call GD hr rfl gD kD bD .nil pass0 (pa_cons (pv 0) (pa_cons pe_int pa_nil))) (fun _ _ => rfl))) pa_nil))))))), ?_⟩
    have t3 : (0 : Int) < 3 ∧ (3 : Int) < 2 ^ 120 := ⟨by decide, by decide⟩
    refine ⟨_, rfl, _, rfl, a, k + 6, w, rfl, J, w0, w1, fun v1 H1 a1 b1 J1 B1 => ⟨_, _, rfl, rfl, ?_⟩⟩
    refine ⟨_, rfl, _, rfl, _, rfl, a, k + 5, w, rfl, J1, w0, w1, fun v2 H2 a2 b2 J2 B2 => ?_⟩
    refine ⟨_, rfl, a, k + 4, 3, rfl, J2, t3.1, t3.2, fun v3 H3 a3 b3 J3 B3 => ⟨(by show 3 ≤ sizeLine; decide), fun p hp => ?_⟩⟩
    have np : a ≠ p := J3.ne hp
    have Bp := ((B1.trans B2).trans B3).new (o := .lst [.int 0, .int v2, .int v3]) hp
    refine ⟨_, rfl, a, k + 3, 3, rfl, J3.put np, t3.1, t3.2, fun v4 H4 a4 b4 J4 B4 => ?_⟩
    obtain ⟨i1, e1, c1⟩ := at3 (x := 0) (y := v2) (u := v3) a4 b4
    refine ⟨p, _, _, _, rfl, rfl, SqL.of (B4 _ _ upd_same np.symm), e1, _, _, rfl, rfl, ?_⟩
    refine ⟨_, rfl, _, rfl, _, rfl, _, rfl, _, rfl, a, k + 2, w, rfl, J4, w0, w1, fun v5 H5 a5 b5 J5 B5 => ?_⟩
    refine ⟨_, rfl, a, k + 1, 3, rfl, J5, t3.1, t3.2, fun v6 H6 a6 b6 J6 B6 => ⟨_, _, rfl, rfl, (by show 3 ≤ sizeLine; decide), fun p2 hp2 => ?_⟩⟩
    have np2 : a ≠ p2 := J6.ne hp2
    have Bq := (((Bp.trans B4).trans B5).trans B6).new (o := .lst [.int 0, .int v5, .int (1 + v6)]) hp2
    refine ⟨_, rfl, a, k, 3, rfl, J6.put np2, t3.1, t3.2, fun v7 H7 a7 b7 J7 B7 => ?_⟩
    obtain ⟨i2, e2, c2⟩ := at3 (x := 0) (y := v5) (u := 1 + v6) a7 b7
    refine ⟨p2, _, _, _, rfl, rfl, SqL.of (B7 _ _ upd_same np2.symm), e2, _, _, rfl, rfl, (by show 3 ≤ sizeLine; decide), fun p3 hp3 => ?_⟩
    have Bz := (Bq.trans B7).new (o := .tup [.int (1 + v1), .int (1 + v1 + i1), .int (1 + v1 + i1 + i2)]) hp3
    have hH : H p3 = none := by
      cases e : H p3 with
      | none => rfl
      | some o =>
        have n : p3 ≠ a := fun x => by
          have z := J7.ne hp3
          exact z x.symm
        have z := (Bq.trans B7) _ _ e n
        rw [hp3] at z
        cases z
    refine q p3 _ (1 + v1) (1 + v1 + i1) (1 + v1 + i1 + i2) (by omega) (by omega) (by omega) (by omega) (by omega) (by omega) (J7.put (J7.ne hp3)) Bz upd_same hH
end
end Cw
namespace Cw
open PySem L2
abbrev sHeap : Stmt := top 24
/-! ## raw rows: a length, pairs of a place and a kind, three numbers -/
abbrev PrAt (H : Hp) : List Addr → List (Int × Int) → Prop := Paired (fun t (p : Int × Int) => H t = some (.tup [.int p.1, .int p.2]))
theorem PrAt.imp {H H' : Hp} : ∀ {ts : List Addr} {ps : List (Int × Int)}, PrAt H ts ps → (∀ t (p : Int × Int), H t = some (.tup [.int p.1, .int p.2]) → H' t = some (.tup [.int p.1, .int p.2])) → PrAt H' ts ps
  | _, _, .nil, _ => .nil
  | _, _, .cons h r, k => .cons (k _ _ h) (PrAt.imp r k)
theorem PrAt.app {H : Hp} : ∀ {ts us : List Addr} {ps qs : List (Int × Int)}, PrAt H ts ps → PrAt H us qs → PrAt H (ts ++ us) (ps ++ qs)
  | _, _, _, _, .nil, h => h
  | _, _, _, _, .cons a r, h => .cons a (PrAt.app r h)
theorem PrAt.len {H : Hp} : ∀ {ts : List Addr} {ps : List (Int × Int)}, PrAt H ts ps → ts.length = ps.length
  | _, _, .nil => rfl
  | _, _, .cons _ r => by rw [List.length_cons, List.length_cons, PrAt.len r]
theorem PrAt.get {H : Hp} : ∀ {ts : List Addr} {ps : List (Int × Int)} {i : Nat} {v : V}, PrAt H ts ps → (ts.map V.ref)[i]? = some v → ∃ t p, v = .ref t ∧ ps[i]? = some p ∧ H t = some (.tup [.int p.1, .int p.2])
  | _, _, 0, v, .cons (a := t) (b := p) a _, e => ⟨t, p, (Option.some.inj e).symm, rfl, a⟩
  | _, _, i + 1, v, .cons _ r, e => by
    obtain ⟨t, p, h1, h2, h3⟩ := PrAt.get (i := i) r e
    exact ⟨t, p, h1, h2, h3⟩
  | _, _, _, _, .nil, e => by simp at e
def RawAt (H : Hp) (p : Addr) (n : Int) (prs : List (Int × Int)) : Prop := ∃ l t ts, H p = some (.tup [.int n, .ref l, .ref t]) ∧ H l = some (.lst (ts.map V.ref)) ∧ PrAt H ts prs
theorem RawAt.imp {H H' : Hp} {p : Addr} {n : Int} {prs : List (Int × Int)} (r : RawAt H p n prs) (k : ∀ c o, H c = some o → (∀ r m n : Int, o ≠ .lst [.int r, .int m, .int n]) → H' c = some o) : RawAt H' p n prs := by
  obtain ⟨l, t, ts, h1, h2, h3⟩ := r
  refine ⟨l, t, ts, k _ _ h1 (fun _ _ _ z => nomatch z), k _ _ h2 (fun r m n z => ?_), h3.imp fun t p h => k _ _ h (fun _ _ _ z => nomatch z)⟩
  injection z with z
  cases ts with
  | nil => cases z
  | cons t ts => cases z
theorem RawAt.same {H H' : Hp} {p : Addr} {n : Int} {prs : List (Int × Int)} (r : RawAt H p n prs) (s : Same H H') : RawAt H' p n prs := r.imp fun c o e _ => s c o e
theorem RawAt.but {H H' : Hp} {p a : Addr} {k : Nat} {n : Int} {prs : List (Int × Int)} (r : RawAt H p n prs) (J : JarAt H a k) (s : But H H' a) : RawAt H' p n prs := r.imp fun c o e z => s c o e (J.no e z)
structure GoodP (n : Int) (prs : List (Int × Int)) : Prop where
  pos : 1 ≤ n
  len : prs.length ≤ 100
  rng : ∀ q ∈ prs, 1 ≤ q.1 ∧ q.1 ≤ n - 1 ∧ (q.2 = 1 ∨ q.2 = 2)
  asc : Asc (prs.map (·.1))
abbrev marksOf (prs : List (Int × Int)) : List Int := prs.map (·.1)
abbrev strictOf (prs : List (Int × Int)) : List Int := (prs.filter fun q => decide (q.2 = 2)).map (·.1)
theorem GoodP.good {n : Int} {prs : List (Int × Int)} (g : GoodP n prs) : Good n (marksOf prs) (strictOf prs) := by
  refine ⟨g.pos, by rw [List.length_map]; have := g.len; omega, fun x hx => ?_, g.asc, ?_, fun x hx => ?_⟩
  · obtain ⟨q, hq, rfl⟩ := List.mem_map.mp hx
    have := g.rng q hq
    exact ⟨this.1, this.2.1⟩
  · have z : List.Sublist (strictOf prs) (marksOf prs) := (List.filter_sublist).map _
    exact g.asc.sublist z
  · obtain ⟨q, hq, rfl⟩ := List.mem_map.mp hx
    exact List.mem_map.mpr ⟨q, (List.mem_filter.mp hq).1, rfl⟩
def spHeap (C : Addr) : Sp := fun vs H Q _ => ∃ (p : Addr) (n : Int) (prs : List (Int × Int)), vs = [.ref p] ∧ RawAt H p n prs ∧ GoodP n prs ∧ ∀ q H', Same H H' → RowNew C H H' q n (marksOf prs) (strictOf prs) → Q (.ref q) H'
theorem ref_at {ts : List Addr} {i : Nat} {x : V} (h : (ts.map V.ref)[i]? = some x) : i < ts.length := by
  have := (List.getElem?_eq_some_iff.mp h).1
  rwa [List.length_map] at this
theorem take_map2 {ps : List (Int × Int)} {i : Nat} {z : Int × Int} (h : ps[i]? = some z) : marksOf (ps.take (i + 1)) = marksOf (ps.take i) ++ [z.1] := by
  rw [List.take_add_one, h, marksOf, List.map_append]
  rfl
theorem take_fil2 {ps : List (Int × Int)} {i : Nat} {z : Int × Int} (h : ps[i]? = some z) : strictOf (ps.take (i + 1)) = strictOf (ps.take i) ++ (if z.2 = 2 then [z.1] else []) := by
  rw [List.take_add_one, h, strictOf, List.filter_append, List.map_append]
  congr 1
  show List.map _ (List.filter _ [z]) = _
  rw [List.filter_cons]
  by_cases c : z.2 = 2 <;> simp [c]
section
variable {P : Program} {w : World} {K : PySem.W.Frag} {mg : Str → Option Value} {base : Heap}
abbrev NH : List Str := ["raw", "spot", "sort"]
theorem scH : FnScope NH ["raw"] (defScope sHeap) := ⟨rfl, rfl, rfl, by decide +kernel, rfl, by decide +kernel, by decide +kernel⟩
theorem ok_heap {f C fI : Addr} {fd fdI : FuncData} (F : Fun K "_law_heap" "_law_heap" sHeap f fd) (R : Cl K mg C) (M : Mk K C fI) (bI : Binds K fdI NI []) (GI : FnOk P w K mg base CX0 5 fI fdI NI (spInit C)) :
    FnOk P w K mg base CX0 7 f fd ["raw"] (spHeap C) := by
  refine F.ok scH (fun vs H Q E h => ?_) (fun cdv A outer s H vs Q E hr h => ?_)
  · obtain ⟨p, n, prs, rfl, _⟩ := h
    rfl
  · obtain ⟨p, n, prs, rfl, ⟨l, t, ts, h1, h2, h3⟩, G, q⟩ := h
    refine ⟨_, pss_one (ps_ret (pe_make M GI hr rfl R.mgR bI .nil pass0 (pa_cons (pe_ix ix_tup (pv 0) pe_int (fun _ _ => rfl))
      (pa_cons (pe_lc (own := [("spot", 1), ("sort", 2)]) (g := gTup K 2 (gCons (gName 1) (gCons (gName 2) gNil))) (tt := tYes) rfl scH.nd (pi_list (pe_ix ix_tup (pv 0) pe_int (fun _ _ => rfl))) (blkOk_by (own := [("spot", 1), ("sort", 2)]) (N := NH) (sc := defScope sHeap) (by decide +kernel))
          (fun _ _ _ _ _ => pg_tup rfl (pgs_cons (pg_name (i := 1) scH.nd rfl (Or.inl rfl)) (pgs_cons (pg_name (i := 2) scH.nd rfl (Or.inl rfl)) pgs_nil))) (fun _ _ _ _ _ => pts_nil) (fun _ _ _ _ _ => pv 1))
      (pa_cons (pe_lc (own := [("spot", 1), ("sort", 2)]) (g := gTup K 2 (gCons (gName 1) (gCons (gName 2) gNil))) rfl scH.nd (pi_list (pe_ix ix_tup (pv 0) pe_int (fun _ _ => rfl))) (blkOk_by (own := [("spot", 1), ("sort", 2)]) (N := NH) (sc := defScope sHeap) (by decide +kernel))
          (fun _ _ _ _ _ => pg_tup rfl (pgs_cons (pg_name (i := 1) scH.nd rfl (Or.inl rfl)) (pgs_cons (pg_name (i := 2) scH.nd rfl (Or.inl rfl)) pgs_nil))) (fun _ _ _ _ _ => pts_one (pt_cmpR op_eq (pv 2) pe_int (nomark _))) (fun _ _ _ _ _ => pv 1)) pa_nil))))), ?_⟩
    have hl := G.len
    have lt := h3.len
    refine ⟨_, rfl, p, _, _, _, rfl, rfl, SqT.of h1, at_of2 (j := 0) rfl rfl, ?_⟩
    refine ⟨_, rfl, p, _, _, _, rfl, rfl, SqT.of h1, at_of2 (j := 1) rfl rfl, l, rfl, ⟨_, SqL.of h2⟩, fun D hD => ?_⟩
    refine lc_list (K := K) (a := l) (xs := ts.map V.ref) (fun i H' => Same H H' ∧ IL H' D (marksOf (prs.take i))) ⟨same_new (Same.refl H) hD, upd_same⟩ (fun i H' _ z => SqL.of (z.1 _ _ h2)) ?_ ?_
    · rintro i x H' hx ⟨s1, hD'⟩
      obtain ⟨u, z, rfl, hz, hu⟩ := h3.get hx
      have hil := ref_at hx
      refine ⟨u, _, rfl, SqT.of (s1 _ _ hu), rfl, _, _, rfl, _, _, rfl, rfl, rfl, ?_⟩
      unfold tYes
      refine iteT ?_
      refine ⟨_, rfl, _, hD', by rw [List.length_map, List.length_map, List.length_take]; exact small1000 (by omega), same_put s1 hD, ?_⟩
      show upd _ _ _ D = _
      rw [upd_same, ints_app, take_map2 hz]
    · rintro H1 ⟨s1, hD'⟩
      rw [List.length_map, lt, List.take_length] at hD'
      refine ⟨_, rfl, p, _, _, _, rfl, rfl, SqT.of (s1 _ _ h1), at_of2 (j := 1) rfl rfl, l, rfl, ⟨_, SqL.of (s1 _ _ h2)⟩, fun D2 hD2 => ?_⟩
      have nDD : D ≠ D2 := ne_of_none hD' hD2
      refine lc_list (K := K) (a := l) (xs := ts.map V.ref) (fun i H' => Same H1 H' ∧ IL H' D2 (strictOf (prs.take i))) ⟨same_new (Same.refl H1) hD2, upd_same⟩ (fun i H' _ z => SqL.of (z.1 _ _ (s1 _ _ h2))) ?_ ?_
      · rintro i x H' hx ⟨s2, hE⟩
        obtain ⟨u, z, rfl, hz, hu⟩ := h3.get hx
        have hil := ref_at hx
        have tf := take_fil2 hz
        refine ⟨u, _, rfl, SqT.of (s2 _ _ (s1 _ _ hu)), rfl, _, _, rfl, _, _, rfl, rfl, rfl, ?_⟩
        refine ⟨_, rfl, rfl, _, rfl, ?_⟩
        by_cases c : z.2 = 2
        · refine ifT (by simp [c]) ?_
          refine ⟨_, rfl, _, hE, ?_, same_put s2 hD2, ?_⟩
          · have z1 := List.length_filter_le (fun q : Int × Int => decide (q.2 = 2)) (prs.take i)
            rw [List.length_take] at z1
            rw [List.length_map, List.length_map]
            exact small1000 (by omega)
          · show upd _ _ _ D2 = _
            rw [upd_same, ints_app, tf, if_pos c]
        · refine ifF (by simp [c]) ?_
          refine ⟨s2, ?_⟩
          show H' D2 = _
          rw [hE, tf, if_neg c, List.append_nil]
      · rintro H2 ⟨s2, hE⟩
        rw [List.length_map, lt, List.take_length] at hE
        refine fun x dx nx nd ne => ?_
        have s3 : Same H2 (upd (upd H2 dx (.own x)) x (.ins C dx [])) := same_new (same_new (Same.refl H2) nd) (by rw [upd_ne (Ne.symm ne)]; exact nx)
        refine ⟨x, dx, D, D2, n, _, _, rfl, upd_same, s3 _ _ (s2 _ _ hD'), s3 _ _ hE, G.good, fun H5 row kp => ⟨rfl, ?_⟩⟩
        exact q x H5 (same_ins (s1.trans s2) nx nd kp) (row.mono fun c o e => ⟨o, s3 _ _ (s2 _ _ (s1 _ _ e))⟩)
end
end Cw
namespace Cw
open PySem L2
abbrev sGetL : Stmt := inClass sRow 1
abbrev sGetS : Stmt := inClass sRow 3
def spGetL (C : Addr) : Sp := fun vs H Q _ => ∃ (a : Addr) (n : Int) (ms ss : List Int), vs = [.ref a] ∧ RowAt C H a n ms ss ∧ Q (.int n) H
def spGetS (C : Addr) : Sp := fun vs H Q _ => ∃ (a : Addr) (n : Int) (ms ss : List Int), vs = [.ref a] ∧ RowAt C H a n ms ss ∧ ∀ p H', Same H H' → H p = none → IL H' p ss → Q (.ref p) H'
structure SetOk (l m g : Int) : Prop where
  l1 : 1 ≤ l
  lm : l ≤ m
  mg : m ≤ g
abbrev sCPl : Stmt := top 13
def spPl : Sp := fun vs H Q _ => ∃ p lo hi : Int, vs = [.int p, .int lo, .int hi] ∧ lo ≤ p ∧ p ≤ hi ∧ Q .non H
/-- the getters -/
structure Gets (P : Program) (w : World) (K : PySem.W.Frag) (mg : Str → Option Value) (base : Heap) (C pL fL pM fM pS fS : Addr) (dL dM dS : FuncData) : Prop where
  hL : PropOf K C "length" pL fL
  bL : Binds K dL ["self"] []
  GL : FnOk P w K mg base CX0 1 fL dL ["self"] (spGetL C)
  hM : PropOf K C "marks" pM fM
  bM : Binds K dM ["self"] []
  GM : FnOk P w K mg base CX0 1 fM dM ["self"] (spGetM C)
  hS : PropOf K C "strict" pS fS
  bS : Binds K dS ["self"] []
  GS : FnOk P w K mg base CX0 1 fS dS ["self"] (spGetS C)
section
variable {P : Program} {w : World} {K : PySem.W.Frag} {mg : Str → Option Value} {base : Heap}
theorem scGL : FnScope ["self"] ["self"] (defScope sGetL) := ⟨rfl, rfl, rfl, by decide +kernel, rfl, by decide +kernel, by decide +kernel⟩
theorem ok_getL {f C : Addr} {fd : FuncData} (F : Fun K "length" "Row.length" sGetL f fd) (R : Cl K mg C) : FnOk P w K mg base CX0 1 f fd ["self"] (spGetL C) := by
  refine F.ok scGL (fun vs H Q E h => ?_) (fun cdv A outer s H vs Q E hr h => ?_)
  · obtain ⟨a, n, ms, ss, rfl, _⟩ := h
    rfl
  · obtain ⟨a, n, ms, ss, rfl, ⟨dx, l1, l2, ho, h1, h2⟩, k⟩ := h
    refine ⟨_, pss_one (ps_ret (pe_fld (pv 0) rfl)), ?_⟩
    exact ⟨_, rfl, a, C, dx, _, _, rfl, ho, R.cl, R.nL, fl_L _ _ _, k⟩
theorem scGS : FnScope ["self"] ["self"] (defScope sGetS) := ⟨rfl, rfl, rfl, by decide +kernel, rfl, by decide +kernel, by decide +kernel⟩
theorem ok_getS {f C : Addr} {fd : FuncData} (F : Fun K "strict" "Row.strict" sGetS f fd) (T : Bl mg) (R : Cl K mg C) : FnOk P w K mg base CX0 1 f fd ["self"] (spGetS C) := by
  refine F.ok scGS (fun vs H Q E h => ?_) (fun cdv A outer s H vs Q E hr h => ?_)
  · obtain ⟨a, n, ms, ss, rfl, _⟩ := h
    rfl
  · obtain ⟨a, n, ms, ss, rfl, ⟨dx, l1, l2, ho, h1, h2⟩, k⟩ := h
    refine ⟨_, pss_one (ps_ret (pe_callTy call_list_of (by rfl) T.list (by decide +kernel) (pa_cons (pe_fld (pv 0) rfl) pa_nil))), ?_⟩
    refine ⟨_, rfl, a, C, dx, _, _, rfl, ho, R.cl, R.nS, fl_S _ _ _, l2, _, rfl, .inl (SqL.of h2), fun p hp => ?_⟩
    exact k p _ (same_new (Same.refl H) hp) hp upd_same
theorem scPl : FnScope ["place", "low", "high"] ["place", "low", "high"] (defScope sCPl) := ⟨rfl, rfl, rfl, by decide +kernel, rfl, by decide +kernel, by decide +kernel⟩
theorem ok_pl {f fI : Addr} {fd fdI : FuncData} (F : Fun K "check_place" "check_place" sCPl f fd) (gI : mg "is_integer" = some (.ref fI)) (kI : PySem.W.keepIn K (.ref fI) = true) (bI : Binds K fdI ["thing"] []) (GI : FnOk P w K mg base CX0 1 fI fdI ["thing"] spOne) :
    FnOk P w K mg base CX0 2 f fd ["place", "low", "high"] spPl := by
  refine F.ok scPl (fun vs H Q E h => ?_) (fun cdv A outer s H vs Q E hr h => ?_)
  · obtain ⟨p, lo, hi, rfl, _⟩ := h
    rfl
  · obtain ⟨p, lo, hi, rfl, h1, h2, q⟩ := h
    refine ⟨_, pss_one (ps_if (PW.pt (pw_or (pt_not (pt_val (pe_call GI hr rfl gI kI bI .nil pass0 (pa_cons (pv 0) pa_nil)))) (pw_or1 (pt_not (pt_chain op_le op_le (pv 1) (pv 0) (pv 2)))))) pss_never pss_nil), ?_⟩
    refine ⟨_, rfl, _, rfl, _, rfl, ?_⟩
    refine ifF rfl ?_
    refine ⟨_, rfl, _, rfl, _, _, rfl, rfl, _, rfl, ?_⟩
    refine ifT (decide_eq_true h1) ?_
    refine ⟨_, rfl, _, _, rfl, rfl, _, rfl, ?_⟩
    refine ifF (by simp [h2]) ?_
    exact q
end
end Cw
namespace Cw
open PySem L2
theorem take_fil {ns : List Int} {i : Nat} {z : Int} (h : ns[i]? = some z) (p : Int → Bool) : (ns.take (i + 1)).filter p = (ns.take i).filter p ++ (if p z = true then [z] else []) := by
  rw [List.take_add_one, h, List.filter_append]
  congr 1
  show List.filter p [z] = _
  rw [List.filter_cons]
  rfl
/-- a raw row with its three numbers -/
def RawS (H : Hp) (p : Addr) (n : Int) (prs : List (Int × Int)) (l m g : Int) : Prop := ∃ lp t ts, H p = some (.tup [.int n, .ref lp, .ref t]) ∧ H lp = some (.lst (ts.map V.ref)) ∧ PrAt H ts prs ∧ H t = some (.tup [.int l, .int m, .int g])
theorem RawS.raw {H : Hp} {p : Addr} {n : Int} {prs : List (Int × Int)} {l m g : Int} (r : RawS H p n prs l m g) : RawAt H p n prs := by
  obtain ⟨lp, t, ts, h1, h2, h3, _⟩ := r
  exact ⟨lp, t, ts, h1, h2, h3⟩
theorem RawS.but {H H' : Hp} {p a : Addr} {k : Nat} {n : Int} {prs : List (Int × Int)} {l m g : Int} (r : RawS H p n prs l m g) (J : JarAt H a k) (s : But H H' a) : RawS H' p n prs l m g := by
  obtain ⟨lp, t, ts, h1, h2, h3, h4⟩ := r
  refine ⟨lp, t, ts, s _ _ h1 (J.no h1 fun _ _ _ z => nomatch z), s _ _ h2 (J.no h2 fun r m n z => ?_), h3.imp fun t p h => s _ _ h (J.no h fun _ _ _ z => nomatch z), s _ _ h4 (J.no h4 fun _ _ _ z => nomatch z)⟩
  injection z with z
  cases ts with
  | nil => cases z
  | cons t ts => cases z
def spSmall : Sp := fun vs H Q _ => ∃ (a : Addr) (k : Nat) (mo : Int), vs = [.ref a, .int mo] ∧ 1 ≤ mo ∧ mo ≤ 40 ∧ JarAt H a (k + 60) ∧ ∀ (p : Addr) (H' : Hp) (n l m g : Int) (prs : List (Int × Int)), n ≤ mo → GoodP n prs → prs.length ≤ 39 → RawS H' p n prs l m g → SetOk l m g → n ≤ 200 * l → g ≤ 10000000000000000000000000000 → JarAt H' a k → But H H' a → Q (.ref p) H'
theorem asc_snoc {ms : List Int} {z : Int} (h : Asc ms) (k : ∀ x ∈ ms, x < z) : Asc (ms ++ [z]) := by
  rw [Asc, List.pairwise_append]
  refine ⟨h, List.pairwise_singleton _ _, fun x hx y hy => ?_⟩
  rw [List.mem_singleton.mp hy]
  exact k x hx
/-- what the loop has found: the pairs, all below the place i -/
structure Found (i : Int) (prs : List (Int × Int)) : Prop where
  rng : ∀ q ∈ prs, 1 ≤ q.1 ∧ q.1 < i ∧ (q.2 = 1 ∨ q.2 = 2)
  asc : Asc (prs.map (·.1))
theorem Found.nil (i : Int) : Found i [] := ⟨fun _ h => (nomatch h), List.Pairwise.nil⟩
theorem Found.up {i : Int} {prs : List (Int × Int)} (h : Found i prs) : Found (i + 1) prs := by
  refine ⟨fun q hq => ?_, h.asc⟩
  have := h.rng q hq
  omega
theorem Found.snoc {i : Int} {prs : List (Int × Int)} {z : Int} (h : Found i prs) (h0 : 1 ≤ i) (hz : z = 1 ∨ z = 2) : Found (i + 1) (prs ++ [(i, z)]) := by
  refine ⟨fun q hq => ?_, ?_⟩
  · rcases List.mem_append.mp hq with hq | hq
    · have := h.rng q hq
      omega
    · rw [List.mem_singleton.mp hq]
      refine ⟨h0, ?_, hz⟩
      show i < i + 1
      omega
  · rw [List.map_append]
    refine asc_snoc h.asc fun x hx => ?_
    obtain ⟨q, hq, rfl⟩ := List.mem_map.mp hx
    exact (h.rng q hq).2.1
section
variable {P : Program} {w : World} {K : PySem.W.Frag} {mg : Str → Option Value} {base : Heap}
abbrev NSm : List Str := ["jar", "most", "length", "way", "found", "spot", "sort"]
theorem scSm : FnScope NSm ["jar", "most"] (defScope sSmall) := ⟨rfl, rfl, rfl, by decide +kernel, rfl, by decide +kernel, by decide +kernel⟩
theorem ok_small {f fD fT : Addr} {fd fdD fdT : FuncData} (F : Fun K "_law_small" "_law_small" sSmall f fd) (T : Bl mg)
    (gD : mg "_law_dip" = some (.ref fD)) (kD : PySem.W.keepIn K (.ref fD) = true) (bD : Binds K fdD ["jar", "many"] []) (GD : FnOk P w K mg base CX0 1 fD fdD ["jar", "many"] spDip)
    (gT : mg "_law_three" = some (.ref fT)) (kT : PySem.W.keepIn K (.ref fT) = true) (bT : Binds K fdT ["jar", "wide"] []) (GT : FnOk P w K mg base CX0 2 fT fdT ["jar", "wide"] spThree) :
    FnOk P w K mg base CX0 3 f fd ["jar", "most"] spSmall := by
  refine F.ok scSm (fun vs H Q E h => ?_) (fun cdv A outer s H vs Q E hr h => ?_)
  · obtain ⟨a, k, mo, rfl, _⟩ := h
    rfl
  · obtain ⟨a, k, mo, rfl, mo1, mo2, J, q⟩ := h
    have hr1 : Room 1 (A.deeper (PyProof.Rows.envOfC "_law_small" (defScope sSmall) s.heap.objs.size f cdv)) := hr.mono (by decide)
    refine ⟨_, pss_cons (ps_par3 (i := 2) (j := 3) (l := 4) rfl scSm.nd rfl rfl rfl (by decide) (by decide) (by decide) rfl rfl rfl (pa_cons (pe_op op_add pe_int (pe_call GD hr1 rfl gD kD bD .nil pass0 (pa_cons (pv 0) (pa_cons (pv 1) pa_nil)))) (pa_cons (pe_call GD hr1 rfl gD kD bD .nil pass0 (pa_cons (pv 0) (pa_cons pe_int pa_nil))) (pa_cons (pe_lst pa_nil) pa_nil))) (by rfl))
      (pss_cons (ps_for PassesOwn.never rfl (pi_range2 (by rfl) T.range (pa_cons pe_int (pa_cons (pv 2) pa_nil))) (pg_name (i := 5) scSm.nd rfl (Or.inl rfl))
        (pss_cons (ps_set (i := 6) scSm.nd rfl (Or.inl rfl) (pe_ifExp (pt_cmpR op_eq (pv 3) pe_int (nomark _)) (pe_op op_add pe_int (pe_call GD hr1 rfl gD kD bD .nil pass0 (pa_cons (pv 0) (pa_cons pe_int pa_nil))))
            (pe_callB (call_max2 rfl) (by rfl) T.max (by decide +kernel) (pa_cons pe_int (pa_cons (pe_op op_sub (pe_call GD hr1 rfl gD kD bD .nil pass0 (pa_cons (pv 0) (pa_cons pe_int pa_nil))) pe_int) pa_nil)))))
        (pss_one (ps_if (PW.pt (pw_and (pt_cmpR op_gt (pv 6) pe_int (nomark _)) (pw_and1 (pt_cmpR op_ne (pv 3) pe_int (nomark _)))))
          (pss_one (ps_expr (pe_bm PySem.F.plainAttrs_list PySem.F.slot_list_append PySem.F.type_list_append mt_append (pv 4) (pa_cons (pe_tup (pa_cons (pv 5) (pa_cons (pv 6) pa_nil))) pa_nil)))) pss_nil))))
      (pss_one (ps_ret (pe_tup (pa_cons (pv 2) (pa_cons (pv 4) (pa_cons (pe_call GT hr rfl gT kT bT .nil pass0 (pa_cons (pv 0) (pa_cons pe_int pa_nil))) pa_nil))))))), ?_⟩
    refine ⟨_, rfl, _, rfl, a, k + 59, mo, rfl, J, by omega, by omega, fun v1 H1 a1 b1 J1 B1 => ⟨_, _, rfl, rfl, ?_⟩⟩
    refine ⟨_, rfl, a, k + 58, 5, rfl, J1, by decide, by decide, fun v2 H2 a2 b2 J2 B2 => ⟨Nat.zero_le _, fun l hl => ⟨_, _, _, rfl, ?_⟩⟩⟩
    have nla : a ≠ l := J2.ne hl
    have nl : H l = none := none_of (fun c o e => by
      by_cases z : c = a
      · obtain ⟨r, m, n, e', _⟩ := J2
        exact ⟨_, by rw [z]; exact e'⟩
      · exact ⟨o, (B1.trans B2) _ _ e z⟩) hl
    refine ⟨_, rfl, _, _, rfl, ⟨by decide, by decide, by omega, by omega⟩, for_range (lo := 1) (n := (1 + v1 - 1).toNat) (fun i σ H' => ∃ (v5 v6 : Option V) (ts : List Addr) (prs : List (Int × Int)),
        σ = [some (.ref a), some (.int mo), some (.int (1 + v1)), some (.int v2), some (.ref l), v5, v6] ∧ JarAt H' a (k + 7 + (50 - i)) ∧ But H H' a ∧ H' l = some (.lst (ts.map V.ref)) ∧ PrAt H' ts prs ∧ Found (1 + i) prs ∧ prs.length ≤ i)
      ⟨none, none, [], [], rfl, (J2.put nla).mono (by omega), (B1.trans B2).new hl, upd_same, .nil, Found.nil _, Nat.le_refl _⟩ ?_ ?_⟩
    · rintro i σ H' hi ⟨v5, v6, ts, prs, rfl, J', B', hL, hP, hF, hlen⟩
      have Jd : JarAt H' a (k + 7 + (50 - (i + 1)) + 1) := J'.mono (by omega)
      refine ⟨_, rfl, rfl, _, rfl, ?_⟩
      refine ite2 (fun hv => ?ga) (fun hv => ?gb)
      case' ga =>
        refine ⟨_, rfl, a, _, 2, rfl, Jd, by decide, by decide, fun v3 H3 a3 b3 J3 B3 => ⟨_, _, rfl, rfl, ?_⟩⟩
        have z0 : 0 ≤ 1 + v3 := by omega
        have z2 : 1 + v3 ≤ 2 := by omega
        dsimp only
        generalize 1 + v3 = z at z0 z2 ⊢
      case' gb =>
        refine ⟨_, rfl, a, _, 5, rfl, Jd, by decide, by decide, fun v3 H3 a3 b3 J3 B3 => ⟨_, _, rfl, rfl, _, _, rfl, ?_⟩⟩
        have z0 : 0 ≤ (if v3 - 2 > 0 then v3 - 2 else 0) := by split <;> omega
        have z2 : (if v3 - 2 > 0 then v3 - 2 else 0) ≤ 2 := by split <;> omega
        dsimp only
        generalize (if v3 - 2 > 0 then v3 - 2 else 0) = z at z0 z2 ⊢
      all_goals
        have hL3 : H3 l = some (.lst (ts.map V.ref)) := B3 _ _ hL nla.symm
        have hP3 : PrAt H3 ts prs := hP.imp fun t p h => B3 _ _ h (J'.no h (fun _ _ _ y => nomatch y))
        have stay : ∃ (v5 v6 : Option V) (ts : List Addr) (prs : List (Int × Int)), [some (V.ref a), some (V.int mo), some (V.int (1 + v1)), some (V.int v2), some (V.ref l), some (V.int (1 + (i : Int))), some (V.int z)] = [some (V.ref a), some (V.int mo), some (V.int (1 + v1)), some (V.int v2), some (V.ref l), v5, v6] ∧ JarAt H3 a (k + 7 + (50 - (i + 1))) ∧ But H H3 a ∧ H3 l = some (.lst (ts.map V.ref)) ∧ PrAt H3 ts prs ∧ Found (1 + ((i + 1 : Nat) : Int)) prs ∧ prs.length ≤ i + 1 :=
          ⟨_, _, ts, prs, rfl, J3, B'.trans B3, hL3, hP3, by have := hF.up; rwa [show (1 : Int) + ((i + 1 : Nat) : Int) = 1 + i + 1 by omega], by omega⟩
        refine ⟨_, rfl, _, _, rfl, rfl, _, rfl, ?_⟩
        by_cases c1 : z > 0
        · refine ifT (decide_eq_true c1) ?_
          refine ⟨_, rfl, rfl, _, rfl, ?_⟩
          by_cases c2 : v2 = 1
          · refine ifF (by simp [c2]) ?_
            exact stay
          · refine ifT (by simp [c2]) ?_
            refine ⟨_, rfl, .inl ⟨rfl, _, SqL.of hL3⟩, _, rfl, _, rfl, (by show 2 ≤ sizeLine; decide), fun t ht => ?_⟩
            have nlt : l ≠ t := ne_of_none hL3 ht
            have hts := hP3.len
            refine ⟨l, _, _, rfl, rfl, by rw [upd_ne nlt]; exact hL3, by rw [List.length_map]; exact small1000 (by omega), ?_⟩
            refine ⟨_, _, ts ++ [t], prs ++ [(1 + (i : Int), z)], rfl, ((J3.put (J3.ne ht)).put nla), ?_, ?_, ?_, ?_, ?_⟩
            · exact ((B'.trans B3).new ht).put nl
            · rw [upd_same, List.map_append]
              rfl
            · refine PrAt.app (hP3.imp fun u p h => ?_) (.cons ?_ .nil)
              · rw [upd_ne (ne_of h hL3 (by intro y; cases y)), upd_ne (ne_of_none h ht)]
                exact h
              · rw [upd_ne (Ne.symm nlt)]
                exact upd_same
            · have := hF.snoc (z := z) (by omega) (by omega)
              rwa [show (1 : Int) + ((i + 1 : Nat) : Int) = 1 + i + 1 by omega]
            · rw [List.length_append]
              exact Nat.succ_le_succ hlen
        · refine ifF (decide_eq_false c1) ?_
          refine ifF rfl ?_
          exact stay
    · rintro σ H' ⟨v5, v6, ts, prs, rfl, J', B', hL, hP, hF, hlen⟩
      have hlen' : prs.length ≤ 39 := by omega
      refine ⟨_, rfl, _, rfl, _, rfl, a, k, 4, rfl, J'.mono (by omega), by decide, by decide, fun p H3 x y g x1 x2 y1 y2 g1 g2 J3 B3 hp _ => ⟨(by show 3 ≤ sizeLine; decide), fun r hr' => ?_⟩⟩
      have s3 : Same H3 (upd H3 r (.tup [.int (1 + v1), .ref l, .ref p])) := same_new (Same.refl H3) hr'
      refine q r _ (1 + v1) x y g prs (by omega) ⟨by omega, by omega, fun w hw => ?_, hF.asc⟩ hlen' ⟨l, p, ts, upd_same, s3 _ _ (B3 _ _ hL nla.symm), hP.imp fun t w h => s3 _ _ (B3 _ _ h (J'.no h (fun _ _ _ y => nomatch y))), s3 _ _ hp⟩ ⟨x1, y1, g1⟩ (by omega) (by omega) (J3.put (J3.ne hr')) ((B'.trans B3).new hr')
      have z := hF.rng w hw
      exact ⟨z.1, by omega, z.2.2⟩
end
end Cw
namespace Cw
open PySem L2
def spGreat : Sp := fun vs H Q _ => ∃ (a : Addr) (k : Nat) (mo : Int), vs = [.ref a, .int mo] ∧ 1 ≤ mo ∧ mo ≤ 40 ∧ JarAt H a (k + 120) ∧ ∀ (p : Addr) (H' : Hp) (n l m g : Int) (prs : List (Int × Int)), GoodP n prs → prs.length ≤ 16 → RawS H' p n prs l m g → SetOk l m g → n ≤ 200 * l → g ≤ 10000000000000000000000000000 → JarAt H' a k → But H H' a → Q (.ref p) H'
theorem none_but {H H' : Hp} {a l : Addr} {k : Nat} (J : JarAt H' a k) (B : But H H' a) (h : H' l = none) : H l = none := none_of (fun c o e => by
  by_cases z : c = a
  · obtain ⟨r, m, n, e', _⟩ := J
    exact ⟨_, by rw [z]; exact e'⟩
  · exact ⟨o, B _ _ e z⟩) h
theorem at4 {z x y u v : Int} (h0 : 0 ≤ z) (h1 : z < 4) : ∃ r, atI [V.int x, V.int y, V.int u, V.int v] z = some (V.int r) := by
  obtain ⟨r, e, m⟩ := at_lt (xs := [V.int x, V.int y, V.int u, V.int v]) h0 (by simpa using h1)
  simp only [List.mem_cons, List.not_mem_nil, or_false] at m
  rcases m with rfl | rfl | rfl | rfl <;> exact ⟨_, e⟩
theorem at2b {x y : Int} (c : Bool) : ∃ r, atI [V.int x, V.int y] (if c = true then 1 else 0) = some (V.int r) := by
  cases c
  · exact ⟨x, rfl⟩
  · exact ⟨y, rfl⟩
section
variable {P : Program} {w : World} {K : PySem.W.Frag} {mg : Str → Option Value} {base : Heap}
abbrev NG : List Str := ["jar", "most", "three", "length", "spots", "spot", "turn", "gap", "inner", "one"]
theorem scGr : FnScope NG ["jar", "most"] (defScope sGreat) := ⟨rfl, rfl, rfl, by decide +kernel, rfl, by decide +kernel, by decide +kernel⟩
theorem ok_great {f fD fT : Addr} {fd fdD fdT : FuncData} (F : Fun K "_law_great" "_law_great" sGreat f fd) (T : Bl mg)
    (gD : mg "_law_dip" = some (.ref fD)) (kD : PySem.W.keepIn K (.ref fD) = true) (bD : Binds K fdD ["jar", "many"] []) (GD : FnOk P w K mg base CX0 1 fD fdD ["jar", "many"] spDip)
    (gT : mg "_law_three" = some (.ref fT)) (kT : PySem.W.keepIn K (.ref fT) = true) (bT : Binds K fdT ["jar", "wide"] []) (GT : FnOk P w K mg base CX0 2 fT fdT ["jar", "wide"] spThree) :
    FnOk P w K mg base CX0 3 f fd ["jar", "most"] spGreat := by
  refine F.ok scGr (fun vs H Q E h => ?_) (fun cdv A outer s H vs Q E hr h => ?_)
  · obtain ⟨a, k, mo, rfl, _⟩ := h
    rfl
  · obtain ⟨a, k, mo, rfl, mo1, mo2, J, q⟩ := h
    have hr1 : Room 1 (A.deeper (PyProof.Rows.envOfC "_law_great" (defScope sGreat) s.heap.objs.size f cdv)) := hr.mono (by decide)
    refine ⟨_, pss_cons (ps_set (i := 2) scGr.nd rfl (Or.inl rfl) (pe_call GT hr rfl gT kT bT .nil pass0 (pa_cons (pv 0) (pa_cons (pe_ix ix_list (pe_lst (pa_cons (pe_op op_pow pe_int pe_int) (pa_cons (pe_op op_pow pe_int pe_int) (pa_cons (pe_op op_pow pe_int pe_int) pa_nil))))
          (pe_call GD hr1 rfl gD kD bD .nil pass0 (pa_cons (pv 0) (pa_cons pe_int pa_nil))) (fun _ _ => rfl)) pa_nil))))
      (pss_cons (ps_set (i := 3) scGr.nd rfl (Or.inr rfl) (pe_op op_add pe_int (pe_call GD hr1 rfl gD kD bD .nil pass0 (pa_cons (pv 0) (pa_cons (pe_op op_mul (pe_op op_add pe_int (pe_call GD hr1 rfl gD kD bD .nil pass0 (pa_cons (pv 0) (pa_cons (pv 1) pa_nil)))) (pe_ix ix_tup (pv 2) pe_int (fun _ _ => rfl))) pa_nil)))))
      (pss_cons (ps_par (i := 4) (j := 5) rfl scGr.nd rfl rfl (by decide) rfl rfl (pa_cons (pe_lst pa_nil) (pa_cons pe_int pa_nil)) (by rfl))
      (pss_cons (ps_for PassesOwn.never rfl (pi_range1 (by rfl) T.range (pa_cons (pe_call GD hr1 rfl gD kD bD .nil pass0 (pa_cons (pv 0) (pa_cons pe_int pa_nil))) pa_nil)) (pg_name (i := 6) scGr.nd rfl (Or.inl rfl))
        (pss_cons (ps_set (i := 7) scGr.nd rfl (Or.inl rfl) (pe_ix ix_list (pe_lst (pa_cons (pe_ix ix_tup (pv 2) pe_int (fun _ _ => rfl)) (pa_cons (pe_ix ix_tup (pv 2) pe_int (fun _ _ => rfl)) (pa_cons (pe_ix ix_tup (pv 2) pe_int (fun _ _ => rfl))
            (pa_cons (pe_op op_add pe_int (pe_call GD hr1 rfl gD kD bD .nil pass0 (pa_cons (pv 0) (pa_cons (pe_op op_mul pe_int (pe_ix ix_tup (pv 2) pe_int (fun _ _ => rfl))) pa_nil)))) pa_nil)))))
            (pe_call GD hr1 rfl gD kD bD .nil pass0 (pa_cons (pv 0) (pa_cons pe_int pa_nil))) (fun _ _ => rfl)))
        (pss_cons (ps_set (i := 5) scGr.nd rfl (Or.inl rfl) (pe_op op_add (pe_ix ix_list (pe_lst (pa_cons (pv 5) (pa_cons (pe_call GD hr1 rfl gD kD bD .nil pass0 (pa_cons (pv 0) (pa_cons (pv 3) pa_nil))) pa_nil)))
            (pe_callTy call_int1 (by rfl) T.int (by decide +kernel) (pa_cons (pe_cmpR op_eq (pe_call GD hr1 rfl gD kD bD .nil pass0 (pa_cons (pv 0) (pa_cons pe_int pa_nil))) pe_int (nomark _)) pa_nil)) (fun _ _ => rfl))
            (pe_callB (call_max2 rfl) (by rfl) T.max (by decide +kernel) (pa_cons pe_int (pa_cons (pe_op op_sub (pe_op op_add (pv 7) (pe_call GD hr1 rfl gD kD bD .nil pass0 (pa_cons (pv 0) (pa_cons pe_int pa_nil)))) pe_int) pa_nil)))))
        (pss_one (ps_expr (pe_bm PySem.F.plainAttrs_list PySem.F.slot_list_append PySem.F.type_list_append mt_append (pv 4) (pa_cons (pv 5) pa_nil)))))))
      (pss_cons (ps_setLc (i := 8) (own := [("one", 9)]) (g := gName 9) rfl scGr.nd rfl rfl (sw_true rfl rfl rfl (by decide +kernel)) (pi_list (pe_callB (cr_sortedSet rfl) (by rfl) T.sorted (by decide +kernel) (pa_cons (pe_callTy (cr_setOf rfl) (by rfl) T.set (by decide +kernel) (pa_cons (pv 4) pa_nil)) pa_nil)))
          (blkOk_by (own := [("one", 9)]) (N := NG) (sc := defScope sGreat) (by decide +kernel)) (fun _ _ _ _ _ => pg_name (i := 9) scGr.nd rfl (Or.inl rfl)) (fun _ _ _ _ _ => pts_one (pt_chain op_lt op_lt pe_int (pv 9) (pv 3))) (fun _ _ _ _ _ => pv 9))
      (pss_one (ps_ret (pe_tup (pa_cons (pv 3) (pa_cons (pe_lc (own := [("one", 9)]) (g := gName 9) (tt := tYes) rfl scGr.nd (pi_list (pv 8)) (blkOk_by (own := [("one", 9)]) (N := NG) (sc := defScope sGreat) (by decide +kernel)) (fun _ _ _ _ _ => pg_name (i := 9) scGr.nd rfl (Or.inl rfl)) (fun _ _ _ _ _ => pts_nil)
          (fun _ _ _ _ _ => pe_tup (pa_cons (pv 9) (pa_cons (pe_op op_add pe_int (pe_call GD hr1 rfl gD kD bD .nil pass0 (pa_cons (pv 0) (pa_cons pe_int pa_nil)))) pa_nil)))) (pa_cons (pv 2) pa_nil)))))))))), ?_⟩
    have t3 : (0 : Int) < 3 ∧ (3 : Int) < 2 ^ 120 := ⟨by decide, by decide⟩
    refine ⟨_, rfl, _, _, rfl, rfl, ⟨by decide, by decide, by decide⟩, _, _, rfl, rfl, ⟨by decide, by decide, by decide⟩, _, _, rfl, rfl, ⟨by decide, by decide, by decide⟩, (by show 3 ≤ sizeLine; decide), fun p hp => ?_⟩
    have np : a ≠ p := J.ne hp
    refine ⟨_, rfl, a, k + 119, 3, rfl, J.put np, t3.1, t3.2, fun v1 H1 a1 b1 J1 B1 => ?_⟩
    obtain ⟨W, e1, c1⟩ := at3 (x := 10 ^ Int.toNat 3) (y := 10 ^ Int.toNat 15) (u := 10 ^ Int.toNat 27) a1 b1
    refine ⟨p, _, _, _, rfl, rfl, SqL.of (B1 _ _ upd_same np.symm), e1, ?_⟩
    have w0 : 1000 ≤ W ∧ W ≤ 10 ^ 27 := by
      have z1 : (10 : Int) ^ Int.toNat 3 = 1000 := by decide +kernel
      have z2 : (10 : Int) ^ Int.toNat 15 = 1000000000000000 := by decide +kernel
      have z3 : (10 : Int) ^ Int.toNat 27 = 1000000000000000000000000000 := by decide +kernel
      have z4 : (10 : Int) ^ 27 = 1000000000000000000000000000 := by decide +kernel
      omega
    have z4 : (10 : Int) ^ 27 = 1000000000000000000000000000 := by decide +kernel
    have z5 : (2 : Int) ^ 120 = 1329227995784915872903807060280344576 := by decide +kernel
    refine ⟨a, k + 112, W, rfl, J1, by omega, by omega, fun p3 H2 x y g hx1 hx2 hy1 hy2 hg1 hg2 J2 B2 hp3 _ => ?_⟩
    have B02 := ((But.refl H a).new hp).trans (B1.trans B2)
    have npa : p3 ≠ a := J2.no hp3 (fun _ _ _ z => nomatch z)
    refine ⟨_, rfl, _, rfl, _, rfl, a, k + 111, mo, rfl, J2, by omega, by omega, fun v2 H3 a2 b2 J3 B3 => ⟨_, _, rfl, rfl, ?_⟩⟩
    have hp3' : H3 p3 = some (.tup [.int x, .int y, .int g]) := B3 _ _ hp3 npa
    have mp : 0 < (1 + v2) * x := Int.mul_pos (by omega) (by omega)
    have mu : (1 + v2) * x ≤ 40 * x := Int.mul_le_mul_of_nonneg_right (by omega) (by omega)
    refine ⟨_, rfl, p3, _, _, _, rfl, rfl, SqT.of hp3', at_of2 (j := 0) rfl rfl, _, _, rfl, rfl, .inl ⟨by omega, by omega⟩, ?_⟩
    refine ⟨a, k + 110, (1 + v2) * x, rfl, J3, mp, by omega, fun v3 H4 a3 b3 J4 B4 => ⟨_, _, rfl, rfl, ?_⟩⟩
    have B04 := (B02.trans B3).trans B4
    have hp4 := B4 _ _ hp3' npa
    refine ⟨Nat.zero_le _, fun l hl => ⟨_, _, rfl, ?_⟩⟩
    have nla : a ≠ l := J4.ne hl
    have npl : p3 ≠ l := ne_of_none hp4 hl
    have nl : H l = none := none_but J4 B04 hl
    refine ⟨_, rfl, a, k + 109, 17, rfl, J4.put nla, by decide, by decide, fun v4 H5 a4 b4 J5 B5 => ⟨_, rfl, by omega, by omega, ?_⟩⟩
    have B05 := (B04.new (o := .lst []) hl).trans B5
    refine for_range (lo := 0) (n := v4.toNat) (fun i σ H' => ∃ (sp : Int) (v6 v7 v8 v9 : Option V) (sps : List Int),
        σ = [some (.ref a), some (.int mo), some (.ref p3), some (.int (1 + v3)), some (.ref l), some (.int sp), v6, v7, v8, v9] ∧ JarAt H' a (k + 20 + 5 * (17 - i)) ∧ But H H' a ∧ H' p3 = some (.tup [.int x, .int y, .int g]) ∧ IL H' l sps ∧ sps.length = i)
      ⟨0, none, none, none, none, [], rfl, J5.mono (by omega), B05, B5 _ _ (by rw [upd_ne npl]; exact hp4) npa, B5 _ _ upd_same nla.symm, rfl⟩ ?_ ?_
    · rintro i σ H' hi ⟨sp, v6, v7, v8, v9, sps, rfl, J', B', h3, hL, hlen⟩
      have hi16 : i < 16 := by omega
      have Jd : JarAt H' a (k + 20 + 5 * (17 - (i + 1)) + 5) := J'.mono (by omega)
      generalize k + 20 + 5 * (17 - (i + 1)) = kk at Jd ⊢
      refine ⟨_, rfl, p3, _, _, _, rfl, rfl, SqT.of h3, at_of2 (j := 0) rfl rfl, _, rfl, p3, _, _, _, rfl, rfl, SqT.of h3, at_of2 (j := 1) rfl rfl, _, rfl, p3, _, _, _, rfl, rfl, SqT.of h3, at_of2 (j := 2) rfl rfl, ?_⟩
      refine ⟨_, rfl, _, rfl, p3, _, _, _, rfl, rfl, SqT.of h3, at_of2 (j := 2) rfl rfl, _, _, rfl, rfl, .inl ⟨by decide, by decide⟩, ?_⟩
      refine ⟨a, kk + 4, 2 * g, rfl, Jd, by omega, by omega, fun u1 G1 _ _ K1 C1 => ⟨_, _, rfl, rfl, (by show 4 ≤ sizeLine; decide), fun q1 hq1 => ?_⟩⟩
      have nq1 : a ≠ q1 := K1.ne hq1
      refine ⟨_, rfl, a, kk + 3, 4, rfl, K1.put nq1, by decide, by decide, fun u2 G2 d0 d1 K2 C2 => ?_⟩
      obtain ⟨gap, e2⟩ := at4 (x := x) (y := y) (u := g) (v := 1 + u1) d0 d1
      refine ⟨q1, _, _, _, rfl, rfl, SqL.of (C2 _ _ upd_same nq1.symm), e2, ?_⟩
      have D2 := (C1.new (o := .lst [.int x, .int y, .int g, .int (1 + u1)]) hq1).trans C2
      refine ⟨_, rfl, _, rfl, _, rfl, a, kk + 2, 1 + v3, rfl, K2, by omega, by omega, fun u3 G3 _ _ K3 C3 => ⟨(by show 2 ≤ sizeLine; decide), fun q2 hq2 => ?_⟩⟩
      have nq2 : a ≠ q2 := K3.ne hq2
      refine ⟨_, rfl, a, kk + 1, 3, rfl, K3.put nq2, t3.1, t3.2, fun u4 G4 _ _ K4 C4 => ⟨rfl, .inr ⟨_, rfl, ?_⟩⟩⟩
      obtain ⟨s1, e3⟩ := at2b (x := sp) (y := u3) (decide (V.int u4 = V.int 0))
      refine ⟨q2, _, _, _, rfl, rfl, SqL.of (C4 _ _ upd_same nq2.symm), e3, ?_⟩
      refine ⟨_, rfl, _, rfl, a, kk, 3, rfl, K4, t3.1, t3.2, fun u5 G5 _ _ K5 C5 => ⟨_, _, rfl, rfl, _, _, rfl, rfl, _, _, rfl, _, _, rfl, rfl, ?_⟩⟩
      have D5 := (((D2.trans C3).new (o := .lst [.int sp, .int u3]) hq2).trans C4).trans C5
      have hL5 : IL G5 l sps := D5 _ _ hL nla.symm
      have hp5 := D5 _ _ h3 npa
      refine ⟨_, rfl, .inl ⟨rfl, _, SqL.of hL5⟩, _, rfl, l, _, _, rfl, rfl, hL5, by rw [List.length_map]; exact small1000 (by omega), ?_⟩
      refine ⟨_, _, _, _, _, sps ++ [s1 + (if gap + u5 - 1 > 0 then gap + u5 - 1 else 0)], rfl, K5.put nla, (B'.trans D5).put nl, by rw [upd_ne npl]; exact hp5, ?_, by rw [List.length_append, hlen]; rfl⟩
      show upd _ _ _ l = _
      rw [upd_same, ints_app]
    · rintro σ H' ⟨sp, v6, v7, v8, v9, sps, rfl, J', B', h3, hL, hlen⟩
      have hl16 : sps.length ≤ 16 := by omega
      refine ⟨_, rfl, l, sps, rfl, SqL.of hL, by omega, fun ps c hc hps => ⟨ps, _, _, rfl, upd_same, by omega, fun ns2 ps2 asc mem len hps2 => ⟨ps2, rfl, ⟨_, SqL.of upd_same⟩, fun D hD => ?_⟩⟩⟩
      have S2 := same_new (o := .lst (ns2.map V.int)) (same_new (o := SetO w ps (fun j => decide (j ∈ sps)) c) (Same.refl H') hps) hps2
      have hN2 : IL (upd (upd H' ps (SetO w ps (fun j => decide (j ∈ sps)) c)) ps2 (.lst (ns2.map V.int))) ps2 ns2 := upd_same
      have n2D : ps2 ≠ D := ne_of_none hN2 hD
      have nD' : H' D = none := S2.free hD
      refine lc_list (K := K) (a := ps2) (xs := ns2.map V.int) (fun i H2 => Same H' H2 ∧ IL H2 ps2 ns2 ∧ IL H2 D ((ns2.take i).filter (fun x => decide (0 < x) && decide (x < 1 + v3)))) ⟨same_new S2 hD, by show upd _ _ _ ps2 = _; rw [upd_ne n2D]; exact hN2, upd_same⟩ (fun i H2 _ z => SqL.of z.2.1) ?_ ?_
      · rintro i x' H2 hx ⟨s1, hP, hE⟩
        obtain ⟨z, rfl, hz⟩ := il_at hx
        have hil : i < ns2.length := (List.getElem?_eq_some_iff.mp hz).1
        have tf := take_fil hz (fun x => decide (0 < x) && decide (x < 1 + v3))
        have sm : (List.map V.int ((ns2.take i).filter (fun x => decide (0 < x) && decide (x < 1 + v3)))).length < sizeLine := by
          rw [List.length_map]
          have z1 := List.length_filter_le (fun x => decide (0 < x) && decide (x < 1 + v3)) (ns2.take i)
          rw [List.length_take] at z1
          exact small1000 (by omega)
        refine ⟨rfl, ?_⟩
        refine ⟨_, rfl, _, _, rfl, rfl, _, rfl, ?_⟩
        by_cases c1 : 0 < z
        · refine ifT (decide_eq_true c1) ?_
          refine ⟨_, rfl, _, _, rfl, rfl, _, rfl, ?_⟩
          by_cases c2 : z < 1 + v3
          · refine ifT (decide_eq_true c2) ?_
            refine ⟨_, rfl, _, hE, sm, same_put s1 nD', by show upd _ _ _ ps2 = _; rw [upd_ne n2D]; exact hP, ?_⟩
            show upd _ _ _ D = _
            rw [upd_same, ints_app, tf]
            simp [c1, c2]
          · refine ifF (decide_eq_false c2) ?_
            refine ⟨s1, hP, ?_⟩
            show H2 D = _
            rw [hE, tf]
            simp [c2]
        · refine ifF (decide_eq_false c1) ?_
          refine ⟨_, rfl, ?_⟩
          refine ifF rfl ?_
          refine ⟨s1, hP, ?_⟩
          show H2 D = _
          rw [hE, tf]
          simp [c1]
      · rintro H2 ⟨s1, hP, hE⟩
        rw [List.length_map, List.take_length] at hE
        generalize hins : ns2.filter (fun x => decide (0 < x) && decide (x < 1 + v3)) = ins at hE
        have iasc : Asc ins := by
          rw [← hins]
          exact asc.filter _
        have ilen : ins.length ≤ 16 := by
          have z1 := List.length_filter_le (fun x => decide (0 < x) && decide (x < 1 + v3)) ns2
          rw [hins] at z1
          omega
        have irng : ∀ x ∈ ins, 0 < x ∧ x < 1 + v3 := fun x hx => by
          rw [← hins] at hx
          have z1 := (List.mem_filter.mp hx).2
          simpa using z1
        have JD : JarAt H2 a (k + 20) := (J'.same s1).mono (by omega)
        have BD : But H H2 a := B'.trans (But.of s1)
        have nDa : D ≠ a := fun e => (J'.ne nD') e.symm
        refine ⟨_, rfl, _, rfl, D, rfl, ⟨_, SqL.of hE⟩, fun D2 hD2 => ?_⟩
        have nDD : D ≠ D2 := ne_of_none hE hD2
        have naD2 : a ≠ D2 := JD.ne hD2
        have nD2 : H D2 = none := none_but JD BD hD2
        refine lc_list (K := K) (a := D) (xs := ins.map V.int) (fun i H3 => ∃ (ts : List Addr) (prs : List (Int × Int)), JarAt H3 a (k + (20 - i)) ∧ But H2 H3 a ∧ IL H3 D ins ∧ H3 D2 = some (.lst (ts.map V.ref)) ∧ PrAt H3 ts prs ∧ prs.map (·.1) = ins.take i ∧ ∀ q ∈ prs, q.2 = 1 ∨ q.2 = 2)
          ⟨[], [], JD.put naD2, (But.refl H2 a).new hD2, by show upd _ _ _ D = _; rw [upd_ne nDD]; exact hE, upd_same, .nil, rfl, fun _ h => (nomatch h)⟩ (fun i H3 _ ⟨ts, prs, z⟩ => SqL.of z.2.2.1) ?_ ?_
        · rintro i x' H3 hx ⟨ts, prs, K1, C1, hF, hG, hPr, hfst, hk⟩
          obtain ⟨z, rfl, hz⟩ := il_at hx
          have hil : i < ins.length := (List.getElem?_eq_some_iff.mp hz).1
          have Kd : JarAt H3 a (k + (20 - (i + 1)) + 1) := K1.mono (by omega)
          refine ⟨rfl, ?_⟩
          unfold tYes
          refine iteT ?_
          refine ⟨_, rfl, _, rfl, a, _, 2, rfl, Kd, by decide, by decide, fun u G u0 u1 K2 C2 => ⟨_, _, rfl, rfl, (by show 2 ≤ sizeLine; decide), fun t ht => ?_⟩⟩
          have hG2 := C2 _ _ hG naD2.symm
          have hF2 := C2 _ _ hF nDa
          have hP2 : PrAt G ts prs := hPr.imp fun t p h => C2 _ _ h (K1.no h (fun _ _ _ y => nomatch y))
          have ntD2 : D2 ≠ t := ne_of_none hG2 ht
          have hts : ts.length = i := by
            rw [hPr.len, ← List.length_map (f := (·.1)), hfst, List.length_take]
            omega
          refine ⟨_, (by rw [upd_ne ntD2]; exact hG2), by rw [List.length_map]; exact small1000 (by omega), ts ++ [t], prs ++ [(z, 1 + u)], (K2.put (K2.ne ht)).put naD2, ((C1.trans C2).new ht).put hD2, ?_, ?_, ?_, ?_, ?_⟩
          · show upd _ _ _ D = _
            rw [upd_ne nDD, upd_ne (ne_of_none hF2 ht)]
            exact hF2
          · rw [upd_same, List.map_append]
            rfl
          · refine PrAt.app (hP2.imp fun v p h => ?_) (.cons ?_ .nil)
            · rw [upd_ne (ne_of h hG2 (by intro y; cases y)), upd_ne (ne_of_none h ht)]
              exact h
            · rw [upd_ne (Ne.symm ntD2)]
              exact upd_same
          · rw [List.map_append, hfst, List.take_add_one, hz]
            rfl
          · intro q hq
            rcases List.mem_append.mp hq with hq | hq
            · exact hk q hq
            · rw [List.mem_singleton.mp hq]
              show 1 + u = 1 ∨ 1 + u = 2
              omega
        · rintro H3 ⟨ts, prs, K1, C1, hF, hG, hPr, hfst, hk⟩
          rw [List.length_map, List.take_length] at hfst
          have pl : prs.length = ins.length := by rw [← hfst, List.length_map]
          refine ⟨_, rfl, (by show 3 ≤ sizeLine; decide), fun r hr' => ?_⟩
          have s3 : Same H3 (upd H3 r (.tup [.int (1 + v3), .ref D2, .ref p3])) := same_new (Same.refl H3) hr'
          have hp6 := C1 _ _ (s1 _ _ h3) npa
          refine q r _ (1 + v3) x y g prs ⟨by omega, by omega, fun y hy => ?_, by rw [hfst]; exact iasc⟩ (by omega) ⟨D2, p3, ts, upd_same, s3 _ _ hG, hPr.imp fun t y h => s3 _ _ h, s3 _ _ hp6⟩ ⟨hx1, hy1, hg1⟩ (by omega) (by omega) ((K1.mono (by omega)).put (K1.ne hr')) ((BD.trans C1).new hr')
          have z1 := irng y.1 (by rw [← hfst]; exact List.mem_map.mpr ⟨y, hy, rfl⟩)
          exact ⟨by omega, by omega, hk y hy⟩
end
end Cw
namespace Cw
open PySem L2
abbrev sShift : Stmt := top 17
abbrev sJoin : Stmt := inClass sRow 9
abbrev sPart : Stmt := inClass sRow 10
theorem asc_shift {ns : List Int} (h : Asc ns) (k : Int) : Asc (ns.map (· + k)) := by
  rw [Asc, List.pairwise_map]
  exact h.imp fun {a b} x => by omega
theorem take_map {ns : List Int} {i : Nat} {z : Int} (h : ns[i]? = some z) (f : Int → Int) : (ns.take (i + 1)).map f = (ns.take i).map f ++ [f z] := by
  rw [List.take_add_one, h, List.map_append]
  rfl
def spShift : Sp := fun vs H Q _ => ∃ (a : Addr) (ns : List Int) (k : Int), vs = [.ref a, .int k] ∧ IL H a ns ∧ ns.length ≤ 1000 ∧ ∀ p H', Same H H' → H p = none → IL H' p (ns.map (· + k)) → Q (.ref p) H'
def spJoin (C : Addr) : Sp := fun vs H Q _ => ∃ (x y : Addr) (n n2 : Int) (ms ss ms2 ss2 : List Int) (kd : Str), vs = [.ref x, .ref y, .str kd] ∧ RowAt C H x n ms ss ∧ RowAt C H y n2 ms2 ss2 ∧ Good n ms ss ∧ Good n2 ms2 ss2 ∧
  (kd = "none" ∨ kd = "plain" ∨ kd = "strict") ∧ ms.length + ms2.length + 1 ≤ 400 ∧ ∀ p H', Same H H' → RowNew C H H' p (n + n2) (ms ++ (if kd = "none" then [] else [n]) ++ ms2.map (· + n)) (ss ++ (if kd = "strict" then [n] else []) ++ ss2.map (· + n)) → Q (.ref p) H'
/-- the marks of a joined row -/
theorem good_join {n n2 : Int} {ms ss ms2 ss2 bs fs : List Int} (G : Good n ms ss) (G2 : Good n2 ms2 ss2) (h : (bs = [] ∧ fs = []) ∨ (bs = [n] ∧ fs = []) ∨ (bs = [n] ∧ fs = [n])) (few : ms.length + ms2.length + 1 ≤ 400) :
    Good (n + n2) (ms ++ bs ++ ms2.map (· + n)) (ss ++ fs ++ ss2.map (· + n)) := by
  have n1 := G.pos
  have n2' := G2.pos
  have asc : ∀ {xs ys zs : List Int}, Asc xs → Asc ys → (∀ x ∈ xs, x ≤ n - 1) → (∀ x ∈ ys, 1 ≤ x) → (zs = [] ∨ zs = [n]) → Asc (xs ++ zs ++ ys.map (· + n)) := fun {xs ys zs} h1 h2 h3 h4 hz => by
    rw [Asc, List.pairwise_append, List.pairwise_append]
    refine ⟨⟨h1, by rcases hz with rfl | rfl; exact .nil; exact List.pairwise_singleton _ _, fun x hx y hy => ?_⟩, asc_shift h2 n, fun x hx y hy => ?_⟩
    · have := h3 x hx
      rcases hz with rfl | rfl
      · cases hy
      · rw [List.mem_singleton.mp hy]; omega
    · obtain ⟨z, hz', rfl⟩ := List.mem_map.mp hy
      have := h4 z hz'
      rcases List.mem_append.mp hx with hx | hx
      · have := h3 x hx
        omega
      · rcases hz with rfl | rfl
        · cases hx
        · rw [List.mem_singleton.mp hx]; omega
  have bz : bs = [] ∨ bs = [n] := by rcases h with h | h | h; exact .inl h.1; exact .inr h.1; exact .inr h.1
  have fz : fs = [] ∨ fs = [n] := by rcases h with h | h | h; exact .inl h.2; exact .inl h.2; exact .inr h.2
  refine ⟨by omega, ?_, fun x hx => ?_, asc G.asc G2.asc (fun x hx => (G.rng x hx).2) (fun x hx => (G2.rng x hx).1) bz, asc G.asc2 G2.asc2 (fun x hx => (G.rng x (G.sub x hx)).2) (fun x hx => (G2.rng x (G2.sub x hx)).1) fz, fun x hx => ?_⟩
  · rw [List.length_append, List.length_append, List.length_map]
    rcases bz with rfl | rfl
    · show ms.length + 0 + ms2.length ≤ 400; omega
    · show ms.length + 1 + ms2.length ≤ 400; omega
  · rcases List.mem_append.mp hx with hx | hx
    · rcases List.mem_append.mp hx with hx | hx
      · have := G.rng x hx; omega
      · rcases bz with rfl | rfl
        · cases hx
        · rw [List.mem_singleton.mp hx]; omega
    · obtain ⟨z, hz, rfl⟩ := List.mem_map.mp hx
      have := G2.rng z hz
      omega
  · rcases List.mem_append.mp hx with hx | hx
    · rcases List.mem_append.mp hx with hx | hx
      · exact List.mem_append.mpr (.inl (List.mem_append.mpr (.inl (G.sub x hx))))
      · refine List.mem_append.mpr (.inl (List.mem_append.mpr (.inr ?_)))
        rcases h with h | h | h
        · rw [h.2] at hx; cases hx
        · rw [h.2] at hx; cases hx
        · rw [h.2] at hx; rw [h.1]; exact hx
    · obtain ⟨z, hz, rfl⟩ := List.mem_map.mp hx
      exact List.mem_append.mpr (.inr (List.mem_map.mpr ⟨z, G2.sub z hz, rfl⟩))
section
variable {P : Program} {w : World} {K : PySem.W.Frag} {mg : Str → Option Value} {base : Heap}
abbrev NS : List Str := ["places", "number", "place"]
theorem scSh : FnScope NS ["places", "number"] (defScope sShift) := ⟨rfl, rfl, rfl, by decide +kernel, rfl, by decide +kernel, by decide +kernel⟩
theorem ok_shift {f : Addr} {fd : FuncData} (F : Fun K "shifted" "shifted" sShift f fd) : FnOk P w K mg base CX0 1 f fd ["places", "number"] spShift := by
  refine F.ok scSh (fun vs H Q E h => ?_) (fun cdv A outer s H vs Q E hr h => ?_)
  · obtain ⟨a, ns, k, rfl, _⟩ := h
    rfl
  · obtain ⟨a, ns, k, rfl, hS, hl, q⟩ := h
    refine ⟨_, pss_one (ps_ret (pe_lc (own := [("place", 2)]) (g := gName 2) (tt := tYes) rfl scSh.nd (pi_list (pv 0)) (blkOk_by (own := [("place", 2)]) (N := NS) (sc := defScope sShift) (by decide +kernel))
        (fun _ _ _ _ _ => pg_name (i := 2) scSh.nd rfl (Or.inl rfl)) (fun _ _ _ _ _ => pts_nil) (fun _ _ _ _ _ => pe_op op_add (pv 2) (pv 1)))), ?_⟩
    refine ⟨_, rfl, a, rfl, ⟨_, SqL.of hS⟩, fun D hD => ?_⟩
    refine lc_list (K := K) (a := a) (xs := ns.map V.int) (fun i H' => Same H H' ∧ IL H' D ((ns.take i).map (· + k))) ⟨same_new (Same.refl H) hD, upd_same⟩ (fun i H' _ z => SqL.of (z.1 _ _ hS)) ?_ ?_
    · rintro i x H' hx ⟨s1, hD'⟩
      obtain ⟨z, rfl, hz⟩ := il_at hx
      have hil : i < ns.length := (List.getElem?_eq_some_iff.mp hz).1
      refine ⟨rfl, ?_⟩
      unfold tYes
      refine iteT ?_
      refine ⟨_, rfl, _, rfl, _, _, rfl, rfl, ?_⟩
      refine ⟨_, hD', by rw [List.length_map, List.length_map, List.length_take]; exact small1000 (by omega), same_put s1 hD, ?_⟩
      show upd _ _ _ D = _
      rw [upd_same, ints_app, take_map hz]
    · rintro H' ⟨s1, hD'⟩
      rw [List.length_map, List.take_length] at hD'
      exact q D H' s1 hD hD'
abbrev NJo : List Str := ["self", "other", "kind", "between", "firm", "marks", "strict"]
theorem scJo : FnScope NJo ["self", "other", "kind"] (defScope sJoin) := ⟨rfl, rfl, rfl, by decide +kernel, rfl, by decide +kernel, by decide +kernel⟩
abbrev jCx (P : Program) (w : World) (K : PySem.W.Frag) (mg : Str → Option Value) (base : Heap) (f : Addr) (cdv : Value) (A : Around) (outer : List Env) (s : Shared) (H0 : Hp) (E : XK) : Cx := (cxOf CX0 P w K mg base NJo "Row.joined" (defScope sJoin) f cdv A outer s H0 E).nox
theorem join_tail {f C fI fS pL fL pM fM pS fSs : Addr} {fdI fdS dL dM dS : FuncData} (R : Cl K mg C) (M : Mk K C fI) (Gs : Gets P w K mg base C pL fL pM fM pS fSs dL dM dS)
    (gS : mg "shifted" = some (.ref fS)) (kS : PySem.W.keepIn K (.ref fS) = true) (bS : Binds K fdS ["places", "number"] []) (GS : FnOk P w K mg base CX0 1 fS fdS ["places", "number"] spShift)
    (bI : Binds K fdI NI []) (GI : FnOk P w K mg base CX0 5 fI fdI NI (spInit C))
    {cdv : Value} {A : Around} {outer : List Env} {s : Shared} {H0 : Hp} {E : XK} (hr : Room 6 (A.deeper (PyProof.Rows.envOfC "Row.joined" (defScope sJoin) s.heap.objs.size f cdv))) :
    ∃ tl, PSs (jCx P w K mg base f cdv A outer s H0 E) ((defBody sJoin).drop 3) tl ∧
      ∀ (Q : VK) (H : Hp) (x y b1 f1 : Addr) (n n2 : Int) (ms ss ms2 ss2 bs fs : List Int) (kd : Str), RowAt C H x n ms ss → RowAt C H y n2 ms2 ss2 → Good n ms ss → Good n2 ms2 ss2 → IL H b1 bs → IL H f1 fs →
        ((bs = [] ∧ fs = []) ∨ (bs = [n] ∧ fs = []) ∨ (bs = [n] ∧ fs = [n])) → ms.length + ms2.length + 1 ≤ 400 →
        (∀ p H', Same H H' → RowNew C H H' p (n + n2) (ms ++ bs ++ ms2.map (· + n)) (ss ++ fs ++ ss2.map (· + n)) → Q (.ref p) H') →
        tl { nx := fun x H' => Q V.non H', rt := Q } [some (.ref x), some (.ref y), some (.str kd), some (.ref b1), some (.ref f1), none, none] H := by
  have hr1 : Room 1 (A.deeper (PyProof.Rows.envOfC "Row.joined" (defScope sJoin) s.heap.objs.size f cdv)) := hr.mono (by decide)
  have hr2 : Room 2 (A.deeper (PyProof.Rows.envOfC "Row.joined" (defScope sJoin) s.heap.objs.size f cdv)) := hr.mono (by decide)
  refine ⟨_, (pss_cons (ps_set (i := 5) scJo.nd rfl (Or.inl rfl) (pe_op op_cat (pe_op op_cat (pe_fld (pv 0) rfl) (pv 3)) (pe_call GS hr1 rfl gS kS bS .nil pass0 (pa_cons (pe_prop (pv 1) R.cl Gs.hM Gs.GM hr2 Gs.bM .nil pass0 rfl) (pa_cons (pe_fld (pv 0) rfl) pa_nil)))))
      (pss_cons (ps_set (i := 6) scJo.nd rfl (Or.inl rfl) (pe_op op_cat (pe_op op_cat (pe_fld (pv 0) rfl) (pv 4)) (pe_call GS hr1 rfl gS kS bS .nil pass0 (pa_cons (pe_prop (pv 1) R.cl Gs.hS Gs.GS hr2 Gs.bS .nil pass0 rfl) (pa_cons (pe_fld (pv 0) rfl) pa_nil)))))
      (pss_one (ps_ret (pe_make M GI hr rfl R.mgR bI .nil pass0 (pa_cons (pe_op op_add (pe_fld (pv 0) rfl) (pe_prop (pv 1) R.cl Gs.hL Gs.GL hr2 Gs.bL .nil pass0 rfl)) (pa_cons (pv 5) (pa_cons (pv 6) pa_nil)))))))), ?_⟩
  intro Q H x y b1 f1 n n2 ms ss ms2 ss2 bs fs kd hx hy G G2 hb hf hz few q
  obtain ⟨dx, l1, l2, ho, h1, h2⟩ := id hx
  obtain ⟨dy, m1, m2, go, g1, g2⟩ := id hy
  have lm := G.len
  have ls := G.len2
  have lm2 := G2.len
  have ls2 := G2.len2
  have lb : bs.length ≤ 1 := by rcases hz with ⟨rfl, _⟩ | ⟨rfl, _⟩ | ⟨rfl, _⟩ <;> simp
  have lf : fs.length ≤ 1 := by rcases hz with ⟨_, rfl⟩ | ⟨_, rfl⟩ | ⟨_, rfl⟩ <;> simp
  -- the marks
  refine ⟨_, rfl, x, C, dx, _, _, rfl, ho, R.cl, R.nM, fl_M _ _ _, _, rfl, ?_⟩
  refine ⟨l1, b1, _, _, rfl, rfl, h1, hb, by rw [List.length_map, List.length_map]; exact Nat.le_of_lt (small1000 (by omega)), fun c1 hc1 => ?_⟩
  have s1 := same_new (o := .lst (ms.map V.int ++ bs.map V.int)) (Same.refl H) hc1
  have k1 : IL (upd H c1 (.lst (ms.map V.int ++ bs.map V.int))) c1 (ms ++ bs) := by
    show upd _ _ _ c1 = _
    rw [upd_same, List.map_append]
  generalize upd H c1 (.lst (ms.map V.int ++ bs.map V.int)) = H1 at s1 k1 ⊢
  refine ⟨_, rfl, y, dy, _, rfl, s1 _ _ go, y, n2, ms2, ss2, rfl, hy.same s1, fun u H2 s2 nu hu => ?_⟩
  have s12 := s1.trans s2
  refine ⟨_, rfl, x, C, dx, _, _, rfl, s12 _ _ ho, R.cl, R.nL, fl_L _ _ _, ?_⟩
  refine ⟨u, ms2, n, rfl, hu, by omega, fun p3 H3 s3 np3 hp3 => ?_⟩
  have s13 := s12.trans s3
  refine ⟨c1, p3, _, _, rfl, rfl, s3 _ _ (s2 _ _ k1), hp3, by rw [List.length_map, List.length_map, List.length_append, List.length_map]; exact Nat.le_of_lt (small1000 (by omega)), fun c2 hc2 => ?_⟩
  have s4 := same_new (o := .lst ((ms ++ bs).map V.int ++ (ms2.map (· + n)).map V.int)) s13 hc2
  have k2 : IL (upd H3 c2 (.lst ((ms ++ bs).map V.int ++ (ms2.map (· + n)).map V.int))) c2 (ms ++ bs ++ ms2.map (· + n)) := by
    show upd _ _ _ c2 = _
    rw [upd_same, List.map_append (l₁ := ms ++ bs)]
  generalize upd H3 c2 (.lst ((ms ++ bs).map V.int ++ (ms2.map (· + n)).map V.int)) = H4 at s4 k2 ⊢
  try dsimp only [L2.start, List.set, List.map, List.append, List.replicate, List.length]
  -- the strict ones
  refine ⟨_, rfl, x, C, dx, _, _, rfl, s4 _ _ ho, R.cl, R.nS, fl_S _ _ _, _, rfl, ?_⟩
  refine ⟨l2, f1, _, _, rfl, rfl, s4 _ _ h2, s4 _ _ hf, by rw [List.length_map, List.length_map]; exact Nat.le_of_lt (small1000 (by omega)), fun c3 hc3 => ?_⟩
  have s5 := same_new (o := .lst (ss.map V.int ++ fs.map V.int)) (Same.refl H4) hc3
  have k3 : IL (upd H4 c3 (.lst (ss.map V.int ++ fs.map V.int))) c3 (ss ++ fs) := by
    show upd _ _ _ c3 = _
    rw [upd_same, List.map_append]
  generalize upd H4 c3 (.lst (ss.map V.int ++ fs.map V.int)) = H5 at s5 k3 ⊢
  have s45 := s4.trans s5
  refine ⟨_, rfl, y, dy, _, rfl, s45 _ _ go, y, n2, ms2, ss2, rfl, hy.same s45, fun u2 H6 s6 nu2 hu2 => ?_⟩
  have s46 := s45.trans s6
  refine ⟨_, rfl, x, C, dx, _, _, rfl, s46 _ _ ho, R.cl, R.nL, fl_L _ _ _, ?_⟩
  refine ⟨u2, ss2, n, rfl, hu2, by omega, fun p7 H7 s7 np7 hp7 => ?_⟩
  have s47 := s46.trans s7
  refine ⟨c3, p7, _, _, rfl, rfl, s7 _ _ (s6 _ _ k3), hp7, by rw [List.length_map, List.length_map, List.length_append, List.length_map]; exact Nat.le_of_lt (small1000 (by omega)), fun c4 hc4 => ?_⟩
  have t8 := same_new (o := .lst ((ss ++ fs).map V.int ++ (ss2.map (· + n)).map V.int)) (Same.refl H7) hc4
  have k4 : IL (upd H7 c4 (.lst ((ss ++ fs).map V.int ++ (ss2.map (· + n)).map V.int))) c4 (ss ++ fs ++ ss2.map (· + n)) := by
    show upd _ _ _ c4 = _
    rw [upd_same, List.map_append (l₁ := ss ++ fs)]
  generalize upd H7 c4 (.lst ((ss ++ fs).map V.int ++ (ss2.map (· + n)).map V.int)) = H8 at t8 k4 ⊢
  have s8 := s47.trans t8
  have k2' := t8 _ _ (s7 _ _ (s6 _ _ (s5 _ _ k2)))
  try dsimp only [L2.start, List.set, List.map, List.append, List.replicate, List.length]
  refine ⟨_, rfl, x, C, dx, _, _, rfl, s8 _ _ ho, R.cl, R.nL, fl_L _ _ _, ?_⟩
  refine ⟨_, rfl, y, dy, _, rfl, s8 _ _ go, y, n2, ms2, ss2, rfl, hy.same s8, _, _, rfl, rfl, _, rfl, _, rfl, fun z dz nz nd ne => ?_⟩
  have s9 : Same H8 (upd (upd H8 dz (.own z)) z (.ins C dz [])) := same_new (same_new (Same.refl H8) nd) (by rw [upd_ne (Ne.symm ne)]; exact nz)
  refine ⟨z, dz, c2, c4, _, _, _, rfl, upd_same, s9 _ _ k2', s9 _ _ k4, good_join G G2 hz few, fun H9 row kp => ⟨rfl, ?_⟩⟩
  exact q z H9 (same_ins s8 nz nd kp) (row.mono fun c o e => ⟨o, s9 _ _ (s8 _ _ e)⟩)
end
end Cw
namespace Cw
open PySem L2
abbrev kinds3 : List V := [.str "none", .str "plain", .str "strict"]
/-- the marks between two ends -/
def cutM (ns : List Int) (b e : Int) : List Int := (ns.filter fun x => decide (b < x) && decide (x < e)).map (· - b)
theorem mem_cutM {ns : List Int} {b e x : Int} : x ∈ cutM ns b e ↔ x + b ∈ ns ∧ 0 < x ∧ x < e - b := by
  unfold cutM
  rw [List.mem_map]
  constructor
  · rintro ⟨y, hy, rfl⟩
    obtain ⟨h1, h2⟩ := List.mem_filter.mp hy
    simp only [Bool.and_eq_true, decide_eq_true_eq] at h2
    have z : y - b + b = y := by omega
    rw [z]
    exact ⟨h1, by omega, by omega⟩
  · rintro ⟨h1, h2, h3⟩
    refine ⟨x + b, List.mem_filter.mpr ⟨h1, ?_⟩, by omega⟩
    simp only [Bool.and_eq_true, decide_eq_true_eq]
    omega
theorem asc_cutM {ns : List Int} (h : Asc ns) (b e : Int) : Asc (cutM ns b e) := by
  unfold cutM
  rw [Asc, List.pairwise_map]
  exact (h.filter _).imp fun {a c} x => by omega
theorem good_part {n b e : Int} {ms ss : List Int} (G : Good n ms ss) (be : b < e) : Good (e - b) (cutM ms b e) (cutM ss b e) := by
  refine ⟨by omega, ?_, fun x hx => ?_, asc_cutM G.asc _ _, asc_cutM G.asc2 _ _, fun x hx => ?_⟩
  · unfold cutM
    rw [List.length_map]
    exact Nat.le_trans (List.length_filter_le _ _) G.len
  · have := mem_cutM.mp hx
    omega
  · have z := mem_cutM.mp hx
    exact mem_cutM.mpr ⟨G.sub _ z.1, z.2⟩
/-- a comprehension that takes some whole numbers of a list and changes them -/
theorem lc_fmI {K : PySem.W.Frag} {a D : Addr} {ns : List Int} {g : TG} {tt : TT} {te : TE} {vs : List Nat} {σ : St} {H1 : Hp} {Qd : Hp → Prop} (f : Int → Bool) (h : Int → Int)
    (ha : IL H1 a ns) (hD : H1 D = none) (few : ns.length ≤ 999)
    (step : ∀ (z : Int) (H : Hp) (A : V → Hp → Prop) (B : Hp → Prop), Same H1 H → (f z = true → A (.int (h z)) H) → (f z = false → B H) →
      g (.int z) (wipe σ vs) H fun σ2 H2 => wipe σ2 vs = wipe σ vs ∧ tt σ2 H2 fun b H3 => if b = true then te σ2 H3 fun y H4 => A y H4 else B H3)
    (fin : ∀ (H : Hp), Same H1 H → IL H D ((ns.filter f).map h) → Qd H) :
    ∃ W : Nat → Nat → Hp → Prop, (∃ m, W 0 m (upd H1 D (HO.lst []))) ∧ ∀ (i m : Nat) (H : Hp), W i m H → (Itl K a).stop i H ∧ Qd H ∨ (Itl K a).go i H ∧ ∃ Nx : Hp → Prop, (∀ H', Nx H' → ∃ m', m' < m ∧ W (i + 1) m' H') ∧
      ∀ (x : V) (H' : Hp), (Itl K a).yld i H x H' → g x (wipe σ vs) H' fun σ2 H2 => wipe σ2 vs = wipe σ vs ∧ tt σ2 H2 fun b H3 => if b = true then te σ2 H3 fun y H4 => ∃ acc, H4 D = some (HO.lst acc) ∧ acc.length < sizeLine ∧ Nx (upd H4 D (HO.lst (acc ++ [y]))) else Nx H3 := by
  refine lc_list (K := K) (a := a) (xs := ns.map V.int) (fun i H' => Same H1 H' ∧ IL H' D (((ns.take i).filter f).map h)) ⟨same_new (Same.refl H1) hD, upd_same⟩ (fun i H' _ z => SqL.of (z.1 _ _ ha)) ?_ ?_
  · rintro i x H' hx ⟨s1, hE⟩
    obtain ⟨z, rfl, hz⟩ := il_at hx
    have hil := (List.getElem?_eq_some_iff.mp hz).1
    have tk := take_fil hz f
    have ln : (((ns.take i).filter f).map h).length ≤ 999 := by
      have z1 := List.length_filter_le f (ns.take i)
      rw [List.length_take] at z1
      rw [List.length_map]
      omega
    refine step z H' _ _ s1 (fun c => ?_) (fun c => ?_)
    · refine ⟨_, hE, by rw [List.length_map]; exact small1000 (by omega), same_put s1 hD, ?_⟩
      show upd _ _ _ D = _
      rw [upd_same, ints_app, tk, if_pos c, List.map_append (f := h)]
      rfl
    · refine ⟨s1, ?_⟩
      show H' D = _
      rw [hE, tk, if_neg (by rw [c]; exact Bool.false_ne_true), List.append_nil]
  · rintro H ⟨s1, hE⟩
    rw [List.length_map, List.take_length] at hE
    exact fin H s1 hE
def spPart (C : Addr) : Sp := fun vs H Q _ => ∃ (x : Addr) (n b e : Int) (ms ss : List Int), vs = [.ref x, .int b, .int e] ∧ RowAt C H x n ms ss ∧ Good n ms ss ∧ 0 ≤ b ∧ b < e ∧ e ≤ n ∧ ∀ p H', Same H H' → RowNew C H H' p (e - b) (cutM ms b e) (cutM ss b e) → Q (.ref p) H'
section
variable {P : Program} {w : World} {K : PySem.W.Frag} {mg : Str → Option Value} {base : Heap}
theorem ok_join {f C fI fS pL fL pM fM pS fSs kn : Addr} {fd fdI fdS dL dM dS : FuncData} (F : Fun K "joined" "Row.joined" sJoin f fd) (R : Cl K mg C) (M : Mk K C fI) (Gs : Gets P w K mg base C pL fL pM fM pS fSs dL dM dS)
    (gN : mg "KINDS" = some (.ref kn)) (hN : ∀ H : Hp, SqT K H kn kinds3)
    (gS : mg "shifted" = some (.ref fS)) (kS : PySem.W.keepIn K (.ref fS) = true) (bS : Binds K fdS ["places", "number"] []) (GS : FnOk P w K mg base CX0 1 fS fdS ["places", "number"] spShift)
    (bI : Binds K fdI NI []) (GI : FnOk P w K mg base CX0 5 fI fdI NI (spInit C)) :
    FnOk P w K mg base CX0 7 f fd ["self", "other", "kind"] (spJoin C) := by
  refine F.ok scJo (fun vs H Q E h => ?_) (fun cdv A outer s H vs Q E hr h => ?_)
  · obtain ⟨x, y, n, n2, ms, ss, ms2, ss2, kd, rfl, _⟩ := h
    rfl
  · obtain ⟨x, y, n, n2, ms, ss, ms2, ss2, kd, rfl, hx, hy, G, G2, hk, few, q⟩ := h
    obtain ⟨tl, hTL, hQ⟩ := join_tail (P := P) (w := w) (K := K) (mg := mg) (base := base) R M Gs gS kS bS GS bI GI (f := f) (cdv := cdv) (outer := outer) (H0 := H) (E := E) hr
    refine ⟨_, pss_cons (ps_if (pt_cmpR (show OpR _ (compareOp .NotIn) (rIn K true) from op_notIn_seq) (pv 2) (pe_glob (by rfl) gN (v := .ref kn) rfl) (by rfl)) pss_never pss_nil)
      (pss_cons (ps_set (i := 3) scJo.nd rfl (Or.inl rfl) (pe_ifExp (pt_cmpR op_eq (pv 2) pe_str (nomark _)) (pe_lst pa_nil) (pe_lst (pa_cons (pe_fld (pv 0) rfl) pa_nil))))
      (pss_cons (ps_set (i := 4) scJo.nd rfl (Or.inl rfl) (pe_ifExp (pt_cmpR op_eq (pv 2) pe_str (nomark _)) (pv 3) (pe_lst pa_nil))) hTL)), ?_⟩
    obtain ⟨dx, l1, l2, ho, h1, h2⟩ := id hx
    have inK : (if true = true then !inV (.str kd) kinds3 else inV (.str kd) kinds3) = false := by rcases hk with rfl | rfl | rfl <;> decide +kernel
    refine ⟨_, rfl, kn, _, rfl, .inr (hN _), rfl, rfl, _, rfl, ?_⟩
    refine ifF inK ?_
    rcases hk with rfl | rfl | rfl
    · refine ⟨_, rfl, rfl, _, rfl, ?_⟩
      refine ifT (by decide +kernel) ?_
      refine ⟨Nat.zero_le _, fun b1 hb1 => ?_⟩
      have s1 := same_new (o := .lst []) (Same.refl H) hb1
      have y1 : IL (upd H b1 (.lst [])) b1 [] := upd_same
      generalize upd H b1 (.lst []) = H1 at s1 y1 ⊢
      refine ⟨_, rfl, rfl, _, rfl, ?_⟩
      refine ifF (by decide +kernel) ?_
      refine ⟨Nat.zero_le _, fun f1 hf1 => ?_⟩
      have s2 := same_new (o := .lst []) (Same.refl H1) hf1
      have y2 : IL (upd H1 f1 (.lst [])) f1 [] := upd_same
      generalize upd H1 f1 (.lst []) = H2 at s2 y2 ⊢
      have s12 := s1.trans s2
      refine hQ Q H2 x y b1 f1 n n2 ms ss ms2 ss2 [] [] _ (hx.same s12) (hy.same s12) G G2 (s2 _ _ y1) y2 (.inl ⟨rfl, rfl⟩) (by omega) fun p H' sx row => q p H' (s12.trans sx) ?_
      exact row.mono fun c o e => ⟨o, s12 _ _ e⟩
    · refine ⟨_, rfl, rfl, _, rfl, ?_⟩
      refine ifF (by decide +kernel) ?_
      refine ⟨_, rfl, x, C, dx, _, _, rfl, ho, R.cl, R.nL, fl_L _ _ _, (by show 1 ≤ sizeLine; decide), fun b1 hb1 => ?_⟩
      have s1 := same_new (o := .lst [.int n]) (Same.refl H) hb1
      have y1 : IL (upd H b1 (.lst [.int n])) b1 [n] := upd_same
      generalize upd H b1 (.lst [.int n]) = H1 at s1 y1 ⊢
      refine ⟨_, rfl, rfl, _, rfl, ?_⟩
      refine ifF (by decide +kernel) ?_
      refine ⟨Nat.zero_le _, fun f1 hf1 => ?_⟩
      have s2 := same_new (o := .lst []) (Same.refl H1) hf1
      have y2 : IL (upd H1 f1 (.lst [])) f1 [] := upd_same
      generalize upd H1 f1 (.lst []) = H2 at s2 y2 ⊢
      have s12 := s1.trans s2
      refine hQ Q H2 x y b1 f1 n n2 ms ss ms2 ss2 [n] [] _ (hx.same s12) (hy.same s12) G G2 (s2 _ _ y1) y2 (.inr (.inl ⟨rfl, rfl⟩)) (by omega) fun p H' sx row => q p H' (s12.trans sx) ?_
      exact row.mono fun c o e => ⟨o, s12 _ _ e⟩
    · refine ⟨_, rfl, rfl, _, rfl, ?_⟩
      refine ifF (by decide +kernel) ?_
      refine ⟨_, rfl, x, C, dx, _, _, rfl, ho, R.cl, R.nL, fl_L _ _ _, (by show 1 ≤ sizeLine; decide), fun b1 hb1 => ?_⟩
      have s1 := same_new (o := .lst [.int n]) (Same.refl H) hb1
      have y1 : IL (upd H b1 (.lst [.int n])) b1 [n] := upd_same
      generalize upd H b1 (.lst [.int n]) = H1 at s1 y1 ⊢
      refine ⟨_, rfl, rfl, _, rfl, ?_⟩
      refine ifT (by decide +kernel) ?_
      refine ⟨_, rfl, ?_⟩
      refine hQ Q H1 x y b1 b1 n n2 ms ss ms2 ss2 [n] [n] _ (hx.same s1) (hy.same s1) G G2 y1 y1 (.inr (.inr ⟨rfl, rfl⟩)) (by omega) fun p H' sx row => q p H' (s1.trans sx) ?_
      exact row.mono fun c o e => ⟨o, s1 _ _ e⟩
end
end Cw
namespace Cw
open PySem L2
abbrev sShown : Stmt := top 25
abbrev sDue : Stmt := top 26
/-- length, marks and strict marks as a list -/
def ShAt (H : Hp) (p : Addr) (n : Int) (ms ss : List Int) : Prop := ∃ a b, H p = some (.lst [.int n, .ref a, .ref b]) ∧ IL H a ms ∧ IL H b ss
def spShown (C : Addr) : Sp := fun vs H Q _ => ∃ (x : Addr) (n : Int) (ms ss : List Int), vs = [.ref x] ∧ RowAt C H x n ms ss ∧ ∀ p H', Same H H' → ShAt H' p n ms ss → Q (.ref p) H'
def spDue : Sp := fun vs H Q _ => ∃ (l : Addr) (n : Int) (ts : List Addr) (prs : List (Int × Int)), vs = [.int n, .ref l] ∧ H l = some (.lst (ts.map V.ref)) ∧ PrAt H ts prs ∧ prs.length ≤ 900 ∧ ∀ p H', Same H H' → ShAt H' p n (marksOf prs) (strictOf prs) → Q (.ref p) H'
section
variable {P : Program} {w : World} {K : PySem.W.Frag} {mg : Str → Option Value} {base : Heap}
abbrev NPa : List Str := ["self", "begin", "end", "marks", "strict", "mark"]
theorem scPa : FnScope NPa ["self", "begin", "end"] (defScope sPart) := ⟨rfl, rfl, rfl, by decide +kernel, rfl, by decide +kernel, by decide +kernel⟩
theorem ok_part {f C fI fP : Addr} {fd fdI fdP : FuncData} (F : Fun K "part" "Row.part" sPart f fd) (R : Cl K mg C) (M : Mk K C fI)
    (gP : mg "check_place" = some (.ref fP)) (kP : PySem.W.keepIn K (.ref fP) = true) (bP : Binds K fdP ["place", "low", "high"] []) (GP : FnOk P w K mg base CX0 2 fP fdP ["place", "low", "high"] spPl)
    (bI : Binds K fdI NI []) (GI : FnOk P w K mg base CX0 5 fI fdI NI (spInit C)) :
    FnOk P w K mg base CX0 7 f fd ["self", "begin", "end"] (spPart C) := by
  refine F.ok scPa (fun vs H Q E h => ?_) (fun cdv A outer s H vs Q E hr h => ?_)
  · obtain ⟨x, n, b, e, ms, ss, rfl, _⟩ := h
    rfl
  · obtain ⟨x, n, b, e, ms, ss, rfl, hx, G, b0, be, en, q⟩ := h
    have hr2 : Room 2 (A.deeper (PyProof.Rows.envOfC "Row.part" (defScope sPart) s.heap.objs.size f cdv)) := hr.mono (by decide)
    refine ⟨_, pss_cons (ps_expr (pe_call GP hr2 rfl gP kP bP .nil pass0 (pa_cons (pv 1) (pa_cons pe_int (pa_cons (pe_fld (pv 0) rfl) pa_nil)))))
      (pss_cons (ps_expr (pe_call GP hr2 rfl gP kP bP .nil pass0 (pa_cons (pv 2) (pa_cons (pe_op op_add (pv 1) pe_int) (pa_cons (pe_fld (pv 0) rfl) pa_nil)))))
      (pss_cons (ps_setLc (i := 3) (own := [("mark", 5)]) (g := gName 5) rfl scPa.nd rfl rfl (sw_true rfl rfl rfl (by decide +kernel)) (pi_list (pe_fld (pv 0) rfl)) (blkOk_by (own := [("mark", 5)]) (N := NPa) (sc := defScope sPart) (by decide +kernel))
          (fun _ _ _ _ _ => pg_name (i := 5) scPa.nd rfl (Or.inl rfl)) (fun _ _ _ _ _ => pts_one (pt_chain op_lt op_lt (pv 1) (pv 5) (pv 2))) (fun _ _ _ _ _ => pe_op op_sub (pv 5) (pv 1)))
      (pss_cons (ps_setLc (i := 4) (own := [("mark", 5)]) (g := gName 5) rfl scPa.nd rfl rfl (sw_true rfl rfl rfl (by decide +kernel)) (pi_list (pe_fld (pv 0) rfl)) (blkOk_by (own := [("mark", 5)]) (N := NPa) (sc := defScope sPart) (by decide +kernel))
          (fun _ _ _ _ _ => pg_name (i := 5) scPa.nd rfl (Or.inl rfl)) (fun _ _ _ _ _ => pts_one (pt_chain op_lt op_lt (pv 1) (pv 5) (pv 2))) (fun _ _ _ _ _ => pe_op op_sub (pv 5) (pv 1)))
      (pss_one (ps_ret (pe_make M GI hr rfl R.mgR bI .nil pass0 (pa_cons (pe_op op_sub (pv 2) (pv 1)) (pa_cons (pv 3) (pa_cons (pv 4) pa_nil))))))))), ?_⟩
    obtain ⟨dx, l1, l2, ho, h1, h2⟩ := id hx
    have lm := G.len
    have ls := G.len2
    refine ⟨_, rfl, _, rfl, x, C, dx, _, _, rfl, ho, R.cl, R.nL, fl_L _ _ _, b, 0, n, rfl, by omega, by omega, ?_⟩
    refine ⟨_, rfl, _, rfl, _, _, rfl, rfl, _, rfl, x, C, dx, _, _, rfl, ho, R.cl, R.nL, fl_L _ _ _, e, b + 1, n, rfl, by omega, by omega, ?_⟩
    have stepT : ∀ z : Int, (b < z ∧ z < e) → (decide (b < z) && decide (z < e)) = true := fun z h => by simp [h.1, h.2]
    have stepF : ∀ z : Int, ¬ (b < z ∧ z < e) → (decide (b < z) && decide (z < e)) = false := fun z h => by
      by_cases c : b < z
      · have : ¬ z < e := fun y => h ⟨c, y⟩
        simp [this]
      · simp [c]
    refine ⟨_, rfl, x, C, dx, _, _, rfl, ho, R.cl, R.nM, fl_M _ _ _, l1, rfl, ⟨_, SqL.of h1⟩, fun D hD => ?_⟩
    refine lc_fmI (fun z => decide (b < z) && decide (z < e)) (· - b) h1 hD (by omega) ?_ ?_
    · intro z H' A B s1 ka kb
      refine ⟨rfl, ?_⟩
      refine ⟨_, rfl, _, rfl, _, _, rfl, rfl, _, rfl, ?_⟩
      by_cases c1 : b < z
      · refine ifT (decide_eq_true c1) ?_
        refine ⟨_, rfl, _, _, rfl, rfl, _, rfl, ?_⟩
        by_cases c2 : z < e
        · refine ifT (decide_eq_true c2) ?_
          exact ⟨_, rfl, _, rfl, _, _, rfl, rfl, ka (stepT z ⟨c1, c2⟩)⟩
        · refine ifF (decide_eq_false c2) ?_
          exact kb (stepF z fun y => c2 y.2)
      · refine ifF (decide_eq_false c1) ?_
        refine ⟨_, rfl, ?_⟩
        exact ifF rfl (kb (stepF z fun y => c1 y.1))
    intro H1 s1 hD1
    try dsimp only [L2.start, List.set, List.map, List.append, List.replicate, List.length]
    refine ⟨_, rfl, x, C, dx, _, _, rfl, s1 _ _ ho, R.cl, R.nS, fl_S _ _ _, l2, rfl, ⟨_, SqL.of (s1 _ _ h2)⟩, fun D2 hD2 => ?_⟩
    refine lc_fmI (fun z => decide (b < z) && decide (z < e)) (· - b) (s1 _ _ h2) hD2 (by omega) ?_ ?_
    · intro z H' A B s1 ka kb
      refine ⟨rfl, ?_⟩
      refine ⟨_, rfl, _, rfl, _, _, rfl, rfl, _, rfl, ?_⟩
      by_cases c1 : b < z
      · refine ifT (decide_eq_true c1) ?_
        refine ⟨_, rfl, _, _, rfl, rfl, _, rfl, ?_⟩
        by_cases c2 : z < e
        · refine ifT (decide_eq_true c2) ?_
          exact ⟨_, rfl, _, rfl, _, _, rfl, rfl, ka (stepT z ⟨c1, c2⟩)⟩
        · refine ifF (decide_eq_false c2) ?_
          exact kb (stepF z fun y => c2 y.2)
      · refine ifF (decide_eq_false c1) ?_
        refine ⟨_, rfl, ?_⟩
        exact ifF rfl (kb (stepF z fun y => c1 y.1))
    intro H2 s2 hE2
    have s12 := s1.trans s2
    try dsimp only [L2.start, List.set, List.map, List.append, List.replicate, List.length]
    refine ⟨_, rfl, _, rfl, _, _, rfl, rfl, _, rfl, _, rfl, fun z dz nz nd ne => ?_⟩
    have s9 : Same H2 (upd (upd H2 dz (.own z)) z (.ins C dz [])) := same_new (same_new (Same.refl H2) nd) (by rw [upd_ne (Ne.symm ne)]; exact nz)
    refine ⟨z, dz, D, D2, _, _, _, rfl, upd_same, s9 _ _ (s2 _ _ hD1), s9 _ _ hE2, good_part G be, fun H9 row kp => ⟨rfl, ?_⟩⟩
    exact q z H9 (same_ins s12 nz nd kp) (row.mono fun c o y => ⟨o, s9 _ _ (s12 _ _ y)⟩)
theorem scSn : FnScope ["made"] ["made"] (defScope sShown) := ⟨rfl, rfl, rfl, by decide +kernel, rfl, by decide +kernel, by decide +kernel⟩
theorem ok_shown {f C pL fL pM fM pS fSs : Addr} {fd dL dM dS : FuncData} (F : Fun K "_law_shown" "_law_shown" sShown f fd) (R : Cl K mg C) (Gs : Gets P w K mg base C pL fL pM fM pS fSs dL dM dS) :
    FnOk P w K mg base CX0 3 f fd ["made"] (spShown C) := by
  refine F.ok scSn (fun vs H Q E h => ?_) (fun cdv A outer s H vs Q E hr h => ?_)
  · obtain ⟨x, n, ms, ss, rfl, _⟩ := h
    rfl
  · obtain ⟨x, n, ms, ss, rfl, hx, q⟩ := h
    refine ⟨_, pss_one (ps_ret (pe_lst (pa_cons (pe_prop (pv 0) R.cl Gs.hL Gs.GL hr Gs.bL .nil pass0 rfl) (pa_cons (pe_prop (pv 0) R.cl Gs.hM Gs.GM hr Gs.bM .nil pass0 rfl) (pa_cons (pe_prop (pv 0) R.cl Gs.hS Gs.GS hr Gs.bS .nil pass0 rfl) pa_nil))))), ?_⟩
    obtain ⟨dx, l1, l2, ho, h1, h2⟩ := id hx
    refine ⟨_, rfl, x, dx, _, rfl, ho, x, n, ms, ss, rfl, hx, ?_⟩
    refine ⟨_, rfl, x, dx, _, rfl, ho, x, n, ms, ss, rfl, hx, fun u H1 s1 nu hu => ?_⟩
    refine ⟨_, rfl, x, dx, _, rfl, s1 _ _ ho, x, n, ms, ss, rfl, hx.same s1, fun v H2 s2 nv hv => ?_⟩
    refine ⟨(by show 3 ≤ sizeLine; decide), fun p hp => ?_⟩
    have s3 := same_new (o := .lst [.int n, .ref u, .ref v]) (Same.refl H2) hp
    exact q p _ ((s1.trans s2).trans s3) ⟨u, v, upd_same, s3 _ _ (s2 _ _ hu), s3 _ _ hv⟩
abbrev NDu : List Str := ["length", "marked", "place", "sort"]
theorem scDu : FnScope NDu ["length", "marked"] (defScope sDue) := ⟨rfl, rfl, rfl, by decide +kernel, rfl, by decide +kernel, by decide +kernel⟩
theorem ok_due {f : Addr} {fd : FuncData} (F : Fun K "_law_due" "_law_due" sDue f fd) : FnOk P w K mg base CX0 1 f fd ["length", "marked"] spDue := by
  refine F.ok scDu (fun vs H Q E h => ?_) (fun cdv A outer s H vs Q E hr h => ?_)
  · obtain ⟨l, n, ts, prs, rfl, _⟩ := h
    rfl
  · obtain ⟨l, n, ts, prs, rfl, h2, h3, hl, q⟩ := h
    refine ⟨_, pss_one (ps_ret (pe_lst (pa_cons (pv 0)
      (pa_cons (pe_lc (own := [("place", 2), ("sort", 3)]) (g := gTup K 2 (gCons (gName 2) (gCons (gName 3) gNil))) (tt := tYes) rfl scDu.nd (pi_list (pv 1)) (blkOk_by (own := [("place", 2), ("sort", 3)]) (N := NDu) (sc := defScope sDue) (by decide +kernel))
          (fun _ _ _ _ _ => pg_tup rfl (pgs_cons (pg_name (i := 2) scDu.nd rfl (Or.inl rfl)) (pgs_cons (pg_name (i := 3) scDu.nd rfl (Or.inl rfl)) pgs_nil))) (fun _ _ _ _ _ => pts_nil) (fun _ _ _ _ _ => pv 2))
      (pa_cons (pe_lc (own := [("place", 2), ("sort", 3)]) (g := gTup K 2 (gCons (gName 2) (gCons (gName 3) gNil))) rfl scDu.nd (pi_list (pv 1)) (blkOk_by (own := [("place", 2), ("sort", 3)]) (N := NDu) (sc := defScope sDue) (by decide +kernel))
          (fun _ _ _ _ _ => pg_tup rfl (pgs_cons (pg_name (i := 2) scDu.nd rfl (Or.inl rfl)) (pgs_cons (pg_name (i := 3) scDu.nd rfl (Or.inl rfl)) pgs_nil))) (fun _ _ _ _ _ => pts_one (pt_cmpR op_eq (pv 3) pe_int (nomark _))) (fun _ _ _ _ _ => pv 2)) pa_nil))))), ?_⟩
    have lt := h3.len
    refine ⟨_, rfl, _, rfl, l, rfl, ⟨_, SqL.of h2⟩, fun D hD => ?_⟩
    refine lc_list (K := K) (a := l) (xs := ts.map V.ref) (fun i H' => Same H H' ∧ IL H' D (marksOf (prs.take i))) ⟨same_new (Same.refl H) hD, upd_same⟩ (fun i H' _ z => SqL.of (z.1 _ _ h2)) ?_ ?_
    · rintro i x H' hx ⟨s1, hD'⟩
      obtain ⟨u, z, rfl, hz, hu⟩ := h3.get hx
      have hil := ref_at hx
      refine ⟨u, _, rfl, SqT.of (s1 _ _ hu), rfl, _, _, rfl, _, _, rfl, rfl, rfl, ?_⟩
      unfold tYes
      refine iteT ?_
      refine ⟨_, rfl, _, hD', by rw [List.length_map, List.length_map, List.length_take]; exact small1000 (by omega), same_put s1 hD, ?_⟩
      show upd _ _ _ D = _
      rw [upd_same, ints_app, take_map2 hz]
    rintro H1 ⟨s1, hD1⟩
    rw [List.length_map, lt, List.take_length] at hD1
    refine ⟨_, rfl, l, rfl, ⟨_, SqL.of (s1 _ _ h2)⟩, fun D2 hD2 => ?_⟩
    refine lc_list (K := K) (a := l) (xs := ts.map V.ref) (fun i H' => Same H1 H' ∧ IL H' D2 (strictOf (prs.take i))) ⟨same_new (Same.refl H1) hD2, upd_same⟩ (fun i H' _ z => SqL.of (z.1 _ _ (s1 _ _ h2))) ?_ ?_
    · rintro i x H' hx ⟨s2, hE⟩
      obtain ⟨u, z, rfl, hz, hu⟩ := h3.get hx
      have hil := ref_at hx
      have tf : strictOf (prs.take (i + 1)) = strictOf (prs.take i) ++ (if z.2 = 2 then [z.1] else []) := by
        unfold strictOf
        rw [List.take_add_one, hz, List.filter_append, List.map_append]
        congr 1
        show (List.filter _ [z]).map _ = _
        rw [List.filter_cons]
        by_cases c : z.2 = 2 <;> simp [c]
      refine ⟨u, _, rfl, SqT.of (s2 _ _ (s1 _ _ hu)), rfl, _, _, rfl, _, _, rfl, rfl, rfl, ?_⟩
      refine ⟨_, rfl, rfl, _, rfl, ?_⟩
      by_cases c : z.2 = 2
      · refine ifT (by simp [c]) ?_
        refine ⟨_, rfl, _, hE, ?_, same_put s2 hD2, ?_⟩
        · have z1 := List.length_filter_le (fun q : Int × Int => decide (q.2 = 2)) (prs.take i)
          rw [List.length_take] at z1
          rw [List.length_map, List.length_map]
          exact small1000 (by omega)
        · show upd _ _ _ D2 = _
          rw [upd_same, ints_app, tf, if_pos c]
      · refine ifF (by simp [c]) ?_
        refine ⟨s2, ?_⟩
        show H' D2 = _
        rw [hE, tf, if_neg c, List.append_nil]
    rintro H2 ⟨s2, hE⟩
    rw [List.length_map, lt, List.take_length] at hE
    refine ⟨(by show 3 ≤ sizeLine; decide), fun p hp => ?_⟩
    have s3 := same_new (o := .lst [.int n, .ref D, .ref D2]) (Same.refl H2) hp
    exact q p _ ((s1.trans s2).trans s3) ⟨D, D2, upd_same, s3 _ _ (s2 _ _ hD1), s3 _ _ hE⟩
end
end Cw
namespace Cw
open PySem L2
abbrev sEnds : Stmt := top 27
theorem near_at {ks : List Int} {z : Int} (h0 : 0 ≤ z) (h1 : z < (ks.map V.int).length) : ∃ v, atI (ks.map V.int) z = some (V.int v) ∧ v ∈ ks := by
  obtain ⟨v, e, m⟩ := at_lt h0 h1
  obtain ⟨y, hy, rfl⟩ := List.mem_map.mp m
  exact ⟨y, e, hy⟩
theorem refs_no {ts : List Addr} : ∀ r m n : Int, HO.lst (ts.map V.ref) ≠ .lst [.int r, .int m, .int n] := fun r m n z => by
  injection z with z
  cases ts with
  | nil => cases z
  | cons t ts => cases z
/-- a comprehension that makes a whole number of each pair -/
theorem lc_pairI {K : PySem.W.Frag} {a D : Addr} {ts : List Addr} {prs : List (Int × Int)} {g : TG} {tt : TT} {te : TE} {vs : List Nat} {σ : St} {H1 : Hp} {Qd : Hp → Prop} (h : Int × Int → Int)
    (ha : H1 a = some (.lst (ts.map V.ref))) (hp : PrAt H1 ts prs) (hD : H1 D = none) (few : prs.length ≤ 999)
    (step : ∀ (u : Addr) (z : Int × Int) (H : Hp) (A : V → Hp → Prop) (B : Hp → Prop), Same H1 H → H u = some (.tup [.int z.1, .int z.2]) → A (.int (h z)) H →
      g (.ref u) (wipe σ vs) H fun σ2 H2 => wipe σ2 vs = wipe σ vs ∧ tt σ2 H2 fun b H3 => if b = true then te σ2 H3 fun y H4 => A y H4 else B H3)
    (fin : ∀ (H : Hp), Same H1 H → IL H D (prs.map h) → Qd H) :
    ∃ W : Nat → Nat → Hp → Prop, (∃ m, W 0 m (upd H1 D (HO.lst []))) ∧ ∀ (i m : Nat) (H : Hp), W i m H → (Itl K a).stop i H ∧ Qd H ∨ (Itl K a).go i H ∧ ∃ Nx : Hp → Prop, (∀ H', Nx H' → ∃ m', m' < m ∧ W (i + 1) m' H') ∧
      ∀ (x : V) (H' : Hp), (Itl K a).yld i H x H' → g x (wipe σ vs) H' fun σ2 H2 => wipe σ2 vs = wipe σ vs ∧ tt σ2 H2 fun b H3 => if b = true then te σ2 H3 fun y H4 => ∃ acc, H4 D = some (HO.lst acc) ∧ acc.length < sizeLine ∧ Nx (upd H4 D (HO.lst (acc ++ [y]))) else Nx H3 := by
  have lt := hp.len
  refine lc_list (K := K) (a := a) (xs := ts.map V.ref) (fun i H' => Same H1 H' ∧ IL H' D ((prs.take i).map h)) ⟨same_new (Same.refl H1) hD, upd_same⟩ (fun i H' _ z => SqL.of (z.1 _ _ ha)) ?_ ?_
  · rintro i x H' hx ⟨s1, hE⟩
    obtain ⟨u, z, rfl, hz, hu⟩ := hp.get hx
    have hil := ref_at hx
    refine step u z H' _ _ s1 (s1 _ _ hu) ?_
    refine ⟨_, hE, by rw [List.length_map, List.length_map, List.length_take]; exact small1000 (by omega), same_put s1 hD, ?_⟩
    show upd _ _ _ D = _
    rw [upd_same, ints_app, List.take_add_one, hz, List.map_append (f := h)]
    rfl
  · rintro H ⟨s1, hE⟩
    rw [List.length_map, lt, List.take_length] at hE
    exact fin H s1 hE
def spEnds : Sp := fun vs H Q _ => ∃ (a p : Addr) (k : Nat) (n : Int) (prs : List (Int × Int)), vs = [.ref a, .ref p] ∧ JarAt H a (k + 3) ∧ RawAt H p n prs ∧ GoodP n prs ∧ n ≤ 10000000000000000000000000000000 ∧
  ∀ (u : Addr) (H' : Hp) (lo hi : Int), 0 ≤ lo → lo < hi → hi ≤ n → H' u = some (.tup [.int lo, .int hi]) → JarAt H' a k → But H H' a → Q (.ref u) H'
section
variable {P : Program} {w : World} {K : PySem.W.Frag} {mg : Str → Option Value} {base : Heap}
abbrev NEn : List Str := ["jar", "raw", "length", "marked", "three", "near", "one", "two", "place", "sort"]
theorem scEn : FnScope NEn ["jar", "raw"] (defScope sEnds) := ⟨rfl, rfl, rfl, by decide +kernel, rfl, by decide +kernel, by decide +kernel⟩
theorem ok_ends {f fD : Addr} {fd fdD : FuncData} (F : Fun K "_law_ends" "_law_ends" sEnds f fd) (T : Bl mg)
    (gD : mg "_law_dip" = some (.ref fD)) (kD : PySem.W.keepIn K (.ref fD) = true) (bD : Binds K fdD ["jar", "many"] []) (GD : FnOk P w K mg base CX0 1 fD fdD ["jar", "many"] spDip) :
    FnOk P w K mg base CX0 2 f fd ["jar", "raw"] spEnds := by
  refine F.ok scEn (fun vs H Q E h => ?_) (fun cdv A outer s H vs Q E hr h => ?_)
  · obtain ⟨a, p, k, n, prs, rfl, _⟩ := h
    rfl
  · obtain ⟨a, p, k, n, prs, rfl, J, ⟨l, t, ts, hp, hl, hpr⟩, G, big, q⟩ := h
    refine ⟨_, pss_cons (ps_asg (pv 1) (pg_tup (by rfl) (pgs_cons (pg_name (i := 2) scEn.nd rfl (Or.inl rfl)) (pgs_cons (pg_name (i := 3) scEn.nd rfl (Or.inl rfl)) (pgs_cons (pg_name (i := 4) scEn.nd rfl (Or.inl rfl)) pgs_nil)))))
      (pss_cons (ps_set (i := 5) scEn.nd rfl (Or.inl rfl) (pe_op op_cat (pe_op op_cat (pe_lst (pa_cons pe_int (pa_cons (pv 2) pa_nil)))
          (pe_lc (own := [("place", 8), ("sort", 9)]) (g := gTup K 2 (gCons (gName 8) (gCons (gName 9) gNil))) (tt := tYes) rfl scEn.nd (pi_list (pv 3)) (blkOk_by (own := [("place", 8), ("sort", 9)]) (N := NEn) (sc := defScope sEnds) (by decide +kernel))
            (fun _ _ _ _ _ => pg_tup rfl (pgs_cons (pg_name (i := 8) scEn.nd rfl (Or.inl rfl)) (pgs_cons (pg_name (i := 9) scEn.nd rfl (Or.inl rfl)) pgs_nil))) (fun _ _ _ _ _ => pts_nil) (fun _ _ _ _ _ => pv 8)))
          (pe_lc (own := [("place", 8), ("sort", 9)]) (g := gTup K 2 (gCons (gName 8) (gCons (gName 9) gNil))) (tt := tYes) rfl scEn.nd (pi_list (pv 3)) (blkOk_by (own := [("place", 8), ("sort", 9)]) (N := NEn) (sc := defScope sEnds) (by decide +kernel))
            (fun _ _ _ _ _ => pg_tup rfl (pgs_cons (pg_name (i := 8) scEn.nd rfl (Or.inl rfl)) (pgs_cons (pg_name (i := 9) scEn.nd rfl (Or.inl rfl)) pgs_nil))) (fun _ _ _ _ _ => pts_nil) (fun _ _ _ _ _ => pe_op op_add (pv 8) pe_int))))
      (pss_cons (ps_par (i := 6) (j := 7) rfl scEn.nd rfl rfl (by decide) rfl rfl (pa_cons (pe_ix ix_list (pv 5) (pe_call GD hr rfl gD kD bD .nil pass0 (pa_cons (pv 0) (pa_cons (pe_callB call_len_seq (by rfl) T.len PySem.boot_len (pa_cons (pv 5) pa_nil)) pa_nil))) (fun _ _ => rfl))
          (pa_cons (pe_ix ix_list (pv 5) (pe_call GD hr rfl gD kD bD .nil pass0 (pa_cons (pv 0) (pa_cons (pe_callB call_len_seq (by rfl) T.len PySem.boot_len (pa_cons (pv 5) pa_nil)) pa_nil))) (fun _ _ => rfl)) pa_nil)) (by rfl))
      (pss_cons (ps_if (pt_cmpR op_eq (pv 6) (pv 7) (nomark _)) (pss_one (ps_par (i := 6) (j := 7) rfl scEn.nd rfl rfl (by decide) rfl rfl (pa_cons (pe_call GD hr rfl gD kD bD .nil pass0 (pa_cons (pv 0) (pa_cons (pv 2) pa_nil))) (pa_cons (pv 2) pa_nil)) (by rfl))) pss_nil)
      (pss_one (ps_ret (pe_tup (pa_cons (pe_callB (call_min2 rfl) (by rfl) T.min (by decide +kernel) (pa_cons (pv 6) (pa_cons (pv 7) pa_nil))) (pa_cons (pe_callB (call_max2 rfl) (by rfl) T.max (by decide +kernel) (pa_cons (pv 6) (pa_cons (pv 7) pa_nil))) pa_nil)))))))), ?_⟩
    have n1 := G.pos
    have pl := G.len
    refine ⟨_, rfl, p, _, rfl, SqT.of hp, rfl, _, _, rfl, _, _, rfl, _, _, rfl, rfl, ?_⟩
    try dsimp only [L2.start, List.set, List.map, List.append, List.replicate, List.length]
    refine ⟨_, rfl, (by show 2 ≤ sizeLine; decide), fun y1 hy1 => ?_⟩
    have s1 := same_new (o := .lst [V.int 0, V.int n]) (Same.refl H) hy1
    have k1 : IL (upd H y1 (.lst [V.int 0, V.int n])) y1 [0, n] := upd_same
    generalize upd H y1 (.lst [V.int 0, V.int n]) = H1 at s1 k1 ⊢
    refine ⟨_, rfl, l, rfl, ⟨_, SqL.of (s1 _ _ hl)⟩, fun D hD => ?_⟩
    refine lc_pairI (fun z => z.1) (s1 _ _ hl) (hpr.imp fun _ _ h => s1 _ _ h) hD (by omega) ?_ ?_
    · intro u z H' A B sx hu ka
      refine ⟨u, _, rfl, SqT.of hu, rfl, _, _, rfl, _, _, rfl, rfl, rfl, ?_⟩
      unfold tYes
      refine iteT ?_
      exact ⟨_, rfl, ka⟩
    intro H2 s2 k2
    have s12 := s1.trans s2
    refine ⟨y1, D, _, _, rfl, rfl, s2 _ _ k1, k2, by rw [List.length_map, List.length_map, List.length_map]; exact Nat.le_of_lt (small1000 (by show 2 + prs.length ≤ 1000; omega)), fun c1 hc1 => ?_⟩
    have s3 := same_new (o := .lst ([(0 : Int), n].map V.int ++ (prs.map fun z => z.1).map V.int)) s12 hc1
    have k3 : IL (upd H2 c1 (.lst ([(0 : Int), n].map V.int ++ (prs.map fun z => z.1).map V.int))) c1 ([0, n] ++ prs.map fun z => z.1) := by
      show upd _ _ _ c1 = _
      rw [upd_same, List.map_append (l₁ := [(0 : Int), n])]
    generalize upd H2 c1 (.lst ([(0 : Int), n].map V.int ++ (prs.map fun z => z.1).map V.int)) = H3 at s3 k3 ⊢
    refine ⟨_, rfl, l, rfl, ⟨_, SqL.of (s3 _ _ hl)⟩, fun D2 hD2 => ?_⟩
    refine lc_pairI (fun z => z.1 + 1) (s3 _ _ hl) (hpr.imp fun _ _ h => s3 _ _ h) hD2 (by omega) ?_ ?_
    · intro u z H' A B sx hu ka
      refine ⟨u, _, rfl, SqT.of hu, rfl, _, _, rfl, _, _, rfl, rfl, rfl, ?_⟩
      unfold tYes
      refine iteT ?_
      exact ⟨_, rfl, _, _, rfl, rfl, ka⟩
    intro H4 s4 k4
    have s34 := s3.trans s4
    refine ⟨c1, D2, _, _, rfl, rfl, s4 _ _ k3, k4, by rw [List.length_map, List.length_map, List.length_append, List.length_map, List.length_map]; exact Nat.le_of_lt (small1000 (by show 2 + prs.length + prs.length ≤ 1000; omega)), fun c2 hc2 => ?_⟩
    have s5 := same_new (o := .lst (([(0 : Int), n] ++ prs.map fun z => z.1).map V.int ++ (prs.map fun z => z.1 + 1).map V.int)) s34 hc2
    have k5 : IL (upd H4 c2 (.lst (([(0 : Int), n] ++ prs.map fun z => z.1).map V.int ++ (prs.map fun z => z.1 + 1).map V.int))) c2 (([0, n] ++ prs.map fun z => z.1) ++ prs.map fun z => z.1 + 1) := by
      show upd _ _ _ c2 = _
      rw [upd_same, List.map_append (l₁ := [(0 : Int), n] ++ prs.map fun z => z.1)]
    have nla : c2 ≠ a := (J.same s34).ne hc2 |>.symm
    generalize upd H4 c2 (.lst (([(0 : Int), n] ++ prs.map fun z => z.1).map V.int ++ (prs.map fun z => z.1 + 1).map V.int)) = H5 at s5 k5 ⊢
    have J5 := J.same s5
    have rng : ∀ v ∈ ([0, n] ++ prs.map fun z => z.1) ++ prs.map fun z => z.1 + 1, 0 ≤ v ∧ v ≤ n := fun v hv => by
      rcases List.mem_append.mp hv with hv | hv
      · rcases List.mem_append.mp hv with hv | hv
        · rcases List.mem_cons.mp hv with rfl | hv
          · omega
          · rw [List.mem_singleton.mp hv]; omega
        · obtain ⟨z, hz, rfl⟩ := List.mem_map.mp hv
          have := G.rng z hz
          omega
      · obtain ⟨z, hz, rfl⟩ := List.mem_map.mp hv
        have := G.rng z hz
        show 0 ≤ z.1 + 1 ∧ z.1 + 1 ≤ n
        omega
    have len : (([0, n] ++ prs.map fun z : Int × Int => z.1) ++ prs.map fun z : Int × Int => z.1 + 1).length = 2 + prs.length + prs.length := by
      rw [List.length_append, List.length_append, List.length_map, List.length_map]
      rfl
    generalize hks : (([0, n] ++ prs.map fun z => z.1) ++ prs.map fun z => z.1 + 1) = ks at k5 rng len
    try dsimp only [L2.start, List.set, List.map, List.append, List.replicate, List.length]
    have wl : ((ks.map V.int).length : Int) = 2 + prs.length + prs.length := by rw [List.length_map, len]; omega
    have big2 : ∀ z : Int, z ≤ 10000000000000000000000000000000 → z < 2 ^ 120 := fun z h => Int.lt_of_le_of_lt h (by decide)
    refine ⟨_, rfl, _, rfl, _, rfl, c2, _, rfl, .inl (SqL.of k5), ?_⟩
    refine ⟨a, k + 2, _, rfl, J5, by omega, big2 _ (by omega), fun v1 H6 a1 b1 J6 B6 => ?_⟩
    have k6 := B6 _ _ k5 nla
    obtain ⟨x1, e1, m1⟩ := near_at a1 b1
    refine ⟨c2, _, _, _, rfl, rfl, SqL.of k6, e1, ?_⟩
    refine ⟨_, rfl, _, rfl, _, rfl, c2, _, rfl, .inl (SqL.of k6), ?_⟩
    refine ⟨a, k + 1, _, rfl, J6, by omega, big2 _ (by omega), fun v2 H7 a2 b2 J7 B7 => ?_⟩
    have k7 := B7 _ _ k6 nla
    obtain ⟨x2, e2, m2⟩ := near_at a2 b2
    refine ⟨c2, _, _, _, rfl, rfl, SqL.of k7, e2, _, _, rfl, ?_⟩
    have B67 := (But.of s5).trans (B6.trans B7)
    have r1 := rng x1 m1
    have r2 := rng x2 m2
    try dsimp only [L2.start, List.set, List.map, List.append, List.replicate, List.length]
    have fin : ∀ (H8 : Hp) (z1 z2 : Int), JarAt H8 a k → But H H8 a → 0 ≤ z1 → z1 ≤ n → 0 ≤ z2 → z2 ≤ n → z1 ≠ z2 → ∀ u, H8 u = none →
        Q (.ref u) (upd H8 u (.tup [.int (if z2 < z1 then z2 else z1), .int (if z2 > z1 then z2 else z1)])) := fun H8 z1 z2 J8 B8 h1 h2 h3 h4 ne u hu =>
      q u _ (if z2 < z1 then z2 else z1) (if z2 > z1 then z2 else z1) (by split <;> omega) (by split <;> split <;> omega) (by split <;> omega) upd_same (J8.put (J8.ne hu)) (B8.new hu)
    refine ⟨_, rfl, _, rfl, rfl, _, rfl, ?_⟩
    refine ite2 (fun hv => ?_) (fun hv => ?_)
    · refine ⟨_, rfl, _, rfl, a, k, n, rfl, J7, by omega, big2 _ big, fun v3 H8 a3 b3 J8 B8 => ⟨_, rfl, _, _, rfl, ?_⟩⟩
      try dsimp only [L2.start, List.set, List.map, List.append, List.replicate, List.length]
      refine ⟨_, rfl, _, rfl, _, _, rfl, _, rfl, _, rfl, _, _, rfl, (by show 2 ≤ sizeLine; decide), fun u hu => ?_⟩
      exact fin H8 v3 n J8 (B67.trans B8) a3 (by omega) (by omega) (by omega) (by omega) u hu
    · have ne : x1 ≠ x2 := fun y => hv (by rw [y]; exact decide_eq_true rfl)
      refine ⟨_, rfl, _, rfl, _, _, rfl, _, rfl, _, rfl, _, _, rfl, (by show 2 ≤ sizeLine; decide), fun u hu => ?_⟩
      exact fin H7 x1 x2 (J7.mono (by omega)) B67 r1.1 r1.2 r2.1 r2.2 ne u hu
end
end Cw
namespace Cw
open PySem PySem.Spec PyProof.Rows L2
/-! ## defs of which it is known that no list's text is being made around them -/
structure FnG (P : Program) (w : World) (K : PySem.W.Frag) (mg : Str → Option Value) (base : Heap) (k : Nat) (f : Addr) (fd : FuncData) (ps : List Str) (sp : Sp) : Prop where
  len : ∀ vs H Q E, sp vs H Q E → vs.length = ps.length
  run : ∀ (A : Around) (outer : List Env) (s : Shared) (H : Hp) (args : Args) (us : List Value) (vs : List V) (Q : VK) (E : XK), Room k A → A.guards = some [] → Env0 P w K mg base A outer s H → BindsTo s fd args (ps.zip us) → Vals vs us → sp vs H Q E →
    codeAny (model P w) A (.call (.ref f) args) (CR CX0 outer P w H s Q E) s
theorem FnG.of {P : Program} {w : World} {K : PySem.W.Frag} {mg : Str → Option Value} {base : Heap} {k : Nat} {f : Addr} {fd : FuncData} {ps : List Str} {sp : Sp} (F : FnOk P w K mg base CX0 k f fd ps sp) : FnG P w K mg base k f fd ps sp :=
  ⟨F.len, fun A outer s H args us vs Q E hr _ => F.run A outer s H args us vs Q E hr⟩
section
variable {P : Program} {w : World} {K : PySem.W.Frag} {mg : Str → Option Value} {base : Heap}
theorem okG {x qual : Str} {st : Stmt} {f : Addr} {fd : FuncData} {N ps : List Str} {k : Nat} {sp : Sp} (F : Fun K x qual st f fd) (S : FnScope N ps (defScope st)) (len : ∀ vs H Q E, sp vs H Q E → vs.length = ps.length)
    (body : ∀ (cdv : Value) (A : Around) (outer : List Env) (s : Shared) (H : Hp) (vs : List V) (Q : VK) (E : XK), Room k (A.deeper (envOfC qual (defScope st) s.heap.objs.size f cdv)) → A.guards = some [] → sp vs H Q E →
      ∃ t, PSs (cxOf CX0 P w K mg base N qual (defScope st) f cdv A outer s H E).nox (defBody st) t ∧ t { nx := fun _ H' => Q .non H', rt := Q } (start N vs) H) : FnG P w K mg base (k + 1) f fd ps sp := by
  obtain ⟨oc, od, kV, doc, pm, an, cdv, ct, osl, rfl, look, hcd⟩ := F.ex
  refine ⟨len, fun A outer s H args us vs Q E room gu env bind rel prom => ?_⟩
  have here : K.In s.heap := env.mod.kin.keeps fun b o e => (env.bs b o e).1
  have free : s.heap.NoLimit := env.mod.nolimit.keeps fun b o e => (env.bs b o e).1
  have kinds : ∀ y ∈ ps.zip us, (defScope st).names.lookup y.1 = some .local ∨ ((defScope st).names.lookup y.1 = some .cell ∧ ((cellsFrom (s.heap.objs.size + 1) (defScope st).names []).lookup y.1).isSome = true) := fun y hy =>
    (S.par y.1 (List.of_mem_zip (show (y.1, y.2) ∈ ps.zip us from hy)).1).imp id fun z => ⟨z, PySem.W.cellsFrom_some _ _ _ (.inl z)⟩
  refine codeAny_call_function room.depth (here _ _ look) rfl S.co S.gen rfl (PySem.W.codeRec_of here hcd) (bind _ _ _ _ (wpAny_newFunctionEnv_cells S.kind kinds fun e he s1 ic => ?_))
  subst he
  obtain ⟨t, ht, hq⟩ := body cdv A outer s H vs Q E (room.deeper _) gu prom
  refine ⟨free.keeps ic.toInCall.keep, codeAny_func (wpAny_mono (ht.nox.run [] s1 (start N vs) H _ (inv_start S room.hd env (len _ _ _ _ prom) rel ic) hq) (fun fl s2 z => ?_) fun _ _ z => z)⟩
  cases fl with
  | ret u =>
    obtain ⟨v, _, H2, J, rv, qq⟩ := z
    exact ⟨v, H2, J.os, J.bare, J.base, J.hok, rv, qq⟩
  | next =>
    obtain ⟨_, H2, J, qq⟩ := z
    exact ⟨V.non, H2, J.os, J.bare, J.base, J.hok, rfl, qq⟩
  | brk =>
    obtain ⟨_, _, _, qq⟩ := z
    exact qq.elim
  | cont =>
    obtain ⟨_, _, _, qq⟩ := z
    exact qq.elim
end
section
variable {X : Cx} {k : Nat} {f : Addr} {fd : FuncData} {ps : List Str} {sp : Sp} {x : Str} {p pos : Pos} {e : Expr} {es : List Expr} {t : TA}
/-- a call of such a def where no list's text is being made -/
theorem pe_callG (F : FnG X.prog X.w X.K X.mg X.base k f fd ps sp) (room : Room k X.A) (gu : X.A.guards = some []) (gl : Gl X x) (hm : X.mg x = some (.ref f)) (kp : PySem.W.keepIn X.K (.ref f) = true) (bi : Binds X.K fd ps [])
    (ha : PA X (e :: es) t) (hdb : (x == ("__debug__" : Str)) = false := by decide) (he : starEach (e :: es) X.env = (false, eval e X.env) :: starEach es X.env := by rfl) (hpl : (backTo pos (starEach es X.env)).any (·.1) = false := by rfl) :
    PE X (.Call (.Name x p) (e :: es) [] pos) (tCall sp [] E0 t) := by
  refine ⟨fun pins s σ H Q I h => wpAny_Call_Name_kw (ld_glob I gl hm (PySem.W.callWith_K (h₀ := X.base) I.ok.mod.kin kp (thn (ha.run pos pins s σ H _ I h) fun us s1 ⟨vs, H1, I1, r, q⟩ => ⟨I1.kIn, ?_⟩) he hpl) hdb)⟩
  have q' : sp vs H1 Q E0 := by
    have z : sp (vs ++ []) H1 Q E0 := q
    rw [List.append_nil] at z
    exact z
  have many : us.length = ps.length := by rw [← r.length]; exact F.len _ _ _ _ q'
  refine wpAny_call (codeAny_mono (F.run X.A X.stack s1 H1 ⟨us, []⟩ us vs Q E0 room gu I1.env0 (by have z := bi s1 us I1.kIn (by rw [List.append_nil]; exact many); rw [List.append_nil] at z; exact z) r q') fun res s2 z => ?_)
  cases res with
  | error er => exact z.elim
  | ok fl =>
    cases fl with
    | ret u => exact I1.after z
    | next => exact z.elim
    | brk => exact z.elim
    | cont => exact z.elim
/-- repr of data: none of its lists is being shown around here -/
def rReprD (K : PySem.W.Frag) : List V → Hp → VK → Prop := fun xs H Q => ∃ a d, xs = [V.ref a] ∧ Dp K H (.ref a) d ∧ d.showable = true ∧ d.hasDict = false ∧ d.depth ≤ 60 ∧ d.shown.length ≤ sizeLine ∧ Q (.str d.shown) H
theorem call_reprD (gu : X.A.guards = some []) (hu : X.A.units + 64 < cLine) : CallR X (.builtin "repr") (rReprD X.K) := by
  intro pins s σ H xs us Q I r h
  obtain ⟨a, d, rfl, hd, sh, nd, dp, sz, q⟩ := h
  obtain ⟨u, rfl, rx⟩ := vals1 r
  obtain rfl : u = Value.ref a := rx
  obtain ⟨as, rd⟩ := Dp.reads I d (.ref a) (.ref a) hd rfl
  exact repr_of_reads' rd sh (fun z => by rw [nd] at z; cases z) gu (by omega) (fun _ _ e => e) (fun h' u tk keep => ⟨.str d.shown, H, I.kept keep, ⟨_, rfl⟩, q⟩) sz
end
end Cw
namespace Cw
open PySem PySem.Spec PyProof.Rows L2
/-- the law's call, its def being one of FnG; H tracks at most the script -/
theorem startG {P : Program} {w : World} {K : PySem.W.Frag} {mg mb : Str → Option Value} {k : Nat} {fa a : Addr} {fd : FuncData} {x : Str} {sp : Sp} {s1 : Shared} {vs : List Value} {ns : List Int}
    (kin : K.In s1.heap) (glob : s1.heap.Ns mainGlobals mg) (bns : s1.heap.Ns builtinsNs mb) (boot : ∀ y : Str, y ≠ "__name__" → mb y = bootBuiltins y) (lim : s1.heap.NoLimit) (gens : s1.gens = #[])
    (scr : s1.heap.get? a = some { cls := .type "list", data := .seq vs.toArray }) (room : Room k callerA)
    (F : ∀ base : Heap, K.In base → base.Ns mainGlobals mg → FnG P w K mg base k fa fd [x] sp) (bind : ∀ (s : Shared) (u : Value), BindsTo s fd ⟨[u], []⟩ [(x, u)])
    (H : Hp) (only : Only H) (prom : sp [.ref a] H (fun v _ => v = .bl true) E0) (hok : HOk P w H s1.heap) (at_ : ∀ b, H b ≠ none → b = a) (off : H a ≠ none → K.lookup a = none) :
    codeAny (model P w) callerA (.call (.ref fa) ⟨[.ref a], []⟩) (fun r s' => r = .ok (.ret (.bool true)) ∧ OldK s1.heap s'.heap ∧ s'.os = s1.os ∧ AllBare s'.gens) s1 := by
  have none_at : ∀ {b : Addr}, b ≠ a → H b = none := fun {b} nb => by
    cases z : H b with
    | none => rfl
    | some o => exact absurd (at_ b (by rw [z]; exact fun y => nomatch y)) nb
  have dicts : ∀ {b : Addr} {m : Str → Option Value}, s1.heap.Ns b m → (hidT s1.heap H).Ns b m := fun {b m} ⟨o, es, ep, e, d, r⟩ => by
    refine ⟨o, es, ep, hidT_get e (none_at fun z => ?_), d, r⟩
    rw [z, scr] at e
    cases e
    exact nomatch (show Data.seq vs.toArray _ = Data.dict es ep from d)
  have kin2 : K.In (hidT s1.heap H) := fun b o e => by
    refine hidT_get (kin b o e) ?_
    by_cases nb : b = a
    · subst nb
      cases z : H b with
      | none => rfl
      | some y =>
        rw [off (by rw [z]; exact fun y => nomatch y)] at e
        cases e
    · exact none_at nb
  obtain ⟨mc, lm1, lm2⟩ := lim
  have e0 : Env0 P w K mg (hidT s1.heap H) callerA [] s1 H := ⟨rfl, ⟨kin2, dicts glob, ⟨mb, dicts bns, boot⟩, ⟨mc, dicts lm1, lm2⟩⟩, fun _ _ e => of_hidT e, Nat.le_of_eq (hidT_size _ _), trivial, fun b hb => (List.not_mem_nil hb).elim, hok, .of_eq gens⟩
  refine codeAny_mono ((F _ kin2 (dicts glob)).run callerA [] s1 H ⟨[.ref a], []⟩ [.ref a] [.ref a] _ E0 room rfl e0 (bind s1 (.ref a)) (.cons rfl .nil) prom) fun res s2 z => ?_
  cases res with
  | error er => exact z.elim
  | ok fl =>
    cases fl with
    | next => exact z.elim
    | brk => exact z.elim
    | cont => exact z.elim
    | ret u =>
      obtain ⟨v, H2, os, bare, un, hok2, rel, q⟩ := z
      have qv : v = .bl true := q
      subst qv
      obtain rfl : u = Value.bool true := rel
      refine ⟨rfl, OldK.of_keep fun b o e => ?_, os, bare⟩
      rcases only b with nb | ⟨ob, xs, fz⟩
      · exact un.keep b o e nb (fun y => (List.not_mem_nil y).elim) (fun y => (List.not_mem_nil y).elim)
      · obtain ⟨h1, _⟩ := hok b _ fz
        obtain ⟨h2, _⟩ := hok2 b _ (un.frzs b ob _ fz)
        rw [e] at h1
        cases h1
        exact h2
theorem callG {P : Program} {w : World} {K : PySem.W.Frag} {mg mb : Str → Option Value} {k : Nat} {fa a : Addr} {fd : FuncData} {x : Str} {sp : Sp} {s1 : Shared} {vs : List Value} {ns : List Int}
    (kin : K.In s1.heap) (glob : s1.heap.Ns mainGlobals mg) (bns : s1.heap.Ns builtinsNs mb) (boot : ∀ y : Str, y ≠ "__name__" → mb y = bootBuiltins y) (lim : s1.heap.NoLimit) (gens : s1.gens = #[])
    (scr : s1.heap.get? a = some { cls := .type "list", data := .seq vs.toArray }) (nts : IntsAre vs ns) (few : ns.length ≤ sizeLine) (room : Room k callerA)
    (F : ∀ base : Heap, K.In base → base.Ns mainGlobals mg → FnG P w K mg base k fa fd [x] sp) (bind : ∀ (s : Shared) (u : Value), BindsTo s fd ⟨[u], []⟩ [(x, u)])
    (prom : ∀ H : Hp, Only H → SqL K H a (ns.map V.int) → sp [.ref a] H (fun v _ => v = .bl true) E0) :
    codeAny (model P w) callerA (.call (.ref fa) ⟨[.ref a], []⟩) (fun r s' => r = .ok (.ret (.bool true)) ∧ OldK s1.heap s'.heap ∧ s'.os = s1.os ∧ AllBare s'.gens) s1 := by
  have rel := vals_ints nts
  have many : vs.length = ns.length := nts.length
  cases hk : K.lookup a with
  | some o =>
    have e := kin a o hk
    rw [scr] at e
    cases e
    have on : Only fun _ => none := fun _ => .inl rfl
    exact startG (ns := ns) kin glob bns boot lim gens scr room F bind (fun _ => none) on (prom _ on (.inr ⟨_, vs.toArray, _, hk, rfl, rfl, rfl, by rw [List.size_toArray, many]; exact few, by simpa using rel⟩)) (fun _ _ z => nomatch z) (fun _ z => (z rfl).elim) fun z => (z rfl).elim
  | none =>
    obtain ⟨H, hH⟩ : ∃ H : Hp, H = fun b => if b = a then some (.frz { cls := .type "list", data := .seq vs.toArray } (.lst (ns.map V.int))) else none := ⟨_, rfl⟩
    have atA : H a = some (.frz { cls := .type "list", data := .seq vs.toArray } (.lst (ns.map V.int))) := by rw [hH]; exact if_pos rfl
    have els : ∀ b, b ≠ a → H b = none := fun b nb => by rw [hH]; exact if_neg nb
    have on : Only H := fun b => by
      by_cases nb : b = a
      · exact .inr ⟨_, _, by rw [nb]; exact atA⟩
      · exact .inl (els b nb)
    refine startG (ns := ns) kin glob bns boot lim gens scr room F bind H on (prom H on (.inl (.inr ⟨_, atA⟩))) (fun b u z => ?_) (fun b z => ?_) fun _ => hk
    · by_cases nb : b = a
      · subst nb
        rw [atA] at z
        cases z
        exact ⟨scr, by rw [List.length_map]; exact few, vs, _, rel, scr⟩
      · rw [els b nb] at z
        cases z
    · by_cases nb : b = a
      · exact nb
      · exact (z (els b nb)).elim
/-- the walk of a law whose def is one of FnG -/
theorem walkG {l : PySem.W.OpenLaw} {n k : Nat} {q : Program} {loose : List Str} {XP : (Str → Option Value) → Heap → Prop} {YP : World → Heap → Prop} {d : DefRec} {K : Params → PySem.W.Frag} {sp : World → Sp} {x : Str}
    (most : l.most = some n) (n2 : n ≤ sizeLine) (dfl : d.params.defaults = []) (room : Room k callerA) (hY : ∀ (w : World) (h : Heap), YP w h → (K w.params).In h)
    (F : ∀ (w : World) (mg : Str → Option Value) (fa : Addr) (h : Heap), (K w.params).In h → h.Ns mainGlobals mg → mg d.name = some (.ref fa) →
      ∃ fd : FuncData, (∀ (s : Shared) (u : Value), BindsTo s fd ⟨[u], []⟩ [(x, u)]) ∧ ∀ base : Heap, (K w.params).In base → base.Ns mainGlobals mg → FnG l.prog w (K w.params) mg base k fa fd [x] (sp w))
    (prom : ∀ (w : World) (H : Hp) (a : Addr) (ns : List Int), ns.length ≤ n → Only H → SqL (K w.params) H a (ns.map V.int) → sp w [.ref a] H (fun v _ => v = .bl true) E0) :
    PySem.W.WalkO q loose XP YP l.row.toRowW d [] (fun f vs => PySem.call f vs) := by
  refine Att.attach_call most dfl fun w s0 s1 mg mb fa o pm cd doc a vs ns G Y ho hd hcd hmg scr nts few gens => ?_
  have kin := hY w _ Y
  obtain ⟨fd, bi, FF⟩ := F w mg fa _ kin G.T.g hmg
  exact callG kin G.T.g G.T.b G.T.builtins G.T.nolimit gens scr nts (Nat.le_trans few n2) room FF bi fun H on hs => prom w H a ns few on hs
end Cw
namespace Cw
open PySem L2
/-! ## the text of length, marks and strict marks -/
theorem log_wide {i : Int} (h0 : 0 ≤ i) (h1 : i ≤ 1000000000000000000000000000000000) : i.natAbs.log2 < 1920 := by
  by_cases c : i.natAbs = 0
  · rw [c]; decide
  · have z : i.natAbs.log2 < 120 := (Nat.log2_lt c).mpr (by
      have e : (2 : Nat) ^ 120 = 1329227995784915872903807060280344576 := by decide +kernel
      rw [e]; omega)
    omega
theorem shown_wide {i : Int} (h0 : 0 ≤ i) (h1 : i ≤ 1000000000000000000000000000000000) : (PyData.shown (.int i)).length ≤ 1921 := by
  have e := int_text_length_le (k := 1920) (by decide) (log_wide h0 h1)
  simp only [PyData.shown]
  rw [PySem.ofString_length]
  exact e
def Wide (ns : List Int) : Prop := ns.length ≤ 900 ∧ ∀ x ∈ ns, 0 ≤ x ∧ x ≤ 1000000000000000000000000000000000
theorem all_show : ∀ {ns : List Int}, (∀ x ∈ ns, 0 ≤ x ∧ x ≤ 1000000000000000000000000000000000) → PyData.showableAll (ns.map PyData.int) = true ∧ PyData.hasDictAll (ns.map PyData.int) = false ∧ PyData.depthAll (ns.map PyData.int) ≤ 2 ∧
    ((PyData.shownAll (ns.map PyData.int)).map (·.length)).sum ≤ 1921 * ns.length ∧ (PyData.shownAll (ns.map PyData.int)).length = ns.length
  | [], _ => ⟨rfl, rfl, Nat.zero_le _, Nat.zero_le _, rfl⟩
  | x :: r, h => by
    obtain ⟨i1, i2, i3, i4, i5⟩ := all_show (ns := r) fun y hy => h y (List.mem_cons_of_mem _ hy)
    obtain ⟨x0, x1⟩ := h x (List.mem_cons_self ..)
    have sx := shown_wide x0 x1
    simp only [List.map_cons, PyData.showableAll, PyData.showable, PyData.hasDictAll, PyData.hasDict, PyData.depthAll, PyData.depth, PyData.shownAll, List.sum_cons, List.length_cons, i1, i2, i5, decide_eq_true (log_wide x0 x1)]
    refine ⟨rfl, rfl, by omega, ?_, trivial⟩
    omega
def Txt (K : PySem.W.Frag) (H : Hp) (p : Addr) (d : PyData) : Prop := Dp K H (.ref p) d ∧ d.showable = true ∧ d.hasDict = false ∧ d.depth ≤ 60 ∧ d.shown.length ≤ sizeLine
abbrev dSh (n : Int) (ms ss : List Int) : PyData := .list [.int n, .list (ms.map PyData.int), .list (ss.map PyData.int)]
theorem dp_sh {K : PySem.W.Frag} {H : Hp} {p : Addr} {n : Int} {ms ss : List Int} (h : ShAt H p n ms ss) : Dp K H (.ref p) (dSh n ms ss) := by
  obtain ⟨a, b, h1, h2, h3⟩ := h
  exact .lst (SqL.of h1) (.cons (.int _) (.cons (dp_il h2) (.cons (dp_il h3) .nil)))
theorem txt_sh {K : PySem.W.Frag} {H : Hp} {p : Addr} {n : Int} {ms ss : List Int} (h : ShAt H p n ms ss) (n0 : 0 ≤ n) (n1 : n ≤ 1000000000000000000000000000000000) (wm : Wide ms) (ws : Wide ss) : Txt K H p (dSh n ms ss) := by
  obtain ⟨a1, a2, a3, a4, a5⟩ := all_show wm.2
  obtain ⟨b1, b2, b3, b4, b5⟩ := all_show ws.2
  refine ⟨dp_sh h, ?_, ?_, ?_, ?_⟩
  · simp only [PyData.showable, PyData.showableAll, a1, b1, decide_eq_true (log_wide n0 n1), Bool.and_self]
  · simp only [PyData.hasDict, PyData.hasDictAll, a2, b2, Bool.or_self]
  · simp only [PyData.depth, PyData.depthAll]
    omega
  · have zm := listText_len_le (PyData.shownAll (ms.map PyData.int))
    have zs := listText_len_le (PyData.shownAll (ss.map PyData.int))
    have zn := shown_wide n0 n1
    have z := listText_len_le [PyData.shown (.int n), PyData.shown (.list (ms.map PyData.int)), PyData.shown (.list (ss.map PyData.int))]
    simp only [PyData.shown, PyData.shownAll] at z zn ⊢
    simp only [List.map_cons, List.map_nil, List.sum_cons, List.sum_nil, List.length_cons, List.length_nil] at z
    have w1 := wm.1
    have w2 := ws.1
    rw [sizeLine_eq]
    omega
theorem shape_sh (n : Int) (ms ss : List Int) : SeqAt.shaped (dSh n ms ss) = true := by
  have h1 : PyData.canLay0 (dSh n ms ss) = true := by
    have hm := SeqAt.canLay_of_shaped (shape_il ms)
    have hs := SeqAt.canLay_of_shaped (shape_il ss)
    unfold PyData.canLay0
    unfold PyData.canLayAll0
    unfold PyData.canLayAll0
    unfold PyData.canLayAll0
    unfold PyData.canLayAll0
    rw [hm, hs]
    rfl
  have dp : ∀ ns : List Int, PyData.depthAll (ns.map PyData.int) ≤ 2 := fun ns => by
    induction ns with
    | nil => exact Nat.zero_le _
    | cons x r ih =>
      rw [List.map_cons]
      simp only [PyData.depthAll, PyData.depth]
      omega
  have h2 : PyData.depth (dSh n ms ss) ≤ 64 := by
    have d1 := dp ms
    have d2 := dp ss
    simp only [PyData.depth, PyData.depthAll]
    omega
  unfold SeqAt.shaped
  rw [h1, decide_eq_true h2]
  rfl
/-! ## the mathematics of joining and parting -/
def kdS (k : Int) : Str := if k = 0 then "none" else if k = 1 then "plain" else "strict"
def btw (n k : Int) : List (Int × Int) := if k > 0 then [(n, k)] else []
abbrev joinP (n k : Int) (prs prs2 : List (Int × Int)) : List (Int × Int) := prs ++ btw n k ++ prs2.map fun q => (n + q.1, q.2)
theorem join_marks {n k : Int} {prs prs2 : List (Int × Int)} (hk : k = 0 ∨ k = 1 ∨ k = 2) : marksOf prs ++ (if kdS k = "none" then [] else [n]) ++ (marksOf prs2).map (· + n) = marksOf (joinP n k prs prs2) := by
  unfold joinP
  have e : (marksOf prs2).map (· + n) = marksOf (prs2.map fun q => (n + q.1, q.2)) := by
    simp only [marksOf, List.map_map]
    exact List.map_congr_left fun q _ => by show q.1 + n = n + q.1; omega
  rw [e]
  simp only [marksOf, List.map_append]
  congr 2
  rcases hk with rfl | rfl | rfl
  · rw [if_pos (by decide +kernel)]; rfl
  · rw [if_neg (by decide +kernel)]; rfl
  · rw [if_neg (by decide +kernel)]; rfl
theorem join_strict {n k : Int} {prs prs2 : List (Int × Int)} (hk : k = 0 ∨ k = 1 ∨ k = 2) : strictOf prs ++ (if kdS k = "strict" then [n] else []) ++ (strictOf prs2).map (· + n) = strictOf (joinP n k prs prs2) := by
  unfold joinP
  have e : (strictOf prs2).map (· + n) = strictOf (prs2.map fun q => (n + q.1, q.2)) := by
    simp only [strictOf, List.map_map, List.filter_map]
    exact List.map_congr_left fun q _ => by show q.1 + n = n + q.1; omega
  rw [e]
  simp only [strictOf, List.filter_append, List.map_append]
  congr 2
  rcases hk with rfl | rfl | rfl
  · rw [if_neg (by decide +kernel)]; rfl
  · rw [if_neg (by decide +kernel)]; rfl
  · rw [if_pos (by decide +kernel)]; rfl
theorem cut_front {n : Int} {as bs : List Int} (ha : ∀ x ∈ as, 1 ≤ x ∧ x ≤ n - 1) (hb : ∀ x ∈ bs, n ≤ x) : cutM (as ++ bs) 0 n = as := by
  unfold cutM
  rw [List.filter_append, List.filter_eq_self.mpr fun x hx => by have := ha x hx; simp; omega, List.filter_eq_nil_iff.mpr fun x hx => by have := hb x hx; simp; omega, List.append_nil]
  exact (List.map_congr_left fun x _ => by show x - 0 = x; omega).trans (List.map_id _)
theorem cut_back {n n2 : Int} {as cs : List Int} (ha : ∀ x ∈ as, x ≤ n) (hc : ∀ x ∈ cs, 1 ≤ x ∧ x ≤ n2 - 1) : cutM (as ++ cs.map (· + n)) n (n + n2) = cs := by
  unfold cutM
  rw [List.filter_append, List.filter_eq_nil_iff.mpr fun x hx => by have := ha x hx; simp; omega, List.nil_append, List.filter_eq_self.mpr fun x hx => by
    obtain ⟨y, hy, rfl⟩ := List.mem_map.mp hx
    have := hc y hy
    simp; omega, List.map_map]
  exact (List.map_congr_left fun x _ => by show x + n - n = x; omega).trans (List.map_id _)
abbrev partP (prs : List (Int × Int)) (lo hi : Int) : List (Int × Int) := (prs.filter fun q => decide (lo < q.1) && decide (q.1 < hi)).map fun q => (q.1 - lo, q.2)
theorem part_marks {prs : List (Int × Int)} {lo hi : Int} : cutM (marksOf prs) lo hi = marksOf (partP prs lo hi) := by
  simp only [cutM, marksOf, partP, List.filter_map, List.map_map]
  rfl
theorem part_strict {prs : List (Int × Int)} {lo hi : Int} : cutM (strictOf prs) lo hi = strictOf (partP prs lo hi) := by
  simp only [cutM, strictOf, partP, List.filter_map, List.map_map, List.filter_filter]
  have e : prs.filter (fun a => ((fun x => decide (lo < x) && decide (x < hi)) ∘ fun x => x.1) a && decide (a.2 = 2)) = prs.filter (fun a => ((fun q => decide (q.2 = 2)) ∘ fun q => (q.1 - lo, q.2)) a && (decide (lo < a.1) && decide (a.1 < hi))) := by
    refine List.filter_congr fun q _ => ?_
    show ((decide (lo < q.1) && decide (q.1 < hi)) && decide (q.2 = 2)) = (decide (q.2 = 2) && (decide (lo < q.1) && decide (q.1 < hi)))
    rw [Bool.and_comm]
  rw [e]
  rfl
end Cw
namespace Cw
open PySem L2
abbrev sRight : Stmt := top 28
abbrev sLaw : Stmt := top 29
theorem lc_prs {K : PySem.W.Frag} {a D : Addr} {ts : List Addr} {prs : List (Int × Int)} {g : TG} {tt : TT} {te : TE} {vs : List Nat} {σ : St} {H1 : Hp} {Qd : Hp → Prop} (f : Int × Int → Bool) (h : Int × Int → Int × Int)
    (ha : H1 a = some (.lst (ts.map V.ref))) (hp : PrAt H1 ts prs) (hD : H1 D = none) (few : prs.length ≤ 100)
    (step : ∀ (u : Addr) (z : Int × Int) (H : Hp) (A : V → Hp → Prop) (B : Hp → Prop), Same H1 H → H u = some (.tup [.int z.1, .int z.2]) →
      (f z = true → ∀ t, H t = none → A (.ref t) (upd H t (.tup [.int (h z).1, .int (h z).2]))) → (f z = false → B H) →
      g (.ref u) (wipe σ vs) H fun σ2 H2 => wipe σ2 vs = wipe σ vs ∧ tt σ2 H2 fun b H3 => if b = true then te σ2 H3 fun y H4 => A y H4 else B H3)
    (fin : ∀ (H : Hp) (us : List Addr), Same H1 H → H D = some (.lst (us.map V.ref)) → PrAt H us ((prs.filter f).map h) → Qd H) :
    ∃ W : Nat → Nat → Hp → Prop, (∃ m, W 0 m (upd H1 D (HO.lst []))) ∧ ∀ (i m : Nat) (H : Hp), W i m H → (Itl K a).stop i H ∧ Qd H ∨ (Itl K a).go i H ∧ ∃ Nx : Hp → Prop, (∀ H', Nx H' → ∃ m', m' < m ∧ W (i + 1) m' H') ∧
      ∀ (x : V) (H' : Hp), (Itl K a).yld i H x H' → g x (wipe σ vs) H' fun σ2 H2 => wipe σ2 vs = wipe σ vs ∧ tt σ2 H2 fun b H3 => if b = true then te σ2 H3 fun y H4 => ∃ acc, H4 D = some (HO.lst acc) ∧ acc.length < sizeLine ∧ Nx (upd H4 D (HO.lst (acc ++ [y]))) else Nx H3 := by
  have lt := hp.len
  refine lc_list (K := K) (a := a) (xs := ts.map V.ref) (fun i H' => ∃ us, Same H1 H' ∧ H' D = some (.lst (us.map V.ref)) ∧ PrAt H' us (((prs.take i).filter f).map h)) ⟨[], same_new (Same.refl H1) hD, upd_same, .nil⟩ (fun i H' _ ⟨us, z⟩ => SqL.of (z.1 _ _ ha)) ?_ ?_
  · rintro i x H' hx ⟨us, s1, hE, hq⟩
    obtain ⟨u, z, rfl, hz, hu⟩ := hp.get hx
    have hil := ref_at hx
    have tk : prs.take (i + 1) = prs.take i ++ [z] := by rw [List.take_add_one, hz]; rfl
    have ln : us.length ≤ 100 := by
      rw [hq.len, List.length_map]
      have z1 := List.length_filter_le f (prs.take i)
      rw [List.length_take] at z1
      omega
    refine step u z H' _ _ s1 (s1 _ _ hu) (fun c t ht => ?_) (fun c => ?_)
    · have nt : D ≠ t := ne_of_none hE ht
      refine ⟨_, (by rw [upd_ne nt]; exact hE), by rw [List.length_map]; exact small1000 (by omega), us ++ [t], same_put (same_new s1 ht) hD, by rw [upd_same, List.map_append]; rfl, ?_⟩
      rw [tk, List.filter_append, List.map_append]
      refine PrAt.app (hq.imp fun v p e => ?_) ?_
      · rw [upd_ne (ne_of e hE (by intro y; cases y)), upd_ne (ne_of_none e ht)]
        exact e
      · have e1 : List.map h (List.filter f [z]) = [h z] := by rw [List.filter_cons, if_pos c]; rfl
        rw [e1]
        refine .cons ?_ .nil
        rw [upd_ne (Ne.symm nt)]
        exact upd_same
    · refine ⟨us, s1, hE, ?_⟩
      rw [tk, List.filter_append, List.map_append]
      have e1 : List.filter f [z] = [] := by rw [List.filter_cons, if_neg (by rw [c]; exact Bool.false_ne_true)]; rfl
      rw [e1, List.map_nil, List.append_nil]
      exact hq
  · rintro H ⟨us, s1, hE, hq⟩
    rw [List.length_map, lt, List.take_length] at hq
    exact fin H us s1 hE hq

def RowOff (C : Addr) (H : Hp) (a p : Addr) (n : Int) (ms ss : List Int) : Prop := ∃ dx l1 l2, H p = some (.ins C dx (flds n l1 l2)) ∧ IL H l1 ms ∧ IL H l2 ss ∧ l1 ≠ a ∧ l2 ≠ a
theorem RowNew.off {C : Addr} {H H' : Hp} {p a : Addr} {k : Nat} {n : Int} {ms ss : List Int} (r : RowNew C H H' p n ms ss) (J : JarAt H a k) : RowOff C H' a p n ms ss := by
  obtain ⟨dx, l1, l2, h1, h2, h3, n1, n2⟩ := r
  exact ⟨dx, l1, l2, h1, h2, h3, (J.ne n1).symm, (J.ne n2).symm⟩
theorem RowOff.at {C : Addr} {H : Hp} {p a : Addr} {n : Int} {ms ss : List Int} (r : RowOff C H a p n ms ss) : RowAt C H p n ms ss := by
  obtain ⟨dx, l1, l2, h1, h2, h3, _⟩ := r
  exact ⟨dx, l1, l2, h1, h2, h3⟩
theorem RowOff.but {C : Addr} {H H' : Hp} {p a : Addr} {k : Nat} {n : Int} {ms ss : List Int} (r : RowOff C H a p n ms ss) (J : JarAt H a k) (B : But H H' a) : RowOff C H' a p n ms ss := by
  obtain ⟨dx, l1, l2, h1, h2, h3, n1, n2⟩ := r
  exact ⟨dx, l1, l2, B _ _ h1 (J.no h1 fun _ _ _ z => nomatch z), B _ _ h2 n1, B _ _ h3 n2, n1, n2⟩
theorem same_but {H0 H1 H' : Hp} {p : Addr} (s : Same H0 H1) (n : H0 p = none) (b : But H1 H' p) : Same H0 H' := fun c o e => b c o (s c o e) (ne_of_none e n)
/-- what is said of == of rows -/
structure Eqs (P : Program) (w : World) (K : PySem.W.Frag) (mg : Str → Option Value) (base : Heap) (C fE : Addr) (fdE : FuncData) : Prop where
  ok : FnOk P w K mg base CX0 1 fE fdE ["self", "other"] (spEq (Alike C))
  hm : PySem.W.mroIn K C (.type "object") = some true
  hn : PySem.W.findIn K (.ref C) "__ne__" = some (some (.builtin "object.__ne__"))
  hs : PySem.W.findIn K (.ref C) "__eq__" = some (some (.ref fE))
  hf : PySem.W.isFn K (.ref fE) = true
  hb : Binds K fdE ["self", "other"] []
theorem alike_ins {C : Addr} {H : Hp} {a b : Addr} {n : Int} {ms ss : List Int} (r : RowAt C H a n ms ss) (q : RowAt C H b n ms ss) : DIns C (Alike C) (.ref a) (.ref b) H := by
  obtain ⟨dx, l1, l2, h1, h2, h3⟩ := id r
  obtain ⟨dy, m1, m2, g1, g2, g3⟩ := id q
  exact ⟨a, b, dx, dy, _, _, rfl, rfl, h1, g1, n, ms, ss, r, q⟩
theorem RowOff.same {C : Addr} {H H' : Hp} {a p : Addr} {n : Int} {ms ss : List Int} (r : RowOff C H a p n ms ss) (s : Same H H') : RowOff C H' a p n ms ss := by
  obtain ⟨dx, l1, l2, h1, h2, h3, n1, n2⟩ := r
  exact ⟨dx, l1, l2, s _ _ h1, s _ _ h2, s _ _ h3, n1, n2⟩
theorem kds_at {k : Int} (h : k = 0 ∨ k = 1 ∨ k = 2) : atI kinds3 k = some (.str (kdS k)) := by
  rcases h with rfl | rfl | rfl <;> decide +kernel
theorem ShAt.same {H H' : Hp} {p : Addr} {n : Int} {ms ss : List Int} (h : ShAt H p n ms ss) (s : Same H H') : ShAt H' p n ms ss := by
  obtain ⟨a, b, h1, h2, h3⟩ := h
  exact ⟨a, b, s _ _ h1, s _ _ h2, s _ _ h3⟩
theorem eqv_sh (n : Int) (ms ss : List Int) : PyData.eqv (dSh n ms ss) (dSh n ms ss) = true := SeqAt.eqv_refl _ (SeqAt.canLay_of_shaped (shape_sh n ms ss))
theorem raw_but {H H' : Hp} {p a : Addr} {k : Nat} {n : Int} {prs : List (Int × Int)} (r : RawAt H p n prs) (J : JarAt H a k) (s : But H H' a) : RawAt H' p n prs := by
  obtain ⟨lp, t, ts, h1, h2, h3⟩ := r
  exact ⟨lp, t, ts, s _ _ h1 (J.no h1 fun _ _ _ z => nomatch z), s _ _ h2 (J.no h2 refs_no), h3.imp fun t p h => s _ _ h (J.no h fun _ _ _ z => nomatch z)⟩
theorem wide_good {n : Int} {ms ss : List Int} (G : Good n ms ss) (h : n ≤ 1000000000000000000000000000000000) : Wide ms ∧ Wide ss :=
  ⟨⟨by have := G.len; omega, fun x hx => by have := G.rng x hx; omega⟩, ⟨by have := G.len2; omega, fun x hx => by have := G.rng x (G.sub x hx); omega⟩⟩
theorem join_good {n n2 k : Int} {prs prs2 : List (Int × Int)} (G : GoodP n prs) (G2 : GoodP n2 prs2) (hk : k = 0 ∨ k = 1 ∨ k = 2) (l1 : prs.length ≤ 45) (l2 : prs2.length ≤ 45) : Good (n + n2) (marksOf (joinP n k prs prs2)) (strictOf (joinP n k prs prs2)) := by
  have z := good_join (bs := if kdS k = "none" then [] else [n]) (fs := if kdS k = "strict" then [n] else []) G.good G2.good (by
    rcases hk with rfl | rfl | rfl
    · rw [if_pos (by decide +kernel), if_neg (by decide +kernel)]; exact .inl ⟨rfl, rfl⟩
    · rw [if_neg (by decide +kernel), if_neg (by decide +kernel)]; exact .inr (.inl ⟨rfl, rfl⟩)
    · rw [if_neg (by decide +kernel), if_pos (by decide +kernel)]; exact .inr (.inr ⟨rfl, rfl⟩)) (by rw [List.length_map, List.length_map]; omega)
  rw [join_marks hk, join_strict hk] at z
  exact z
theorem sub_n {n : Int} {c : Bool} {x : Int} (h : x ∈ (if c = true then ([] : List Int) else [n]) ∨ x ∈ (if c = true then [n] else ([] : List Int))) : x = n := by
  cases c
  · rcases h with h | h
    · exact List.mem_singleton.mp h
    · cases h
  · rcases h with h | h
    · cases h
    · exact List.mem_singleton.mp h
theorem join_parts {n n2 k : Int} {prs prs2 : List (Int × Int)} (G : GoodP n prs) (G2 : GoodP n2 prs2) (hk : k = 0 ∨ k = 1 ∨ k = 2) :
    cutM (marksOf (joinP n k prs prs2)) 0 n = marksOf prs ∧ cutM (strictOf (joinP n k prs prs2)) 0 n = strictOf prs ∧ cutM (marksOf (joinP n k prs prs2)) n (n + n2) = marksOf prs2 ∧ cutM (strictOf (joinP n k prs prs2)) n (n + n2) = strictOf prs2 := by
  rw [← join_marks hk, ← join_strict hk]
  have g := G.good
  have g2 := G2.good
  have e1 : ∀ x ∈ (if kdS k = "none" then ([] : List Int) else [n]), x = n := fun x hx => by
    split at hx
    · cases hx
    · exact List.mem_singleton.mp hx
  have e2 : ∀ x ∈ (if kdS k = "strict" then [n] else ([] : List Int)), x = n := fun x hx => by
    split at hx
    · exact List.mem_singleton.mp hx
    · cases hx
  have up : ∀ {bs cs : List Int}, (∀ x ∈ bs, x = n) → (∀ x ∈ cs, 1 ≤ x) → ∀ x ∈ bs ++ cs.map (· + n), n ≤ x := fun {bs cs} h1 h2 x hx => by
    rcases List.mem_append.mp hx with hx | hx
    · rw [h1 x hx]; exact Int.le_refl _
    · obtain ⟨y, hy, rfl⟩ := List.mem_map.mp hx
      have := h2 y hy
      omega
  have dn : ∀ {as bs : List Int}, (∀ x ∈ as, x ≤ n - 1) → (∀ x ∈ bs, x = n) → ∀ x ∈ as ++ bs, x ≤ n := fun {as bs} h1 h2 x hx => by
    rcases List.mem_append.mp hx with hx | hx
    · have := h1 x hx; omega
    · rw [h2 x hx]; exact Int.le_refl _
  refine ⟨?_, ?_, ?_, ?_⟩
  · rw [List.append_assoc]
    exact cut_front g.rng (up e1 fun x hx => (g2.rng x hx).1)
  · rw [List.append_assoc]
    exact cut_front (fun x hx => g.rng x (g.sub x hx)) (up e2 fun x hx => (g2.rng x (g2.sub x hx)).1)
  · exact cut_back (dn (fun x hx => (g.rng x hx).2) e1) g2.rng
  · exact cut_back (dn (fun x hx => (g.rng x (g.sub x hx)).2) e2) fun x hx => g2.rng x (g2.sub x hx)
theorem kds_is (k : Int) : kdS k = "none" ∨ kdS k = "plain" ∨ kdS k = "strict" := by
  unfold kdS
  split
  · exact .inl rfl
  · split
    · exact .inr (.inl rfl)
    · exact .inr (.inr rfl)
def spRi (C : Addr) : Sp := fun vs H Q _ => ∃ (a p p2 : Addr) (k : Nat) (n n2 : Int) (prs prs2 : List (Int × Int)), vs = [.ref a, .ref p, .ref p2] ∧ JarAt H a (k + 9) ∧ RawAt H p n prs ∧ RawAt H p2 n2 prs2 ∧ GoodP n prs ∧ GoodP n2 prs2 ∧
  n ≤ 10000000000000000000000000000000 ∧ n2 ≤ 10000000000000000000000000000000 ∧ prs.length ≤ 45 ∧ prs2.length ≤ 45 ∧ ∀ H', JarAt H' a k → But H H' a → Q (.bl true) H'
section
variable {P : Program} {w : World} {K : PySem.W.Frag} {mg : Str → Option Value} {base : Heap}
abbrev NRi : List Str := ["jar", "raw", "second", "one", "two", "sort", "both", "between", "marked", "turn", "low_here", "high_here", "place", "own"]
theorem scRi : FnScope NRi ["jar", "raw", "second"] (defScope sRight) := ⟨rfl, rfl, rfl, by decide +kernel, rfl, by decide +kernel, by decide +kernel⟩
theorem ok_right {f C fH fE fS fU fJ fP fQ pL fL pM fM pS fSs : Addr} {fd fdH fdE fdS fdU fdJ fdP fdQ dL dM dS : FuncData} (F : Fun K "_law_right" "_law_right" sRight f fd) (T : Bl mg) (hRp : mg "repr" = none) (R : Cl K mg C) (Z : Eqs P w K mg base C fQ fdQ) (Gs : Gets P w K mg base C pL fL pM fM pS fSs dL dM dS)
    (gH : mg "_law_heap" = some (.ref fH)) (kH : PySem.W.keepIn K (.ref fH) = true) (bH : Binds K fdH ["raw"] []) (GH : FnOk P w K mg base CX0 7 fH fdH ["raw"] (spHeap C))
    (gE : mg "_law_ends" = some (.ref fE)) (kE : PySem.W.keepIn K (.ref fE) = true) (bE : Binds K fdE ["jar", "raw"] []) (GE : FnOk P w K mg base CX0 2 fE fdE ["jar", "raw"] spEnds)
    (gS : mg "_law_shown" = some (.ref fS)) (kS : PySem.W.keepIn K (.ref fS) = true) (bS : Binds K fdS ["made"] []) (GS : FnOk P w K mg base CX0 3 fS fdS ["made"] (spShown C))
    (gU : mg "_law_due" = some (.ref fU)) (kU : PySem.W.keepIn K (.ref fU) = true) (bU : Binds K fdU ["length", "marked"] []) (GU : FnOk P w K mg base CX0 1 fU fdU ["length", "marked"] spDue)
    (mJ : Meth K C "joined" fJ) (bJ : Binds K fdJ ["self", "other", "kind"] []) (GJ : FnOk P w K mg base CX0 7 fJ fdJ ["self", "other", "kind"] (spJoin C))
    (mP : Meth K C "part" fP) (bP : Binds K fdP ["self", "begin", "end"] []) (GP : FnOk P w K mg base CX0 7 fP fdP ["self", "begin", "end"] (spPart C)) :
    FnG P w K mg base 8 f fd ["jar", "raw", "second"] (spRi C) := by
  refine okG F scRi (fun vs H Q E h => ?_) (fun cdv A outer s H vs Q E hr hg h => ?_)
  · obtain ⟨a, p, p2, k, n, n2, prs, prs2, rfl, _⟩ := h
    rfl
  · obtain ⟨a, p, p2, k, n, n2, prs, prs2, rfl, J, hR, hR2, G, G2, big, big2, l1, l2, q⟩ := h
    have hr1 : Room 1 (A.deeper (PyProof.Rows.envOfC "_law_right" (defScope sRight) s.heap.objs.size f cdv)) := hr.mono (by decide)
    have hr2 : Room 2 (A.deeper (PyProof.Rows.envOfC "_law_right" (defScope sRight) s.heap.objs.size f cdv)) := hr.mono (by decide)
    have hr3 : Room 3 (A.deeper (PyProof.Rows.envOfC "_law_right" (defScope sRight) s.heap.objs.size f cdv)) := hr.mono (by decide)
    have hu : (A.deeper (PyProof.Rows.envOfC "_law_right" (defScope sRight) s.heap.objs.size f cdv)).units + 64 < cLine := Nat.lt_of_le_of_lt (by omega) hr.un
    have gu : (A.deeper (PyProof.Rows.envOfC "_law_right" (defScope sRight) s.heap.objs.size f cdv)).guards = some [] := hg
    refine ⟨_, pss_cons (ps_par (i := 3) (j := 4) rfl scRi.nd rfl rfl (by decide) rfl rfl (pa_cons (pe_call GH hr rfl gH kH bH .nil pass0 (pa_cons (pv 1) pa_nil)) (pa_cons (pe_call GH hr rfl gH kH bH .nil pass0 (pa_cons (pv 2) pa_nil)) pa_nil)) (by rfl))
      (pss_cons (ps_for PassesOwn.never rfl (pi_range1 (by rfl) T.range (pa_cons pe_int pa_nil)) (pg_name (i := 5) scRi.nd rfl (Or.inl rfl))
        (pss_cons (ps_set (i := 6) scRi.nd rfl (Or.inl rfl) (pe_meth (pv 3) R.cl mJ GJ hr bJ .nil pass0 (pa_cons (pv 4) (pa_cons (pe_ix ix_list (pe_lst (pa_cons pe_str (pa_cons pe_str (pa_cons pe_str pa_nil)))) (pv 5) (fun _ _ => rfl)) pa_nil))))
        (pss_cons (ps_set (i := 7) scRi.nd rfl (Or.inl rfl) (pe_ifExp (pt_cmpR op_gt (pv 5) pe_int (nomark _)) (pe_lst (pa_cons (pe_tup (pa_cons (pe_ix ix_tup (pv 1) pe_int (fun _ _ => rfl)) (pa_cons (pv 5) pa_nil))) pa_nil)) (pe_lst pa_nil)))
        (pss_cons (ps_set (i := 8) scRi.nd rfl (Or.inl rfl) (pe_op op_cat (pe_op op_cat (pe_ix ix_tup (pv 1) pe_int (fun _ _ => rfl)) (pv 7))
            (pe_lc (own := [("place", 12), ("own", 13)]) (g := gTup K 2 (gCons (gName 12) (gCons (gName 13) gNil))) (tt := tYes) rfl scRi.nd (pi_list (pe_ix ix_tup (pv 2) pe_int (fun _ _ => rfl))) (blkOk_by (own := [("place", 12), ("own", 13)]) (N := NRi) (sc := defScope sRight) (by decide +kernel))
              (fun _ _ _ _ _ => pg_tup rfl (pgs_cons (pg_name (i := 12) scRi.nd rfl (Or.inl rfl)) (pgs_cons (pg_name (i := 13) scRi.nd rfl (Or.inl rfl)) pgs_nil))) (fun _ _ _ _ _ => pts_nil) (fun _ _ _ _ _ => pe_tup (pa_cons (pe_op op_add (pe_ix (r := rIxT K) ix_tup (pv 1) pe_int (fun _ _ => rfl)) (pv 12)) (pa_cons (pv 13) pa_nil))))))
        (pss_cons (ps_if (pt_cmpR op_ne (pe_callB (call_reprD gu hu) (by rfl) hRp (by decide +kernel) (pa_cons (pe_call GS hr3 rfl gS kS bS .nil pass0 (pa_cons (pv 6) pa_nil)) pa_nil))
            (pe_callB (call_reprD gu hu) (by rfl) hRp (by decide +kernel) (pa_cons (pe_call GU hr1 rfl gU kU bU .nil pass0 (pa_cons (pe_op op_add (pe_ix ix_tup (pv 1) pe_int (fun _ _ => rfl)) (pe_ix ix_tup (pv 2) pe_int (fun _ _ => rfl))) (pa_cons (pv 8) pa_nil))) pa_nil)) (nomark _)) (pss_one (ps_ret pe_bl)) pss_nil)
        (pss_one (ps_if (PW.pt (pw_or (pt_cmpR (op_neG Z.ok Z.hm Z.hn Z.hs Z.hf Z.hb pass0 hr2) (pe_meth (pv 6) R.cl mP GP hr bP .nil pass0 (pa_cons pe_int (pa_cons (pe_ix ix_tup (pv 1) pe_int (fun _ _ => rfl)) pa_nil))) (pv 3) (nomark _))
            (pw_or1 (pt_cmpR (op_neG Z.ok Z.hm Z.hn Z.hs Z.hf Z.hb pass0 hr2) (pe_meth (pv 6) R.cl mP GP hr bP .nil pass0 (pa_cons (pe_ix ix_tup (pv 1) pe_int (fun _ _ => rfl)) (pa_cons (pe_prop (pv 6) R.cl Gs.hL Gs.GL hr2 Gs.bL .nil pass0 rfl) pa_nil))) (pv 4) (nomark _))))) (pss_one (ps_ret pe_bl)) pss_nil)))))))
      (pss_cons (ps_for PassesOwn.never rfl (pi_range1 (by rfl) T.range (pa_cons pe_int pa_nil)) (pg_name (i := 9) scRi.nd rfl (Or.inl rfl))
        (pss_cons (ps_asg (pe_call GE hr2 rfl gE kE bE .nil pass0 (pa_cons (pv 0) (pa_cons (pv 1) pa_nil))) (pg_tup (by rfl) (pgs_cons (pg_name (i := 10) scRi.nd rfl (Or.inr rfl)) (pgs_cons (pg_name (i := 11) scRi.nd rfl (Or.inr rfl)) pgs_nil))))
        (pss_cons (ps_setLc (i := 8) (own := [("place", 12), ("sort", 5)]) (g := gTup K 2 (gCons (gName 12) (gCons (gName 5) gNil))) rfl scRi.nd rfl rfl (sw_true rfl rfl rfl (by decide +kernel)) (pi_list (pe_ix ix_tup (pv 1) pe_int (fun _ _ => rfl))) (blkOk_by (own := [("place", 12), ("sort", 5)]) (N := NRi) (sc := defScope sRight) (by decide +kernel))
              (fun _ _ _ _ _ => pg_tup rfl (pgs_cons (pg_name (i := 12) scRi.nd rfl (Or.inl rfl)) (pgs_cons (pg_name (i := 5) scRi.nd rfl (Or.inl rfl)) pgs_nil))) (fun _ _ _ _ _ => pts_one (pt_chain op_lt op_lt (pv 10) (pv 12) (pv 11))) (fun _ _ _ _ _ => pe_tup (pa_cons (pe_op op_sub (pv 12) (pv 10)) (pa_cons (pv 5) pa_nil))))
        (pss_one (ps_if (pt_cmpR op_ne (pe_callB (call_reprD gu hu) (by rfl) hRp (by decide +kernel) (pa_cons (pe_call GS hr3 rfl gS kS bS .nil pass0 (pa_cons (pe_meth (pv 3) R.cl mP GP hr bP .nil pass0 (pa_cons (pv 10) (pa_cons (pv 11) pa_nil))) pa_nil)) pa_nil))
            (pe_callB (call_reprD gu hu) (by rfl) hRp (by decide +kernel) (pa_cons (pe_call GU hr1 rfl gU kU bU .nil pass0 (pa_cons (pe_op op_sub (pv 11) (pv 10)) (pa_cons (pv 8) pa_nil))) pa_nil)) (nomark _)) (pss_one (ps_ret pe_bl)) pss_nil)))))
      (pss_one (ps_ret (pe_and (pe_cmpR (op_eqD hu) (pe_call GS hr3 rfl gS kS bS .nil pass0 (pa_cons (pv 3) pa_nil)) (pe_call GU hr1 rfl gU kU bU .nil pass0 (pa_cons (pe_ix ix_tup (pv 1) pe_int (fun _ _ => rfl)) (pa_cons (pe_ix ix_tup (pv 1) pe_int (fun _ _ => rfl)) pa_nil))) (nomark _))
        (pe_one (pe_cmpR (op_eqD hu) (pe_call GS hr3 rfl gS kS bS .nil pass0 (pa_cons (pv 4) pa_nil)) (pe_call GU hr1 rfl gU kU bU .nil pass0 (pa_cons (pe_ix ix_tup (pv 2) pe_int (fun _ _ => rfl)) (pa_cons (pe_ix ix_tup (pv 2) pe_int (fun _ _ => rfl)) pa_nil))) (nomark _)))))))), ?_⟩
    refine ⟨_, rfl, p, n, prs, rfl, hR, G, fun x1 H1 s1 row1 => ?_⟩
    refine ⟨_, rfl, p2, n2, prs2, rfl, hR2.same s1, G2, fun x2 H2 s2 row2 => ⟨_, _, rfl, ?_⟩⟩
    have s12 := s1.trans s2
    have o1 := (row1.off J).same s2
    have o2 := row2.off (J.same s1)
    have J2 := J.same s12
    have B2 : But H H2 a := But.of s12
    have R1 := hR.same s12
    have R2 := hR2.same s12
    have GG := G.good
    have GG2 := G2.good
    clear s1 row1 s2 row2
    try dsimp only [L2.start, List.set, List.map, List.append, List.replicate, List.length]
    refine ⟨_, rfl, by decide, by decide, for_range (lo := 0) (n := 3) (fun i σ H' => ∃ v5 v6 v7 v8 : Option V, σ = [some (.ref a), some (.ref p), some (.ref p2), some (.ref x1), some (.ref x2), v5, v6, v7, v8, none, none, none, none, none] ∧ Same H2 H') ⟨none, none, none, none, rfl, Same.refl H2⟩ ?_ ?_⟩
    · rintro i σ H' hi ⟨v5, v6, v7, v8, rfl, s1⟩
      have hk : (0 : Int) + i = 0 ∨ (0 : Int) + i = 1 ∨ (0 : Int) + i = 2 := by omega
      generalize (0 : Int) + i = kk at hk ⊢
      try dsimp only [L2.start, List.set, List.map, List.append, List.replicate, List.length]
      obtain ⟨dx, m1, m2, ho, hm1, hm2, _, _⟩ := o1.same s1
      obtain ⟨lp, t, ts, hp0, hl0, hpr0⟩ := id R1
      obtain ⟨lq, t', ts', hq0, hm0, hqr0⟩ := id R2
      refine ⟨_, rfl, x1, dx, _, rfl, ho, fl_no _ _ _ (by decide +kernel) (by decide +kernel) (by decide +kernel), ?_⟩
      refine ⟨_, rfl, (by show 3 ≤ sizeLine; decide), fun L hL => ?_⟩
      have w1 := same_new (o := .lst kinds3) s1 hL
      refine ⟨_, rfl, L, _, _, _, rfl, rfl, SqL.of upd_same, kds_at hk, ?_⟩
      refine ⟨x1, x2, n, n2, _, _, _, _, kdS kk, rfl, o1.at.same w1, o2.at.same w1, GG, GG2, kds_is kk, by rw [List.length_map, List.length_map]; omega, fun x3 H3 w2 row3 => ?_⟩
      have w3 := w1.trans w2
      have r3 := row3.at
      rw [join_marks hk, join_strict hk] at r3
      clear row3 w2 w1 hL
      try dsimp only [L2.start, List.set, List.map, List.append, List.replicate, List.length]
      refine ⟨_, rfl, _, _, rfl, rfl, _, rfl, ?_⟩
      have hp3 := w3 _ _ hp0
      refine ite2 (fun hv => ?ga) (fun hv => ?gb)
      case' ga =>
        refine ⟨_, rfl, p, _, _, _, rfl, rfl, SqT.of hp3, at_of2 (j := 0) rfl rfl, _, rfl, (by show 2 ≤ sizeLine; decide), fun u hu' => ⟨(by show 1 ≤ sizeLine; decide), fun b1 hb1 => ?_⟩⟩
        have v1 := same_new (o := .tup [.int n, .int kk]) (Same.refl H3) hu'
        have v2 := same_new (o := .lst [.ref u]) v1 hb1
        have hb : ∃ tb : List Addr, upd (upd H3 u (.tup [.int n, .int kk])) b1 (.lst [.ref u]) b1 = some (.lst (tb.map V.ref)) ∧ PrAt (upd (upd H3 u (.tup [.int n, .int kk])) b1 (.lst [.ref u])) tb (btw n kk) := by
          refine ⟨[u], upd_same, ?_⟩
          unfold btw
          rw [if_pos (of_decide_eq_true hv)]
          exact .cons (same_new (Same.refl _) hb1 _ _ upd_same) .nil
        generalize upd (upd H3 u (.tup [.int n, .int kk])) b1 (.lst [.ref u]) = H5 at v2 hb ⊢
      case' gb =>
        refine ⟨Nat.zero_le _, fun b1 hb1 => ?_⟩
        have v2 := same_new (o := .lst []) (Same.refl H3) hb1
        have hb : ∃ tb : List Addr, upd H3 b1 (.lst []) b1 = some (.lst (tb.map V.ref)) ∧ PrAt (upd H3 b1 (.lst [])) tb (btw n kk) := by
          refine ⟨[], upd_same, ?_⟩
          unfold btw
          rw [if_neg (fun y => hv (decide_eq_true y))]
          exact .nil
        generalize upd H3 b1 (.lst []) = H5 at v2 hb ⊢
      all_goals
        obtain ⟨tb, hb1, hb2⟩ := hb
        try dsimp only [L2.start, List.set, List.map, List.append, List.replicate, List.length]
        have w5 := w3.trans v2
        have l3 := hb2.len
        have lb : (btw n kk).length ≤ 1 := by unfold btw; split <;> simp
        refine ⟨_, rfl, p, _, _, _, rfl, rfl, SqT.of (w5 _ _ hp0), at_of2 (j := 1) rfl rfl, _, rfl, ?_⟩
        have lts := hpr0.len
        refine ⟨lp, b1, _, _, rfl, rfl, w5 _ _ hl0, hb1, by rw [List.length_map, List.length_map]; exact Nat.le_of_lt (small1000 (by omega)), fun c1 hc1 => ?_⟩
        have v3 := same_new (o := .lst (ts.map V.ref ++ tb.map V.ref)) (Same.refl H5) hc1
        have kc1 : upd H5 c1 (.lst (ts.map V.ref ++ tb.map V.ref)) c1 = some (.lst ((ts ++ tb).map V.ref)) := by rw [upd_same, List.map_append]
        have kp1 : PrAt (upd H5 c1 (.lst (ts.map V.ref ++ tb.map V.ref))) (ts ++ tb) (prs ++ btw n kk) := PrAt.app (hpr0.imp fun _ _ h => v3 _ _ (w5 _ _ h)) (hb2.imp fun _ _ h => v3 _ _ h)
        generalize upd H5 c1 (.lst (ts.map V.ref ++ tb.map V.ref)) = H6 at v3 kc1 kp1 ⊢
        have w6 := w5.trans v3
        refine ⟨_, rfl, p2, _, _, _, rfl, rfl, SqT.of (w6 _ _ hq0), at_of2 (j := 1) rfl rfl, lq, rfl, ⟨_, SqL.of (w6 _ _ hm0)⟩, fun D hD => ?_⟩
        refine lc_prs (K := K) (fun _ => true) (fun q => (n + q.1, q.2)) (w6 _ _ hm0) (hqr0.imp fun _ _ h => w6 _ _ h) hD (by omega) ?_ ?_
        · intro u z H' A B sx hu ka kb
          refine ⟨u, _, rfl, SqT.of hu, rfl, _, _, rfl, _, _, rfl, rfl, rfl, ?_⟩
          unfold tYes
          refine iteT ?_
          exact ⟨_, rfl, p, _, _, _, rfl, rfl, SqT.of (sx _ _ (w6 _ _ hp0)), at_of2 (j := 0) rfl rfl, _, rfl, _, _, rfl, rfl, _, rfl, (by show 2 ≤ sizeLine; decide), fun t ht => ka rfl t ht⟩
        intro H7 us v4 h7 p7
        have tt : prs2.filter (fun _ => true) = prs2 := List.filter_eq_self.mpr fun _ _ => rfl
        rw [tt] at p7
        have l7 := p7.len
        rw [List.length_map] at l7
        refine ⟨c1, D, _, _, rfl, rfl, v4 _ _ kc1, h7, by rw [List.length_map, List.length_map, List.length_append]; exact Nat.le_of_lt (small1000 (by omega)), fun c2 hc2 => ?_⟩
        have v5 := same_new (o := .lst ((ts ++ tb).map V.ref ++ us.map V.ref)) (Same.refl H7) hc2
        have kc2 : upd H7 c2 (.lst ((ts ++ tb).map V.ref ++ us.map V.ref)) c2 = some (.lst ((ts ++ tb ++ us).map V.ref)) := by rw [upd_same, List.map_append (l₁ := ts ++ tb)]
        have kp2 : PrAt (upd H7 c2 (.lst ((ts ++ tb).map V.ref ++ us.map V.ref))) (ts ++ tb ++ us) (joinP n kk prs prs2) := PrAt.app (kp1.imp fun _ _ h => v5 _ _ (v4 _ _ h)) (p7.imp fun _ _ h => v5 _ _ h)
        generalize upd H7 c2 (.lst ((ts ++ tb).map V.ref ++ us.map V.ref)) = H8 at v5 kc2 kp2 ⊢
        have w38 : Same H3 H8 := v2.trans (v3.trans (v4.trans v5))
        have w8 := w3.trans w38
        try dsimp only [L2.start, List.set, List.map, List.append, List.replicate, List.length]
        clear hb1 hb2 kc1 kp1 h7 p7 v5 v4 v3 hD hc2
        have gj := join_good G G2 hk l1 l2
        have np1 := G.pos
        have np2 := G2.pos
        obtain ⟨wm, ws⟩ := wide_good gj (by omega)
        have lj : (joinP n kk prs prs2).length ≤ 900 := by
          have z := gj.len
          rw [List.length_map] at z
          omega
        refine ⟨_, rfl, x3, n + n2, _, _, rfl, r3.same w38, fun q1 H9 v6 sh1 => ?_⟩
        obtain ⟨z1, z2, z3, z4, z5⟩ := txt_sh (K := K) sh1 (by omega) (by omega) wm ws
        refine ⟨q1, _, rfl, z1, z2, z3, z4, z5, ?_⟩
        clear z1 z2 z3 z4 z5
        have w9 := w8.trans v6
        refine ⟨_, rfl, p, _, _, _, rfl, rfl, SqT.of (w9 _ _ hp0), at_of2 (j := 0) rfl rfl, _, rfl, p2, _, _, _, rfl, rfl, SqT.of (w9 _ _ hq0), at_of2 (j := 0) rfl rfl, _, _, rfl, rfl, _, rfl, ?_⟩
        refine ⟨c2, n + n2, _, _, rfl, v6 _ _ kc2, kp2.imp fun _ _ h => v6 _ _ h, lj, fun q2 H10 v7 sh2 => ?_⟩
        obtain ⟨z1, z2, z3, z4, z5⟩ := txt_sh (K := K) sh2 (by omega) (by omega) wm ws
        refine ⟨q2, _, rfl, z1, z2, z3, z4, z5, ?_⟩
        clear z1 z2 z3 z4 z5
        refine ⟨rfl, _, rfl, ?_⟩
        refine ifF (by simp) ?_
        have w10 := w9.trans v7
        have w310 := (w38.trans v6).trans v7
        obtain ⟨c1', c2', c3', c4'⟩ := join_parts G G2 hk
        obtain ⟨dy, y1, y2, hy0, _, _⟩ := (id r3).same w310
        refine ⟨_, rfl, x3, dy, _, rfl, hy0, fl_no _ _ _ (by decide +kernel) (by decide +kernel) (by decide +kernel), ?_⟩
        refine ⟨_, rfl, p, _, _, _, rfl, rfl, SqT.of (w10 _ _ hp0), at_of2 (j := 0) rfl rfl, ?_⟩
        refine ⟨x3, n + n2, 0, n, _, _, rfl, r3.same w310, gj, by omega, by omega, by omega, fun x4 H11 v8 row4 => ?_⟩
        have r4 := row4.at
        rw [c1', c2', Int.sub_zero] at r4
        have w11 := w10.trans v8
        refine ⟨_, rfl, alike_ins r4 (o1.at.same w11), fun H12 e12 => ⟨_, rfl, ?_⟩⟩
        refine ifF rfl ?_
        have v9 : Same H11 H12 := fun c o h => e12 c o h
        have w12 := w11.trans v9
        have w312 := (w310.trans v8).trans v9
        obtain ⟨dz, y1', y2', hz0, _, _⟩ := (id r3).same w312
        refine ⟨_, rfl, x3, dz, _, rfl, hz0, fl_no _ _ _ (by decide +kernel) (by decide +kernel) (by decide +kernel), ?_⟩
        refine ⟨_, rfl, p, _, _, _, rfl, rfl, SqT.of (w12 _ _ hp0), at_of2 (j := 0) rfl rfl, _, rfl, x3, dz, _, rfl, hz0, x3, n + n2, _, _, rfl, r3.same w312, ?_⟩
        refine ⟨x3, n + n2, n, n + n2, _, _, rfl, r3.same w312, gj, by omega, by omega, by omega, fun x5 H13 v10 row5 => ?_⟩
        have r5 := row5.at
        rw [c3', c4', show n + n2 - n = n2 by omega] at r5
        have w13 := w12.trans v10
        refine ⟨_, rfl, alike_ins r5 (o2.at.same w13), fun H14 e14 => ⟨_, rfl, ?_⟩⟩
        refine ifF rfl ?_
        exact ⟨_, _, _, _, rfl, fun c o h => e14 c o (w13 c o h)⟩
    · rintro σ H' ⟨v5, v6, v7, v8, rfl, s1⟩
      refine ⟨_, rfl, by decide, by decide, for_range (lo := 0) (n := 3) (fun i σ H'' => ∃ v5 v6 v7 v8 v9 v10 v11 : Option V, σ = [some (.ref a), some (.ref p), some (.ref p2), some (.ref x1), some (.ref x2), v5, v6, v7, v8, v9, v10, v11, none, none] ∧
        JarAt H'' a (k + 3 * (3 - i)) ∧ But H H'' a ∧ RowOff C H'' a x1 n (marksOf prs) (strictOf prs) ∧ RowOff C H'' a x2 n2 (marksOf prs2) (strictOf prs2) ∧ RawAt H'' p n prs ∧ RawAt H'' p2 n2 prs2)
        ⟨_, _, _, _, _, _, _, rfl, (J2.same s1).mono (by omega), B2.trans (But.of s1), o1.same s1, o2.same s1, R1.same s1, R2.same s1⟩ ?_ ?_⟩
      · rintro i σ H3 hi ⟨v5, v6, v7, v8, v9, v10, v11, rfl, J3, B3, O1, O2, A1, A2⟩
        have Jd : JarAt H3 a (k + 3 * (3 - (i + 1)) + 3) := J3.mono (by omega)
        generalize k + 3 * (3 - (i + 1)) = kk at Jd ⊢
        try dsimp only [L2.start, List.set, List.map, List.append, List.replicate, List.length]
        refine ⟨_, rfl, _, rfl, a, p, kk, n, prs, rfl, Jd, A1, G, big, fun u H4 lo hi lo0 lohi hin hu4 J4 B4 => ?_⟩
        refine ⟨u, _, rfl, SqT.of hu4, rfl, _, _, rfl, _, _, rfl, rfl, ?_⟩
        have P1 := O1.but Jd B4
        have P2 := O2.but Jd B4
        have D1 := raw_but A1 Jd B4
        have D2 := raw_but A2 Jd B4
        try dsimp only [L2.start, List.set, List.map, List.append, List.replicate, List.length]
        obtain ⟨lp, t, ts, hp, hl, hpr⟩ := id D1
        refine ⟨_, rfl, p, _, _, _, rfl, rfl, SqT.of hp, at_of2 (j := 1) rfl rfl, lp, rfl, ⟨_, SqL.of hl⟩, fun D hD => ?_⟩
        refine lc_prs (K := K) (fun q => decide (lo < q.1) && decide (q.1 < hi)) (fun q => (q.1 - lo, q.2)) hl hpr hD (by omega) ?_ ?_
        · intro u z H' A B sx hu ka kb
          refine ⟨u, _, rfl, SqT.of hu, rfl, _, _, rfl, _, _, rfl, rfl, rfl, ?_⟩
          refine ⟨_, rfl, _, rfl, _, _, rfl, rfl, _, rfl, ?_⟩
          by_cases c1 : lo < z.1
          · refine ifT (decide_eq_true c1) ?_
            refine ⟨_, rfl, _, _, rfl, rfl, _, rfl, ?_⟩
            by_cases c2 : z.1 < hi
            · refine ifT (decide_eq_true c2) ?_
              exact ⟨_, rfl, _, rfl, _, _, rfl, rfl, _, rfl, (by show 2 ≤ sizeLine; decide), fun t ht => ka (by simp [c1, c2]) t ht⟩
            · refine ifF (decide_eq_false c2) ?_
              exact kb (by simp [c2])
          · refine ifF (decide_eq_false c1) ?_
            exact ⟨_, rfl, ifF rfl (kb (by simp [c1]))⟩
        intro H5 us v1 h5 p5
        try dsimp only [L2.start, List.set, List.map, List.append, List.replicate, List.length]
        obtain ⟨dx, m1, m2, ho, hm1, hm2, _, _⟩ := P1.same v1
        refine ⟨_, rfl, x1, dx, _, rfl, ho, fl_no _ _ _ (by decide +kernel) (by decide +kernel) (by decide +kernel), ?_⟩
        refine ⟨_, rfl, _, rfl, x1, n, lo, hi, _, _, rfl, (P1.same v1).at, GG, lo0, lohi, hin, fun x4 H6 v2 row4 => ?_⟩
        have r4 := row4.at
        rw [part_marks, part_strict] at r4
        have gp := good_part GG lohi
        rw [part_marks, part_strict] at gp
        obtain ⟨wm, ws⟩ := wide_good gp (by omega)
        have lj : (partP prs lo hi).length ≤ 900 := by
          have z := gp.len
          rw [List.length_map] at z
          omega
        refine ⟨x4, hi - lo, _, _, rfl, r4, fun q1 H7 v3 sh1 => ?_⟩
        obtain ⟨z1, z2, z3, z4, z5⟩ := txt_sh (K := K) sh1 (by omega) (by omega) wm ws
        refine ⟨q1, _, rfl, z1, z2, z3, z4, z5, ?_⟩
        clear z1 z2 z3 z4 z5
        refine ⟨_, rfl, _, rfl, _, _, rfl, rfl, _, rfl, D, hi - lo, us, partP prs lo hi, rfl, v3 _ _ (v2 _ _ h5), p5.imp fun _ _ h => v3 _ _ (v2 _ _ h), lj, fun q2 H8 v4 sh2 => ?_⟩
        obtain ⟨z1, z2, z3, z4, z5⟩ := txt_sh (K := K) sh2 (by omega) (by omega) wm ws
        refine ⟨q2, _, rfl, z1, z2, z3, z4, z5, ?_⟩
        clear z1 z2 z3 z4 z5
        refine ⟨rfl, _, rfl, ?_⟩
        refine ifF (by simp) ?_
        have vv : Same H4 H8 := v1.trans (v2.trans (v3.trans v4))
        exact ⟨_, _, _, _, _, _, _, rfl, J4.same vv, (B3.trans B4).trans (But.of vv), P1.same vv, P2.same vv, D1.same vv, D2.same vv⟩
      · rintro σ H3 ⟨v5, v6, v7, v8, v9, v10, v11, rfl, J3, B3, O1, O2, A1, A2⟩
        obtain ⟨lp, t, ts, hp, hl, hpr⟩ := id A1
        obtain ⟨lq, t', ts', hq, hm, hqr⟩ := id A2
        refine ⟨_, rfl, x1, n, _, _, rfl, O1.at, fun q1 H4 w4 sh1 => ?_⟩
        refine ⟨_, rfl, p, _, _, _, rfl, rfl, SqT.of (w4 _ _ hp), at_of2 (j := 0) rfl rfl, _, rfl, p, _, _, _, rfl, rfl, SqT.of (w4 _ _ hp), at_of2 (j := 1) rfl rfl, ?_⟩
        refine ⟨lp, n, ts, prs, rfl, w4 _ _ hl, hpr.imp fun _ _ h => w4 _ _ h, by omega, fun q2 H5 w5 sh2 => ?_⟩
        refine ⟨_, _, dp_sh (sh1.same w5), dp_sh sh2, shape_sh _ _ _, shape_sh _ _ _, _, rfl, ?_⟩
        refine ifT (eqv_sh _ _ _) ?_
        have w45 := w4.trans w5
        refine ⟨_, rfl, x2, n2, _, _, rfl, O2.at.same w45, fun q3 H6 w6 sh3 => ?_⟩
        have w46 := w45.trans w6
        refine ⟨_, rfl, p2, _, _, _, rfl, rfl, SqT.of (w46 _ _ hq), at_of2 (j := 0) rfl rfl, _, rfl, p2, _, _, _, rfl, rfl, SqT.of (w46 _ _ hq), at_of2 (j := 1) rfl rfl, ?_⟩
        refine ⟨lq, n2, ts', prs2, rfl, w46 _ _ hm, hqr.imp fun _ _ h => w46 _ _ h, by omega, fun q4 H7 w7 sh4 => ?_⟩
        refine ⟨_, _, dp_sh (sh3.same w7), dp_sh sh4, shape_sh _ _ _, shape_sh _ _ _, ?_⟩
        rw [eqv_sh]
        have w47 := w46.trans w7
        exact q _ ((J3.mono (by omega)).same w47) (B3.trans (But.of w47))
end
end Cw
namespace Cw
open PySem PySem.Spec L2
def tMethK (C : Addr) (m : Str) (sp : Sp) (gV : List V → List V → List V) (E : XK) (ta : TE) (tk : TA) : TE := fun σ H Q => ta σ H fun x H1 => ∃ a dx fs, x = .ref a ∧ H1 a = some (.ins C dx fs) ∧ fs.lookup m = none ∧ tk σ H1 fun zs H2 => sp (gV [.ref a] zs) H2 Q E
section
variable {X : Cx} {CX : CXT} {k : Nat} {f C : Addr} {fd : FuncData} {ps ks : List Str} {sp : Sp} {E : XK} {m : Str} {apos pos : Pos} {o : Expr} {kws : List Keyword} {ta : TE} {tk : TA} {g : List Value → List Value → List Value} {gV : List V → List V → List V}
/-- o.m(k = v, ..) -/
theorem pe_methK0 {pl : Sem Bool} (he : PE X o ta) (c : Cls X.K C) (hm : Meth X.K C m f) (F : FnOk X.prog X.w X.K X.mg X.base CX k f fd ps sp) (hr : Room k X.A) (hb : KBinds X.K fd ps ks g gV) (hx : Passes CX X E)
    (hkw : PK X kws tk) (hall : (backToKw pos (keywordEach kws X.env)).all (·.1.isSome) = true := by rfl) (hks : (backToKw pos (keywordEach kws X.env)).filterMap (·.1) = ks := by rfl)
    (hpl : ((backTo pos (starEach [] X.env)).any (·.1) || (backToKw pos (keywordEach kws X.env)).any (·.1.isNone)) = false := by rfl)
    (ht : eval (.Call (.Attribute o m apos) [] kws pos) X.env = (do
      let ov ← eval o X.env
      standAt apos.atName
      let (f, first) ← holding [ov] (getMethod ov m pl)
      callWith pos f first (backTo pos (starEach [] X.env)) (backToKw pos (keywordEach kws X.env))) := by rfl) :
    PE X (.Call (.Attribute o m apos) [] kws pos) (tMethK C m sp gV E ta tk) := by
  refine ⟨fun pins s σ H Q I h => ?_⟩
  refine PySem.W.methodCall_KW (pl := pl) (thn (he.run pins s σ H _ I h) fun u s1 ⟨x, H1, I1, rx, a, dx, fs, ex, ea, l, q⟩ => ?_) ht
  subst ex
  obtain rfl : u = Value.ref a := rx
  refine getmeth_ok I1 ea c hm l ?_
  refine PySem.W.callWith_KW0 (first := [.ref a]) (h₀ := X.base) I.ok.mod.kin hm.kp hall (thn (hkw.run pos pins s1 σ H1 _ I1 q) fun ws s2 ⟨zs, H2, I2, rz, q2⟩ => ⟨I2.kIn, ?_⟩) hpl
  rw [hks]
  exact run_fnk (us := [.ref a]) (vs := [.ref a]) F hr hb hx I2 (.cons rfl .nil) rz q2
end
abbrev NL : List Str := ["script", "k", "jar", "turn", "one", "two", "made"]
def spLaw (K : PySem.W.Frag) : Sp := fun vs H Q _ => ∃ (a : Addr) (ns : List Int), vs = [.ref a] ∧ SqL K H a (ns.map V.int) ∧ ns.length ≤ 63 ∧ ∀ H', Q (.bl true) H'
def gTwo : List Value → List Value → List Value
  | [s], [x, y] => [s, y, x]
  | _, _ => []
def gTwoV : List V → List V → List V
  | [s], [x, y] => [s, y, x]
  | _, _ => []
abbrev KJo : List Str := ["kind", "other"]
abbrev KPa : List Str := ["end", "begin"]
theorem good4 : Good 4 [1, 3] [3] := ⟨by decide, by decide, by decide, by decide, by decide, by decide⟩
theorem good1 : Good 1 [] [] := ⟨by decide, by decide, by decide, by decide, by decide, by decide⟩
theorem good5 : Good 5 [1, 3, 4] [3, 4] := ⟨by decide, by decide, by decide, by decide, by decide, by decide⟩
section
variable {P : Program} {w : World} {K : PySem.W.Frag} {mg : Str → Option Value} {base : Heap}
theorem scL : FnScope NL ["script"] (defScope sLaw) := ⟨rfl, rfl, rfl, by decide +kernel, rfl, by decide +kernel, by decide +kernel⟩
theorem ok_law {f C fJ fS fT fA fI fG fP pL fL pM fM pS fSs : Addr} {fd fdJ fdS fdT fdA fdI fdG fdP dL dM dS : FuncData} (F : Fun K "law" "law" sLaw f fd) (T : Bl mg) (R : Cl K mg C) (M : Mk K C fI) (Gs : Gets P w K mg base C pL fL pM fM pS fSs dL dM dS)
    (gJ : mg "_law_jar" = some (.ref fJ)) (kJ : PySem.W.keepIn K (.ref fJ) = true) (bJ : Binds K fdJ ["script", "k"] []) (GJ : FnOk P w K mg base CX0 1 fJ fdJ ["script", "k"] (spJar K))
    (gS : mg "_law_small" = some (.ref fS)) (kS : PySem.W.keepIn K (.ref fS) = true) (bS : Binds K fdS ["jar", "most"] []) (GS : FnOk P w K mg base CX0 3 fS fdS ["jar", "most"] spSmall)
    (gT : mg "_law_great" = some (.ref fT)) (kT : PySem.W.keepIn K (.ref fT) = true) (bT : Binds K fdT ["jar", "most"] []) (GT : FnOk P w K mg base CX0 3 fT fdT ["jar", "most"] spGreat)
    (gA : mg "_law_right" = some (.ref fA)) (kA : PySem.W.keepIn K (.ref fA) = true) (bA : Binds K fdA ["jar", "raw", "second"] []) (GA : FnG P w K mg base 8 fA fdA ["jar", "raw", "second"] (spRi C))
    (bI : Binds K fdI NI []) (GI : FnOk P w K mg base CX0 5 fI fdI NI (spInit C))
    (mG : Meth K C "joined" fG) (bG : KBinds K fdG ["self", "other", "kind"] KJo gTwo gTwoV) (GG : FnOk P w K mg base CX0 7 fG fdG ["self", "other", "kind"] (spJoin C))
    (mP : Meth K C "part" fP) (bP : KBinds K fdP ["self", "begin", "end"] KPa gTwo gTwoV) (GP : FnOk P w K mg base CX0 7 fP fdP ["self", "begin", "end"] (spPart C)) :
    FnG P w K mg base 9 f fd ["script"] (spLaw K) := by
  refine okG F scL (fun vs H Q E h => ?_) (fun cdv A outer s H vs Q E hr hg h => ?_)
  · obtain ⟨a, ns, rfl, _⟩ := h
    rfl
  · obtain ⟨a, ns, rfl, hS, hl, q⟩ := h
    have hr1 : Room 1 (A.deeper (PyProof.Rows.envOfC "law" (defScope sLaw) s.heap.objs.size f cdv)) := hr.mono (by decide)
    have hr2 : Room 2 (A.deeper (PyProof.Rows.envOfC "law" (defScope sLaw) s.heap.objs.size f cdv)) := hr.mono (by decide)
    have hr3 : Room 3 (A.deeper (PyProof.Rows.envOfC "law" (defScope sLaw) s.heap.objs.size f cdv)) := hr.mono (by decide)
    have hr6 : Room 6 (A.deeper (PyProof.Rows.envOfC "law" (defScope sLaw) s.heap.objs.size f cdv)) := hr.mono (by decide)
    have hr7 : Room 7 (A.deeper (PyProof.Rows.envOfC "law" (defScope sLaw) s.heap.objs.size f cdv)) := hr.mono (by decide)
    have gu : (A.deeper (PyProof.Rows.envOfC "law" (defScope sLaw) s.heap.objs.size f cdv)).guards = some [] := hg
    refine ⟨_, pss_cons (ps_for PassesOwn.never rfl (pi_range1 (by rfl) T.range (pa_cons (pe_callB (call_max2 rfl) (by rfl) T.max (by decide +kernel) (pa_cons pe_int (pa_cons (pe_callB (call_min2 rfl) (by rfl) T.min (by decide +kernel) (pa_cons pe_int (pa_cons (pe_callB call_len_seq (by rfl) T.len PySem.boot_len (pa_cons (pv 0) pa_nil)) pa_nil))) pa_nil))) pa_nil)) (pg_name (i := 1) scL.nd rfl (Or.inl rfl))
        (pss_cons (ps_set (i := 2) scL.nd rfl (Or.inl rfl) (pe_call GJ hr1 rfl gJ kJ bJ .nil pass0 (pa_cons (pv 0) (pa_cons (pv 1) pa_nil))))
        (pss_one (ps_for PassesOwn.never rfl (pi_range1 (by rfl) T.range (pa_cons pe_int pa_nil)) (pg_name (i := 3) scL.nd rfl (Or.inl rfl))
          (pss_cons (ps_par (i := 4) (j := 5) rfl scL.nd rfl rfl (by decide) rfl rfl (pa_cons (pe_call GS hr3 rfl gS kS bS .nil pass0 (pa_cons (pv 2) (pa_cons pe_int pa_nil))) (pa_cons (pe_call GT hr3 rfl gT kT bT .nil pass0 (pa_cons (pv 2) (pa_cons pe_int pa_nil))) pa_nil)) (by rfl))
          (pss_cons (ps_if (PW.pt (pw_or (pt_not (pt_val (pe_callG GA hr gu rfl gA kA bA (pa_cons (pv 2) (pa_cons (pv 4) (pa_cons (pe_call GS hr3 rfl gS kS bS .nil pass0 (pa_cons (pv 2) (pa_cons pe_int pa_nil))) pa_nil))))))
            (pw_or1 (pt_not (pt_val (pe_callG GA hr gu rfl gA kA bA (pa_cons (pv 2) (pa_cons (pv 5) (pa_cons (pv 4) pa_nil))))))))) (pss_one (ps_ret pe_bl)) pss_nil)
          (pss_one (ps_if (pt_not (pt_val (pe_callG GA hr gu rfl gA kA bA (pa_cons (pv 2) (pa_cons (pv 5) (pa_cons (pv 5) pa_nil)))))) (pss_one (ps_ret pe_bl)) pss_nil))))))))
      (pss_cons (ps_set (i := 6) scL.nd rfl (Or.inl rfl) (pe_methK0 (pe_make M GI hr6 rfl R.mgR bI .nil pass0 (pa_cons pe_int (pa_cons (pe_lst (pa_cons pe_int (pa_cons pe_int pa_nil))) (pa_cons (pe_lst (pa_cons pe_int pa_nil)) pa_nil)))) R.cl mG GG hr7 bG pass0
          (pk_cons pe_str (pk_cons (pe_make M GI hr6 rfl R.mgR bI .nil pass0 (pa_cons pe_int (pa_cons (pe_lst pa_nil) (pa_cons (pe_lst pa_nil) pa_nil)))) pk_nil))))
      (pss_one (ps_ret (pe_cmpR (op_eqD hr.units) (pe_lst (pa_cons (pe_prop (pv 6) R.cl Gs.hL Gs.GL hr2 Gs.bL .nil pass0 rfl) (pa_cons (pe_prop (pv 6) R.cl Gs.hM Gs.GM hr2 Gs.bM .nil pass0 rfl) (pa_cons (pe_prop (pv 6) R.cl Gs.hS Gs.GS hr2 Gs.bS .nil pass0 rfl)
            (pa_cons (pe_prop (pe_methK0 (pv 6) R.cl mP GP hr7 bP pass0 (pk_cons pe_int (pk_cons pe_int pk_nil))) R.cl Gs.hM Gs.GM hr2 Gs.bM .nil pass0 rfl) pa_nil)))))
          (pe_lst (pa_cons pe_int (pa_cons (pe_lst (pa_cons pe_int (pa_cons pe_int (pa_cons pe_int pa_nil)))) (pa_cons (pe_lst (pa_cons pe_int (pa_cons pe_int pa_nil))) (pa_cons (pe_lst (pa_cons pe_int pa_nil)) pa_nil))))) (nomark _))))), ?_⟩
    refine ⟨_, rfl, a, _, rfl, .inl hS, _, _, rfl, _, _, rfl, _, rfl, ?_, ?_, for_range (lo := 0) (n := Int.toNat _) (fun _ σ H' => ∃ v1 v2 v3 v4 v5, σ = [some (.ref a), v1, v2, v3, v4, v5, none] ∧ Same H H') ⟨_, _, _, _, _, rfl, Same.refl H⟩ ?_ ?_⟩
    · rw [List.length_map]
      split <;> split <;> omega
    · rw [List.length_map]
      split <;> split <;> omega
    · rintro i σ H1 hi ⟨v1, v2, v3, v4, v5, rfl, s1⟩
      have hil : i ≤ ns.length := by
        rw [List.length_map] at hi
        split at hi <;> split at hi <;> omega
      refine ⟨_, rfl, _, rfl, a, ns, i, by rw [Int.zero_add]; rfl, hS.ext s1, hil, hl, fun p H2 s2 np J2 => ?_⟩
      have p0 : H p = none := s1.free np
      have s12 := s1.trans s2
      refine ⟨_, rfl, by decide, by decide, for_range (lo := 0) (n := 3) (fun t σ H' => ∃ v1 v3 v4 v5, σ = [some (.ref a), v1, some (.ref p), v3, v4, v5, none] ∧ JarAt H' p (267 * (3 - t)) ∧ Same H H') ⟨_, _, _, _, rfl, J2.mono (by omega), s12⟩ ?_ ?_⟩
      · rintro t σ H3 ht ⟨v1, v3, v4, v5, rfl, J3, s3⟩
        have Jd : JarAt H3 p (267 * (3 - (t + 1)) + 267) := J3.mono (by omega)
        generalize 267 * (3 - (t + 1)) = kk at Jd ⊢
        refine ⟨_, rfl, p, kk + 207, 12, rfl, by decide, by decide, Jd, fun r1 H4 n l m g prs n40 G l39 hR S big gb J4 B4 => ?_⟩
        refine ⟨_, rfl, p, kk + 87, 30, rfl, by decide, by decide, J4, fun r2 H5 n2 l2 m2 g2 prs2 G2 l16 hR2 S2 big2 gb2 J5 B5 => ⟨_, _, rfl, ?_⟩⟩
        have q1 := (hR.but J4 B5).raw
        have q2 := hR2.raw
        have l3 := S2.lm
        have l4 := S2.mg
        have nb : n2 ≤ 10000000000000000000000000000000 := by omega
        have na : n ≤ 10000000000000000000000000000000 := by omega
        try dsimp only [L2.start, List.set, List.map, List.append, List.replicate, List.length]
        refine ⟨_, rfl, _, rfl, _, rfl, p, kk + 27, 9, rfl, by decide, by decide, J5, fun r3 H6 n3 l5 m3 g3 prs3 n43 G3 l93 hR3 S3 big3 gb3 J6 B6 => ?_⟩
        have u1 := q1.but J5 B6
        have u2 := q2.but J5 B6
        refine ⟨p, r1, r3, kk + 18, n, n3, prs, prs3, rfl, J6, u1, hR3.raw, G, G3, na, by omega, by omega, by omega, fun H7 J7 B7 => ⟨_, rfl, ?_⟩⟩
        refine ifF rfl ?_
        have x1 := u1.but J6 B7
        have x2 := u2.but J6 B7
        refine ⟨_, rfl, _, rfl, _, rfl, p, r2, r1, kk + 9, n2, n, prs2, prs, rfl, J7, x2, x1, G2, G, nb, na, by omega, by omega, fun H8 J8 B8 => ⟨_, rfl, ?_⟩⟩
        refine ifF rfl ?_
        have y2 := x2.but J7 B8
        refine ⟨_, rfl, _, rfl, _, rfl, p, r2, r2, kk, n2, n2, prs2, prs2, rfl, J8, y2, y2, G2, G2, nb, nb, by omega, by omega, fun H9 J9 B9 => ⟨_, rfl, ?_⟩⟩
        refine ifF rfl ?_
        exact ⟨_, _, _, _, rfl, J9, same_but s3 p0 (((((B4.trans B5).trans B6).trans B7).trans B8).trans B9)⟩
      · rintro σ H3 ⟨v1, v3, v4, v5, rfl, J3, s3⟩
        exact ⟨_, _, _, _, _, rfl, s3⟩
    · rintro σ H1 ⟨v1, v2, v3, v4, v5, rfl, s1⟩
      refine ⟨(by show 2 ≤ sizeLine; decide), fun c1 hc1 => ⟨(by show 1 ≤ sizeLine; decide), fun c2 hc2 => ?_⟩⟩
      have m1 : IL (upd (upd H1 c1 (.lst [.int 1, .int 3])) c2 (.lst [.int 3])) c1 [1, 3] := by
        show upd _ _ _ c1 = _
        rw [upd_ne (ne_of_none upd_same hc2)]
        exact upd_same
      have m2 : IL (upd (upd H1 c1 (.lst [.int 1, .int 3])) c2 (.lst [.int 3])) c2 [3] := upd_same
      generalize upd (upd H1 c1 (.lst [.int 1, .int 3])) c2 (.lst [.int 3]) = H2 at m1 m2 ⊢
      refine fun x dx nx' nd ne => ?_
      have s3 : Same H2 (upd (upd H2 dx (.own x)) x (.ins C dx [])) := same_new (same_new (Same.refl H2) nd) (by rw [upd_ne (Ne.symm ne)]; exact nx')
      refine ⟨x, dx, c1, c2, 4, _, _, rfl, upd_same, s3 _ _ m1, s3 _ _ m2, good4, fun H3 row kp => ⟨rfl, ?_⟩⟩
      have rm := row.at
      clear row kp s3 nx' nd ne m1 m2 hc1 hc2
      obtain ⟨dy, y1, y2, hy0, _, _⟩ := id rm
      refine ⟨x, dy, _, rfl, hy0, fl_no _ _ _ (by decide +kernel) (by decide +kernel) (by decide +kernel), ?_⟩
      refine ⟨Nat.zero_le _, fun c1 hc1 => ⟨Nat.zero_le _, fun c2 hc2 => ?_⟩⟩
      have m1 : IL (upd (upd H3 c1 (.lst [])) c2 (.lst [])) c1 [] := by
        show upd _ _ _ c1 = _
        rw [upd_ne (ne_of_none upd_same hc2)]
        exact upd_same
      have m2 : IL (upd (upd H3 c1 (.lst [])) c2 (.lst [])) c2 [] := upd_same
      have t1 := same_new (o := .lst []) (same_new (o := .lst []) (Same.refl H3) hc1) hc2
      generalize upd (upd H3 c1 (.lst [])) c2 (.lst []) = H4 at m1 m2 t1 ⊢
      refine fun y dy' nx' nd ne => ?_
      have s3 : Same H4 (upd (upd H4 dy' (.own y)) y (.ins C dy' [])) := same_new (same_new (Same.refl H4) nd) (by rw [upd_ne (Ne.symm ne)]; exact nx')
      refine ⟨y, dy', c1, c2, 1, _, _, rfl, upd_same, s3 _ _ m1, s3 _ _ m2, good1, fun H5 row kp => ⟨rfl, ?_⟩⟩
      have t5 : Same H3 H5 := same_ins t1 nx' nd kp
      refine ⟨x, y, 4, 1, _, _, _, _, _, rfl, rm.same t5, row.at, good4, good1, .inr (.inr rfl), by decide, fun z H6 w6 row6 => ?_⟩
      have r6 := row6.at
      have e1 : [1, 3] ++ (if ("strict" : Str) = "none" then [] else [(4 : Int)]) ++ ([] : List Int).map (· + 4) = [1, 3, 4] := by decide +kernel
      have e2 : [3] ++ (if ("strict" : Str) = "strict" then [(4 : Int)] else []) ++ ([] : List Int).map (· + 4) = [3, 4] := by decide +kernel
      rw [e1, e2] at r6
      clear row row6 kp s3 nx' nd ne m1 m2 hc1 hc2 t1 t5 w6
      obtain ⟨dz, z1, z2, hz0, _, _⟩ := id r6
      try dsimp only [L2.start, List.set, List.map, List.append, List.replicate, List.length]
      refine ⟨_, rfl, z, dz, _, rfl, hz0, z, 4 + 1, _, _, rfl, r6, ?_⟩
      refine ⟨_, rfl, z, dz, _, rfl, hz0, z, 4 + 1, _, _, rfl, r6, fun u H7 s7 nu hu => ?_⟩
      refine ⟨_, rfl, z, dz, _, rfl, s7 _ _ hz0, z, 4 + 1, _, _, rfl, r6.same s7, fun v H8 s8 nv hv => ?_⟩
      have s78 := s7.trans s8
      refine ⟨_, rfl, z, dz, _, rfl, s78 _ _ hz0, fl_no _ _ _ (by decide +kernel) (by decide +kernel) (by decide +kernel), ?_⟩
      refine ⟨z, 4 + 1, 1, 4, _, _, rfl, r6.same s78, good5, by decide, by decide, by decide, fun o H9 s9 row9 => ?_⟩
      have r9 := row9.at
      have e3 : cutM [1, 3, 4] 1 4 = [2] := by decide +kernel
      rw [e3] at r9
      obtain ⟨dq, j1, j2, ho9, _, _⟩ := id r9
      refine ⟨o, dq, _, rfl, ho9, o, 4 - 1, _, _, rfl, r9, fun b HA sA nb hb => ?_⟩
      refine ⟨(by show 4 ≤ sizeLine; decide), fun L hL => ?_⟩
      have w1 := same_new (o := .lst [.int (4 + 1), .ref u, .ref v, .ref b]) (Same.refl HA) hL
      have eL : upd HA L (.lst [.int (4 + 1), .ref u, .ref v, .ref b]) L = some (.lst [.int (4 + 1), .ref u, .ref v, .ref b]) := upd_same
      have f1 : IL (upd HA L (.lst [.int (4 + 1), .ref u, .ref v, .ref b])) u [1, 3, 4] := w1 _ _ (sA _ _ (s9 _ _ (s8 _ _ hu)))
      have f2 : IL (upd HA L (.lst [.int (4 + 1), .ref u, .ref v, .ref b])) v [3, 4] := w1 _ _ (sA _ _ (s9 _ _ hv))
      have f3 : IL (upd HA L (.lst [.int (4 + 1), .ref u, .ref v, .ref b])) b [2] := w1 _ _ hb
      generalize upd HA L (.lst [.int (4 + 1), .ref u, .ref v, .ref b]) = HB at w1 eL f1 f2 f3 ⊢
      refine ⟨(by show 3 ≤ sizeLine; decide), fun d1 hd1 => ⟨(by show 2 ≤ sizeLine; decide), fun d2 hd2 => ⟨(by show 1 ≤ sizeLine; decide), fun d3 hd3 => ⟨(by show 4 ≤ sizeLine; decide), fun d4 hd4 => ?_⟩⟩⟩⟩
      have g1 := same_new (o := .lst [.int 1, .int 3, .int 4]) (Same.refl HB) hd1
      have h1 : IL (upd HB d1 (.lst [.int 1, .int 3, .int 4])) d1 [1, 3, 4] := upd_same
      generalize upd HB d1 (.lst [.int 1, .int 3, .int 4]) = HC at g1 h1 hd2 hd3 hd4 ⊢
      have g2 := same_new (o := .lst [.int 3, .int 4]) (Same.refl HC) hd2
      have h2 : IL (upd HC d2 (.lst [.int 3, .int 4])) d2 [3, 4] := upd_same
      generalize upd HC d2 (.lst [.int 3, .int 4]) = HD at g2 h2 hd3 hd4 ⊢
      have g3 := same_new (o := .lst [.int 2]) (Same.refl HD) hd3
      have h3 : IL (upd HD d3 (.lst [.int 2])) d3 [2] := upd_same
      generalize upd HD d3 (.lst [.int 2]) = HE at g3 h3 hd4 ⊢
      have g4 := same_new (o := .lst [.int 5, .ref d1, .ref d2, .ref d3]) (Same.refl HE) hd4
      have h4 : upd HE d4 (.lst [.int 5, .ref d1, .ref d2, .ref d3]) d4 = some (.lst [.int 5, .ref d1, .ref d2, .ref d3]) := upd_same
      generalize upd HE d4 (.lst [.int 5, .ref d1, .ref d2, .ref d3]) = HF at g4 h4 ⊢
      have gg : Same HB HF := g1.trans (g2.trans (g3.trans g4))
      refine ⟨.list [.int (4 + 1), .list ([1, 3, 4].map PyData.int), .list ([3, 4].map PyData.int), .list ([2].map PyData.int)], .list [.int 5, .list ([1, 3, 4].map PyData.int), .list ([3, 4].map PyData.int), .list ([2].map PyData.int)],
        .lst (SqL.of (gg _ _ eL)) (.cons (.int _) (.cons (dp_il (gg _ _ f1)) (.cons (dp_il (gg _ _ f2)) (.cons (dp_il (gg _ _ f3)) .nil)))),
        .lst (SqL.of h4) (.cons (.int _) (.cons (dp_il (g4 _ _ (g3 _ _ (g2 _ _ h1)))) (.cons (dp_il (g4 _ _ (g3 _ _ h2))) (.cons (dp_il (g4 _ _ h3)) .nil)))), by decide +kernel, by decide +kernel, ?_⟩
      have ee : PyData.eqv (.list [.int (4 + 1), .list ([1, 3, 4].map PyData.int), .list ([3, 4].map PyData.int), .list ([2].map PyData.int)]) (.list [.int 5, .list ([1, 3, 4].map PyData.int), .list ([3, 4].map PyData.int), .list ([2].map PyData.int)]) = true := by decide +kernel
      rw [ee]
      exact q HF
end
end Cw
namespace Cw
open PySem L2
theorem two_rel {vs : List V} {us : List Value} {zs : List V} {ws : List Value} (r : Vals vs us) (z : Vals zs ws) : Vals (gTwoV vs zs) (gTwo us ws) := by
  cases r with
  | nil => exact .nil
  | cons a r =>
    cases r with
    | cons b r => exact .nil
    | nil =>
      cases z with
      | nil => exact .nil
      | cons b z =>
        cases z with
        | nil => exact .nil
        | cons c z =>
          cases z with
          | nil => exact .cons a (.cons c (.cons b .nil))
          | cons d z => exact .nil
theorem kb_join {K : PySem.W.Frag} {f : Addr} {fd : FuncData} (F : Fun K "joined" "Row.joined" sJoin f fd) : KBinds K fd ["self", "other", "kind"] KJo gTwo gTwoV := by
  obtain ⟨oc, od, kV, doc, pm, an, cdv, ct, osl, rfl, lk, hcd⟩ := F.ex
  refine ⟨fun s us ws _ hl => ?_, two_rel⟩
  match us, ws, hl with
  | [a], [p, t], _ => exact .of_eq rfl
theorem kb_part {K : PySem.W.Frag} {f : Addr} {fd : FuncData} (F : Fun K "part" "Row.part" sPart f fd) : KBinds K fd ["self", "begin", "end"] KPa gTwo gTwoV := by
  obtain ⟨oc, od, kV, doc, pm, an, cdv, ct, osl, rfl, lk, hcd⟩ := F.ex
  refine ⟨fun s us ws _ hl => ?_, two_rel⟩
  match us, ws, hl with
  | [a], [p, t], _ => exact .of_eq rfl
/-! ## what the top has written -/
theorem all_mk {l : PySem.W.OpenLaw} {w : World} {K : PySem.W.Frag} {h : Heap} {mg : Str → Option Value} {fa : Addr} (X : K.In h) (G : h.Ns mainGlobals mg) (hfa : mg "law" = some (.ref fa))
    {C pL pM pS fII fAP fAA fAM fAS fCP fSF fJR fDP fTH fSM fGT fHP fSN fDU fEN fRI fLW fIn fGl fGm fGs fEq fJO fPA : Addr} {tN tK1 tK2 tK3 : Tok} {kn : Addr} {odKN : Option Addr} {nKN : Nat} {slKN : Array (Option Value)} {restpL restpM restpS : List Value}
    {ocII kVII dcII pmII cdII ctII : Value} {odII anII : Option Addr} {slII : Array (Option Value)}
    {ocAP kVAP dcAP pmAP cdAP ctAP : Value} {odAP anAP : Option Addr} {slAP : Array (Option Value)}
    {ocAA kVAA dcAA pmAA cdAA ctAA : Value} {odAA anAA : Option Addr} {slAA : Array (Option Value)}
    {ocAM kVAM dcAM pmAM cdAM ctAM : Value} {odAM anAM : Option Addr} {slAM : Array (Option Value)}
    {ocAS kVAS dcAS pmAS cdAS ctAS : Value} {odAS anAS : Option Addr} {slAS : Array (Option Value)}
    {ocCP kVCP dcCP pmCP cdCP ctCP : Value} {odCP anCP : Option Addr} {slCP : Array (Option Value)}
    {ocSF kVSF dcSF pmSF cdSF ctSF : Value} {odSF anSF : Option Addr} {slSF : Array (Option Value)}
    {ocJR kVJR dcJR pmJR cdJR ctJR : Value} {odJR anJR : Option Addr} {slJR : Array (Option Value)}
    {ocDP kVDP dcDP pmDP cdDP ctDP : Value} {odDP anDP : Option Addr} {slDP : Array (Option Value)}
    {ocTH kVTH dcTH pmTH cdTH ctTH : Value} {odTH anTH : Option Addr} {slTH : Array (Option Value)}
    {ocSM kVSM dcSM pmSM cdSM ctSM : Value} {odSM anSM : Option Addr} {slSM : Array (Option Value)}
    {ocGT kVGT dcGT pmGT cdGT ctGT : Value} {odGT anGT : Option Addr} {slGT : Array (Option Value)}
    {ocHP kVHP dcHP pmHP cdHP ctHP : Value} {odHP anHP : Option Addr} {slHP : Array (Option Value)}
    {ocSN kVSN dcSN pmSN cdSN ctSN : Value} {odSN anSN : Option Addr} {slSN : Array (Option Value)}
    {ocDU kVDU dcDU pmDU cdDU ctDU : Value} {odDU anDU : Option Addr} {slDU : Array (Option Value)}
    {ocEN kVEN dcEN pmEN cdEN ctEN : Value} {odEN anEN : Option Addr} {slEN : Array (Option Value)}
    {ocRI kVRI dcRI pmRI cdRI ctRI : Value} {odRI anRI : Option Addr} {slRI : Array (Option Value)}
    {ocLW kVLW dcLW pmLW cdLW ctLW : Value} {odLW anLW : Option Addr} {slLW : Array (Option Value)}
    {ocIn kVIn dcIn pmIn cdIn ctIn : Value} {odIn anIn : Option Addr} {slIn : Array (Option Value)}
    {ocGl kVGl dcGl pmGl cdGl ctGl : Value} {odGl anGl : Option Addr} {slGl : Array (Option Value)}
    {ocGm kVGm dcGm pmGm cdGm ctGm : Value} {odGm anGm : Option Addr} {slGm : Array (Option Value)}
    {ocGs kVGs dcGs pmGs cdGs ctGs : Value} {odGs anGs : Option Addr} {slGs : Array (Option Value)}
    {ocEq kVEq dcEq pmEq cdEq ctEq : Value} {odEq anEq : Option Addr} {slEq : Array (Option Value)}
    {ocJO kVJO dcJO pmJO cdJO ctJO : Value} {odJO anJO : Option Addr} {slJO : Array (Option Value)}
    {ocPA kVPA dcPA pmPA cdPA ctPA : Value} {odPA anPA : Option Addr} {slPA : Array (Option Value)}
    (aC : PySem.W.nsIn K mainGlobals "Row" = some (some (.ref C)))
    (aN : PySem.W.nsIn K mainGlobals "MOST_MARKS" = some (some (.int 400 tN)))
    (aN2 : PySem.W.nsIn K mainGlobals "KINDS" = some (some (.ref kn)))
    (lKN : K.lookup kn = some ⟨.type "tuple", odKN, .seq #[.str (Str.ofString "none") tK1, .str (Str.ofString "plain") tK2, .str (Str.ofString "strict") tK3] nKN, slKN⟩)
    (n_int : PySem.W.nsIn K mainGlobals "int" = some none)
    (n_bool : PySem.W.nsIn K mainGlobals "bool" = some none)
    (n_list : PySem.W.nsIn K mainGlobals "list" = some none)
    (n_tuple : PySem.W.nsIn K mainGlobals "tuple" = some none)
    (n_range : PySem.W.nsIn K mainGlobals "range" = some none)
    (n_len : PySem.W.nsIn K mainGlobals "len" = some none)
    (n_abs : PySem.W.nsIn K mainGlobals "abs" = some none)
    (n_all : PySem.W.nsIn K mainGlobals "all" = some none)
    (n_isi : PySem.W.nsIn K mainGlobals "isinstance" = some none)
    (n_zip : PySem.W.nsIn K mainGlobals "zip" = some none)
    (n_max : PySem.W.nsIn K mainGlobals "max" = some none)
    (n_min : PySem.W.nsIn K mainGlobals "min" = some none)
    (n_set : PySem.W.nsIn K mainGlobals "set" = some none)
    (n_sorted : PySem.W.nsIn K mainGlobals "sorted" = some none)
    (n_dict : PySem.W.nsIn K mainGlobals "dict" = some none)
    (n_repr : PySem.W.nsIn K mainGlobals "repr" = some none)
    (aII : PySem.W.nsIn K mainGlobals "is_integer" = some (some (.ref fII)))
    (lII : K.lookup fII = some ⟨ocII, odII, .func (PySem.W.fnOf "is_integer" "is_integer" (defArgs sIsInt) (defBody sIsInt) (defScope sIsInt) .none kVII dcII pmII anII cdII ctII), slII⟩)
    (coII : PySem.W.codeIn K cdII "is_integer" = true)
    (kII : PySem.W.keepIn K (.ref fII) = true)
    (aAP : PySem.W.nsIn K mainGlobals "are_places" = some (some (.ref fAP)))
    (lAP : K.lookup fAP = some ⟨ocAP, odAP, .func (PySem.W.fnOf "are_places" "are_places" (defArgs sPlaces) (defBody sPlaces) (defScope sPlaces) .none kVAP dcAP pmAP anAP cdAP ctAP), slAP⟩)
    (coAP : PySem.W.codeIn K cdAP "are_places" = true)
    (kAP : PySem.W.keepIn K (.ref fAP) = true)
    (aAA : PySem.W.nsIn K mainGlobals "are_ascending" = some (some (.ref fAA)))
    (lAA : K.lookup fAA = some ⟨ocAA, odAA, .func (PySem.W.fnOf "are_ascending" "are_ascending" (defArgs sAsc) (defBody sAsc) (defScope sAsc) .none kVAA dcAA pmAA anAA cdAA ctAA), slAA⟩)
    (coAA : PySem.W.codeIn K cdAA "are_ascending" = true)
    (kAA : PySem.W.keepIn K (.ref fAA) = true)
    (aAM : PySem.W.nsIn K mainGlobals "are_marks" = some (some (.ref fAM)))
    (lAM : K.lookup fAM = some ⟨ocAM, odAM, .func (PySem.W.fnOf "are_marks" "are_marks" (defArgs sMarks) (defBody sMarks) (defScope sMarks) .none kVAM dcAM pmAM anAM cdAM ctAM), slAM⟩)
    (coAM : PySem.W.codeIn K cdAM "are_marks" = true)
    (kAM : PySem.W.keepIn K (.ref fAM) = true)
    (aAS : PySem.W.nsIn K mainGlobals "are_some_of" = some (some (.ref fAS)))
    (lAS : K.lookup fAS = some ⟨ocAS, odAS, .func (PySem.W.fnOf "are_some_of" "are_some_of" (defArgs sSome) (defBody sSome) (defScope sSome) .none kVAS dcAS pmAS anAS cdAS ctAS), slAS⟩)
    (coAS : PySem.W.codeIn K cdAS "are_some_of" = true)
    (kAS : PySem.W.keepIn K (.ref fAS) = true)
    (aCP : PySem.W.nsIn K mainGlobals "check_place" = some (some (.ref fCP)))
    (lCP : K.lookup fCP = some ⟨ocCP, odCP, .func (PySem.W.fnOf "check_place" "check_place" (defArgs sCPl) (defBody sCPl) (defScope sCPl) .none kVCP dcCP pmCP anCP cdCP ctCP), slCP⟩)
    (coCP : PySem.W.codeIn K cdCP "check_place" = true)
    (kCP : PySem.W.keepIn K (.ref fCP) = true)
    (aSF : PySem.W.nsIn K mainGlobals "shifted" = some (some (.ref fSF)))
    (lSF : K.lookup fSF = some ⟨ocSF, odSF, .func (PySem.W.fnOf "shifted" "shifted" (defArgs sShift) (defBody sShift) (defScope sShift) .none kVSF dcSF pmSF anSF cdSF ctSF), slSF⟩)
    (coSF : PySem.W.codeIn K cdSF "shifted" = true)
    (kSF : PySem.W.keepIn K (.ref fSF) = true)
    (aJR : PySem.W.nsIn K mainGlobals "_law_jar" = some (some (.ref fJR)))
    (lJR : K.lookup fJR = some ⟨ocJR, odJR, .func (PySem.W.fnOf "_law_jar" "_law_jar" (defArgs sJar) (defBody sJar) (defScope sJar) .none kVJR dcJR pmJR anJR cdJR ctJR), slJR⟩)
    (coJR : PySem.W.codeIn K cdJR "_law_jar" = true)
    (kJR : PySem.W.keepIn K (.ref fJR) = true)
    (aDP : PySem.W.nsIn K mainGlobals "_law_dip" = some (some (.ref fDP)))
    (lDP : K.lookup fDP = some ⟨ocDP, odDP, .func (PySem.W.fnOf "_law_dip" "_law_dip" (defArgs sDip) (defBody sDip) (defScope sDip) .none kVDP dcDP pmDP anDP cdDP ctDP), slDP⟩)
    (coDP : PySem.W.codeIn K cdDP "_law_dip" = true)
    (kDP : PySem.W.keepIn K (.ref fDP) = true)
    (aTH : PySem.W.nsIn K mainGlobals "_law_three" = some (some (.ref fTH)))
    (lTH : K.lookup fTH = some ⟨ocTH, odTH, .func (PySem.W.fnOf "_law_three" "_law_three" (defArgs sThree) (defBody sThree) (defScope sThree) .none kVTH dcTH pmTH anTH cdTH ctTH), slTH⟩)
    (coTH : PySem.W.codeIn K cdTH "_law_three" = true)
    (kTH : PySem.W.keepIn K (.ref fTH) = true)
    (aSM : PySem.W.nsIn K mainGlobals "_law_small" = some (some (.ref fSM)))
    (lSM : K.lookup fSM = some ⟨ocSM, odSM, .func (PySem.W.fnOf "_law_small" "_law_small" (defArgs sSmall) (defBody sSmall) (defScope sSmall) .none kVSM dcSM pmSM anSM cdSM ctSM), slSM⟩)
    (coSM : PySem.W.codeIn K cdSM "_law_small" = true)
    (kSM : PySem.W.keepIn K (.ref fSM) = true)
    (aGT : PySem.W.nsIn K mainGlobals "_law_great" = some (some (.ref fGT)))
    (lGT : K.lookup fGT = some ⟨ocGT, odGT, .func (PySem.W.fnOf "_law_great" "_law_great" (defArgs sGreat) (defBody sGreat) (defScope sGreat) .none kVGT dcGT pmGT anGT cdGT ctGT), slGT⟩)
    (coGT : PySem.W.codeIn K cdGT "_law_great" = true)
    (kGT : PySem.W.keepIn K (.ref fGT) = true)
    (aHP : PySem.W.nsIn K mainGlobals "_law_heap" = some (some (.ref fHP)))
    (lHP : K.lookup fHP = some ⟨ocHP, odHP, .func (PySem.W.fnOf "_law_heap" "_law_heap" (defArgs sHeap) (defBody sHeap) (defScope sHeap) .none kVHP dcHP pmHP anHP cdHP ctHP), slHP⟩)
    (coHP : PySem.W.codeIn K cdHP "_law_heap" = true)
    (kHP : PySem.W.keepIn K (.ref fHP) = true)
    (aSN : PySem.W.nsIn K mainGlobals "_law_shown" = some (some (.ref fSN)))
    (lSN : K.lookup fSN = some ⟨ocSN, odSN, .func (PySem.W.fnOf "_law_shown" "_law_shown" (defArgs sShown) (defBody sShown) (defScope sShown) .none kVSN dcSN pmSN anSN cdSN ctSN), slSN⟩)
    (coSN : PySem.W.codeIn K cdSN "_law_shown" = true)
    (kSN : PySem.W.keepIn K (.ref fSN) = true)
    (aDU : PySem.W.nsIn K mainGlobals "_law_due" = some (some (.ref fDU)))
    (lDU : K.lookup fDU = some ⟨ocDU, odDU, .func (PySem.W.fnOf "_law_due" "_law_due" (defArgs sDue) (defBody sDue) (defScope sDue) .none kVDU dcDU pmDU anDU cdDU ctDU), slDU⟩)
    (coDU : PySem.W.codeIn K cdDU "_law_due" = true)
    (kDU : PySem.W.keepIn K (.ref fDU) = true)
    (aEN : PySem.W.nsIn K mainGlobals "_law_ends" = some (some (.ref fEN)))
    (lEN : K.lookup fEN = some ⟨ocEN, odEN, .func (PySem.W.fnOf "_law_ends" "_law_ends" (defArgs sEnds) (defBody sEnds) (defScope sEnds) .none kVEN dcEN pmEN anEN cdEN ctEN), slEN⟩)
    (coEN : PySem.W.codeIn K cdEN "_law_ends" = true)
    (kEN : PySem.W.keepIn K (.ref fEN) = true)
    (aRI : PySem.W.nsIn K mainGlobals "_law_right" = some (some (.ref fRI)))
    (lRI : K.lookup fRI = some ⟨ocRI, odRI, .func (PySem.W.fnOf "_law_right" "_law_right" (defArgs sRight) (defBody sRight) (defScope sRight) .none kVRI dcRI pmRI anRI cdRI ctRI), slRI⟩)
    (coRI : PySem.W.codeIn K cdRI "_law_right" = true)
    (kRI : PySem.W.keepIn K (.ref fRI) = true)
    (aLW : PySem.W.nsIn K mainGlobals "law" = some (some (.ref fLW)))
    (lLW : K.lookup fLW = some ⟨ocLW, odLW, .func (PySem.W.fnOf "law" "law" (defArgs sLaw) (defBody sLaw) (defScope sLaw) .none kVLW dcLW pmLW anLW cdLW ctLW), slLW⟩)
    (coLW : PySem.W.codeIn K cdLW "law" = true)
    (kLW : PySem.W.keepIn K (.ref fLW) = true)
    (apL : PySem.W.findIn K (.ref C) "length" = some (some (.ref pL)))
    (gpL : PySem.W.specialIn K (.ref pL) "__get__" = some (some (.builtin "property.__get__")))
    (tpL : PySem.W.takesIn K (.ref pL) = some true)
    (rpL : PySem.W.recIn K pL "property" = some (.ref fGl :: restpL))
    (apM : PySem.W.findIn K (.ref C) "marks" = some (some (.ref pM)))
    (gpM : PySem.W.specialIn K (.ref pM) "__get__" = some (some (.builtin "property.__get__")))
    (tpM : PySem.W.takesIn K (.ref pM) = some true)
    (rpM : PySem.W.recIn K pM "property" = some (.ref fGm :: restpM))
    (apS : PySem.W.findIn K (.ref C) "strict" = some (some (.ref pS)))
    (gpS : PySem.W.specialIn K (.ref pS) "__get__" = some (some (.builtin "property.__get__")))
    (tpS : PySem.W.takesIn K (.ref pS) = some true)
    (rpS : PySem.W.recIn K pS "property" = some (.ref fGs :: restpS))
    (aIn : PySem.W.findIn K (.ref C) "__init__" = some (some (.ref fIn)))
    (iIn : PySem.W.isFn K (.ref fIn) = true)
    (lIn : K.lookup fIn = some ⟨ocIn, odIn, .func (PySem.W.fnOf "__init__" "Row.__init__" (defArgs sInit) (defBody sInit) (defScope sInit) .none kVIn dcIn pmIn anIn cdIn ctIn), slIn⟩)
    (coIn : PySem.W.codeIn K cdIn "Row.__init__" = true)
    (kIn : PySem.W.keepIn K (.ref fIn) = true)
    (lGl : K.lookup fGl = some ⟨ocGl, odGl, .func (PySem.W.fnOf "length" "Row.length" (defArgs sGetL) (defBody sGetL) (defScope sGetL) .none kVGl dcGl pmGl anGl cdGl ctGl), slGl⟩)
    (coGl : PySem.W.codeIn K cdGl "Row.length" = true)
    (kGl : PySem.W.keepIn K (.ref fGl) = true)
    (lGm : K.lookup fGm = some ⟨ocGm, odGm, .func (PySem.W.fnOf "marks" "Row.marks" (defArgs sGetM) (defBody sGetM) (defScope sGetM) .none kVGm dcGm pmGm anGm cdGm ctGm), slGm⟩)
    (coGm : PySem.W.codeIn K cdGm "Row.marks" = true)
    (kGm : PySem.W.keepIn K (.ref fGm) = true)
    (lGs : K.lookup fGs = some ⟨ocGs, odGs, .func (PySem.W.fnOf "strict" "Row.strict" (defArgs sGetS) (defBody sGetS) (defScope sGetS) .none kVGs dcGs pmGs anGs cdGs ctGs), slGs⟩)
    (coGs : PySem.W.codeIn K cdGs "Row.strict" = true)
    (kGs : PySem.W.keepIn K (.ref fGs) = true)
    (aEq : PySem.W.findIn K (.ref C) "__eq__" = some (some (.ref fEq)))
    (iEq : PySem.W.isFn K (.ref fEq) = true)
    (lEq : K.lookup fEq = some ⟨ocEq, odEq, .func (PySem.W.fnOf "__eq__" "Row.__eq__" (defArgs sEq) (defBody sEq) (defScope sEq) .none kVEq dcEq pmEq anEq cdEq ctEq), slEq⟩)
    (coEq : PySem.W.codeIn K cdEq "Row.__eq__" = true)
    (kEq : PySem.W.keepIn K (.ref fEq) = true)
    (aJO : PySem.W.findIn K (.ref C) "joined" = some (some (.ref fJO)))
    (iJO : PySem.W.isFn K (.ref fJO) = true)
    (lJO : K.lookup fJO = some ⟨ocJO, odJO, .func (PySem.W.fnOf "joined" "Row.joined" (defArgs sJoin) (defBody sJoin) (defScope sJoin) .none kVJO dcJO pmJO anJO cdJO ctJO), slJO⟩)
    (coJO : PySem.W.codeIn K cdJO "Row.joined" = true)
    (kJO : PySem.W.keepIn K (.ref fJO) = true)
    (aPA : PySem.W.findIn K (.ref C) "part" = some (some (.ref fPA)))
    (iPA : PySem.W.isFn K (.ref fPA) = true)
    (lPA : K.lookup fPA = some ⟨ocPA, odPA, .func (PySem.W.fnOf "part" "Row.part" (defArgs sPart) (defBody sPart) (defScope sPart) .none kVPA dcPA pmPA anPA cdPA ctPA), slPA⟩)
    (coPA : PySem.W.codeIn K cdPA "Row.part" = true)
    (kPA : PySem.W.keepIn K (.ref fPA) = true)
    (pg : PySem.W.plainGet K C Str.empty = true)
    (hd : PySem.W.hasDictIn K C = true)
    (po : PySem.W.plainOver K C = true)
    (sa : PySem.W.findIn K (.ref C) "__setattr__" = some (some (.builtin "object.__setattr__")))
    (mk : PySem.W.makesIn K C = true)
    (kc : PySem.W.keepIn K (.ref C) = true)
    (nL : PySem.W.findIn K (.ref C) "_length" = some none)
    (nM : PySem.W.findIn K (.ref C) "_marks" = some none)
    (nS : PySem.W.findIn K (.ref C) "_strict" = some none)
    (kt : PySem.W.kitOne K (.ref C) (.ref C) = some true)
    (ca : PySem.W.findIn K (.ref C) "__class__" = some (some (.builtin "object.__class__")))
    (cn : PySem.W.specialIn K (.builtin "object.__class__") "__get__" = some (some (.builtin "getset_descriptor.__get__")))
    (ct : PySem.W.takesIn K (.builtin "object.__class__") = some true)
    (cm : PySem.W.mroIn K C (.type "object") = some true)
    (en : PySem.W.findIn K (.ref C) "__ne__" = some (some (.builtin "object.__ne__")))
    : ∃ fd : FuncData, (∀ (s : Shared) (v : Value), BindsTo s fd ⟨[v], []⟩ [("script", v)]) ∧ ∀ base : Heap, K.In base → base.Ns mainGlobals mg → FnG l.prog w K mg base 9 fa fd ["script"] (spLaw K) := by
  have e := hfa.symm.trans (PySem.W.mg_of X G aLW)
  cases e
  have T : Bl mg := ⟨PySem.W.mg_none_of X G n_int, PySem.W.mg_none_of X G n_bool, PySem.W.mg_none_of X G n_list, PySem.W.mg_none_of X G n_tuple, PySem.W.mg_none_of X G n_range, PySem.W.mg_none_of X G n_len, PySem.W.mg_none_of X G n_abs, PySem.W.mg_none_of X G n_all, PySem.W.mg_none_of X G n_isi, PySem.W.mg_none_of X G n_zip, PySem.W.mg_none_of X G n_max, PySem.W.mg_none_of X G n_min, PySem.W.mg_none_of X G n_set, PySem.W.mg_none_of X G n_sorted, PySem.W.mg_none_of X G n_dict⟩
  have R : Cl K mg C := ⟨⟨pg, hd, po, sa⟩, nL, nM, nS, PySem.W.mg_of X G aC, kt⟩
  have N : Ci K C := ⟨ca, cn, ct, cm⟩
  have M : Mk K C fIn := ⟨mk, aIn, iIn, kc⟩
  have FII := fun_mk (st := sIsInt) lII coII kII
  have bII := FII.binds (ps := ["thing"]) fun _ _ _ _ _ _ us hl => match us, hl with | [_], _ => rfl
  have gII := PySem.W.mg_of X G aII
  have FAP := fun_mk (st := sPlaces) lAP coAP kAP
  have bAP := FAP.binds (ps := ["thing", "low", "high"]) fun _ _ _ _ _ _ us hl => match us, hl with | [_, _, _], _ => rfl
  have gAP := PySem.W.mg_of X G aAP
  have FAA := fun_mk (st := sAsc) lAA coAA kAA
  have bAA := FAA.binds (ps := ["thing", "low", "high"]) fun _ _ _ _ _ _ us hl => match us, hl with | [_, _, _], _ => rfl
  have gAA := PySem.W.mg_of X G aAA
  have FAM := fun_mk (st := sMarks) lAM coAM kAM
  have bAM := FAM.binds (ps := ["thing", "high"]) fun _ _ _ _ _ _ us hl => match us, hl with | [_, _], _ => rfl
  have gAM := PySem.W.mg_of X G aAM
  have FAS := fun_mk (st := sSome) lAS coAS kAS
  have bAS := FAS.binds (ps := ["thing", "marks"]) fun _ _ _ _ _ _ us hl => match us, hl with | [_, _], _ => rfl
  have gAS := PySem.W.mg_of X G aAS
  have FCP := fun_mk (st := sCPl) lCP coCP kCP
  have bCP := FCP.binds (ps := ["place", "low", "high"]) fun _ _ _ _ _ _ us hl => match us, hl with | [_, _, _], _ => rfl
  have gCP := PySem.W.mg_of X G aCP
  have FSF := fun_mk (st := sShift) lSF coSF kSF
  have bSF := FSF.binds (ps := ["places", "number"]) fun _ _ _ _ _ _ us hl => match us, hl with | [_, _], _ => rfl
  have gSF := PySem.W.mg_of X G aSF
  have FJR := fun_mk (st := sJar) lJR coJR kJR
  have bJR := FJR.binds (ps := ["script", "k"]) fun _ _ _ _ _ _ us hl => match us, hl with | [_, _], _ => rfl
  have gJR := PySem.W.mg_of X G aJR
  have FDP := fun_mk (st := sDip) lDP coDP kDP
  have bDP := FDP.binds (ps := ["jar", "many"]) fun _ _ _ _ _ _ us hl => match us, hl with | [_, _], _ => rfl
  have gDP := PySem.W.mg_of X G aDP
  have FTH := fun_mk (st := sThree) lTH coTH kTH
  have bTH := FTH.binds (ps := ["jar", "wide"]) fun _ _ _ _ _ _ us hl => match us, hl with | [_, _], _ => rfl
  have gTH := PySem.W.mg_of X G aTH
  have FSM := fun_mk (st := sSmall) lSM coSM kSM
  have bSM := FSM.binds (ps := ["jar", "most"]) fun _ _ _ _ _ _ us hl => match us, hl with | [_, _], _ => rfl
  have gSM := PySem.W.mg_of X G aSM
  have FGT := fun_mk (st := sGreat) lGT coGT kGT
  have bGT := FGT.binds (ps := ["jar", "most"]) fun _ _ _ _ _ _ us hl => match us, hl with | [_, _], _ => rfl
  have gGT := PySem.W.mg_of X G aGT
  have FHP := fun_mk (st := sHeap) lHP coHP kHP
  have bHP := FHP.binds (ps := ["raw"]) fun _ _ _ _ _ _ us hl => match us, hl with | [_], _ => rfl
  have gHP := PySem.W.mg_of X G aHP
  have FSN := fun_mk (st := sShown) lSN coSN kSN
  have bSN := FSN.binds (ps := ["made"]) fun _ _ _ _ _ _ us hl => match us, hl with | [_], _ => rfl
  have gSN := PySem.W.mg_of X G aSN
  have FDU := fun_mk (st := sDue) lDU coDU kDU
  have bDU := FDU.binds (ps := ["length", "marked"]) fun _ _ _ _ _ _ us hl => match us, hl with | [_, _], _ => rfl
  have gDU := PySem.W.mg_of X G aDU
  have FEN := fun_mk (st := sEnds) lEN coEN kEN
  have bEN := FEN.binds (ps := ["jar", "raw"]) fun _ _ _ _ _ _ us hl => match us, hl with | [_, _], _ => rfl
  have gEN := PySem.W.mg_of X G aEN
  have FRI := fun_mk (st := sRight) lRI coRI kRI
  have bRI := FRI.binds (ps := ["jar", "raw", "second"]) fun _ _ _ _ _ _ us hl => match us, hl with | [_, _, _], _ => rfl
  have gRI := PySem.W.mg_of X G aRI
  have FLW := fun_mk (st := sLaw) lLW coLW kLW
  have gLW := PySem.W.mg_of X G aLW
  have FIn := fun_mk (st := sInit) lIn coIn kIn
  have bIn := FIn.binds (ps := ["self", "length", "marks", "strict"]) fun _ _ _ _ _ _ us hl => match us, hl with | [_, _, _, _], _ => rfl
  have FGl := fun_mk (st := sGetL) lGl coGl kGl
  have bGl := FGl.binds (ps := ["self"]) fun _ _ _ _ _ _ us hl => match us, hl with | [_], _ => rfl
  have FGm := fun_mk (st := sGetM) lGm coGm kGm
  have bGm := FGm.binds (ps := ["self"]) fun _ _ _ _ _ _ us hl => match us, hl with | [_], _ => rfl
  have FGs := fun_mk (st := sGetS) lGs coGs kGs
  have bGs := FGs.binds (ps := ["self"]) fun _ _ _ _ _ _ us hl => match us, hl with | [_], _ => rfl
  have FEq := fun_mk (st := sEq) lEq coEq kEq
  have bEq := FEq.binds (ps := ["self", "other"]) fun _ _ _ _ _ _ us hl => match us, hl with | [_, _], _ => rfl
  have FJO := fun_mk (st := sJoin) lJO coJO kJO
  have bJO := FJO.binds (ps := ["self", "other", "kind"]) fun _ _ _ _ _ _ us hl => match us, hl with | [_, _, _], _ => rfl
  have FPA := fun_mk (st := sPart) lPA coPA kPA
  have bPA := FPA.binds (ps := ["self", "begin", "end"]) fun _ _ _ _ _ _ us hl => match us, hl with | [_, _, _], _ => rfl
  refine ⟨PySem.W.fnOf "law" "law" (defArgs sLaw) (defBody sLaw) (defScope sLaw) .none kVLW dcLW pmLW anLW cdLW ctLW, fun s v => .of_eq rfl, fun base _ _ => ?_⟩
  have GII := ok_int (P := l.prog) (w := w) (base := base) FII T
  have GAP := ok_places FAP T gII kII bII GII
  have GAA := ok_asc FAA T gAP kAP bAP GAP
  have GAM := ok_marks FAM T (PySem.W.mg_of X G aN) gAA kAA bAA GAA
  have GAS := ok_some FAS T gAA kAA bAA GAA
  have GIn := ok_init FIn T R gII kII bII GII gAM kAM bAM GAM gAS kAS bAS GAS
  have GGl := ok_getL (P := l.prog) (w := w) (base := base) FGl R
  have GGm := ok_getM (P := l.prog) (w := w) (base := base) FGm T R
  have GGs := ok_getS (P := l.prog) (w := w) (base := base) FGs T R
  have Gs : Gets l.prog w K mg base C pL fGl pM fGm pS fGs _ _ _ := ⟨⟨apL, gpL, tpL, ⟨restpL, rpL⟩⟩, bGl, GGl, ⟨apM, gpM, tpM, ⟨restpM, rpM⟩⟩, bGm, GGm, ⟨apS, gpS, tpS, ⟨restpS, rpS⟩⟩, bGs, GGs⟩
  have hN : ∀ H : Hp, SqT K H kn kinds3 := fun H => .inr ⟨_, _, _, lKN, rfl, rfl, (by show 3 ≤ sizeLine; decide), .cons ⟨_, rfl⟩ (.cons ⟨_, rfl⟩ (.cons ⟨_, rfl⟩ .nil))⟩
  have GCP := ok_pl FCP gII kII bII GII
  have GSF := ok_shift (P := l.prog) (w := w) (base := base) (mg := mg) FSF
  have GEq := ok_eq (P := l.prog) (w := w) (base := base) FEq T R N
  have Z : Eqs l.prog w K mg base C fEq _ := ⟨GEq, cm, en, aEq, iEq, bEq⟩
  have GJO := ok_join FJO R M Gs (PySem.W.mg_of X G aN2) hN gSF kSF bSF GSF bIn GIn
  have GPA := ok_part FPA R M gCP kCP bCP GCP bIn GIn
  have mJO : Meth K C "joined" fJO := ⟨aJO, iJO, kJO⟩
  have mPA : Meth K C "part" fPA := ⟨aPA, iPA, kPA⟩
  have kbJO := kb_join FJO
  have kbPA := kb_part FPA
  have GJR := ok_jar (P := l.prog) (w := w) (base := base) FJR T
  have GDP := ok_dip (P := l.prog) (w := w) (base := base) FDP T
  have GTH := ok_three FTH gDP kDP bDP GDP
  have GSM := ok_small FSM T gDP kDP bDP GDP gTH kTH bTH GTH
  have GGT := ok_great FGT T gDP kDP bDP GDP gTH kTH bTH GTH
  have GHP := ok_heap FHP R M bIn GIn
  have GSN := ok_shown FSN R Gs
  have GDU := ok_due (P := l.prog) (w := w) (base := base) (mg := mg) FDU
  have GEN := ok_ends FEN T gDP kDP bDP GDP
  have GRI := ok_right FRI T (PySem.W.mg_none_of X G n_repr) R Z Gs gHP kHP bHP GHP gEN kEN bEN GEN gSN kSN bSN GSN gDU kDU bDU GDU mJO bJO GJO mPA bPA GPA
  exact ok_law FLW T R M Gs gJR kJR bJR GJR gSM kSM bSM GSM gGT kGT bGT GGT gRI kRI bRI GRI bIn GIn mJO kbJO GJO mPA kbPA GPA
theorem walk_here {l : PySem.W.OpenLaw} {q : Program} {loose : List Str} {XP : (Str → Option Value) → Heap → Prop} {YP : World → Heap → Prop} {d : DefRec} {K : Params → PySem.W.Frag} (hn : l.most = some 63) (hdf : d.params.defaults = [])
    (hY : ∀ (w : World) (h : Heap), YP w h → (K w.params).In h)
    (F : ∀ (w : World) (mg : Str → Option Value) (fa : Addr) (h : Heap), (K w.params).In h → h.Ns mainGlobals mg → mg d.name = some (.ref fa) →
      ∃ fd : FuncData, (∀ (s : Shared) (u : Value), BindsTo s fd ⟨[u], []⟩ [("script", u)]) ∧ ∀ base : Heap, (K w.params).In base → base.Ns mainGlobals mg → FnG l.prog w (K w.params) mg base 9 fa fd ["script"] (spLaw (K w.params))) :
    PySem.W.WalkO q loose XP YP l.row.toRowW d [] (fun f vs => PySem.call f vs) :=
  walkG (n := 63) (k := 9) (x := "script") (sp := fun w => spLaw (K w.params)) hn (by decide) hdf ⟨rfl, by decide, by decide⟩ hY F fun _ _ a ns hl _ hS => ⟨a, ns, rfl, hS, hl, fun _ => rfl⟩
end Cw
open PySem PySem.W PyProof.Rows
set_option maxRecDepth 100000 in
set_option maxHeartbeats 0 in
theorem PySem.Challenge.cw_cutwalks_k03_rows_joined_and_parted_holds : PySem.Challenge.rw_cutwalks_k03_rows_joined_and_parted.Holds := by
  w_on; o_law; k_head; (case hw => w_witness2)
  k_fill
  refine Cw.walk_here (l := PySem.Challenge.rw_cutwalks_k03_rows_joined_and_parted) rfl rfl (fun w h Y => PySem.W.kIn_of Y) ?F
  case F =>
    intro w mg fa h KX G hmg
    refine' Cw.all_mk KX G hmg ?aC ?aN ?aN2 ?lKN ?n_int ?n_bool ?n_list ?n_tuple ?n_range ?n_len ?n_abs ?n_all ?n_isi ?n_zip ?n_max ?n_min ?n_set ?n_sorted ?n_dict ?n_repr ?aII ?lII ?coII ?kII ?aAP ?lAP ?coAP ?kAP ?aAA ?lAA ?coAA ?kAA ?aAM ?lAM ?coAM ?kAM ?aAS ?lAS ?coAS ?kAS ?aCP ?lCP ?coCP ?kCP ?aSF ?lSF ?coSF ?kSF ?aJR ?lJR ?coJR ?kJR ?aDP ?lDP ?coDP ?kDP ?aTH ?lTH ?coTH ?kTH ?aSM ?lSM ?coSM ?kSM ?aGT ?lGT ?coGT ?kGT ?aHP ?lHP ?coHP ?kHP ?aSN ?lSN ?coSN ?kSN ?aDU ?lDU ?coDU ?kDU ?aEN ?lEN ?coEN ?kEN ?aRI ?lRI ?coRI ?kRI ?aLW ?lLW ?coLW ?kLW ?apL ?gpL ?tpL ?rpL ?apM ?gpM ?tpM ?rpM ?apS ?gpS ?tpS ?rpS ?aIn ?iIn ?lIn ?coIn ?kIn ?lGl ?coGl ?kGl ?lGm ?coGm ?kGm ?lGs ?coGs ?kGs ?aEq ?iEq ?lEq ?coEq ?kEq ?aJO ?iJO ?lJO ?coJO ?kJO ?aPA ?iPA ?lPA ?coPA ?kPA ?pg ?hd ?po ?sa ?mk ?kc ?nL ?nM ?nS ?kt ?ca ?cn ?ct ?cm ?en
    (case aC => k_is)
    (case aN => k_is)
    (case aN2 => k_is)
    (case lKN => k_is)
    (case n_int => k_is)
    (case n_bool => k_is)
    (case n_list => k_is)
    (case n_tuple => k_is)
    (case n_range => k_is)
    (case n_len => k_is)
    (case n_abs => k_is)
    (case n_all => k_is)
    (case n_isi => k_is)
    (case n_zip => k_is)
    (case n_max => k_is)
    (case n_min => k_is)
    (case n_set => k_is)
    (case n_sorted => k_is)
    (case n_dict => k_is)
    (case n_repr => k_is)
    (case aII => k_is)
    (case lII => k_is)
    (case coII => k_is)
    (case kII => k_is)
    (case aAP => k_is)
    (case lAP => k_is)
    (case coAP => k_is)
    (case kAP => k_is)
    (case aAA => k_is)
    (case lAA => k_is)
    (case coAA => k_is)
    (case kAA => k_is)
    (case aAM => k_is)
    (case lAM => k_is)
    (case coAM => k_is)
    (case kAM => k_is)
    (case aAS => k_is)
    (case lAS => k_is)
    (case coAS => k_is)
    (case kAS => k_is)
    (case aCP => k_is)
    (case lCP => k_is)
    (case coCP => k_is)
    (case kCP => k_is)
    (case aSF => k_is)
    (case lSF => k_is)
    (case coSF => k_is)
    (case kSF => k_is)
    (case aJR => k_is)
    (case lJR => k_is)
    (case coJR => k_is)
    (case kJR => k_is)
    (case aDP => k_is)
    (case lDP => k_is)
    (case coDP => k_is)
    (case kDP => k_is)
    (case aTH => k_is)
    (case lTH => k_is)
    (case coTH => k_is)
    (case kTH => k_is)
    (case aSM => k_is)
    (case lSM => k_is)
    (case coSM => k_is)
    (case kSM => k_is)
    (case aGT => k_is)
    (case lGT => k_is)
    (case coGT => k_is)
    (case kGT => k_is)
    (case aHP => k_is)
    (case lHP => k_is)
    (case coHP => k_is)
    (case kHP => k_is)
    (case aSN => k_is)
    (case lSN => k_is)
    (case coSN => k_is)
    (case kSN => k_is)
    (case aDU => k_is)
    (case lDU => k_is)
    (case coDU => k_is)
    (case kDU => k_is)
    (case aEN => k_is)
    (case lEN => k_is)
    (case coEN => k_is)
    (case kEN => k_is)
    (case aRI => k_is)
    (case lRI => k_is)
    (case coRI => k_is)
    (case kRI => k_is)
    (case aLW => k_is)
    (case lLW => k_is)
    (case coLW => k_is)
    (case kLW => k_is)
    (case apL => k_is)
    (case gpL => first | k_is | kernel_rfl)
    (case tpL => first | k_is | kernel_rfl)
    (case rpL => k_is)
    (case apM => k_is)
    (case gpM => first | k_is | kernel_rfl)
    (case tpM => first | k_is | kernel_rfl)
    (case rpM => k_is)
    (case apS => k_is)
    (case gpS => first | k_is | kernel_rfl)
    (case tpS => first | k_is | kernel_rfl)
    (case rpS => k_is)
    (case aIn => k_is)
    (case iIn => k_is)
    (case lIn => k_is)
    (case coIn => k_is)
    (case kIn => k_is)
    (case lGl => k_is)
    (case coGl => k_is)
    (case kGl => k_is)
    (case lGm => k_is)
    (case coGm => k_is)
    (case kGm => k_is)
    (case lGs => k_is)
    (case coGs => k_is)
    (case kGs => k_is)
    (case aEq => k_is)
    (case iEq => k_is)
    (case lEq => k_is)
    (case coEq => k_is)
    (case kEq => k_is)
    (case aJO => k_is)
    (case iJO => k_is)
    (case lJO => k_is)
    (case coJO => k_is)
    (case kJO => k_is)
    (case aPA => k_is)
    (case iPA => k_is)
    (case lPA => k_is)
    (case coPA => k_is)
    (case kPA => k_is)
    (case pg => k_is)
    (case hd => k_is)
    (case po => k_is)
    (case sa => k_is)
    (case mk => k_is)
    (case kc => k_is)
    (case nL => k_is)
    (case nM => k_is)
    (case nS => k_is)
    (case kt => first | k_is | kernel_rfl)
    (case ca => first | k_is | kernel_rfl)
    (case cn => first | k_is | kernel_rfl)
    (case ct => first | k_is | kernel_rfl)
    (case cm => first | k_is | kernel_rfl)
    (case en => first | k_is | kernel_rfl)
#print axioms PySem.Challenge.cw_cutwalks_k03_rows_joined_and_parted_holds
