import PyProof.Rows.All
import Wide.All
import OpenK.AllK
import Wide.FinOn
import HandS.ForMost
import HandS.Strs
import HandS.SetFor
import HandS.SortKw
import KE.DataMinMax
import HandS.OwnEq
import PyProof.InstNe
import HandS.IsInst
import HandS.Walk
import HandS.Exc
import PySem.Challenge.RW_cutwalks_k04_rows_changed_cell_by_cell
import HandS.Property
import HandS.WideBits
import HandS.Style
import HandS.Dict
set_option Elab.async false
set_option maxRecDepth 100000
set_option maxHeartbeats 8000000
namespace Cw
open PySem PySem.Spec PyProof.Rows L2
/-! ## set(xs) of a list of nts -/
section
variable {P : Program} {w : World} {A : Around} {E : Value → Shared → Prop} {s : Shared}
abbrev newS (w : World) : Obj := { cls := .type "set", dict := none, data := .set #[] 0 (.fresh 0 0 (!w.params.followText "set-order")) }
theorem set_list {l : Addr} {its : Array Value} (ns : List Int) {Q : Value → Shared → Prop} (hand : A.handled = none) (isl : s.heap.IsList l its) (nts : IntsAre its.toList ns) (room : ns.length + 1 < scanBound)
    (q : ∀ (g' : Heap) (tk c : Nat), SetR w g' s.heap.objs.size (fun j => decide (j ∈ ns)) c → c ≤ ns.length → (∀ b o, s.heap.get? b = some o → g'.get? b = some o) → Q (.ref s.heap.objs.size) { s with heap := g', toks := tk }) :
    wpAny (model P w) A (call (.type "set") [.ref l]) Q E s := by
  have len : its.size = ns.length := by rw [← IntsAre.length nts, Array.length_toList]
  obtain ⟨c, tl, hmro⟩ := F.called_set.mro; have hmade := F.called_set.made; have hsub := F.called_set.sub
  refine wpAny_call (codeAny_of_tree ?_); show wpAny _ _ (callAny (.type "set") _) _ _ _
  refine wpAny_pure ⟨Code.quiet_builtin _ (by decide +kernel), codeAny_builtin F.entry_type_call ?_⟩; rw [Around.under_plain (weight_type_call_type "set" [.ref l] []) rfl]
  have h1 := F.called_set.notType; have h2 := F.called_set.canCreate; have hct := F.typeCall_set_1 (.ref l)
  repeat (any_goals (first | assumption | wp_step))
  refine codeAny_mono (code_set_led1 (.ref l) (E := E) (Q₁ := fun ob t₁ => ob = .ref s.heap.objs.size ∧ t₁ = { s with heap := s.heap.push (newS w) }) ⟨rfl, rfl⟩) fun r t₁ hr => ?_
  cases r with
  | error e => exact hr
  | ok fl =>
    cases fl with
    | ret ob =>
      obtain ⟨rfl, rfl⟩ := hr
      have at0 : (s.heap.push (newS w)).get? s.heap.objs.size = some (newS w) := Heap.get?_push_size _ rfl
      have ty0 : Shared.TypeIs { s with heap := s.heap.push (newS w) } (.ref s.heap.objs.size) "set" := ⟨_, at0, rfl⟩
      have hli := F.called_set.init.lookup; have hbi := F.called_set.init.bind (.ref s.heap.objs.size)
      repeat (any_goals (first | assumption | wp_step))
      refine codeAny_mono (codeAny_call_builtin (R := wants (fun r t₂ => r = .none ∧ ∃ g' tk c, t₂ = { s with heap := g', toks := tk } ∧ SetR w g' s.heap.objs.size (fun j => decide (j ∈ ns)) c ∧ c ≤ ns.length ∧ (∀ b o, s.heap.get? b = some o → g'.get? b = some o)) E)
        F.called_set.init.plain F.entry_set_init (check_set_init_1 ty0 ?_)) fun r₂ t₂ hr₂ => ?_
      · obtain ⟨ol, lo, lc, nl, ld⟩ := isl
        obtain ⟨oc, odi, oda, osl⟩ := ol
        simp only at lc ld; subst lc; subst ld
        have lo' : (s.heap.push (newS w)).get? l = some { cls := .type "list", dict := odi, data := .seq its nl, slots := osl } := Heap.get?_push_of_some _ lo
        have u1 := F.sub_list_set; have u2 := F.sub_list_frozenset
        have u3 : (Value.type "list" == Value.type "dict") = false := by decide
        have il : (s.heap.push (newS w)).IsList l its := ⟨_, lo', rfl, nl, rfl⟩
        unfold Builtin.«set.__init__» noKeywords Builtin.Frozenset.updateFrom
        generalize hPI : pyIter = PI; wp_walk; subst hPI
        refine wpAny_pyIter_list il ?_; refine wpAny_bind (wpAny_runValue ?_)
        have lt : l < s.heap.objs.size := Heap.lt_size lo
        have hand3 : A.in1.in1.in1.handled = none := by simp [hand]
        have ne1 : l ≠ (s.heap.push (newS w)).objs.size := by rw [Heap.size_push]; exact Nat.ne_of_lt (Nat.lt_succ_of_lt lt)
        have nin : s.heap.objs.size ∉ [(s.heap.push (newS w)).objs.size, l] := by
          rw [Heap.size_push]
          simp only [List.mem_cons, List.mem_singleton, List.not_mem_nil, or_false, not_or]
          exact ⟨Nat.ne_of_lt (Nat.lt_succ_self _), Nat.ne_of_gt lt⟩
        have val : ∀ (i : Nat) (v : Value), its[i]? = some v → ∃ k t, ns[i]? = some k ∧ v = .int k t := fun i v hv => by
          have hi : i < ns.length := by rw [← len]; exact (Array.getElem?_eq_some_iff.mp hv).1
          obtain ⟨t, e⟩ := PyProof.Rows.IntsAre.int_at nts i v (by rw [Array.getElem?_toList]; exact hv)
          exact ⟨ns[i], t, List.getElem?_eq_getElem hi, by rw [e, List.getD_eq_getElem?_getD, List.getElem?_eq_getElem hi] <;> rfl⟩
        refine set_update_ints ((Walks.list hand3 _ l ne1 its).toS) s.heap.objs.size nin ns len room val (its.size - 0) 0 _ (by omega) (Nat.zero_le _) ⟨⟨_, Heap.get?_push_size _ rfl, rfl, rfl⟩, (il.push _)⟩ ?z0 ?zR
        case z0 => exact ⟨0, Nat.le_refl 0, setR_new_at (Heap.get?_push_of_some _ at0)⟩
        case zR =>
          intro t' c' hm hc' hS'
          obtain ⟨g', g2, d', tk', os'⟩ := t'
          have eg : g2 = s.gens := hm.gens; have ed : d' = s.drawn := hm.drawn; have eo : os' = s.os := hm.os
          subst eg; subst ed; subst eo
          show wpAny _ _ _ _ _ _
          refine wpAny_pure ?_; show wpAny _ _ (ret Value.none) _ _ _
          rw [len] at hc'
          refine wpAny_pure ⟨rfl, g', tk', c', rfl, hS', hc', fun b o e => ?_⟩
          have b0 : b < s.heap.objs.size := Heap.lt_size e
          have b2 : b ≠ (s.heap.push (newS w)).objs.size := by rw [Heap.size_push]; exact Nat.ne_of_lt (Nat.lt_succ_of_lt b0)
          exact hm.heap b o (by simp only [List.mem_cons, List.mem_singleton, List.not_mem_nil, or_false, not_or]; exact ⟨Nat.ne_of_lt b0, b2⟩) (Heap.get?_push_of_some _ (Heap.get?_push_of_some _ e))
      · cases r₂ with
        | error e => exact hr₂
        | ok fl₂ =>
          cases fl₂ with
          | ret r =>
            obtain ⟨rfl, g', tk, c', rfl, hS', hc', hk'⟩ := hr₂
            repeat (any_goals (first | assumption | wp_step))
            exact q _ _ _ hS' hc' hk'
          | _ => exact hr₂.elim
    | _ => exact hr.elim
end
section
variable {P : Program} {w : World} {A : Around} {E : Value → Shared → Prop} {s : Shared}
theorem entry_sub : entryFor table "set.__sub__" = some Builtin.«frozenset.__sub__» := entryFor_alias (id' := "frozenset.__sub__") (by kernel_rfl) rfl (by decide +kernel) (by kernel_rfl)
theorem sub_form (a b : Value) : Builtin.«frozenset.__sub__» ⟨[a, b], []⟩ = (do
    let p ← Builtin.Frozenset.slot1 "__sub__" ⟨[a, b], []⟩
    if !(← (Builtin.Frozenset.isAnySet p.1 <&&> Builtin.Frozenset.isAnySet p.2)) then
      rule "frozenset.__sub__.declined"
      ret .notImplemented
    else ret (← Builtin.Frozenset.difference "frozenset.__sub__" (← Builtin.Frozenset.addrOf p.1) p.2)) := by
  rfl
variable {a b : Addr} {S T : Int → Bool} {n m : Nat}
theorem isSet_at {s : Shared} {Q : Bool → Shared → Prop} {a : Addr} (ty : s.TypeIs (.ref a) "set") (q : Q true s) : wpAny (model P w) A (Builtin.Frozenset.isAnySet (.ref a)) Q E s := by
  unfold Builtin.Frozenset.isAnySet isInstance
  have z := sub_set_self
  wp_walk
  exact q
/-- what is walked: all of the set's members -/
def Mem (xs : Array (Int × Value)) (S : Int → Bool) : Prop := ∀ e ∈ xs.toList, GoodE e ∧ S (keyOf e) = true
section
variable {o : Obj} {es : Array (Int × Value)} {ep : Nat} {t : SetTable}
theorem walk_at (ho : s.heap.get? a = some o) (hd : o.data = .set es ep t) (hf : t.fits es.size = true) (hl : w.params.followText "set-order" = true ∨ t.led = true) (hp : w.params.followText "set-order" = true ∨ (!t.plain && decide (es.size > 1)) = false)
    {Q : Array (Int × Value) → Shared → Prop} (q : ∀ xs, (∀ e ∈ xs.toList, e ∈ es.toList) → Q xs s) : wpAny (model P w) A (setWalk a) Q E s := by
  unfold setWalk
  refine wpAny_bind (wpAny_setState_of ho hd hf ?_)
  dsimp only
  refine wpAny_bind (wpAny_byText ?_)
  by_cases c : w.params.followText "set-order" = true
  · refine wp_if_pos c ?_
    refine wpAny_bind (wpAny_askSetting (wpAny_pure (q _ fun e he => ?_)))
    exact (pick_perm _ es).mem_iff.mp he
  · refine wp_if_neg c ?_
    have p1 := hp.resolve_left c
    have p2 := hl.resolve_left c
    try refine wpAny_bind (wpAny_pure ?_)
    refine wp_if_neg (by show ¬ ((!t.plain && decide (es.size > 1)) = true); rw [p1]; exact Bool.false_ne_true) ?_
    try refine wpAny_bind (wpAny_pure ?_)
    refine wpAny_bind (wpAny_of_eq (a := ()) ?_ (wpAny_pure (q es fun _ h => h)))
    show (if (!t.led && decide (es.size > 1)) = true then unsupported "set:maker-not-led" else pure ()) = pure ()
    rw [p2]
    rfl
end
theorem forIn_keep {α β : Type} {M : Model} {f : α → β → Sem (ForInStep β)} {b : β} (I : Shared → Prop) : ∀ (l : List α) {s : Shared} {Q : β → Shared → Prop},
    (∀ x ∈ l, ∀ (s : Shared) (Q' : ForInStep β → Shared → Prop), I s → (∀ s', I s' → Q' (.yield b) s') → wpAny M A (f x b) Q' E s) → I s → (∀ s', I s' → Q b s') → wpAny M A (forIn l b f) Q E s
  | [], s, Q, _, i, q => by
    rw [List.forIn_nil]
    exact wpAny_pure (q s i)
  | x :: l, s, Q, h, i, q => by
    rw [List.forIn_cons]
    exact wpAny_bind (h x (List.mem_cons_self ..) s _ i fun s' i' => forIn_keep I l (fun y hy => h y (List.mem_cons_of_mem _ hy)) i' q)
theorem forIn_keepA {α β : Type} {M : Model} {f : α → β → Sem (ForInStep β)} {b : β} (I : Shared → Prop) (l : Array α) {s : Shared} {Q : β → Shared → Prop}
    (h : ∀ x ∈ l.toList, ∀ (s : Shared) (Q' : ForInStep β → Shared → Prop), I s → (∀ s', I s' → Q' (.yield b) s') → wpAny M A (f x b) Q' E s) (i : I s) (q : ∀ s', I s' → Q b s') : wpAny M A (forIn l b f) Q E s := by
  rw [← Array.forIn_toList]
  exact forIn_keep I l.toList h i q
theorem quiet_at : ∀ (l : List Addr) {s : Shared} {Q : Bool → Shared → Prop}, (∀ c ∈ l, ∃ S n, SetR w s.heap c S n) → Q true s → wpAny (model P w) A (setsQuiet l) Q E s := by
  intro l s Q h q
  unfold setsQuiet
  refine wpAny_bind (forIn_keep (fun s' => s' = s) l (fun c hc s' Q' hs k => ?_) rfl fun s' hs => ?_)
  · subst hs
    obtain ⟨S, n, o, es, ep, t, ho, hx, hd, g, nd, hm, hb, hf, _⟩ := h c hc
    refine wpAny_bind (wpAny_setEntries_of ho hd hf ?_)
    refine wpAny_bind (forIn_keepA (fun s'' => s'' = s') es (fun e he s'' Q'' hs k' => ?_) rfl fun s'' hs => ?_)
    · subst hs
      obtain ⟨i, tk, h1, h2⟩ := g e he
      obtain ⟨e1, e2⟩ := e
      dsimp only at h1
      subst h1
      exact wpAny_pure (k' _ rfl)
    · subst hs
      exact wpAny_pure (k _ rfl)
  · subst hs
    exact wpAny_pure q
/-- the set at a walked while the empty set at r is filled -/
theorem unseen_at {r : Addr} (R : SetR w s.heap a S n) (Rr : SetR w s.heap r (fun _ => false) 0) {l : List Addr} (hall : ∀ c ∈ a :: l, ∃ S n, SetR w s.heap c S n) {Q : Array (Int × Value) → Shared → Prop}
    (q : ∀ xs h', Mem xs S → (∀ c o, c ≠ r → s.heap.get? c = some o → h'.get? c = some o) → SetR w h' r (fun _ => false) 0 → Q xs { s with heap := h' }) : wpAny (model P w) A (setWalkUnseen a l (some r)) Q E s := by
  obtain ⟨o, es, ep, t, ho, hx, hd, g, nd, hm, hb, hf, hn, hr, hl⟩ := R
  have mem : ∀ xs : Array (Int × Value), (∀ e ∈ xs.toList, e ∈ es.toList) → Mem xs S := fun xs h e he => ⟨g e (h e he), (hm _).mpr (List.mem_map_of_mem (h e he))⟩
  unfold setWalkUnseen
  refine wpAny_bind (wpAny_setState_of ho hd hf ?_)
  dsimp only
  refine wpAny_bind (wpAny_byText ?_)
  by_cases c : (w.params.followText "set-order" || t.led && t.plain || decide (es.size ≤ 1)) = true
  · refine wp_if_pos c ?_
    refine walk_at ho hd hf hl ?_ fun xs h => ?_
    · simp only [Bool.or_eq_true, Bool.and_eq_true, decide_eq_true_eq] at c
      rcases c with (c | c) | c
      · exact .inl c
      · exact .inr (by rw [c.2]; rfl)
      · exact .inr (by rw [decide_eq_false (by omega), Bool.and_false])
    · exact q xs s.heap (mem xs h) (fun _ _ _ e => e) Rr
  · refine wp_if_neg c ?_
    try refine wpAny_bind (wpAny_pure ?_)
    refine wpAny_bind (quiet_at (a :: l) hall ?_)
    refine wp_if_neg (by decide) ?_
    try refine wpAny_bind (wpAny_pure ?_)
    refine wpAny_bind (wpAny_rule ?_)
    obtain ⟨o2, es2, ep2, t2, ho2, hx2, hd2, g2, nd2, hm2, hb2, hf2, hn2, hr2, hl2⟩ := Rr
    try dsimp only
    refine wpAny_bind (wpAny_setState_of ho2 hd2 hf2 ?_)
    dsimp only
    have nb : w.params.followText "set-order" = false := by
      cases z : w.params.followText "set-order" with
      | false => rfl
      | true => rw [z] at c; simp at c
    have l1 : t.led = true := hl.resolve_left (by rw [nb]; exact Bool.false_ne_true)
    have l2 : t2.led = true := hl2.resolve_left (by rw [nb]; exact Bool.false_ne_true)
    by_cases c2 : (t2.led && !t.led || t2.plain && !t.plain) = true
    · refine wp_if_pos c2 ?_
      refine wpAny_bind (wpAny_storeSet_of ho2 hd2 ?_ (fits_of_scanBound hb2))
      refine wpAny_pure (q es _ (mem es fun _ h => h) (fun y o' hy e => by rw [Heap.get?_update_other _ _ (Ne.symm hy)]; exact e) ?_)
      exact ⟨_, es2, _, _, store_at ho2 hd2, hx2, rfl, g2, nd2, hm2, hb2, by exact hf2, hn2, hr2, .inr (by rw [l1, l2]; rfl)⟩
    · refine wp_if_neg c2 ?_
      try refine wpAny_bind (wpAny_pure ?_)
      exact wpAny_pure (q es s.heap (mem es fun _ h => h) (fun _ _ _ e => e) ⟨o2, es2, ep2, t2, ho2, hx2, hd2, g2, nd2, hm2, hb2, hf2, hn2, hr2, hl2⟩)
theorem sub_none (R1 : SetR w s.heap a S n) (R2 : SetR w s.heap b T m) (sub : ∀ k, S k = true → T k = true) (le : n ≤ m) {Q : Value → Shared → Prop}
    (q : ∀ h', (∀ c o, s.heap.get? c = some o → h'.get? c = some o) → SetR w h' s.heap.objs.size (fun _ => false) 0 → Q (.ref s.heap.objs.size) { s with heap := h' }) : wpAny (model P w) A (binaryOp .Sub (.ref a) (.ref b)) Q E s := by
  have ta : s.TypeIs (.ref a) "set" := (R1.setOf (P := P)).typeIs
  have tb : s.TypeIs (.ref b) "set" := (R2.setOf (P := P)).typeIs
  refine wpAny_binaryOp_same (T := "set") ta tb F.fills_set_sub F.slot_set_sub ?_
  refine wpAny_call_entry F.slot_set_sub ta entry_sub ?_ (F.args_set_sub_2 _ _)
  rw [sub_form]
  unfold Builtin.Frozenset.slot1 slotArgs
  refine wpAny_bind (wpAny_bind (wpAny_of_eq (a := (Value.ref a, [Value.ref b])) rfl (wpAny_pure ?_)))
  dsimp only
  refine wpAny_bind (m := _ <&&> _) ?_
  unfold andM
  refine wpAny_bind (isSet_at ta ?_)
  show wpAny _ _ (Builtin.Frozenset.isAnySet (.ref b)) _ _ _
  refine isSet_at tb (wp_if_neg (by decide) ?_)
  refine wpAny_bind (wpAny_pure (wpAny_bind ?_))
  obtain ⟨o, es, ep, t, ho, hx, hd, g, nd, hm, hb, hf, hn, hr, hl⟩ := id R1
  obtain ⟨o2, es2, ep2, t2, ho2, hx2, hd2, g2, nd2, hm2, hb2, hf2, hn2, hr2, hl2⟩ := id R2
  unfold Builtin.Frozenset.difference
  dsimp only
  refine wpAny_bind (isSet_at tb ?_)
  refine wp_if_neg (by decide) ?_
  try refine wpAny_bind (m := Builtin.Frozenset.addrOf (.ref b)) (wpAny_pure ?_)
  refine wp_if_neg (by simp) ?_
  refine wp_if_pos rfl ?_
  unfold Builtin.Frozenset.sizeOf
  refine wpAny_bind (wpAny_bind (wpAny_setEntries_of ho2 hd2 hf2 (wpAny_pure ?_)))
  refine wpAny_bind (wpAny_bind (wpAny_setEntries_of ho hd hf (wpAny_pure ?_)))
  refine wp_if_neg (by rw [hn, hn2]; omega) ?_
  unfold Builtin.Frozenset.baseOf isInstance
  have z := sub_set_self
  obtain ⟨hp, gg, dr, tk, os⟩ := s
  wp_walk
  dsimp only at ho ho2 q R1 R2
  refine wpAny_askSetting (wpAny_pure ?_)
  simp only [newObj, if_true]
  refine wpAny_bind (wpAny_alloc (wpAny_pure ?_))
  dsimp only
  have k1 : ∀ c o, hp.get? c = some o → (hp.push (newS w)).get? c = some o := fun c o e => Heap.get?_push_of_some _ e
  have fr := setR_fresh (h := hp) w
  have na : a ≠ hp.objs.size := Nat.ne_of_lt (Heap.lt_size ho)
  have nb : b ≠ hp.objs.size := Nat.ne_of_lt (Heap.lt_size ho2)
  refine wpAny_bind (m := Builtin.Frozenset.addrOf (.ref hp.objs.size)) (wpAny_pure ?_)
  refine wpAny_bind (wpAny_setEpoch_of (k1 _ _ ho) hd hf ?_)
  refine wpAny_bind (wpAny_holding (wpAny_bind ?_))
  refine unseen_at (R1.at fun o e => k1 _ _ e) fr (fun c hc => ?_) fun xs h' hxs k2 R' => ?_
  · rcases List.mem_cons.mp hc with rfl | hc
    · exact ⟨_, _, R1.at fun o e => k1 _ _ e⟩
    rcases List.mem_cons.mp hc with rfl | hc
    · exact ⟨_, _, R2.at fun o e => k1 _ _ e⟩
    rcases List.mem_cons.mp hc with rfl | hc
    · exact ⟨_, _, fr⟩
    · cases hc
  · have k3 : ∀ c o, hp.get? c = some o → h'.get? c = some o := fun c o e => k2 c o (Nat.ne_of_lt (Heap.lt_size e)) (k1 c o e)
    refine wpAny_bind (forIn_keepA (fun s' => s' = ⟨h', gg, dr, tk, os⟩) xs (fun e he s' Q' hs kk => ?_) rfl fun s' hs => ?_)
    · subst hs
      obtain ⟨⟨i, ti, h1, h2⟩, h3⟩ := hxs e he
      obtain ⟨e1, e2⟩ := e
      dsimp only at h1 h2
      subst h1 h2
      refine wpAny_bind (wpAny_holding (wpAny_bind ?_))
      refine wpAny_setFind_of (knd := intKind P w) (k := i) (intKind_is P w i ti) rfl ((R2.at fun o e => k3 _ _ e).setOf (P := P)) fun r hr => ?_
      refine wpAny_bind (wpAny_pure ?_)
      have hs : r.isSome = true := by rw [hr]; exact sub i h3
      refine wp_if_neg (by rw [hs]; decide) ?_
      refine wpAny_pure ?_
      unfold Builtin.Frozenset.unchanged
      refine wpAny_bind (wpAny_bind (wpAny_setEpoch_of (k3 _ _ ho) hd hf ?_))
      refine wp_if_neg (by simp) (wpAny_pure (wpAny_pure (kk _ rfl)))
    · subst hs
      refine wpAny_pure (wpAny_pure (wpAny_pure ⟨_, rfl, (fun z => nomatch z), q h' k3 R'⟩))
end
end Cw
namespace Cw
open PySem PySem.Spec PyProof.Rows L2
theorem nodup_len : ∀ {l m : List Int}, l.Nodup → (∀ x ∈ l, x ∈ m) → l.length ≤ m.length
  | [], m, _, _ => Nat.zero_le _
  | x :: l, m, nd, h => by
    obtain ⟨nx, nd'⟩ := List.nodup_cons.mp nd
    have hx : x ∈ m := h x (List.mem_cons_self ..)
    have z := nodup_len (l := l) (m := m.erase x) nd' fun y hy => by
      have ne : y ≠ x := fun e => nx (by rw [← e]; exact hy)
      exact (List.mem_erase_of_ne ne).mpr (h y (List.mem_cons_of_mem _ hy))
    rw [List.length_erase_of_mem hx] at z
    have p : 0 < m.length := List.length_pos_of_mem hx
    rw [List.length_cons]
    omega
section
variable {X : Cx}
theorem setR_le {w : World} {h : Heap} {a b : Addr} {S T : Int → Bool} {n m : Nat} (R1 : SetR w h a S n) (R2 : SetR w h b T m) (sub : ∀ k, S k = true → T k = true) : n ≤ m := by
  obtain ⟨o, es, ep, t, ho, hx, hd, g, nd, hm, hb, hf, hn, _⟩ := R1
  obtain ⟨o2, es2, ep2, t2, ho2, hx2, hd2, g2, nd2, hm2, hb2, hf2, hn2, _⟩ := R2
  have z := nodup_len (l := es.toList.map keyOf) (m := es2.toList.map keyOf) nd fun x hx => (hm2 x).mp (sub x ((hm x).mpr hx))
  rw [List.length_map, List.length_map, Array.length_toList, Array.length_toList, hn, hn2] at z
  exact z
/-- set(xs) -/
def rSetOf (X : Cx) : List V → Hp → VK → Prop := fun xs H Q => ∃ (l : Addr) (ns : List Int), xs = [.ref l] ∧ SqL X.K H l (ns.map V.int) ∧ ns.length ≤ 4000 ∧ ∀ p c, c ≤ ns.length → H p = none → Q (.ref p) (upd H p (SetO X.w p (fun j => decide (j ∈ ns)) c))
theorem cr_setOf (hc : X.calm = true) : CallR X (.type "set") (rSetOf X) := by
  intro pins s σ H vs us Q I r h
  obtain ⟨l, ns, rfl, hs, hl, q⟩ := h
  obtain ⟨its, rv, pl, _⟩ := I.list hs
  rw [Vals.ref1 r]
  refine set_list (its := its.toArray) ns (I.ok.hd hc) pl.isList rv.ints (by show ns.length + 1 < 4096; omega) fun g' tk c R hc' k => ?_
  exact ⟨.ref s.heap.objs.size, _, I.laid (t' := tk) k (Nat.le_refl _) (setO_new R), rfl, q _ c hc' (I.hok.fresh (Nat.le_refl _))⟩
/-- a - b, all of a's being b's: a new empty set -/
def rSubN (w : World) : R2 := fun x y H Q => ∃ (a b : Addr) (S T : Int → Bool) (n m : Nat), x = .ref a ∧ y = .ref b ∧ H a = some (SetO w a S n) ∧ H b = some (SetO w b T m) ∧ (∀ k, S k = true → T k = true) ∧ ∀ p, H p = none → Q (.ref p) (upd H p (SetO w p (fun _ => false) 0))
theorem op_subN : OpR X (binaryOp .Sub) (rSubN X.w) := by
  intro pins s σ H x y v u Q I rx ry h
  obtain ⟨a, b, S, T, n, m, rfl, rfl, ha, hb, sub, q⟩ := h
  cases rx
  cases ry
  have R1 := setO_get I ha
  have R2 := setO_get I hb
  refine sub_none R1 R2 sub (setR_le R1 R2 sub) fun h' k R => ?_
  exact ⟨.ref s.heap.objs.size, _, I.laid (t' := s.toks) k (Nat.le_refl _) (setO_new R), rfl, q _ (I.hok.fresh (Nat.le_refl _))⟩
/-- len(s) -/
theorem cr_lenS : CallR X (.builtin "len") (fun xs H Q => ∃ (a : Addr) (S : Int → Bool) (n : Nat), xs = [.ref a] ∧ H a = some (SetO X.w a S n) ∧ Q (.int n) H) := by
  intro pins s σ H vs us Q I r h
  obtain ⟨a, S, n, rfl, ha, q⟩ := h
  rw [Vals.ref1 r]
  obtain ⟨o, es, ep, t, ho, hx, hd, g, nd, hm, hb, hf, hn, _⟩ := setO_get I ha
  have e : scanBound = 4096 := rfl
  refine call_len_set ho hx hd hf (by rw [e] at hb; omega) ?_
  rw [hn]
  exact ⟨.int n, H, I.tok _, ⟨_, rfl⟩, q⟩
/-- max(xs, default=k) -/
def rMaxD (K : PySem.W.Frag) : List V → List V → Hp → VK → Prop := fun xs zs H Q => ∃ (a : Addr) (ns : List Int) (k : Int), xs = [.ref a] ∧ SqL K H a (ns.map V.int) ∧ zs = [.int k] ∧ ∀ M, (ns = [] → M = k) → (∀ y ∈ ns, y ≤ M) → Q (.int M) H
theorem fold_max (n : Int) : ∀ (ns : List Int), n ≤ ns.foldl max n ∧ ∀ y ∈ ns, y ≤ ns.foldl max n := by
  intro ns
  induction ns generalizing n with
  | nil => exact ⟨Int.le_refl _, fun _ h => nomatch h⟩
  | cons k r ih =>
    rw [List.foldl_cons]
    obtain ⟨h1, h2⟩ := ih (max n k)
    refine ⟨Int.le_trans (Int.le_max_left _ _) h1, fun y hy => ?_⟩
    rcases List.mem_cons.mp hy with rfl | hy
    · exact Int.le_trans (Int.le_max_right _ _) h1
    · exact h2 y hy
theorem alike_ints (ns : List Int) : PySem.W.AlikeAll (ns.map PyData.int) := by
  constructor
  · intro x hx y hy
    obtain ⟨i, _, rfl⟩ := List.mem_map.mp hx
    obtain ⟨j, _, rfl⟩ := List.mem_map.mp hy
    rfl
  · intro x hx
    obtain ⟨i, _, rfl⟩ := List.mem_map.mp hx
    exact fun z => nomatch z
theorem cr_maxD (hc : X.calm = true) (hu : X.A.units + 3 < cLine) : CallRK X (.builtin "max") ["default"] (rMaxD X.K) := by
  intro pins s σ H xs zs us ws Q I r rz h
  obtain ⟨a, ns, k, rfl, hs, rfl, q⟩ := h
  obtain ⟨its, rv, pl, _⟩ := I.list hs
  rw [Vals.ref1 r]
  obtain ⟨u, rfl, tk0, rfl⟩ := vals1 rz
  have dpi : ∀ ns : List Int, DpAll X.K H (ns.map V.int) (ns.map PyData.int) := fun ns => by
    induction ns with
    | nil => exact .nil
    | cons n r ih => exact .cons (.int n) ih
  have dpt : ∀ ns : List Int, PyData.depthAll (ns.map PyData.int) ≤ 1 := fun ns => by
    induction ns with
    | nil => exact Nat.zero_le _
    | cons n r ih =>
      rw [List.map_cons]
      unfold PyData.depthAll PyData.depth
      omega
  obtain ⟨as, hr⟩ := Dp.readsAll I _ _ _ (dpi ns) rv
  have hd := dpt ns
  refine PySem.W.max_list_default (vs := its.toArray) (I.ok.hd hc) pl.isList (by rw [List.toList_toArray]; exact hr) (alike_ints ns) (by omega) (fun e h' tk k' => ?_) (fun y ys i v h' tk bs e _ rd k' => ?_)
  · exact ⟨.int k, H, I.kept k', ⟨_, rfl⟩, q k (fun _ => rfl) fun y hy => by rw [List.map_eq_nil_iff.mp e] at hy; cases hy⟩
  · cases ns with
    | nil => cases e
    | cons n r =>
      rw [List.map_cons] at e
      injection e with e1 e2
      subst e1 e2
      rw [PySem.W.maxD_ints] at rd
      cases rd with
      | int i t =>
        obtain ⟨f1, f2⟩ := fold_max n r
        refine ⟨.int (r.foldl max n), H, I.kept k', ⟨t, rfl⟩, q _ (fun z => nomatch z) fun y hy => ?_⟩
        rcases List.mem_cons.mp hy with rfl | hy
        · exact f1
        · exact f2 y hy
end
end Cw
namespace Cw
open PySem PySem.Spec PyProof.Rows PySem.SeqAt L2
/-! ## != by an own __eq__ -/
section
variable {M : Model} {prog : Program} {w : World} {A : Around} {E : Value → Shared → Prop} {s : Shared} {K : PySem.W.Frag} {x y f C : Addr} {ox oy : Obj} {od oe : Option Obj}
theorem objNe_entry (X : K.In s.heap) (I : PySem.W.InstAt s.heap x ox C od) (hs : PySem.W.findIn K (.ref C) "__eq__" = some (some (.ref f))) (hf : PySem.W.isFn K (.ref f) = true) (hu : A.units < cLine) {Q : Fin → Shared → Prop}
    (hcall : wpAny (model prog w) A (call (.ref f) [.ref x, .ref y]) (fun v s' => ∃ b, v = .bool b ∧ Q (.done (.ret (.bool (!b)))) s') E s) :
    wpAny (model prog w) A (Builtin.«object.__ne__» ⟨[.ref x, .ref y], []⟩) Q E s := by
  unfold Builtin.«object.__ne__»
  repeat (first
    | with_reducible refine wpAny_cRoomFor hu ?_
    | (refine wpAny_bind (m := callSpecialIfBound? (.ref x) (Str.ofString "__eq__") [.ref y])
        (PySem.W.ifBound_K X I hs hf (wpAny_mono hcall (fun r s' hr => by
          obtain ⟨b, rfl, hq⟩ := hr
          repeat (first | exact hq | exact wpAny_pure hq | exact wpAny_truthy_bool hq | (refine wpAny_bind (m := truthy (.bool _)) (wpAny_truthy_bool ?_)) | wp_step)) fun _ _ e => e)))
    | wp_step)
theorem ifBound_objNe {args : List Value} {Q : Option Value → Shared → Prop} (X : K.In s.heap) (I : PySem.W.InstAt s.heap x ox C od) (hs : PySem.W.findIn K (.ref C) "__ne__" = some (some (.builtin "object.__ne__")))
    (h : wpAny M A (call (.builtin "object.__ne__") (.ref x :: args)) (fun v => Q (some v)) E s) : wpAny M A (callSpecialIfBound? (.ref x) "__ne__" args) Q E s := by
  simp only [callSpecialIfBound?, bindSpecialIfBound?]
  refine wpAny_holding (wpAny_bind (wpAny_bind (wpAny_bind (I.type.here ((PySem.W.looks_findIn X hs).here ?_)))))
  refine wpAny_bind (wpAny_askSetting (wpAny_ite ?_))
  have fin : wpAny M A (call (.builtin "object.__ne__") ([.ref x] ++ args) >>= fun v => pure (some v)) Q E s := wpAny_bind (wpAny_mono h (fun v s' h' => wpAny_pure h') fun _ _ h' => h')
  split
  · exact wpAny_bind (wpAny_of_eq (F.cmp_object.ne.bind _) (wpAny_pure (by exact fin)))
  · exact wpAny_tryCatch (wpAny_bind (wpAny_of_eq (F.cmp_object.ne.bind _) (wpAny_pure (by exact fin))))
theorem rc_ne (hu : A.units + 1 < cLine) (X : K.In s.heap) (I : PySem.W.InstAt s.heap x ox C od) (J : PySem.W.InstAt s.heap y oy C oe) (hm : PySem.W.mroIn K C (.type "object") = some true) (hn : PySem.W.findIn K (.ref C) "__ne__" = some (some (.builtin "object.__ne__")))
    (hs : PySem.W.findIn K (.ref C) "__eq__" = some (some (.ref f))) (hf : PySem.W.isFn K (.ref f) = true) {Q : Value → Shared → Prop}
    (hcall : wpAny (model prog w) A.in1 (call (.ref f) [.ref x, .ref y]) (fun v s' => ∃ b, v = .bool b ∧ Q (.bool (!b)) s') E s) :
    wpAny (model prog w) A (richCompare .NotEq (.ref x) (.ref y)) Q E s := by
  have one : wpAny (model prog w) A (tryCompare (.ref x) "__ne__" (.ref y)) (fun r s' => ∃ b, r = some (.bool b) ∧ Q (.bool b) s') E s := by
    unfold tryCompare
    refine wpAny_bind (ifBound_objNe X I hn (wpAny_call (codeAny_call_builtin F.cmp_object.ne.plain F.cmpEntry_ne (PySem.W.check_slot F.cmpKind_ne F.cmpSplit_ne (I.type.andThen (PySem.W.looks_mroIn X hm)) (F.cmpArgs_ne _ _)
      (objNe_entry (A := A.in1) X I hs hf (by exact hu) (wpAny_mono hcall (fun v s' hv => ?_) fun _ _ e => e))))))
    obtain ⟨b, rfl, hq⟩ := hv
    first | exact ⟨b, rfl, wpAny_pure ⟨_, rfl, hq⟩⟩ | exact ⟨b, rfl, wpAny_pure (wpAny_pure ⟨_, rfl, hq⟩)⟩
  unfold richCompare
  simp only [oneThing_ref]
  refine wpAny_holding (wpAny_bind (wpAny_cRoomFor (Nat.lt_of_succ_lt hu) ?_))
  rw [cmpInfo_NotEq]
  dsimp only
  refine wpAny_bind (I.type.here (wpAny_bind (J.type.here ?_)))
  rw [show (Value.ref C != Value.ref C) = false from by simp]
  simp only [Bool.false_eq_true, if_false]
  refine wpAny_bind (wpAny_pure ?_)
  simp only [Bool.false_eq_true, if_false]
  refine wpAny_bind (wpAny_mono one (fun v s' hv => ?_) fun _ _ e => e)
  obtain ⟨b, rfl, hq⟩ := hv
  first | exact wpAny_pure hq | exact wpAny_pure (wpAny_pure hq)
end
/-- x != y, equal by the own == -/
def rNeG (D : Eqv) : R2 := fun x y H Q => D x y H ∧ ∀ H', Ext H H' → Q (.bl false) H'
section
variable {X : Cx} {n : Nat}
theorem op_neG {CX : CXT} {C f : Addr} {fd : FuncData} {ps : List Str} {R : Addr → Addr → Hp → Prop} {E : XK} (F : FnOk X.prog X.w X.K X.mg X.base CX n f fd ps (spEq R))
    (hm : PySem.W.mroIn X.K C (.type "object") = some true) (hn : PySem.W.findIn X.K (.ref C) "__ne__" = some (some (.builtin "object.__ne__")))
    (hs : PySem.W.findIn X.K (.ref C) "__eq__" = some (some (.ref f))) (hf : PySem.W.isFn X.K (.ref f) = true) (hb : Binds X.K fd ps []) (hx : Passes CX X E) (hr : Room (n + 1) X.A) : OpR X (compareOp .NotEq) (rNeG (DIns C R)) := by
  intro pins s σ H x y u v Q I rx ry hq
  obtain ⟨⟨a, b, dx, dy, fs, gs, rfl, rfl, ha, hb', hR⟩, q⟩ := hq
  cases rx
  cases ry
  obtain ⟨mA, J, _⟩ := ins_get I.hok ha
  obtain ⟨mB, J', _⟩ := ins_get I.hok hb'
  obtain ⟨od, J, _⟩ := J.look
  obtain ⟨od', J', _⟩ := J'.look
  show wpAny (model X.prog X.w) X.A (richCompare .NotEq (.ref a) (.ref b)) (EP X pins σ Q) X.xe s
  refine rc_ne (hr.mono (Nat.succ_le_succ (Nat.zero_le n)) |>.in1.units0) I.kIn J J' hm hn hs hf ?_
  have hsp : spEq R [.ref a, .ref b] H (fun v H' => v = .bl true ∧ Ext H H') E := ⟨a, b, rfl, hR, fun H' e => ⟨rfl, e⟩⟩
  have hl := F.len _ _ _ _ hsp
  have r2 : Vals [V.ref a, V.ref b] [Value.ref a, Value.ref b] := .cons rfl (.cons rfl .nil)
  have e0 : Env0 X.prog X.w X.K X.mg X.base X.A.in1 X.stack s H := I.env0.in1
  refine wpAny_call (codeAny_mono (F.run X.A.in1 X.stack s H ⟨[.ref a, .ref b], []⟩ [.ref a, .ref b] [.ref a, .ref b] _ E hr.in1 e0 (by
    have := hb s [.ref a, .ref b] I.kIn (by simpa using hl)
    simpa using this) r2 hsp) fun r s' hq => ?_)
  cases r with
  | error e => exact hx pins σ H s e s' I hq
  | ok fl =>
    cases fl with
    | ret w =>
      obtain ⟨z, H', I', rz, ez, ex⟩ := I.after hq
      subst ez
      cases rz
      exact ⟨true, rfl, .bl false, H', I', rfl, q H' ex⟩
    | next => exact False.elim hq
    | brk => exact False.elim hq
    | cont => exact False.elim hq
end
end Cw
namespace Cw
open PySem L2
def top (i : Nat) : Stmt := PySem.Challenge.pw_cutwalks_k04_rows_changed_cell_by_cell.main.body.getD i (.Pass ⟨0, 0, 0, 0⟩)
abbrev sIsInt : Stmt := top 7
abbrev sPlaces : Stmt := top 8
abbrev sAsc : Stmt := top 9
abbrev sMarks : Stmt := top 10
abbrev sSome : Stmt := top 11
abbrev sChange : Stmt := top 12
abbrev sRepl : Stmt := top 13
abbrev sRow : Stmt := top 15
theorem ifT {c : Bool} {A B : Prop} (h : c = true) (x : A) : if c = true then A else B := by
  rw [if_pos h]
  exact x
theorem ifF {c : Bool} {A B : Prop} (h : c = false) (x : B) : if c = true then A else B := by
  rw [h, if_neg Bool.false_ne_true]
  exact x
theorem same_new {H H1 : Hp} {p : Addr} {o : HO} (s : Same H H1) (h : H1 p = none) : Same H (upd H1 p o) := fun b u e => by
  rw [upd_ne (ne_of_none (s b u e) h)]
  exact s b u e
/-- what stands at D is replaced, D being new since H -/
theorem same_put {H H1 : Hp} {p : Addr} {o : HO} (s : Same H H1) (h : H p = none) : Same H (upd H1 p o) := fun b u e => by
  rw [upd_ne (ne_of_none e h)]
  exact s b u e
theorem all_true (n : Nat) : (List.replicate n true).all id = true := by
  induction n with
  | zero => rfl
  | succ n ih => rw [List.replicate_succ, List.all_cons, ih]; rfl
abbrev Asc (ns : List Int) : Prop := ns.Pairwise (· < ·)
/-- a list of ints stands at a -/
abbrev IL (H : Hp) (a : Addr) (ns : List Int) : Prop := H a = some (.lst (ns.map V.int))
theorem il_at {ns : List Int} {i : Nat} {x : V} (h : (ns.map V.int)[i]? = some x) : ∃ z, x = V.int z ∧ ns[i]? = some z := by
  rw [List.getElem?_map] at h
  cases e : ns[i]? with
  | none => rw [e] at h; cases h
  | some z => rw [e] at h; exact ⟨z, (Option.some.inj h).symm, rfl⟩
/-- what the names of the built-ins hold -/
structure Bl (mg : Str → Option Value) : Prop where
  int : mg "int" = none
  bool : mg "bool" = none
  list : mg "list" = none
  tuple : mg "tuple" = none
  range : mg "range" = none
  len : mg "len" = none
  abs : mg "abs" = none
  all : mg "all" = none
  isi : mg "isinstance" = none
  zip : mg "zip" = none
  max : mg "max" = none
  min : mg "min" = none
  set : mg "set" = none
  sorted : mg "sorted" = none
  dict : mg "dict" = none
def spOne : Sp := fun vs H Q _ => ∃ i : Int, vs = [.int i] ∧ Q (.bl true) H
/-- places from low to high -/
def spPlaces : Sp := fun vs H Q _ => ∃ (a : Addr) (ns : List Int) (lo hi : Int), vs = [.ref a, .int lo, .int hi] ∧ IL H a ns ∧ ns.length ≤ 1000 ∧ (∀ x ∈ ns, lo ≤ x ∧ x ≤ hi) ∧ ∀ H', Same H H' → Q (.bl true) H'
def spAsc : Sp := fun vs H Q _ => ∃ (a : Addr) (ns : List Int) (lo hi : Int), vs = [.ref a, .int lo, .int hi] ∧ IL H a ns ∧ ns.length ≤ 1000 ∧ (∀ x ∈ ns, lo ≤ x ∧ x ≤ hi) ∧ Asc ns ∧ ∀ H', Same H H' → Q (.bl true) H'
def spMarks : Sp := fun vs H Q _ => ∃ (a : Addr) (ns : List Int) (hi : Int), vs = [.ref a, .int hi] ∧ IL H a ns ∧ ns.length ≤ 400 ∧ (∀ x ∈ ns, 1 ≤ x ∧ x ≤ hi) ∧ Asc ns ∧ ∀ H', Same H H' → Q (.bl true) H'
def spSome : Sp := fun vs H Q _ => ∃ (a b : Addr) (ns ms : List Int), vs = [.ref a, .ref b] ∧ IL H a ns ∧ IL H b ms ∧ ns.length ≤ 400 ∧ ms.length ≤ 400 ∧ Asc ns ∧ (∀ x ∈ ns, 1 ≤ x) ∧ (∀ x ∈ ns, x ∈ ms) ∧ ∀ H', Same H H' → Q (.bl true) H'
section
variable {P : Program} {w : World} {K : PySem.W.Frag} {mg : Str → Option Value} {base : Heap}
theorem scI : FnScope ["thing"] ["thing"] (defScope sIsInt) := ⟨rfl, rfl, rfl, by decide +kernel, rfl, by decide +kernel, by decide +kernel⟩
theorem ok_int {f : Addr} {fd : FuncData} (F : Fun K "is_integer" "is_integer" sIsInt f fd) (T : Bl mg) : FnOk P w K mg base CX0 1 f fd ["thing"] spOne := by
  refine F.ok scI (fun vs H Q E h => ?_) (fun cdv A outer s H vs Q E hr h => ?_)
  · obtain ⟨i, rfl, _⟩ := h
    rfl
  · obtain ⟨i, rfl, k⟩ := h
    refine ⟨_, pss_one (ps_ret (pe_and (pe_callB call_isi (by rfl) T.isi (by decide +kernel) (pa_cons (pv 0) (pa_cons (pe_bltn (by rfl) T.int (by decide +kernel) (v := V.ty "int") rfl) pa_nil)))
      (pe_one (pe_not (pe_callB call_isi (by rfl) T.isi (by decide +kernel) (pa_cons (pv 0) (pa_cons (pe_bltn (by rfl) T.bool (by decide +kernel) (v := V.ty "bool") rfl) pa_nil))))))), ?_⟩
    refine ⟨_, rfl, _, _, _, _, true, rfl, ClsV.ty _, .base (.int i), kit_ty (by decide +kernel), _, rfl, ?_⟩
    refine ifT rfl ?_
    refine ⟨_, rfl, _, _, _, _, false, rfl, ClsV.ty _, .base (.int i), kit_ty (by decide +kernel), _, rfl, ?_⟩
    exact k
theorem scP : FnScope ["thing", "low", "high", "place"] ["thing", "low", "high"] (defScope sPlaces) := ⟨rfl, rfl, rfl, by decide +kernel, rfl, by decide +kernel, by decide +kernel⟩
theorem ok_places {f fI : Addr} {fd fdI : FuncData} (F : Fun K "are_places" "are_places" sPlaces f fd) (T : Bl mg) (gI : mg "is_integer" = some (.ref fI)) (kI : PySem.W.keepIn K (.ref fI) = true) (bI : Binds K fdI ["thing"] []) (GI : FnOk P w K mg base CX0 1 fI fdI ["thing"] spOne) :
    FnOk P w K mg base CX0 2 f fd ["thing", "low", "high"] spPlaces := by
  refine F.ok scP (fun vs H Q E h => ?_) (fun cdv A outer s H vs Q E hr h => ?_)
  · obtain ⟨a, ns, lo, hi, rfl, _⟩ := h
    rfl
  · obtain ⟨a, ns, lo, hi, rfl, hS, hl, hb, k⟩ := h
    refine ⟨_, pss_cons (ps_if (pt_not (pt_val (pe_callB call_isi (by rfl) T.isi (by decide +kernel) (pa_cons (pv 0) (pa_cons (pe_bltn (by rfl) T.list (by decide +kernel) (v := V.ty "list") rfl) pa_nil))))) (pss_one (ps_ret pe_bl)) pss_nil)
      (pss_one (ps_ret (pe_callB (cr_all rfl) (by rfl) T.all (by decide +kernel) (pa_cons (pe_lc (own := [("place", 3)]) (g := gName 3) (tt := tYes) rfl scP.nd
        (pi_list (pv 0)) (blkOk_by (own := [("place", 3)]) (N := ["thing", "low", "high", "place"]) (sc := defScope sPlaces) (by decide +kernel)) (fun _ _ _ _ _ => pg_name (i := 3) scP.nd rfl (Or.inl rfl)) (fun _ _ _ _ _ => pts_nil)
        (fun _ _ _ _ _ => pe_and (pe_call GI hr rfl gI kI bI .nil pass0 (pa_cons (pv 3) pa_nil)) (pe_one (pe_chain op_le op_le (pv 1) (pv 3) (pv 2))))) pa_nil)))), ?_⟩
    refine ⟨_, rfl, _, _, _, _, true, rfl, ClsV.ty _, .base (.lst hS), kit_ty (by decide +kernel), _, rfl, ?_⟩
    refine ifF rfl ?_
    refine ⟨_, rfl, a, rfl, ⟨_, SqL.of hS⟩, fun D hD => ?_⟩
    refine lc_list (K := K) (a := a) (xs := ns.map V.int) (fun i H' => Same H H' ∧ H' D = some (.lst (List.replicate i (V.bl true)))) ⟨same_new (Same.refl H) hD, upd_same⟩ (fun i H' _ q => SqL.of (q.1 _ _ hS)) ?_ ?_
    · rintro i x H' hx ⟨s1, hD'⟩
      obtain ⟨z, rfl, hz⟩ := il_at hx
      have hil : i < ns.length := (List.getElem?_eq_some_iff.mp hz).1
      obtain ⟨b1, b2⟩ := hb z (List.mem_of_getElem? hz)
      refine ⟨rfl, ?_⟩
      unfold tYes
      refine iteT ?_
      refine ⟨_, rfl, _, rfl, _, rfl, ?_⟩
      refine ifT rfl ?_
      refine ⟨_, rfl, _, rfl, _, _, rfl, rfl, _, rfl, ?_⟩
      refine ifT (by simp [b1]) ?_
      refine ⟨_, rfl, _, _, rfl, rfl, ?_⟩
      refine ⟨_, hD', by rw [List.length_replicate]; exact small1000 (by omega), same_put s1 hD, ?_⟩
      rw [upd_same, List.replicate_succ']
      simp [b2]
    · rintro H' ⟨s1, hD'⟩
      refine ⟨D, List.replicate ns.length true, rfl, SqL.of (by rw [hD', List.map_replicate, List.length_map]), ?_⟩
      rw [all_true]
      exact k _ s1
end
end Cw
namespace Cw
open PySem L2
theorem cut_one (xs : List V) : cutV xs (some 1) none = xs.drop 1 := by
  unfold cutV
  have e1 : HT.sIx xs.length 0 (some 1) = min 1 xs.length := HT.sIx_nat xs.length 0 1
  rw [e1, HT.sIx_none]
  cases xs with
  | nil => rfl
  | cons x r =>
    have e2 : min 1 (x :: r).length = 1 := by
      rw [List.length_cons]
      omega
    rw [e2, List.drop_succ_cons, List.drop_zero, List.length_cons, Nat.add_sub_cancel]
    exact List.take_length
section
variable {P : Program} {w : World} {K : PySem.W.Frag} {mg : Str → Option Value} {base : Heap}
abbrev NA : List Str := ["thing", "low", "high", "before", "place"]
theorem scA : FnScope NA ["thing", "low", "high"] (defScope sAsc) := ⟨rfl, rfl, rfl, by decide +kernel, rfl, by decide +kernel, by decide +kernel⟩
theorem ok_asc {f fP : Addr} {fd fdP : FuncData} (F : Fun K "are_ascending" "are_ascending" sAsc f fd) (T : Bl mg) (gP : mg "are_places" = some (.ref fP)) (kP : PySem.W.keepIn K (.ref fP) = true) (bP : Binds K fdP ["thing", "low", "high"] []) (GP : FnOk P w K mg base CX0 2 fP fdP ["thing", "low", "high"] spPlaces) :
    FnOk P w K mg base CX0 3 f fd ["thing", "low", "high"] spAsc := by
  refine F.ok scA (fun vs H Q E h => ?_) (fun cdv A outer s H vs Q E hr h => ?_)
  · obtain ⟨a, ns, lo, hi, rfl, _⟩ := h
    rfl
  · obtain ⟨a, ns, lo, hi, rfl, hS, hl, hb, ha, k⟩ := h
    refine ⟨_, pss_cons (ps_if (pt_not (pt_val (pe_call GP hr rfl gP kP bP .nil pass0 (pa_cons (pv 0) (pa_cons (pv 1) (pa_cons (pv 2) pa_nil)))))) (pss_one (ps_ret pe_bl)) pss_nil)
      (pss_one (ps_ret (pe_callB (cr_all rfl) (by rfl) T.all (by decide +kernel) (pa_cons (pe_lc (own := [("before", 3), ("place", 4)]) (g := gTup K 2 (gCons (gName 3) (gCons (gName 4) gNil))) (tt := tYes) rfl scA.nd
        (pi_zip (by rfl) T.zip (pa_cons (pv 0) (pa_cons (pe_slice sl_list (pv 0) (po_some pe_int) po_none) pa_nil))) (blkOk_by (own := [("before", 3), ("place", 4)]) (N := NA) (sc := defScope sAsc) (by decide +kernel))
        (fun _ _ _ _ _ => pg_tup rfl (pgs_cons (pg_name (i := 3) scA.nd rfl (Or.inl rfl)) (pgs_cons (pg_name (i := 4) scA.nd rfl (Or.inl rfl)) pgs_nil))) (fun _ _ _ _ _ => pts_nil)
        (fun _ _ _ _ _ => pe_cmpR op_lt (pv 3) (pv 4) (nomark _))) pa_nil)))), ?_⟩
    refine ⟨_, rfl, _, rfl, _, rfl, a, ns, lo, hi, rfl, hS, hl, hb, fun H1 s1 => ⟨_, rfl, ?_⟩⟩
    refine ifF rfl ?_
    refine ⟨_, rfl, _, rfl, 1, rfl, a, _, rfl, SqL.of (s1 _ _ hS), fun c nc => ?_⟩
    have s2 := same_new (o := .lst (cutV (ns.map V.int) (some 1) none)) s1 nc
    rw [cut_one] at s2
    rw [cut_one]
    refine ⟨a, c, _, _, rfl, SqL.of (s2 _ _ hS), SqL.of upd_same, fun D hD => ?_⟩
    have nc' : H c = none := s1.free nc
    have ncD : c ≠ D := ne_of_none upd_same hD
    have hn : ns.length - 1 = min (ns.map V.int).length ((ns.map V.int).drop 1).length := by
      rw [List.length_drop, List.length_map]
      omega
    refine lc_it (walk_zip hn) (fun i H' => Same H H' ∧ H' c = some (.lst ((ns.map V.int).drop 1)) ∧ H' D = some (.lst (List.replicate i (V.bl true)))) ⟨same_new s2 hD, by rw [upd_ne ncD]; exact upd_same, upd_same⟩ (fun i H' _ q => ⟨SqL.of (q.1 _ _ hS), SqL.of q.2.1⟩) ?_ ?_
    · rintro i x H' H'' hi ⟨s3, hc, hD'⟩ ⟨t, x1, x2, rfl, nt, rfl, e1, e2⟩
      have h1 : i < ns.length := by omega
      have h2 : i + 1 < ns.length := by omega
      have g1 : x1 = .int ns[i] := by
        dsimp only at e1
        rw [List.getElem?_map, List.getElem?_eq_getElem h1] at e1
        exact (Option.some.inj e1).symm
      have g2 : x2 = .int ns[i + 1] := by
        dsimp only at e2
        rw [List.getElem?_drop, List.getElem?_map, Nat.add_comm 1 i, List.getElem?_eq_getElem h2] at e2
        exact (Option.some.inj e2).symm
      subst g1 g2
      have hlt : ns[i] < ns[i + 1] := List.pairwise_iff_getElem.mp ha i (i + 1) h1 h2 (Nat.lt_succ_self i)
      have ntc : c ≠ t := ne_of_none hc nt
      have ntD : D ≠ t := ne_of_none hD' nt
      refine ⟨t, _, rfl, SqT.of upd_same, rfl, _, _, rfl, _, _, rfl, rfl, rfl, ?_⟩
      unfold tYes
      refine iteT ?_
      refine ⟨_, rfl, _, rfl, _, _, rfl, rfl, ?_⟩
      refine ⟨_, (by rw [upd_ne ntD]; exact hD'), by rw [List.length_replicate]; exact small1000 (by omega), same_put (same_new s3 nt) (s2.trans (Same.refl _) |>.free hD), ?_, ?_⟩
      · rw [upd_ne ncD, upd_ne ntc]
        exact hc
      · rw [upd_same, List.replicate_succ']
        simp [hlt]
    · rintro H' ⟨s3, hc, hD'⟩
      refine ⟨D, List.replicate (ns.length - 1) true, rfl, SqL.of (by rw [hD', List.map_replicate]), ?_⟩
      rw [all_true]
      exact k _ s3
theorem scM : FnScope ["thing", "high"] ["thing", "high"] (defScope sMarks) := ⟨rfl, rfl, rfl, by decide +kernel, rfl, by decide +kernel, by decide +kernel⟩
theorem ok_marks {f fA : Addr} {fd fdA : FuncData} {t : Tok} (F : Fun K "are_marks" "are_marks" sMarks f fd) (T : Bl mg) (gN : mg "MOST_MARKS" = some (.int 400 t)) (gA : mg "are_ascending" = some (.ref fA)) (kA : PySem.W.keepIn K (.ref fA) = true) (bA : Binds K fdA ["thing", "low", "high"] []) (GA : FnOk P w K mg base CX0 3 fA fdA ["thing", "low", "high"] spAsc) :
    FnOk P w K mg base CX0 4 f fd ["thing", "high"] spMarks := by
  refine F.ok scM (fun vs H Q E h => ?_) (fun cdv A outer s H vs Q E hr h => ?_)
  · obtain ⟨a, ns, hi, rfl, _⟩ := h
    rfl
  · obtain ⟨a, ns, hi, rfl, hS, hl, hb, ha, k⟩ := h
    refine ⟨_, pss_one (ps_ret (pe_and (pe_call GA hr rfl gA kA bA .nil pass0 (pa_cons (pv 0) (pa_cons pe_int (pa_cons (pv 1) pa_nil))))
      (pe_one (pe_cmpR op_le (pe_callB call_len_seq (by rfl) T.len PySem.boot_len (pa_cons (pv 0) pa_nil)) (pe_glob rfl gN (v := V.int 400) ⟨_, rfl⟩) (nomark _))))), ?_⟩
    refine ⟨_, rfl, _, rfl, a, ns, 1, hi, rfl, hS, by omega, hb, ha, fun H1 s1 => ⟨_, rfl, ?_⟩⟩
    refine ifT rfl ?_
    refine ⟨_, rfl, a, _, rfl, .inl (SqL.of (s1 _ _ hS)), _, _, rfl, rfl, ?_⟩
    have e : decide (((ns.map V.int).length : Int) ≤ 400) = true := by
      rw [List.length_map]
      exact decide_eq_true (by omega)
    have z := k _ s1
    rw [← e] at z
    exact z
theorem scSo : FnScope ["thing", "marks"] ["thing", "marks"] (defScope sSome) := ⟨rfl, rfl, rfl, by decide +kernel, rfl, by decide +kernel, by decide +kernel⟩
theorem ok_some {f fA : Addr} {fd fdA : FuncData} (F : Fun K "are_some_of" "are_some_of" sSome f fd) (T : Bl mg) (gA : mg "are_ascending" = some (.ref fA)) (kA : PySem.W.keepIn K (.ref fA) = true) (bA : Binds K fdA ["thing", "low", "high"] []) (GA : FnOk P w K mg base CX0 3 fA fdA ["thing", "low", "high"] spAsc) :
    FnOk P w K mg base CX0 4 f fd ["thing", "marks"] spSome := by
  refine F.ok scSo (fun vs H Q E h => ?_) (fun cdv A outer s H vs Q E hr h => ?_)
  · obtain ⟨a, b, ns, ms, rfl, _⟩ := h
    rfl
  · obtain ⟨a, b, ns, ms, rfl, hS, hM, hl, hm, ha, h1, hsub, k⟩ := h
    have hu := hr.units
    refine ⟨_, pss_cons (ps_if (pt_not (pt_val (pe_call GA hr rfl gA kA bA .nil pass0 (pa_cons (pv 0) (pa_cons pe_int (pa_cons (pe_callBK (cr_maxD rfl (Nat.lt_of_le_of_lt (Nat.add_le_add_left (by decide : 3 ≤ 64) _) hu)) (by rfl) T.max (by decide +kernel) (pa_cons (pv 1) pa_nil) (pk_cons pe_int pk_nil)) pa_nil)))))) (pss_one (ps_ret pe_bl)) pss_nil)
      (pss_one (ps_ret (pe_cmpR op_eq (pe_callB cr_lenS (by rfl) T.len PySem.boot_len (pa_cons (pe_op op_subN (pe_callTy (cr_setOf rfl) (by rfl) T.set (by decide +kernel) (pa_cons (pv 0) pa_nil)) (pe_callTy (cr_setOf rfl) (by rfl) T.set (by decide +kernel) (pa_cons (pv 1) pa_nil))) pa_nil)) pe_int (nomark _)))), ?_⟩
    refine ⟨_, rfl, _, rfl, b, ms, 0, rfl, SqL.of hM, rfl, fun M _ hM2 => ?_⟩
    refine ⟨a, ns, 0, M, rfl, hS, by omega, fun x hx => ⟨Int.le_trans (by decide) (h1 x hx), hM2 x (hsub x hx)⟩, ha, fun H1 s1 => ⟨_, rfl, ?_⟩⟩
    refine ifF rfl ?_
    refine ⟨_, rfl, a, ns, rfl, SqL.of (s1 _ _ hS), by omega, fun p c _ hp => ?_⟩
    have s2 := same_new (o := SetO w p (fun j => decide (j ∈ ns)) c) s1 hp
    refine ⟨_, rfl, b, ms, rfl, SqL.of (s2 _ _ hM), by omega, fun p2 c2 _ hp2 => ?_⟩
    have s3 := same_new (o := SetO w p2 (fun j => decide (j ∈ ms)) c2) s2 hp2
    have n12 : p ≠ p2 := ne_of_none upd_same hp2
    refine ⟨p, p2, _, _, _, _, rfl, rfl, by rw [upd_ne n12]; exact upd_same, upd_same, fun j hj => decide_eq_true (hsub j (of_decide_eq_true hj)), fun p3 hp3 => ?_⟩
    refine ⟨p3, _, 0, rfl, upd_same, rfl, ?_⟩
    have e : decide (V.int ((0 : Nat) : Int) = V.int 0) = true := by simp
    have z := k _ (same_new (o := SetO w p3 (fun _ => false) 0) s3 hp3)
    rw [← e] at z
    exact z
end
end Cw
namespace Cw
open PySem L2
abbrev sInit : Stmt := inClass sRow 0
abbrev sGetM : Stmt := inClass sRow 2
abbrev sEq : Stmt := inClass sRow 6
abbrev sChanged : Stmt := inClass sRow 11
theorem k12 : ¬ (("_length" : Str) = "_marks") := by decide +kernel
theorem k13 : ¬ (("_length" : Str) = "_strict") := by decide +kernel
theorem k23 : ¬ (("_marks" : Str) = "_strict") := by decide +kernel
def flds (n : Int) (l1 l2 : Addr) : List (Str × V) := putF "_strict" (.ref l2) (putF "_marks" (.ref l1) (putF "_length" (.int n) []))
theorem flds_eq (n : Int) (l1 l2 : Addr) : flds n l1 l2 = ([("_length", V.int n), ("_marks", V.ref l1), ("_strict", V.ref l2)] : List (Str × V)) := by
  unfold flds
  rw [show putF "_length" (V.int n) [] = ([("_length", V.int n)] : List (Str × V)) from rfl]
  rw [show putF "_marks" (V.ref l1) ([("_length", V.int n)] : List (Str × V)) = (if ("_length" : Str) = "_marks" then ([("_length", V.ref l1)] : List (Str × V)) else ("_length", V.int n) :: putF "_marks" (V.ref l1) []) from rfl, if_neg k12]
  rw [show putF "_marks" (V.ref l1) [] = ([("_marks", V.ref l1)] : List (Str × V)) from rfl]
  rw [show putF "_strict" (V.ref l2) ([("_length", V.int n), ("_marks", V.ref l1)] : List (Str × V)) = (if ("_length" : Str) = "_strict" then ([("_length", V.ref l2), ("_marks", V.ref l1)] : List (Str × V)) else ("_length", V.int n) :: (if ("_marks" : Str) = "_strict" then ([("_marks", V.ref l2)] : List (Str × V)) else ("_marks", V.ref l1) :: putF "_strict" (V.ref l2) [])) from rfl, if_neg k13, if_neg k23]
  rfl
theorem fl_L (n : Int) (l1 l2 : Addr) : (flds n l1 l2).lookup ("_length" : Str) = some (.int n) := by
  unfold flds
  rw [lookup_putF, if_neg k13, lookup_putF, if_neg k12, lookup_putF, if_pos rfl]
theorem fl_M (n : Int) (l1 l2 : Addr) : (flds n l1 l2).lookup ("_marks" : Str) = some (.ref l1) := by
  unfold flds
  rw [lookup_putF, if_neg k23, lookup_putF, if_pos rfl]
theorem fl_S (n : Int) (l1 l2 : Addr) : (flds n l1 l2).lookup ("_strict" : Str) = some (.ref l2) := by
  unfold flds
  rw [lookup_putF, if_pos rfl]
theorem fl_no (n : Int) (l1 l2 : Addr) {m : Str} (h1 : ¬ m = "_length") (h2 : ¬ m = "_marks") (h3 : ¬ m = "_strict") : (flds n l1 l2).lookup m = none := by
  unfold flds
  rw [lookup_putF, if_neg h3, lookup_putF, if_neg h2, lookup_putF, if_neg h1]
  rfl
/-- what a row is -/
structure Good (n : Int) (ms ss : List Int) : Prop where
  pos : 1 ≤ n
  len : ms.length ≤ 400
  rng : ∀ x ∈ ms, 1 ≤ x ∧ x ≤ n - 1
  asc : Asc ms
  asc2 : Asc ss
  sub : ∀ x ∈ ss, x ∈ ms
theorem Good.len2 {n : Int} {ms ss : List Int} (g : Good n ms ss) : ss.length ≤ 400 :=
  Nat.le_trans (nodup_len (g.asc2.imp fun h e => by omega) g.sub) g.len
/-- a row stands at p -/
def RowAt (C : Addr) (H : Hp) (p : Addr) (n : Int) (ms ss : List Int) : Prop := ∃ dx l1 l2, H p = some (.ins C dx (flds n l1 l2)) ∧ IL H l1 ms ∧ IL H l2 ss
theorem RowAt.same {C : Addr} {H H' : Hp} {p : Addr} {n : Int} {ms ss : List Int} (r : RowAt C H p n ms ss) (s : Same H H') : RowAt C H' p n ms ss := by
  obtain ⟨dx, l1, l2, a, b, c⟩ := r
  exact ⟨dx, l1, l2, s _ _ a, s _ _ b, s _ _ c⟩
/-- a row has been made at p, its lists are new since H -/
def RowNew (C : Addr) (H H' : Hp) (p : Addr) (n : Int) (ms ss : List Int) : Prop := ∃ dx l1 l2, H' p = some (.ins C dx (flds n l1 l2)) ∧ IL H' l1 ms ∧ IL H' l2 ss ∧ H l1 = none ∧ H l2 = none
theorem RowNew.at {C : Addr} {H H' : Hp} {p : Addr} {n : Int} {ms ss : List Int} (r : RowNew C H H' p n ms ss) : RowAt C H' p n ms ss := by
  obtain ⟨dx, l1, l2, a, b, c, _⟩ := r
  exact ⟨dx, l1, l2, a, b, c⟩
theorem none_of {H H' : Hp} {l : Addr} (k : ∀ c o, H c = some o → ∃ o', H' c = some o') (h : H' l = none) : H l = none := by
  cases e : H l with
  | none => rfl
  | some o =>
    obtain ⟨o', z⟩ := k _ _ e
    rw [h] at z
    cases z
theorem RowNew.mono {C : Addr} {H0 H H' : Hp} {p : Addr} {n : Int} {ms ss : List Int} (r : RowNew C H H' p n ms ss) (k : ∀ c o, H0 c = some o → ∃ o', H c = some o') : RowNew C H0 H' p n ms ss := by
  obtain ⟨dx, l1, l2, a, b, c, d, e⟩ := r
  exact ⟨dx, l1, l2, a, b, c, none_of k d, none_of k e⟩
structure Cl (K : PySem.W.Frag) (mg : Str → Option Value) (C : Addr) : Prop where
  cl : Cls K C
  nL : NoAttr K C "_length"
  nM : NoAttr K C "_marks"
  nS : NoAttr K C "_strict"
  mgR : mg "Row" = some (.ref C)
  kit : PySem.W.kitOne K (.ref C) (.ref C) = some true
/-- Row(n, marks, strict): from the new instance on -/
def spInit (C : Addr) : Sp := fun vs H Q _ => ∃ (x dx a b : Addr) (n : Int) (ms ss : List Int), vs = [.ref x, .int n, .ref a, .ref b] ∧ H x = some (.ins C dx []) ∧ IL H a ms ∧ IL H b ss ∧ Good n ms ss ∧
  ∀ H', RowNew C H H' x n ms ss → (∀ c o, H c = some o → c ≠ x → H' c = some o) → Q .non H'
section
variable {P : Program} {w : World} {K : PySem.W.Frag} {mg : Str → Option Value} {base : Heap}
abbrev NI : List Str := ["self", "length", "marks", "strict"]
theorem scIn : FnScope NI NI (defScope sInit) := ⟨rfl, rfl, rfl, by decide +kernel, rfl, by decide +kernel, by decide +kernel⟩
theorem ok_init {f C fI fM fS : Addr} {fd fdI fdM fdS : FuncData} (F : Fun K "__init__" "Row.__init__" sInit f fd) (T : Bl mg) (R : Cl K mg C)
    (gI : mg "is_integer" = some (.ref fI)) (kI : PySem.W.keepIn K (.ref fI) = true) (bI : Binds K fdI ["thing"] []) (GI : FnOk P w K mg base CX0 1 fI fdI ["thing"] spOne)
    (gM : mg "are_marks" = some (.ref fM)) (kM : PySem.W.keepIn K (.ref fM) = true) (bM : Binds K fdM ["thing", "high"] []) (GM : FnOk P w K mg base CX0 4 fM fdM ["thing", "high"] spMarks)
    (gS : mg "are_some_of" = some (.ref fS)) (kS : PySem.W.keepIn K (.ref fS) = true) (bS : Binds K fdS ["thing", "marks"] []) (GS : FnOk P w K mg base CX0 4 fS fdS ["thing", "marks"] spSome) :
    FnOk P w K mg base CX0 5 f fd NI (spInit C) := by
  refine F.ok scIn (fun vs H Q E h => ?_) (fun cdv A outer s H vs Q E hr h => ?_)
  · obtain ⟨x, dx, a, b, n, ms, ss, rfl, _⟩ := h
    rfl
  · obtain ⟨x, dx, a, b, n, ms, ss, rfl, hx, hM, hS, G, k⟩ := h
    have hr1 : Room 1 (A.deeper (PyProof.Rows.envOfC "Row.__init__" (defScope sInit) s.heap.objs.size f cdv)) := hr.mono (by decide)
    refine ⟨_, pss_cons (ps_if (PW.pt (pw_or (pt_not (pt_val (pe_call GI hr1 rfl gI kI bI .nil pass0 (pa_cons (pv 1) pa_nil)))) (pw_or1 (pt_cmpR op_lt (pv 1) pe_int (nomark _))))) pss_never pss_nil)
      (pss_cons (ps_if (pt_not (pt_val (pe_call GM hr rfl gM kM bM .nil pass0 (pa_cons (pv 2) (pa_cons (pe_op op_sub (pv 1) pe_int) pa_nil))))) pss_never pss_nil)
      (pss_cons (ps_if (pt_not (pt_val (pe_call GS hr rfl gS kS bS .nil pass0 (pa_cons (pv 3) (pa_cons (pv 2) pa_nil))))) pss_never pss_nil)
      (pss_cons (ps_fld (pv 0) (pv 1) rfl)
      (pss_cons (ps_fld (pv 0) (pe_callTy call_list_of (by rfl) T.list (by decide +kernel) (pa_cons (pv 2) pa_nil)) rfl)
      (pss_one (ps_fld (pv 0) (pe_callTy call_list_of (by rfl) T.list (by decide +kernel) (pa_cons (pv 3) pa_nil)) rfl)))))), ?_⟩
    have hp := G.pos
    refine ⟨_, rfl, n, rfl, _, rfl, ?_⟩
    refine ifF rfl ?_
    refine ⟨_, rfl, _, _, rfl, rfl, _, rfl, ?_⟩
    refine ifF (decide_eq_false (by omega)) ?_
    refine ⟨_, rfl, _, rfl, _, _, rfl, rfl, a, ms, n - 1, rfl, hM, G.len, G.rng, G.asc, fun H1 s1 => ⟨_, rfl, ?_⟩⟩
    refine ifF rfl ?_
    refine ⟨_, rfl, _, rfl, b, a, ss, ms, rfl, s1 _ _ hS, s1 _ _ hM, G.len2, G.len, G.asc2, (fun y hy => (G.rng y (G.sub y hy)).1), G.sub, fun H2 s2 => ⟨_, rfl, ?_⟩⟩
    refine ifF rfl ?_
    have s12 := s1.trans s2
    refine ⟨_, rfl, _, rfl, x, C, dx, _, rfl, s12 _ _ hx, R.cl, R.nL, (by show 0 < 1000; decide), ?_⟩
    have na : a ≠ x := ne_of hM hx (by intro z; cases z)
    have nb : b ≠ x := ne_of hS hx (by intro z; cases z)
    have hM3 : ∀ o, IL (upd H2 x o) a ms := fun o => by
      show upd H2 x o a = _
      rw [upd_ne na]
      exact s12 _ _ hM
    have hS3 : ∀ o, IL (upd H2 x o) b ss := fun o => by
      show upd H2 x o b = _
      rw [upd_ne nb]
      exact s12 _ _ hS
    refine ⟨_, rfl, a, _, rfl, .inl (SqL.of (hM3 _)), fun l1 h1 => ?_⟩
    have nx1 : x ≠ l1 := ne_of_none upd_same h1
    have nb1 : b ≠ l1 := ne_of_none (hS3 _) h1
    refine ⟨_, rfl, x, C, dx, _, rfl, (by rw [upd_ne nx1]; exact upd_same), R.cl, R.nM, (by show 1 < 1000; decide), ?_⟩
    refine ⟨_, rfl, b, ss.map V.int, rfl, .inl (SqL.of (by rw [upd_ne nb, upd_ne nb1]; exact hS3 _)), fun l2 h2 => ?_⟩
    have nx2 : x ≠ l2 := ne_of_none upd_same h2
    have n12 : l1 ≠ l2 := ne_of_none (show _ = some (HO.lst (ms.map V.int)) by rw [upd_ne (Ne.symm nx1)]; exact upd_same) h2
    refine ⟨_, rfl, x, C, dx, _, rfl, (by rw [upd_ne nx2]; exact upd_same), R.cl, R.nS, (by show 2 < 1000; decide), ?_⟩
    have up : ∀ (H : Hp) (x : Addr) (o' : HO) (c : Addr) (o : HO), H c = some o → ∃ o'', upd H x o' c = some o'' := fun H x o' c o e => by
      by_cases z : c = x
      · exact ⟨o', by rw [z]; exact upd_same⟩
      · exact ⟨o, by rw [upd_ne z]; exact e⟩
    have f1 : H l1 = none := none_of (fun c o e => up _ _ _ _ _ (s12 _ _ e)) h1
    have f2 : H l2 = none := none_of (fun c o e => by
      obtain ⟨o1, e1⟩ := up H2 x (.ins C dx (putF "_length" (V.int n) [])) _ _ (s12 _ _ e)
      obtain ⟨o2, e2⟩ := up _ l1 (.lst (ms.map V.int)) _ _ e1
      exact up _ _ _ _ _ e2) h2
    refine k _ ⟨dx, l1, l2, upd_same, ?_, ?_, f1, f2⟩ ?_
    · show upd _ _ _ l1 = _
      rw [upd_ne (Ne.symm nx1), upd_ne n12, upd_ne (Ne.symm nx1)]
      exact upd_same
    · show upd _ _ _ l2 = _
      rw [upd_ne (Ne.symm nx2)]
      exact upd_same
    · intro c o ec nc
      have e3 : ∀ o', upd H2 x o' c = some o := fun o' => by
        rw [upd_ne nc]
        exact s12 _ _ ec
      have e4 := e3 (.ins C dx (putF "_length" (V.int n) []))
      have ne1 : c ≠ l1 := ne_of_none e4 h1
      rw [upd_ne nc]
      have e5 : upd (upd (upd H2 x (.ins C dx (putF "_length" (V.int n) []))) l1 (.lst (ms.map V.int))) x (.ins C dx (putF "_marks" (V.ref l1) (putF "_length" (V.int n) []))) c = some o := by
        rw [upd_ne nc, upd_ne ne1]
        exact e4
      rw [upd_ne (ne_of_none e5 h2)]
      exact e5
end
end Cw
namespace Cw
open PySem PySem.Spec PyProof.Rows L2
theorem dps_ints {K : PySem.W.Frag} {H : Hp} : ∀ ns : List Int, DpAll K H (ns.map V.int) (ns.map PyData.int)
  | [] => .nil
  | n :: r => .cons (.int n) (dps_ints r)
theorem dp_il {K : PySem.W.Frag} {H : Hp} {a : Addr} {ns : List Int} (h : IL H a ns) : Dp K H (.ref a) (.list (ns.map PyData.int)) := .lst (SqL.of h) (dps_ints ns)
theorem depth_ints : ∀ ns : List Int, PyData.depthAll (ns.map PyData.int) ≤ 1 := fun ns => by
  induction ns with
  | nil => exact Nat.zero_le _
  | cons n r ih =>
    rw [List.map_cons]
    unfold PyData.depthAll PyData.depth
    omega
theorem lay_ints : ∀ ns : List Int, PyData.canLayAll0 (ns.map PyData.int) = true := fun ns => by
  induction ns with
  | nil => rfl
  | cons n r ih =>
    rw [List.map_cons]
    unfold PyData.canLayAll0 PyData.canLay0
    rw [ih]
    rfl
theorem shape_il (ns : List Int) : SeqAt.shaped (.list (ns.map PyData.int)) = true := by
  have h1 : PyData.canLay0 (.list (ns.map PyData.int)) = true := by
    unfold PyData.canLay0
    exact lay_ints ns
  have h2 : PyData.depth (.list (ns.map PyData.int)) ≤ 64 := by
    have z := depth_ints ns
    unfold PyData.depth
    omega
  unfold SeqAt.shaped
  rw [h1, decide_eq_true h2]
  rfl
theorem eqv_il (ns : List Int) : PyData.eqv (.list (ns.map PyData.int)) (.list (ns.map PyData.int)) = true := SeqAt.eqv_refl _ (SeqAt.canLay_of_shaped (shape_il ns))
section
variable {X : Cx} {a b c d : Expr} {ta tb tc td : TE} {pos : Pos}
/-- a op1 b op2 c op3 d -/
def tChain3 (r1 r2 r3 : R2) (ta tb tc td : TE) : TE := fun σ H Q => ta σ H fun x H1 => tb σ H1 fun y H2 => r1 x y H2 fun z H3 => ∃ k, z = .bl k ∧
  (if k = true then tc σ H3 fun u H4 => r2 y u H4 fun z2 H5 => ∃ k2, z2 = .bl k2 ∧ (if k2 = true then td σ H5 fun v H6 => r3 u v H6 Q else Q (.bl false) H5) else Q (.bl false) H3)
theorem pt_chain3 {o1 o2 o3 : CmpOp} {r1 r2 r3 : R2} (h1 : OpR X (compareOp o1) r1) (h2 : OpR X (compareOp o2) r2) (h3 : OpR X (compareOp o3) r3) (ha : PE X a ta) (hb : PE X b tb) (hc : PE X c tc) (hd : PE X d td)
    (hm : lastMarks [o1, o2, o3] [b, c, d] = false := by with_unfolding_all rfl) : PT X (.Compare a [o1, o2, o3] [b, c, d] pos) (tTest (tChain3 r1 r2 r3 ta tb tc td)) := by
  refine ⟨fun pins s σ H Q I h => ?_⟩
  refine isTrue_chain (thn (ha.run pins s σ H _ I h) fun v s1 ⟨x, H1, I1, e1, q1⟩ => test_link (thn (hb.run pins s1 σ H1 _ I1 q1) fun u s2 ⟨y, H2, I2, e2, q2⟩ =>
    thn (h1 pins s2 σ H2 x y v u _ I2 e1 e2 q2) fun d1 s3 ⟨z, H3, I3, e3, k, e, q3⟩ => ?_)) hm
  subst e
  cases e3
  refine wpAny_truthy_bool ?_
  cases k with
  | false =>
    obtain ⟨k', e', q'⟩ := q3
    cases e'
    exact ite_ff ⟨H3, I3, q'⟩
  | true =>
    refine ite_tt (test_link (thn (hc.run pins s3 σ H3 _ I3 q3) fun w' s4 ⟨z', H4, I4, e4, q4⟩ => thn (h2 pins s4 σ H4 y z' u w' _ I4 e2 e4 q4) fun d' s5 ⟨z2, H5, I5, e5, k2, f2, q5⟩ => ?_))
    subst f2
    cases e5
    refine wpAny_truthy_bool ?_
    cases k2 with
    | false =>
      obtain ⟨k', e', q'⟩ := q5
      cases e'
      exact ite_ff ⟨H5, I5, q'⟩
    | true =>
      refine ite_tt (test_last (thn (hd.run pins s5 σ H5 _ I5 q5) fun w2 s6 ⟨y2, H6, I6, e6, q6⟩ => thn (h3 pins s6 σ H6 z' y2 w' w2 _ I6 e4 e6 q6) fun d2 s7 ⟨y3, H7, I7, e7, k3, f3, q7⟩ => ?_))
      subst f3
      cases e7
      exact wpAny_truthy_bool ⟨H7, I7, q7⟩
end
/-- two rows alike -/
def Alike (C : Addr) : Addr → Addr → Hp → Prop := fun a b H => ∃ n ms ss, RowAt C H a n ms ss ∧ RowAt C H b n ms ss
/-- what a row's .marks promises -/
def spGetM (C : Addr) : Sp := fun vs H Q _ => ∃ (a : Addr) (n : Int) (ms ss : List Int), vs = [.ref a] ∧ RowAt C H a n ms ss ∧ ∀ p H', Same H H' → H p = none → IL H' p ms → Q (.ref p) H'
/-- what isinstance asks of the class -/
structure Ci (K : PySem.W.Frag) (C : Addr) : Prop where
  ha : PySem.W.findIn K (.ref C) "__class__" = some (some (.builtin "object.__class__"))
  hn : PySem.W.specialIn K (.builtin "object.__class__") "__get__" = some (some (.builtin "getset_descriptor.__get__"))
  ht : PySem.W.takesIn K (.builtin "object.__class__") = some true
  hm : PySem.W.mroIn K C (.type "object") = some true
section
variable {P : Program} {w : World} {K : PySem.W.Frag} {mg : Str → Option Value} {base : Heap}
theorem scG : FnScope ["self"] ["self"] (defScope sGetM) := ⟨rfl, rfl, rfl, by decide +kernel, rfl, by decide +kernel, by decide +kernel⟩
theorem ok_getM {f C : Addr} {fd : FuncData} (F : Fun K "marks" "Row.marks" sGetM f fd) (T : Bl mg) (R : Cl K mg C) : FnOk P w K mg base CX0 1 f fd ["self"] (spGetM C) := by
  refine F.ok scG (fun vs H Q E h => ?_) (fun cdv A outer s H vs Q E hr h => ?_)
  · obtain ⟨a, n, ms, ss, rfl, _⟩ := h
    rfl
  · obtain ⟨a, n, ms, ss, rfl, ⟨dx, l1, l2, ho, h1, h2⟩, k⟩ := h
    refine ⟨_, pss_one (ps_ret (pe_callTy call_list_of (by rfl) T.list (by decide +kernel) (pa_cons (pe_fld (pv 0) rfl) pa_nil))), ?_⟩
    refine ⟨_, rfl, a, C, dx, _, _, rfl, ho, R.cl, R.nM, fl_M _ _ _, l1, _, rfl, .inl (SqL.of h1), fun p hp => ?_⟩
    exact k p _ (same_new (Same.refl H) hp) hp upd_same
theorem scE : FnScope ["self", "other"] ["self", "other"] (defScope sEq) := ⟨rfl, rfl, rfl, by decide +kernel, rfl, by decide +kernel, by decide +kernel⟩
theorem ok_eq {f C : Addr} {fd : FuncData} (F : Fun K "__eq__" "Row.__eq__" sEq f fd) (T : Bl mg) (R : Cl K mg C) (N : Ci K C) : FnOk P w K mg base CX0 1 f fd ["self", "other"] (spEq (Alike C)) := by
  refine F.ok scE (fun vs H Q E h => ?_) (fun cdv A outer s H vs Q E hr h => ?_)
  · obtain ⟨a, b, rfl, _⟩ := h
    rfl
  · obtain ⟨a, b, rfl, ⟨n, ms, ss, ⟨dx, l1, l2, ho, h1, h2⟩, ⟨dy, m1, m2, hp, g1, g2⟩⟩, k⟩ := h
    refine ⟨_, pss_cons (ps_if (pt_not (pt_val (pe_callB call_isi (by rfl) T.isi (by decide +kernel) (pa_cons (pv 1) (pa_cons (pe_glob (by rfl) R.mgR (v := V.ref C) rfl) pa_nil))))) (pss_one (ps_ret pe_bl)) pss_nil)
      (pss_cons (ps_if (pt_cmpR op_ne (pe_fld (pv 0) rfl) (pe_fld (pv 1) rfl) (nomark _)) (pss_one (ps_ret pe_bl)) pss_nil)
      (pss_one (ps_ret (pe_and (pe_cmpR (op_eqD hr.units) (pe_fld (pv 0) rfl) (pe_fld (pv 1) rfl) (nomark _)) (pe_one (pe_cmpR (op_eqD hr.units) (pe_fld (pv 0) rfl) (pe_fld (pv 1) rfl) (nomark _))))))), ?_⟩
    refine ⟨_, rfl, _, _, _, _, true, rfl, ClsV.own _, .base (.ins hp R.cl N.ha N.hn N.ht N.hm), R.kit, _, rfl, ?_⟩
    refine ifF rfl ?_
    refine ⟨_, rfl, a, C, dx, _, _, rfl, ho, R.cl, R.nL, fl_L _ _ _, _, rfl, b, C, dy, _, _, rfl, hp, R.cl, R.nL, fl_L _ _ _, rfl, _, rfl, ?_⟩
    refine ifF (by simp) ?_
    refine ⟨_, rfl, a, C, dx, _, _, rfl, ho, R.cl, R.nM, fl_M _ _ _, _, rfl, b, C, dy, _, _, rfl, hp, R.cl, R.nM, fl_M _ _ _, _, _, dp_il h1, dp_il g1, shape_il _, shape_il _, _, rfl, ?_⟩
    refine ifT (eqv_il ms) ?_
    refine ⟨_, rfl, a, C, dx, _, _, rfl, ho, R.cl, R.nS, fl_S _ _ _, _, rfl, b, C, dy, _, _, rfl, hp, R.cl, R.nS, fl_S _ _ _, _, _, dp_il h2, dp_il g2, shape_il _, shape_il _, ?_⟩
    have z := k H Ext.rfl'
    rw [← eqv_il ss] at z
    exact z
end
end Cw
namespace Cw
open PySem L2
abbrev sShift : Stmt := top 16
abbrev sReplaced : Stmt := top 18
/-- a change of a row of n cells -/
structure ChOk (n b e len : Int) (ms ss : List Int) : Prop where
  b0 : 0 ≤ b
  be : b ≤ e
  en : e ≤ n
  l0 : 0 ≤ len
  big : 1 ≤ n - (e - b) + len
  few : ms.length ≤ 400
  rng : ∀ x ∈ ms, 1 ≤ x ∧ x ≤ (if e = n then len - 1 else len)
  asc : Asc ms
  asc2 : Asc ss
  sub : ∀ x ∈ ss, x ∈ ms
theorem ChOk.len2 {n b e len : Int} {ms ss : List Int} (g : ChOk n b e len ms ss) : ss.length ≤ 400 :=
  Nat.le_trans (nodup_len (g.asc2.imp fun h e => by omega) g.sub) g.few
def spRepl : Sp := fun vs H Q _ => ∃ (b e len n : Int), vs = [.int b, .int e, .int len, .int n] ∧ 0 ≤ b ∧ b ≤ e ∧ e ≤ n ∧ 0 ≤ len ∧ 1 ≤ n - (e - b) + len ∧ ∀ H', Same H H' → Q (.bl true) H'
def spChange : Sp := fun vs H Q _ => ∃ (t m s : Addr) (b e len n : Int) (ms ss : List Int), vs = [.ref t, .int n] ∧ H t = some (.tup [.int b, .int e, .int len, .ref m, .ref s]) ∧ IL H m ms ∧ IL H s ss ∧ ChOk n b e len ms ss ∧ ∀ H', Same H H' → Q (.bl true) H'
section
variable {P : Program} {w : World} {K : PySem.W.Frag} {mg : Str → Option Value} {base : Heap}
abbrev NR : List Str := ["begin", "end", "length", "row_length", "number"]
theorem scR : FnScope NR ["begin", "end", "length", "row_length"] (defScope sRepl) := ⟨rfl, rfl, rfl, by decide +kernel, rfl, by decide +kernel, by decide +kernel⟩
theorem ok_repl {f fI : Addr} {fd fdI : FuncData} (F : Fun K "is_replacement" "is_replacement" sRepl f fd) (T : Bl mg) (gI : mg "is_integer" = some (.ref fI)) (kI : PySem.W.keepIn K (.ref fI) = true) (bI : Binds K fdI ["thing"] []) (GI : FnOk P w K mg base CX0 1 fI fdI ["thing"] spOne) :
    FnOk P w K mg base CX0 2 f fd ["begin", "end", "length", "row_length"] spRepl := by
  refine F.ok scR (fun vs H Q E h => ?_) (fun cdv A outer s H vs Q E hr h => ?_)
  · obtain ⟨b, e, len, n, rfl, _⟩ := h
    rfl
  · obtain ⟨b, e, len, n, rfl, b0, be, en, l0, big, k⟩ := h
    refine ⟨_, pss_cons (ps_if (pt_not (pt_val (pe_callB (cr_all rfl) (by rfl) T.all (by decide +kernel) (pa_cons (pe_lc (own := [("number", 4)]) (g := gName 4) (tt := tYes) rfl scR.nd
        (pi_tup (pe_tup (pa_cons (pv 0) (pa_cons (pv 1) (pa_cons (pv 2) pa_nil))))) (blkOk_by (own := [("number", 4)]) (N := NR) (sc := defScope sRepl) (by decide +kernel)) (fun _ _ _ _ _ => pg_name (i := 4) scR.nd rfl (Or.inl rfl)) (fun _ _ _ _ _ => pts_nil)
        (fun _ _ _ _ _ => pe_call GI hr rfl gI kI bI .nil pass0 (pa_cons (pv 4) pa_nil))) pa_nil)))) (pss_one (ps_ret pe_bl)) pss_nil)
      (pss_cons (ps_if (PW.pt (pw_or (pt_not (pt_chain3 op_le op_le op_le pe_int (pv 0) (pv 1) (pv 3))) (pw_or1 (pt_cmpR op_lt (pv 2) pe_int (nomark _))))) (pss_one (ps_ret pe_bl)) pss_nil)
      (pss_one (ps_ret (pe_cmpR op_ge (pe_op op_add (pe_op op_sub (pv 3) (pe_op op_sub (pv 1) (pv 0))) (pv 2)) pe_int (nomark _))))), ?_⟩
    refine ⟨_, rfl, _, rfl, _, rfl, (by show 3 ≤ sizeLine; decide), fun t ht => ?_⟩
    have s1 := same_new (o := .tup [.int b, .int e, .int len]) (Same.refl H) ht
    refine ⟨t, rfl, ⟨_, SqT.of upd_same⟩, fun D hD => ?_⟩
    have nt : t ≠ D := ne_of_none upd_same hD
    refine lc_tup (K := K) (a := t) (xs := [.int b, .int e, .int len]) (fun i H' => Same H H' ∧ H' t = some (.tup [.int b, .int e, .int len]) ∧ H' D = some (.lst (List.replicate i (V.bl true))))
      ⟨same_new s1 hD, by rw [upd_ne nt]; exact upd_same, upd_same⟩ (fun i H' _ q => SqT.of q.2.1) ?_ ?_
    · rintro i x H' hx ⟨s2, h2, h3⟩
      have hi : i < 3 := (List.getElem?_eq_some_iff.mp hx).1
      obtain ⟨z, rfl⟩ : ∃ z, x = V.int z := by
        have m := List.mem_of_getElem? hx
        simp only [List.mem_cons, List.not_mem_nil, or_false] at m
        rcases m with rfl | rfl | rfl <;> exact ⟨_, rfl⟩
      refine ⟨rfl, ?_⟩
      unfold tYes
      refine iteT ?_
      refine ⟨_, rfl, _, rfl, ?_⟩
      refine ⟨_, h3, by rw [List.length_replicate]; exact small1000 (by omega), same_put s2 (s1.free hD), by rw [upd_ne nt]; exact h2, ?_⟩
      rw [upd_same, List.replicate_succ']
    · rintro H' ⟨s2, h2, h3⟩
      refine ⟨D, List.replicate 3 true, rfl, SqL.of (by rw [h3, List.map_replicate]; rfl), _, rfl, ?_⟩
      rw [all_true]
      refine ifF rfl ?_
      refine ⟨_, rfl, _, _, rfl, rfl, _, rfl, ?_⟩
      refine ifT (by simp [b0]) ?_
      refine ⟨_, rfl, _, _, rfl, rfl, _, rfl, ?_⟩
      refine ifT (by simp [be]) ?_
      refine ⟨_, rfl, _, _, rfl, rfl, _, rfl, ?_⟩
      refine ifF (by simp [en]) ?_
      refine ⟨_, rfl, _, _, rfl, rfl, _, rfl, ?_⟩
      refine ifF (decide_eq_false (by omega)) ?_
      refine ⟨_, rfl, _, rfl, _, rfl, _, _, rfl, rfl, _, _, rfl, rfl, _, rfl, _, _, rfl, rfl, _, _, rfl, rfl, ?_⟩
      have z := k _ s2
      rw [← decide_eq_true (p := n - (e - b) + len ≥ 1) big] at z
      exact z
abbrev NC : List Str := ["thing", "row_length", "begin", "end", "length", "marks", "strict", "high"]
theorem scC : FnScope NC ["thing", "row_length"] (defScope sChange) := ⟨rfl, rfl, rfl, by decide +kernel, rfl, by decide +kernel, by decide +kernel⟩
theorem ok_change {f fR fM fS : Addr} {fd fdR fdM fdS : FuncData} (F : Fun K "is_change" "is_change" sChange f fd) (T : Bl mg)
    (gR : mg "is_replacement" = some (.ref fR)) (kR : PySem.W.keepIn K (.ref fR) = true) (bR : Binds K fdR ["begin", "end", "length", "row_length"] []) (GR : FnOk P w K mg base CX0 2 fR fdR ["begin", "end", "length", "row_length"] spRepl)
    (gM : mg "are_marks" = some (.ref fM)) (kM : PySem.W.keepIn K (.ref fM) = true) (bM : Binds K fdM ["thing", "high"] []) (GM : FnOk P w K mg base CX0 4 fM fdM ["thing", "high"] spMarks)
    (gS : mg "are_some_of" = some (.ref fS)) (kS : PySem.W.keepIn K (.ref fS) = true) (bS : Binds K fdS ["thing", "marks"] []) (GS : FnOk P w K mg base CX0 4 fS fdS ["thing", "marks"] spSome) :
    FnOk P w K mg base CX0 5 f fd ["thing", "row_length"] spChange := by
  refine F.ok scC (fun vs H Q E h => ?_) (fun cdv A outer s H vs Q E hr h => ?_)
  · obtain ⟨t, m, u, b, e, len, n, ms, ss, rfl, _⟩ := h
    rfl
  · obtain ⟨t, m, u, b, e, len, n, ms, ss, rfl, ht, hM, hS, G, k⟩ := h
    have hr2 : Room 2 (A.deeper (PyProof.Rows.envOfC "is_change" (defScope sChange) s.heap.objs.size f cdv)) := hr.mono (by decide)
    refine ⟨_, pss_cons (ps_if (PW.pt (pw_or (pt_not (pt_val (pe_callB call_isi (by rfl) T.isi (by decide +kernel) (pa_cons (pv 0) (pa_cons (pe_bltn (by rfl) T.tuple (by decide +kernel) (v := V.ty "tuple") rfl) pa_nil)))))
        (pw_or1 (pt_cmpR op_ne (pe_callB call_len_seq (by rfl) T.len PySem.boot_len (pa_cons (pv 0) pa_nil)) pe_int (nomark _))))) (pss_one (ps_ret pe_bl)) pss_nil)
      (pss_cons (ps_asg (pv 0) (pg_tup (by rfl) (pgs_cons (pg_name (i := 2) scC.nd rfl (Or.inl rfl)) (pgs_cons (pg_name (i := 3) scC.nd rfl (Or.inl rfl)) (pgs_cons (pg_name (i := 4) scC.nd rfl (Or.inl rfl)) (pgs_cons (pg_name (i := 5) scC.nd rfl (Or.inl rfl)) (pgs_cons (pg_name (i := 6) scC.nd rfl (Or.inl rfl)) pgs_nil)))))))
      (pss_cons (ps_if (pt_not (pt_val (pe_call GR hr2 rfl gR kR bR .nil pass0 (pa_cons (pv 2) (pa_cons (pv 3) (pa_cons (pv 4) (pa_cons (pv 1) pa_nil))))))) (pss_one (ps_ret pe_bl)) pss_nil)
      (pss_cons (ps_set (i := 7) scC.nd rfl (Or.inl rfl) (pe_ifExp (pt_cmpR op_eq (pv 3) (pv 1) (nomark _)) (pe_op op_sub (pv 4) pe_int) (pv 4)))
      (pss_one (ps_ret (pe_and (pe_call GM hr rfl gM kM bM .nil pass0 (pa_cons (pv 5) (pa_cons (pv 7) pa_nil))) (pe_one (pe_call GS hr rfl gS kS bS .nil pass0 (pa_cons (pv 6) (pa_cons (pv 5) pa_nil)))))))))), ?_⟩
    refine ⟨_, rfl, _, _, _, _, true, rfl, ClsV.ty _, .base (.tup ht), kit_ty (by decide +kernel), _, rfl, ?_⟩
    refine ifF rfl ?_
    refine ⟨_, rfl, t, _, rfl, .inr (SqT.of ht), rfl, _, rfl, ?_⟩
    refine ifF (by simp) ?_
    refine ⟨_, rfl, t, _, rfl, SqT.of ht, rfl, _, _, rfl, _, _, rfl, _, _, rfl, _, _, rfl, _, _, rfl, rfl, ?_⟩
    refine ⟨_, rfl, _, rfl, _, rfl, _, rfl, b, e, len, n, rfl, G.b0, G.be, G.en, G.l0, G.big, fun H1 s1 => ⟨_, rfl, ?_⟩⟩
    refine ifF rfl ?_
    have fin : ∀ hi, (∀ x ∈ ms, 1 ≤ x ∧ x ≤ hi) → spMarks [.ref m, .int hi] H1 (fun v H2 => ∃ c, v = .bl c ∧ (if c = true then spSome [.ref u, .ref m] H2 Q E else Q (.bl false) H2)) E := fun hi hx =>
      ⟨m, ms, hi, rfl, s1 _ _ hM, G.few, hx, G.asc, fun H2 s2 => ⟨_, rfl, iteT ⟨u, m, ss, ms, rfl, s2 _ _ (s1 _ _ hS), s2 _ _ (s1 _ _ hM), G.len2, G.few, G.asc2, fun y hy => (G.rng y (G.sub y hy)).1, G.sub, fun H3 s3 => k _ ((s1.trans s2).trans s3)⟩⟩⟩
    have rng := G.rng
    refine ⟨_, rfl, _, rfl, rfl, _, rfl, ?_⟩
    by_cases hen : e = n
    · refine ifT (by simp [hen]) ?_
      rw [if_pos hen] at rng
      refine ⟨_, rfl, _, _, rfl, rfl, ?_⟩
      refine ⟨_, rfl, _, rfl, ?_⟩
      obtain ⟨m1, ns1, hi1, e1, i1, i2, i3, i4, i5⟩ := fin _ rng
      refine ⟨m1, ns1, hi1, e1, i1, i2, i3, i4, fun H2 s2 => ?_⟩
      obtain ⟨c, ec, q⟩ := i5 H2 s2
      refine ⟨c, ec, ?_⟩
      cases ec
      exact ⟨_, rfl, _, rfl, q⟩
    · refine ifF (by simp [hen]) ?_
      rw [if_neg hen] at rng
      refine ⟨_, rfl, ?_⟩
      refine ⟨_, rfl, _, rfl, ?_⟩
      obtain ⟨m1, ns1, hi1, e1, i1, i2, i3, i4, i5⟩ := fin _ rng
      refine ⟨m1, ns1, hi1, e1, i1, i2, i3, i4, fun H2 s2 => ?_⟩
      obtain ⟨c, ec, q⟩ := i5 H2 s2
      refine ⟨c, ec, ?_⟩
      cases ec
      exact ⟨_, rfl, _, rfl, q⟩
end
end Cw
namespace Cw
open PySem L2
/-! ## the mathematics of a change -/
def rep (old new : List Int) (b e len nl : Int) : List Int := old.filter (fun x => decide (x ≤ b) && decide (x < nl)) ++ new.map (· + b) ++ (old.filter (fun x => decide (x > e))).map (· + (len - (e - b)))
theorem mem_rep {old new : List Int} {b e len nl x : Int} : x ∈ rep old new b e len nl ↔ (x ∈ old ∧ x ≤ b ∧ x < nl) ∨ (x - b ∈ new) ∨ (x - (len - (e - b)) ∈ old ∧ e < x - (len - (e - b))) := by
  unfold rep
  rw [List.mem_append, List.mem_append, List.mem_filter, List.mem_map, List.mem_map]
  constructor
  · rintro ((⟨h1, h2⟩ | ⟨y, h, rfl⟩) | ⟨y, h, rfl⟩)
    · simp only [Bool.and_eq_true, decide_eq_true_eq] at h2
      exact .inl ⟨h1, h2⟩
    · refine .inr (.inl ?_)
      have z : y + b - b = y := by omega
      rw [z]
      exact h
    · rw [List.mem_filter] at h
      have z : y + (len - (e - b)) - (len - (e - b)) = y := by omega
      refine .inr (.inr ?_)
      rw [z]
      exact ⟨h.1, of_decide_eq_true h.2⟩
  · rintro (⟨h1, h2, h3⟩ | h | ⟨h1, h2⟩)
    · exact .inl (.inl ⟨h1, by simp [h2, h3]⟩)
    · exact .inl (.inr ⟨_, h, by omega⟩)
    · exact .inr ⟨_, List.mem_filter.mpr ⟨h1, decide_eq_true h2⟩, by omega⟩
theorem asc_shift {ns : List Int} (h : Asc ns) (k : Int) : Asc (ns.map (· + k)) := by
  rw [Asc, List.pairwise_map]
  exact h.imp fun {a b} x => by omega
theorem asc_rep {old new : List Int} {b e len nl : Int} (h1 : Asc old) (h2 : Asc new) (hn : ∀ x ∈ new, 1 ≤ x ∧ x ≤ len) (hl : 0 ≤ len) : Asc (rep old new b e len nl) := by
  unfold rep
  rw [Asc, List.pairwise_append, List.pairwise_append]
  refine ⟨⟨h1.filter _, asc_shift h2 b, ?_⟩, asc_shift (h1.filter _) _, ?_⟩
  · intro x hx y hy
    obtain ⟨z, hz, rfl⟩ := List.mem_map.mp hy
    have q := (List.mem_filter.mp hx).2
    simp only [Bool.and_eq_true, decide_eq_true_eq] at q
    have := hn z hz
    omega
  · intro x hx y hy
    obtain ⟨z, hz, rfl⟩ := List.mem_map.mp hy
    have q := of_decide_eq_true (List.mem_filter.mp hz).2
    rcases List.mem_append.mp hx with hx | hx
    · have r := (List.mem_filter.mp hx).2
      simp only [Bool.and_eq_true, decide_eq_true_eq] at r
      omega
    · obtain ⟨u, hu, rfl⟩ := List.mem_map.mp hx
      have := hn u hu
      omega
theorem good_rep {n b e len : Int} {ms ss cs ds : List Int} (G : Good n ms ss) (D : ChOk n b e len cs ds) (hl : (rep ms cs b e len (n - (e - b) + len)).length ≤ 400) :
    Good (n - (e - b) + len) (rep ms cs b e len (n - (e - b) + len)) (rep ss ds b e len (n - (e - b) + len)) := by
  have b0 := D.b0
  have be := D.be
  have en := D.en
  have l0 := D.l0
  have le : ∀ x ∈ cs, 1 ≤ x ∧ x ≤ len := fun x hx => by
    have := D.rng x hx
    split at this <;> omega
  refine ⟨by have := D.big; omega, hl, fun x hx => ?_, asc_rep G.asc D.asc le l0, asc_rep G.asc2 D.asc2 (fun x hx => le x (D.sub x hx)) l0, fun x hx => ?_⟩
  · rcases mem_rep.mp hx with ⟨h1, h2, h3⟩ | h | ⟨h1, h2⟩
    · have := G.rng x h1
      omega
    · have := D.rng _ h
      split at this <;> omega
    · have := G.rng _ h1
      omega
  · rcases mem_rep.mp hx with ⟨h1, h2, h3⟩ | h | ⟨h1, h2⟩
    · exact mem_rep.mpr (.inl ⟨G.sub _ h1, h2, h3⟩)
    · exact mem_rep.mpr (.inr (.inl (D.sub _ h)))
    · exact mem_rep.mpr (.inr (.inr ⟨G.sub _ h1, h2⟩))
theorem take_map {ns : List Int} {i : Nat} {z : Int} (h : ns[i]? = some z) (f : Int → Int) : (ns.take (i + 1)).map f = (ns.take i).map f ++ [f z] := by
  rw [List.take_add_one, h, List.map_append]
  rfl
theorem take_fil {ns : List Int} {i : Nat} {z : Int} (h : ns[i]? = some z) (p : Int → Bool) : (ns.take (i + 1)).filter p = (ns.take i).filter p ++ (if p z = true then [z] else []) := by
  rw [List.take_add_one, h, List.filter_append]
  congr 1
  show List.filter p [z] = _
  rw [List.filter_cons]
  rfl
theorem ints_app {ns : List Int} {z : Int} : ns.map V.int ++ [V.int z] = (ns ++ [z]).map V.int := by rw [List.map_append]; rfl
theorem small2000 {n : Nat} (h : n ≤ 2000) : n < sizeLine := Nat.lt_of_le_of_lt h (by decide)
theorem small3000 {n : Nat} (h : n ≤ 3000) : n < sizeLine := Nat.lt_of_le_of_lt h (by decide)
def spShift : Sp := fun vs H Q _ => ∃ (a : Addr) (ns : List Int) (k : Int), vs = [.ref a, .int k] ∧ IL H a ns ∧ ns.length ≤ 1000 ∧ ∀ p H', Same H H' → H p = none → IL H' p (ns.map (· + k)) → Q (.ref p) H'
def spReplaced : Sp := fun vs H Q _ => ∃ (a c t : Addr) (os ns : List Int) (b e len nl : Int) (x y : V), vs = [.ref a, .ref c, .ref t, .int nl] ∧ IL H a os ∧ IL H c ns ∧ H t = some (.tup [.int b, .int e, .int len, x, y]) ∧ os.length ≤ 1000 ∧ ns.length ≤ 1000 ∧
  ∀ p H', Same H H' → H p = none → IL H' p (rep os ns b e len nl) → Q (.ref p) H'
def spChanged (C : Addr) : Sp := fun vs H Q _ => ∃ (x t m u : Addr) (n b e len : Int) (ms ss cs ds : List Int), vs = [.ref x, .ref t] ∧ RowAt C H x n ms ss ∧ H t = some (.tup [.int b, .int e, .int len, .ref m, .ref u]) ∧ IL H m cs ∧ IL H u ds ∧ Good n ms ss ∧ ChOk n b e len cs ds ∧
  (rep ms cs b e len (n - (e - b) + len)).length ≤ 400 ∧ ∀ p H', Same H H' → RowNew C H H' p (n - (e - b) + len) (rep ms cs b e len (n - (e - b) + len)) (rep ss ds b e len (n - (e - b) + len)) → Q (.ref p) H'
section
variable {P : Program} {w : World} {K : PySem.W.Frag} {mg : Str → Option Value} {base : Heap}
abbrev NS : List Str := ["places", "number", "place"]
theorem scSh : FnScope NS ["places", "number"] (defScope sShift) := ⟨rfl, rfl, rfl, by decide +kernel, rfl, by decide +kernel, by decide +kernel⟩
theorem ok_shift {f : Addr} {fd : FuncData} (F : Fun K "shifted" "shifted" sShift f fd) : FnOk P w K mg base CX0 1 f fd ["places", "number"] spShift := by
  refine F.ok scSh (fun vs H Q E h => ?_) (fun cdv A outer s H vs Q E hr h => ?_)
  · obtain ⟨a, ns, k, rfl, _⟩ := h
    rfl
  · obtain ⟨a, ns, k, rfl, hS, hl, q⟩ := h
    refine ⟨_, pss_one (ps_ret (pe_lc (own := [("place", 2)]) (g := gName 2) (tt := tYes) rfl scSh.nd (pi_list (pv 0)) (blkOk_by (own := [("place", 2)]) (N := NS) (sc := defScope sShift) (by decide +kernel))
        (fun _ _ _ _ _ => pg_name (i := 2) scSh.nd rfl (Or.inl rfl)) (fun _ _ _ _ _ => pts_nil) (fun _ _ _ _ _ => pe_op op_add (pv 2) (pv 1)))), ?_⟩
    refine ⟨_, rfl, a, rfl, ⟨_, SqL.of hS⟩, fun D hD => ?_⟩
    refine lc_list (K := K) (a := a) (xs := ns.map V.int) (fun i H' => Same H H' ∧ IL H' D ((ns.take i).map (· + k))) ⟨same_new (Same.refl H) hD, upd_same⟩ (fun i H' _ z => SqL.of (z.1 _ _ hS)) ?_ ?_
    · rintro i x H' hx ⟨s1, hD'⟩
      obtain ⟨z, rfl, hz⟩ := il_at hx
      have hil : i < ns.length := (List.getElem?_eq_some_iff.mp hz).1
      refine ⟨rfl, ?_⟩
      unfold tYes
      refine iteT ?_
      refine ⟨_, rfl, _, rfl, _, _, rfl, rfl, ?_⟩
      refine ⟨_, hD', by rw [List.length_map, List.length_map, List.length_take]; exact small1000 (by omega), same_put s1 hD, ?_⟩
      show upd _ _ _ D = _
      rw [upd_same, ints_app, take_map hz]
    · rintro H' ⟨s1, hD'⟩
      rw [List.length_map, List.take_length] at hD'
      exact q D H' s1 hD hD'
abbrev NP : List Str := ["old", "new", "change", "new_length", "begin", "end", "length", "_", "before", "behind", "mark"]
theorem scRp : FnScope NP ["old", "new", "change", "new_length"] (defScope sReplaced) := ⟨rfl, rfl, rfl, by decide +kernel, rfl, by decide +kernel, by decide +kernel⟩
theorem ok_replaced {f fS : Addr} {fd fdS : FuncData} (F : Fun K "replaced" "replaced" sReplaced f fd) (gS : mg "shifted" = some (.ref fS)) (kS : PySem.W.keepIn K (.ref fS) = true) (bS : Binds K fdS ["places", "number"] []) (GS : FnOk P w K mg base CX0 1 fS fdS ["places", "number"] spShift) :
    FnOk P w K mg base CX0 2 f fd ["old", "new", "change", "new_length"] spReplaced := by
  refine F.ok scRp (fun vs H Q E h => ?_) (fun cdv A outer s H vs Q E hr h => ?_)
  · obtain ⟨a, c, t, os, ns, b, e, len, nl, x, y, rfl, _⟩ := h
    rfl
  · obtain ⟨a, c, t, os, ns, b, e, len, nl, x, y, rfl, hO, hN, ht, lo, ln, q⟩ := h
    refine ⟨_, pss_cons (ps_asg (pv 2) (pg_tup (by rfl) (pgs_cons (pg_name (i := 4) scRp.nd rfl (Or.inr rfl)) (pgs_cons (pg_name (i := 5) scRp.nd rfl (Or.inr rfl)) (pgs_cons (pg_name (i := 6) scRp.nd rfl (Or.inl rfl)) (pgs_cons (pg_name (i := 7) scRp.nd rfl (Or.inl rfl)) (pgs_cons (pg_name (i := 7) scRp.nd rfl (Or.inl rfl)) pgs_nil)))))))
      (pss_cons (ps_setLc (i := 8) (own := [("mark", 10)]) (g := gName 10) rfl scRp.nd rfl rfl (sw_true rfl rfl rfl (by decide +kernel)) (pi_list (pv 0)) (blkOk_by (own := [("mark", 10)]) (N := NP) (sc := defScope sReplaced) (by decide +kernel))
        (fun _ _ _ _ _ => pg_name (i := 10) scRp.nd rfl (Or.inl rfl)) (fun _ _ _ _ _ => pts_one (PW.pt (pw_and (pt_cmpR op_le (pv 10) (pv 4) (nomark _)) (pw_and1 (pt_cmpR op_lt (pv 10) (pv 3) (nomark _)))))) (fun _ _ _ _ _ => pv 10))
      (pss_cons (ps_setLc (i := 9) (own := [("mark", 10)]) (g := gName 10) rfl scRp.nd rfl rfl (sw_true rfl rfl rfl (by decide +kernel)) (pi_list (pv 0)) (blkOk_by (own := [("mark", 10)]) (N := NP) (sc := defScope sReplaced) (by decide +kernel))
        (fun _ _ _ _ _ => pg_name (i := 10) scRp.nd rfl (Or.inl rfl)) (fun _ _ _ _ _ => pts_one (pt_cmpR op_gt (pv 10) (pv 5) (nomark _))) (fun _ _ _ _ _ => pv 10))
      (pss_one (ps_ret (pe_op op_cat (pe_op op_cat (pv 8) (pe_call GS hr rfl gS kS bS .nil pass0 (pa_cons (pv 1) (pa_cons (pv 4) pa_nil))))
        (pe_call GS hr rfl gS kS bS .nil pass0 (pa_cons (pv 9) (pa_cons (pe_op op_sub (pv 6) (pe_op op_sub (pv 5) (pv 4))) pa_nil)))))))), ?_⟩
    refine ⟨_, rfl, t, _, rfl, SqT.of ht, rfl, _, _, rfl, _, _, rfl, _, _, rfl, _, _, rfl, _, _, rfl, rfl, ?_⟩
    refine ⟨_, rfl, a, rfl, ⟨_, SqL.of hO⟩, fun D hD => ?_⟩
    refine lc_list (K := K) (a := a) (xs := os.map V.int) (fun i H' => Same H H' ∧ IL H' D ((os.take i).filter (fun x => decide (x ≤ b) && decide (x < nl)))) ⟨same_new (Same.refl H) hD, upd_same⟩ (fun i H' _ z => SqL.of (z.1 _ _ hO)) ?_ ?_
    · rintro i x' H' hx ⟨s1, hD'⟩
      obtain ⟨z, rfl, hz⟩ := il_at hx
      have hil : i < os.length := (List.getElem?_eq_some_iff.mp hz).1
      have tf := take_fil hz (fun x => decide (x ≤ b) && decide (x < nl))
      have sm : (List.map V.int ((os.take i).filter (fun x => decide (x ≤ b) && decide (x < nl)))).length < sizeLine := by
        rw [List.length_map]
        have z1 := List.length_filter_le (fun x => decide (x ≤ b) && decide (x < nl)) (os.take i)
        rw [List.length_take] at z1
        exact small1000 (by omega)
      refine ⟨rfl, ?_⟩
      refine ⟨_, rfl, _, rfl, _, _, rfl, rfl, _, rfl, ?_⟩
      by_cases c1 : z ≤ b
      · refine ifT (decide_eq_true c1) ?_
        refine ⟨_, rfl, _, rfl, _, _, rfl, rfl, _, rfl, ?_⟩
        by_cases c2 : z < nl
        · refine ifT (decide_eq_true c2) ?_
          refine ⟨_, rfl, _, hD', sm, same_put s1 hD, ?_⟩
          show upd _ _ _ D = _
          rw [upd_same, ints_app, tf]
          simp [c1, c2]
        · refine ifF (decide_eq_false c2) ?_
          refine ⟨s1, ?_⟩
          show H' D = _
          rw [hD', tf]
          simp [c2]
      · refine ifF (decide_eq_false c1) ?_
        refine ifF rfl ?_
        refine ⟨s1, ?_⟩
        show H' D = _
        rw [hD', tf]
        simp [c1]
    · rintro H' ⟨s1, hD'⟩
      rw [List.length_map, List.take_length] at hD'
      have nD : H D = none := hD
      refine ⟨_, rfl, a, rfl, ⟨_, SqL.of (s1 _ _ hO)⟩, fun D2 hD2 => ?_⟩
      have nDD : D ≠ D2 := ne_of_none hD' hD2
      refine lc_list (K := K) (a := a) (xs := os.map V.int) (fun i H2 => Same H' H2 ∧ IL H2 D2 ((os.take i).filter (fun x => decide (x > e)))) ⟨same_new (Same.refl H') hD2, upd_same⟩ (fun i H2 _ z => SqL.of (z.1 _ _ (s1 _ _ hO))) ?_ ?_
      · rintro i x' H2 hx ⟨s2, hE⟩
        obtain ⟨z, rfl, hz⟩ := il_at hx
        have hil : i < os.length := (List.getElem?_eq_some_iff.mp hz).1
        have tf := take_fil hz (fun x => decide (x > e))
        have sm : (List.map V.int ((os.take i).filter (fun x => decide (x > e)))).length < sizeLine := by
          rw [List.length_map]
          have z1 := List.length_filter_le (fun x => decide (x > e)) (os.take i)
          rw [List.length_take] at z1
          exact small1000 (by omega)
        refine ⟨rfl, ?_⟩
        refine ⟨_, rfl, _, rfl, _, _, rfl, rfl, _, rfl, ?_⟩
        by_cases c1 : z > e
        · refine ifT (decide_eq_true c1) ?_
          refine ⟨_, rfl, _, hE, sm, same_put s2 hD2, ?_⟩
          show upd _ _ _ D2 = _
          rw [upd_same, ints_app, tf]
          simp [c1]
        · refine ifF (decide_eq_false c1) ?_
          refine ⟨s2, ?_⟩
          show H2 D2 = _
          rw [hE, tf]
          simp [c1]
      · rintro H2 ⟨s2, hE⟩
        rw [List.length_map, List.take_length] at hE
        have s12 := s1.trans s2
        have l1 := List.length_filter_le (fun x => decide (x ≤ b) && decide (x < nl)) os
        have l2 := List.length_filter_le (fun x => decide (x > e)) os
        refine ⟨_, rfl, _, rfl, _, rfl, c, ns, b, rfl, s12 _ _ hN, ln, fun p3 H3 s3 n3 hp3 => ?_⟩
        refine ⟨D, p3, _, _, rfl, rfl, s3 _ _ (s2 _ _ hD'), hp3, by rw [List.length_map, List.length_map, List.length_map]; exact Nat.le_of_lt (small2000 (by omega)), fun p4 n4 => ?_⟩
        have s4 := same_new (o := .lst (((os.filter (fun x => decide (x ≤ b) && decide (x < nl))).map V.int) ++ ((ns.map (· + b)).map V.int))) s3 n4
        refine ⟨_, rfl, _, rfl, _, rfl, _, rfl, _, _, rfl, rfl, _, _, rfl, rfl, ?_⟩
        refine ⟨D2, _, _, rfl, s4 _ _ hE, by omega, fun p5 H5 s5 n5 hp5 => ?_⟩
        refine ⟨p4, p5, _, _, rfl, rfl, s5 _ _ upd_same, hp5, by simp only [List.length_append, List.length_map]; exact Nat.le_of_lt (small3000 (by omega)), fun p6 n6 => ?_⟩
        have s16 : Same H (upd H5 p6 (.lst (((os.filter (fun x => decide (x ≤ b) && decide (x < nl))).map V.int ++ (ns.map (· + b)).map V.int) ++ ((os.filter (fun x => decide (x > e))).map (· + (len - (e - b)))).map V.int))) := same_new ((s12.trans s4).trans s5) n6
        have n6' : H p6 = none := ((s12.trans s4).trans s5).free n6
        refine q p6 _ s16 n6' ?_
        show upd _ _ _ p6 = _
        rw [upd_same]
        unfold rep
        rw [List.map_append, List.map_append]
end
end Cw
namespace Cw
open PySem L2
abbrev sGetL : Stmt := inClass sRow 1
abbrev sGetS : Stmt := inClass sRow 3
def spGetL (C : Addr) : Sp := fun vs H Q _ => ∃ (a : Addr) (n : Int) (ms ss : List Int), vs = [.ref a] ∧ RowAt C H a n ms ss ∧ Q (.int n) H
def spGetS (C : Addr) : Sp := fun vs H Q _ => ∃ (a : Addr) (n : Int) (ms ss : List Int), vs = [.ref a] ∧ RowAt C H a n ms ss ∧ ∀ p H', Same H H' → H p = none → IL H' p ss → Q (.ref p) H'
abbrev sParts : Stmt := top 17
/-- the getters -/
structure Gets (P : Program) (w : World) (K : PySem.W.Frag) (mg : Str → Option Value) (base : Heap) (C pL fL pM fM pS fS : Addr) (dL dM dS : FuncData) : Prop where
  hL : PropOf K C "length" pL fL
  bL : Binds K dL ["self"] []
  GL : FnOk P w K mg base CX0 1 fL dL ["self"] (spGetL C)
  hM : PropOf K C "marks" pM fM
  bM : Binds K dM ["self"] []
  GM : FnOk P w K mg base CX0 1 fM dM ["self"] (spGetM C)
  hS : PropOf K C "strict" pS fS
  bS : Binds K dS ["self"] []
  GS : FnOk P w K mg base CX0 1 fS dS ["self"] (spGetS C)
def spParts (C : Addr) : Sp := fun vs H Q _ => ∃ (x t m u : Addr) (n b e len : Int) (ms ss cs ds : List Int), vs = [.ref x, .ref t] ∧ RowAt C H x n ms ss ∧ H t = some (.tup [.int b, .int e, .int len, .ref m, .ref u]) ∧ IL H m cs ∧ IL H u ds ∧ Good n ms ss ∧ ChOk n b e len cs ds ∧
  ∀ p p2 p3 H', Same H H' → H' p = some (.tup [.int (n - (e - b) + len), .ref p2, .ref p3]) → IL H' p2 (rep ms cs b e len (n - (e - b) + len)) → IL H' p3 (rep ss ds b e len (n - (e - b) + len)) → Q (.ref p) H'
theorem same_ins {H H1 H' : Hp} {x dx C : Addr} (s : Same H H1) (nx : H1 x = none) (nd : H1 dx = none) (k : ∀ c o, upd (upd H1 dx (.own x)) x (.ins C dx []) c = some o → c ≠ x → H' c = some o) : Same H H' := fun c o e => by
  have z := s _ _ e
  refine k c o ?_ (ne_of_none z nx)
  rw [upd_ne (ne_of_none z nx), upd_ne (ne_of_none z nd)]
  exact z
section
variable {P : Program} {w : World} {K : PySem.W.Frag} {mg : Str → Option Value} {base : Heap}
theorem scGL : FnScope ["self"] ["self"] (defScope sGetL) := ⟨rfl, rfl, rfl, by decide +kernel, rfl, by decide +kernel, by decide +kernel⟩
theorem ok_getL {f C : Addr} {fd : FuncData} (F : Fun K "length" "Row.length" sGetL f fd) (R : Cl K mg C) : FnOk P w K mg base CX0 1 f fd ["self"] (spGetL C) := by
  refine F.ok scGL (fun vs H Q E h => ?_) (fun cdv A outer s H vs Q E hr h => ?_)
  · obtain ⟨a, n, ms, ss, rfl, _⟩ := h
    rfl
  · obtain ⟨a, n, ms, ss, rfl, ⟨dx, l1, l2, ho, h1, h2⟩, k⟩ := h
    refine ⟨_, pss_one (ps_ret (pe_fld (pv 0) rfl)), ?_⟩
    exact ⟨_, rfl, a, C, dx, _, _, rfl, ho, R.cl, R.nL, fl_L _ _ _, k⟩
theorem scGS : FnScope ["self"] ["self"] (defScope sGetS) := ⟨rfl, rfl, rfl, by decide +kernel, rfl, by decide +kernel, by decide +kernel⟩
theorem ok_getS {f C : Addr} {fd : FuncData} (F : Fun K "strict" "Row.strict" sGetS f fd) (T : Bl mg) (R : Cl K mg C) : FnOk P w K mg base CX0 1 f fd ["self"] (spGetS C) := by
  refine F.ok scGS (fun vs H Q E h => ?_) (fun cdv A outer s H vs Q E hr h => ?_)
  · obtain ⟨a, n, ms, ss, rfl, _⟩ := h
    rfl
  · obtain ⟨a, n, ms, ss, rfl, ⟨dx, l1, l2, ho, h1, h2⟩, k⟩ := h
    refine ⟨_, pss_one (ps_ret (pe_callTy call_list_of (by rfl) T.list (by decide +kernel) (pa_cons (pe_fld (pv 0) rfl) pa_nil))), ?_⟩
    refine ⟨_, rfl, a, C, dx, _, _, rfl, ho, R.cl, R.nS, fl_S _ _ _, l2, _, rfl, .inl (SqL.of h2), fun p hp => ?_⟩
    exact k p _ (same_new (Same.refl H) hp) hp upd_same
abbrev NPa : List Str := ["row", "change", "begin", "end", "length", "marks", "strict", "new_length", "new_marks", "new_strict"]
theorem scPa : FnScope NPa ["row", "change"] (defScope sParts) := ⟨rfl, rfl, rfl, by decide +kernel, rfl, by decide +kernel, by decide +kernel⟩
theorem ok_parts {f C fP pL fL pM fM pS fS : Addr} {fd fdP dL dM dS : FuncData} (F : Fun K "changed_parts" "changed_parts" sParts f fd) (R : Cl K mg C) (Gs : Gets P w K mg base C pL fL pM fM pS fS dL dM dS)
    (gP : mg "replaced" = some (.ref fP)) (kP : PySem.W.keepIn K (.ref fP) = true) (bP : Binds K fdP ["old", "new", "change", "new_length"] []) (GP : FnOk P w K mg base CX0 2 fP fdP ["old", "new", "change", "new_length"] spReplaced) :
    FnOk P w K mg base CX0 3 f fd ["row", "change"] (spParts C) := by
  refine F.ok scPa (fun vs H Q E h => ?_) (fun cdv A outer s H vs Q E hr h => ?_)
  · obtain ⟨x, t, m, u, n, b, e, len, ms, ss, cs, ds, rfl, _⟩ := h
    rfl
  · obtain ⟨x, t, m, u, n, b, e, len, ms, ss, cs, ds, rfl, hx, ht, hM, hS, G, D, q⟩ := h
    refine ⟨_, pss_cons (ps_asg (pv 1) (pg_tup (by rfl) (pgs_cons (pg_name (i := 2) scPa.nd rfl (Or.inl rfl)) (pgs_cons (pg_name (i := 3) scPa.nd rfl (Or.inl rfl)) (pgs_cons (pg_name (i := 4) scPa.nd rfl (Or.inl rfl)) (pgs_cons (pg_name (i := 5) scPa.nd rfl (Or.inl rfl)) (pgs_cons (pg_name (i := 6) scPa.nd rfl (Or.inl rfl)) pgs_nil)))))))
      (pss_cons (ps_set (i := 7) scPa.nd rfl (Or.inl rfl) (pe_op op_add (pe_op op_sub (pe_prop (pv 0) R.cl Gs.hL Gs.GL hr Gs.bL .nil pass0 rfl) (pe_op op_sub (pv 3) (pv 2))) (pv 4)))
      (pss_cons (ps_set (i := 8) scPa.nd rfl (Or.inl rfl) (pe_call GP hr rfl gP kP bP .nil pass0 (pa_cons (pe_prop (pv 0) R.cl Gs.hM Gs.GM hr Gs.bM .nil pass0 rfl) (pa_cons (pv 5) (pa_cons (pv 1) (pa_cons (pv 7) pa_nil))))))
      (pss_cons (ps_set (i := 9) scPa.nd rfl (Or.inl rfl) (pe_call GP hr rfl gP kP bP .nil pass0 (pa_cons (pe_prop (pv 0) R.cl Gs.hS Gs.GS hr Gs.bS .nil pass0 rfl) (pa_cons (pv 6) (pa_cons (pv 1) (pa_cons (pv 7) pa_nil))))))
      (pss_one (ps_ret (pe_tup (pa_cons (pv 7) (pa_cons (pv 8) (pa_cons (pv 9) pa_nil))))))))), ?_⟩
    obtain ⟨dx, l1, l2, ho, h1, h2⟩ := id hx
    refine ⟨_, rfl, t, _, rfl, SqT.of ht, rfl, _, _, rfl, _, _, rfl, _, _, rfl, _, _, rfl, _, _, rfl, rfl, ?_⟩
    refine ⟨_, rfl, x, dx, _, rfl, ho, x, n, ms, ss, rfl, hx, _, rfl, _, rfl, _, _, rfl, rfl, _, _, rfl, rfl, _, rfl, _, _, rfl, rfl, ?_⟩
    have lm := G.len
    have ls := G.len2
    have lc := D.few
    have ld := D.len2
    refine ⟨_, rfl, x, dx, _, rfl, ho, x, n, ms, ss, rfl, hx, fun a1 H1 s1 n1 i1 => ?_⟩
    refine ⟨_, rfl, _, rfl, _, rfl, a1, m, t, ms, cs, b, e, len, _, _, _, rfl, i1, s1 _ _ hM, s1 _ _ ht, by omega, by omega, fun p2 H2 s2 n2 hp2 => ?_⟩
    have s12 := s1.trans s2
    have R2 := hx.same s12
    refine ⟨_, rfl, x, dx, _, rfl, s12 _ _ ho, x, n, ms, ss, rfl, R2, fun a3 H3 s3 n3 i3 => ?_⟩
    have s13 := s12.trans s3
    refine ⟨_, rfl, _, rfl, _, rfl, a3, u, t, ss, ds, b, e, len, _, _, _, rfl, i3, s13 _ _ hS, s13 _ _ ht, by omega, by omega, fun p3 H4 s4 n4 hp3 => ?_⟩
    refine ⟨_, rfl, _, rfl, _, rfl, (by show 3 ≤ sizeLine; decide), fun p np => ?_⟩
    have s5 := same_new (o := .tup [.int (n - (e - b) + len), .ref p2, .ref p3]) (Same.refl H4) np
    exact q p p2 p3 _ ((s13.trans s4).trans s5) upd_same (s5 _ _ (s4 _ _ (s3 _ _ hp2))) (s5 _ _ hp3)
abbrev NCh : List Str := ["self", "change", "length", "marks", "strict"]
theorem scCh : FnScope NCh ["self", "change"] (defScope sChanged) := ⟨rfl, rfl, rfl, by decide +kernel, rfl, by decide +kernel, by decide +kernel⟩
theorem ok_changed {f C fC fP fI : Addr} {fd fdC fdP fdI : FuncData} (F : Fun K "changed" "Row.changed" sChanged f fd) (R : Cl K mg C) (M : Mk K C fI)
    (gC : mg "is_change" = some (.ref fC)) (kC : PySem.W.keepIn K (.ref fC) = true) (bC : Binds K fdC ["thing", "row_length"] []) (GC : FnOk P w K mg base CX0 5 fC fdC ["thing", "row_length"] spChange)
    (gP : mg "changed_parts" = some (.ref fP)) (kP : PySem.W.keepIn K (.ref fP) = true) (bP : Binds K fdP ["row", "change"] []) (GP : FnOk P w K mg base CX0 3 fP fdP ["row", "change"] (spParts C))
    (bI : Binds K fdI NI []) (GI : FnOk P w K mg base CX0 5 fI fdI NI (spInit C)) :
    FnOk P w K mg base CX0 7 f fd ["self", "change"] (spChanged C) := by
  refine F.ok scCh (fun vs H Q E h => ?_) (fun cdv A outer s H vs Q E hr h => ?_)
  · obtain ⟨x, t, m, u, n, b, e, len, ms, ss, cs, ds, rfl, _⟩ := h
    rfl
  · obtain ⟨x, t, m, u, n, b, e, len, ms, ss, cs, ds, rfl, hx, ht, hM, hS, G, D, hl, q⟩ := h
    have hr5 : Room 5 (A.deeper (PyProof.Rows.envOfC "Row.changed" (defScope sChanged) s.heap.objs.size f cdv)) := hr.mono (by decide)
    have hr3 : Room 3 (A.deeper (PyProof.Rows.envOfC "Row.changed" (defScope sChanged) s.heap.objs.size f cdv)) := hr.mono (by decide)
    refine ⟨_, pss_cons (ps_if (pt_not (pt_val (pe_call GC hr5 rfl gC kC bC .nil pass0 (pa_cons (pv 1) (pa_cons (pe_fld (pv 0) rfl) pa_nil))))) pss_never pss_nil)
      (pss_cons (ps_asg (pe_call GP hr3 rfl gP kP bP .nil pass0 (pa_cons (pv 0) (pa_cons (pv 1) pa_nil))) (pg_tup (by rfl) (pgs_cons (pg_name (i := 2) scCh.nd rfl (Or.inl rfl)) (pgs_cons (pg_name (i := 3) scCh.nd rfl (Or.inl rfl)) (pgs_cons (pg_name (i := 4) scCh.nd rfl (Or.inl rfl)) pgs_nil)))))
      (pss_one (ps_ret (pe_make M GI hr rfl R.mgR bI .nil pass0 (pa_cons (pv 2) (pa_cons (pv 3) (pa_cons (pv 4) pa_nil))))))), ?_⟩
    obtain ⟨dx, l1, l2, ho, h1, h2⟩ := id hx
    refine ⟨_, rfl, _, rfl, x, C, dx, _, _, rfl, ho, R.cl, R.nL, fl_L _ _ _, ?_⟩
    refine ⟨t, m, u, b, e, len, n, cs, ds, rfl, ht, hM, hS, D, fun H1 s1 => ⟨_, rfl, ?_⟩⟩
    refine ifF rfl ?_
    refine ⟨_, rfl, _, rfl, x, t, m, u, n, b, e, len, ms, ss, cs, ds, rfl, hx.same s1, s1 _ _ ht, s1 _ _ hM, s1 _ _ hS, G, D, fun p p2 p3 H2 s2 hp hp2 hp3 => ?_⟩
    refine ⟨p, _, rfl, SqT.of hp, rfl, _, _, rfl, _, _, rfl, _, _, rfl, rfl, ?_⟩
    refine ⟨_, rfl, _, rfl, _, rfl, fun y dy ny nd ne => ?_⟩
    have s12 := s1.trans s2
    have s4 : Same H2 (upd (upd H2 dy (.own y)) y (.ins C dy [])) := same_new (same_new (Same.refl H2) nd) (by rw [upd_ne (Ne.symm ne)]; exact ny)
    refine ⟨y, dy, p2, p3, _, _, _, rfl, upd_same, s4 _ _ hp2, s4 _ _ hp3, good_rep G D hl, fun H5 row kp => ⟨rfl, ?_⟩⟩
    exact q y H5 (same_ins s12 ny nd kp) (row.mono fun c o e => ⟨o, s4 _ _ (s12 _ _ e)⟩)
end
end Cw
namespace Cw
open PySem L2
abbrev sJar : Stmt := top 20
abbrev sDip : Stmt := top 21
abbrev sThree : Stmt := top 22
abbrev sSmall : Stmt := top 23
abbrev sGreat : Stmt := top 24
def But (H H' : Hp) (b : Addr) : Prop := ∀ a o, H a = some o → a ≠ b → H' a = some o
theorem But.refl (H : Hp) (b : Addr) : But H H b := fun _ _ e _ => e
theorem But.trans {H H1 H2 : Hp} {b : Addr} (x : But H H1 b) (y : But H1 H2 b) : But H H2 b := fun a o e n => y a o (x a o e n) n
theorem But.of {H H1 : Hp} {b : Addr} (x : Same H H1) : But H H1 b := fun a o e _ => x a o e
theorem But.upd {H H1 : Hp} {b : Addr} {o : HO} (x : But H H1 b) : But H (upd H1 b o) b := fun a u e n => by
  rw [upd_ne n]
  exact x a u e n
theorem But.put {H H1 : Hp} {b p : Addr} {o : HO} (x : But H H1 b) (h : H p = none) : But H (L2.upd H1 p o) b := fun a u e n => by
  rw [upd_ne (ne_of_none e h)]
  exact x a u e n
theorem But.new {H H1 : Hp} {b p : Addr} {o : HO} (x : But H H1 b) (h : H1 p = none) : But H (L2.upd H1 p o) b := fun a u e n => by
  rw [upd_ne (ne_of_none (x a u e n) h)]
  exact x a u e n
def CPowW (i j : Int) : Prop := 0 ≤ j ∧ ((Builtin.Int.intBits i : Nat) : Int) * j ≤ 2 ^ 27
theorem op_powW {X : Cx} : OpR X (binaryOp .Pow) (rI CPowW fun i j => .int (i ^ j.toNat)) := opI fun _ _ _ _ _ _ _ hc q => PyProof.Rows.pow_int hc.1 hc.2 q
theorem cube_ok {i : Int} (h0 : 0 ≤ i) (h1 : i < 2 ^ 250) : CPowW i 3 := by
  have z : Builtin.Int.intBits i ≤ 250 := PyProof.Rows.intBits_le (k := 250) (by
    have e : ((2 ^ 250 : Nat) : Int) = 2 ^ 250 := by norm_cast
    omega)
  refine ⟨by decide, ?_⟩
  have e : (2 : Int) ^ 27 = 134217728 := by decide
  omega
/-- the draws: what is left of the cell, the stirred number, the turns; k more draws are surely allowed -/
def JarAt (H : Hp) (a : Addr) (k : Nat) : Prop := ∃ r m n : Int, H a = some (.lst [.int r, .int m, .int n]) ∧ 0 ≤ m ∧ m < 2 ^ 200 ∧ 0 ≤ n ∧ n + k ≤ 1000
theorem JarAt.mono {H : Hp} {a : Addr} {k j : Nat} (h : JarAt H a k) (l : j ≤ k) : JarAt H a j := by
  obtain ⟨r, m, n, e, h0, h1, h2, h3⟩ := h
  exact ⟨r, m, n, e, h0, h1, h2, by omega⟩
theorem JarAt.same {H H' : Hp} {a : Addr} {k : Nat} (h : JarAt H a k) (s : Same H H') : JarAt H' a k := by
  obtain ⟨r, m, n, e, q⟩ := h
  exact ⟨r, m, n, s _ _ e, q⟩
theorem JarAt.put {H : Hp} {a p : Addr} {o : HO} {k : Nat} (h : JarAt H a k) (n : a ≠ p) : JarAt (upd H p o) a k := by
  obtain ⟨r, m, i, e, q⟩ := h
  exact ⟨r, m, i, by rw [upd_ne n]; exact e, q⟩
theorem JarAt.ne {H : Hp} {a p : Addr} {k : Nat} (h : JarAt H a k) (n : H p = none) : a ≠ p := by
  obtain ⟨r, m, i, e, q⟩ := h
  exact ne_of_none e n
theorem JarAt.no {H : Hp} {a p : Addr} {o : HO} {k : Nat} (h : JarAt H a k) (e : H p = some o) (z : ∀ r m n : Int, o ≠ .lst [.int r, .int m, .int n]) : p ≠ a := fun x => by
  obtain ⟨r, m, i, f, q⟩ := h
  rw [x, f] at e
  exact z r m i (Option.some.inj e).symm
theorem pos47 : (0 : Int) < 10 ^ Int.toNat 47 + 91 := by decide +kernel
theorem pos46 : (0 : Int) < 10 ^ Int.toNat 46 + 79 := by decide +kernel
def spDip : Sp := fun vs H Q _ => ∃ (a : Addr) (k : Nat) (w : Int), vs = [.ref a, .int w] ∧ JarAt H a (k + 1) ∧ 0 < w ∧ w < 2 ^ 120 ∧ ∀ (v : Int) (H' : Hp), 0 ≤ v → v < w → JarAt H' a k → But H H' a → Q (.int v) H'
/-- the script's jar -/
def spJar (K : PySem.W.Frag) : Sp := fun vs H Q _ => ∃ (a : Addr) (ns : List Int) (i : Nat), vs = [.ref a, .int i] ∧ SqL K H a (ns.map V.int) ∧ i ≤ ns.length ∧ ns.length ≤ 63 ∧ ∀ p H', Same H H' → H p = none → JarAt H' p 1000 → Q (.ref p) H'
section
variable {P : Program} {w : World} {K : PySem.W.Frag} {mg : Str → Option Value} {base : Heap}
theorem scD : FnScope ["jar", "many", "digit", "mixed"] ["jar", "many"] (defScope sDip) := ⟨rfl, rfl, rfl, by decide +kernel, rfl, by decide +kernel, by decide +kernel⟩
theorem ok_dip {f : Addr} {fd : FuncData} (F : Fun K "_law_dip" "_law_dip" sDip f fd) (T : Bl mg) : FnOk P w K mg base CX0 1 f fd ["jar", "many"] spDip := by
  refine F.ok scD (fun vs H Q E h => ?_) (fun cdv A outer s H vs Q E hr h => ?_)
  · obtain ⟨a, k, w, rfl, _⟩ := h
    rfl
  · obtain ⟨a, k, w, rfl, ⟨r, m, n, hj, m0, m1, n0, n1⟩, w0, w1, q⟩ := h
    have wn : w.natAbs < 2 ^ 120 := by
      have e : ((2 ^ 120 : Nat) : Int) = 2 ^ 120 := by norm_cast
      omega
    have dv : ∀ i, CDivW i w := fun i => wide_div w0 wn (by decide) (by decide)
    refine ⟨_, pss_cons (ps_if (pt_cmpR op_gt (pe_ix ix_list (pv 0) pe_int (fun _ _ => rfl)) pe_int (nomark _))
        (pss_cons (ps_set (i := 2) scD.nd rfl (Or.inl rfl) (pe_op op_mod (pe_callTy call_int1 (by rfl) T.int (by decide +kernel) (pa_cons (pe_ix ix_list (pv 0) pe_int (fun _ _ => rfl)) pa_nil)) (pv 1)))
        (pss_cons (ps_asg (pe_op op_fdivW (pe_ix ix_list (pv 0) pe_int (fun _ _ => rfl)) (pv 1)) (pg_sub (pv 0) pe_int L2.set_list))
        (pss_one (ps_ret (pv 2))))) pss_nil)
      (pss_cons (ps_asg (pe_op op_add (pe_ix ix_list (pv 0) pe_int (fun _ _ => rfl)) pe_int) (pg_sub (pv 0) pe_int L2.set_list))
      (pss_cons (ps_set (i := 3) scD.nd rfl (Or.inl rfl) (pe_op op_mod (pe_callTy call_int1 (by rfl) T.int (by decide +kernel) (pa_cons (pe_op op_powW (pe_op op_add (pe_ix ix_list (pv 0) pe_int (fun _ _ => rfl)) (pe_op op_mul pe_int (pe_ix ix_list (pv 0) pe_int (fun _ _ => rfl)))) pe_int) pa_nil)) (pe_op op_add (pe_op op_pow pe_int pe_int) pe_int)))
      (pss_cons (ps_set (i := 3) scD.nd rfl (Or.inl rfl) (pe_op op_mod (pe_callTy call_int1 (by rfl) T.int (by decide +kernel) (pa_cons (pe_op op_powW (pe_op op_add (pv 3) (pe_op op_mul pe_int (pe_ix ix_list (pv 0) pe_int (fun _ _ => rfl)))) pe_int) pa_nil)) (pe_op op_add (pe_op op_pow pe_int pe_int) pe_int)))
      (pss_one (ps_ret (pe_op op_mod (pe_callTy call_int1 (by rfl) T.int (by decide +kernel) (pa_cons (pe_op op_fdivW (pv 3) pe_int) pa_nil)) (pv 1))))))), ?_⟩
    refine ⟨_, rfl, a, _, 0, _, rfl, rfl, SqL.of hj, rfl, _, _, rfl, rfl, _, rfl, ?_⟩
    by_cases hr0 : r > 0
    · refine ifT (decide_eq_true hr0) ?_
      refine ⟨_, rfl, a, _, 0, _, rfl, rfl, SqL.of hj, rfl, .inl ⟨_, rfl, _, rfl, _, _, rfl, rfl, w0, ?_⟩⟩
      refine ⟨_, rfl, a, _, 0, _, rfl, rfl, SqL.of hj, rfl, _, rfl, _, _, rfl, rfl, dv _, _, rfl, a, _, 0, 0, rfl, rfl, hj, rfl, ?_⟩
      refine ⟨_, rfl, ?_⟩
      exact q _ _ (Int.emod_nonneg _ (by omega)) (Int.emod_lt_of_pos _ w0) ⟨_, m, n, upd_same, m0, m1, n0, by omega⟩ (But.refl H a).upd
    · refine ifF (decide_eq_false hr0) ?_
      refine ⟨_, rfl, a, _, 2, _, rfl, rfl, SqL.of hj, rfl, _, _, rfl, rfl, _, rfl, a, _, 2, 2, rfl, rfl, hj, rfl, ?_⟩
      have hj2 : upd H a (.lst [.int r, .int m, .int (n + 1)]) a = some (.lst [.int r, .int m, .int (n + 1)]) := upd_same
      refine ⟨_, rfl, a, _, 1, _, rfl, rfl, SqL.of hj2, rfl, _, rfl, a, _, 2, _, rfl, rfl, SqL.of hj2, rfl, _, _, rfl, rfl, .inl ⟨by decide, by decide⟩, _, _, rfl, rfl, ?_⟩
      have e200 : (2 : Int) ^ 200 + 60000049 * 1001 < 2 ^ 250 := by decide +kernel
      refine ⟨_, _, rfl, rfl, cube_ok (by omega) (by omega), .inl ⟨_, rfl, _, _, rfl, rfl, ⟨by decide, by decide, by decide⟩, _, _, rfl, rfl, _, _, rfl, rfl, pos47, ?_⟩⟩
      generalize hx : ((m + 60000049 * (n + 1)) ^ Int.toNat 3) % (10 ^ Int.toNat 47 + 91) = x
      have x0 : 0 ≤ x := by
        rw [← hx]
        exact Int.emod_nonneg _ (by decide +kernel)
      have x1 : x < 10 ^ Int.toNat 47 + 91 := by
        rw [← hx]
        exact Int.emod_lt_of_pos _ (by decide +kernel)
      have e47 : (10 : Int) ^ Int.toNat 47 + 91 + 35000021 * 1001 < 2 ^ 250 := by decide +kernel
      refine ⟨_, rfl, _, rfl, a, _, 2, _, rfl, rfl, SqL.of hj2, rfl, _, _, rfl, rfl, .inl ⟨by decide, by decide⟩, _, _, rfl, rfl, _, _, rfl, rfl, cube_ok (by omega) (by omega), .inl ⟨_, rfl, _, _, rfl, rfl, ⟨by decide, by decide, by decide⟩, _, _, rfl, rfl, _, _, rfl, rfl, pos46, ?_⟩⟩
      refine ⟨_, rfl, _, _, rfl, rfl, wide_div (b := 31) (by decide) (by decide) (by decide) (by decide), .inl ⟨_, rfl, _, rfl, _, _, rfl, rfl, w0, ?_⟩⟩
      exact q _ _ (Int.emod_nonneg _ (by omega)) (Int.emod_lt_of_pos _ w0) ⟨r, m, n + 1, upd_same, m0, m1, by omega, by omega⟩ (But.refl H a).upd
end
end Cw
namespace Cw
open PySem L2
theorem at_of2 {α : Type} {xs : List α} {z : Int} {j : Nat} {v : α} (e : z = (j : Int)) (h : xs[j]? = some v) : atI xs z = some v := by
  rw [e]
  exact atI_nat h
theorem at_lt {α : Type} {xs : List α} {z : Int} (h0 : 0 ≤ z) (h1 : z < xs.length) : ∃ v, atI xs z = some v ∧ v ∈ xs := by
  have hz : z.toNat < xs.length := by omega
  have hj : z = ((z.toNat : Nat) : Int) := by omega
  exact ⟨xs[z.toNat], at_of2 hj (List.getElem?_eq_getElem hz), List.getElem_mem hz⟩
/-- one of three ints -/
theorem at3 {z x y u : Int} (h0 : 0 ≤ z) (h1 : z < 3) : ∃ v, atI [V.int x, V.int y, V.int u] z = some (V.int v) ∧ (v = x ∨ v = y ∨ v = u) := by
  obtain ⟨v, e, m⟩ := at_lt (xs := [V.int x, V.int y, V.int u]) h0 (by simpa using h1)
  simp only [List.mem_cons, List.not_mem_nil, or_false] at m
  rcases m with rfl | rfl | rfl
  · exact ⟨x, e, .inl rfl⟩
  · exact ⟨y, e, .inr (.inl rfl)⟩
  · exact ⟨u, e, .inr (.inr rfl)⟩
def spThree : Sp := fun vs H Q _ => ∃ (a : Addr) (k : Nat) (w : Int), vs = [.ref a, .int w] ∧ JarAt H a (k + 7) ∧ 0 < w ∧ w < 2 ^ 120 ∧
  ∀ (p : Addr) (H' : Hp) (l n g : Int), 1 ≤ l → l ≤ w → l ≤ n → n ≤ 2 * w + 3 → n ≤ g → g ≤ 3 * w + 6 → JarAt H' a k → But H H' a → H' p = some (.tup [.int l, .int n, .int g]) → H p = none → Q (.ref p) H'
theorem pos43 : (0 : Int) < 10 ^ Int.toNat 43 + 57 := by decide +kernel
section
variable {P : Program} {w : World} {K : PySem.W.Frag} {mg : Str → Option Value} {base : Heap}
theorem scJ : FnScope ["script", "k", "cell_here"] ["script", "k"] (defScope sJar) := ⟨rfl, rfl, rfl, by decide +kernel, rfl, by decide +kernel, by decide +kernel⟩
theorem ok_jar {f : Addr} {fd : FuncData} (F : Fun K "_law_jar" "_law_jar" sJar f fd) (T : Bl mg) : FnOk P w K mg base CX0 1 f fd ["script", "k"] (spJar K) := by
  refine F.ok scJ (fun vs H Q E h => ?_) (fun cdv A outer s H vs Q E hr h => ?_)
  · obtain ⟨a, ns, i, rfl, _⟩ := h
    rfl
  · obtain ⟨a, ns, i, rfl, hS, hi, hl, q⟩ := h
    refine ⟨_, pss_cons (ps_set (i := 2) scJ.nd rfl (Or.inl rfl) (pe_ifExp (pt_cmpR op_lt (pv 1) (pe_callB call_len_seq (by rfl) T.len PySem.boot_len (pa_cons (pv 0) pa_nil)) (nomark _))
        (pe_callB call_abs (by rfl) T.abs (by decide +kernel) (pa_cons (pe_ix ix_list (pv 0) (pv 1) (fun _ _ => rfl)) pa_nil)) pe_int))
      (pss_one (ps_ret (pe_lst (pa_cons (pe_callB (call_max2 rfl) (by rfl) T.max (by decide +kernel) (pa_cons pe_int (pa_cons (pe_op op_sub (pv 2) (pe_op op_pow pe_int pe_int)) pa_nil)))
        (pa_cons (pe_op op_add (pe_op op_mul (pe_op op_mod (pe_callTy call_int1 (by rfl) T.int (by decide +kernel) (pa_cons (pv 2) pa_nil)) (pe_op op_add (pe_op op_pow pe_int pe_int) pe_int)) pe_int) (pe_op op_mul pe_int (pv 1)))
        (pa_cons pe_int pa_nil)))))), ?_⟩
    have main : ∀ c : Int, 0 ≤ (c % (10 ^ Int.toNat 43 + 57)) * 101 + 70001 * (i : Int) ∧ (c % (10 ^ Int.toNat 43 + 57)) * 101 + 70001 * (i : Int) < 2 ^ 200 := fun c => by
      have x0 := Int.emod_nonneg c (b := 10 ^ Int.toNat 43 + 57) (by decide +kernel)
      have x1 := Int.emod_lt_of_pos c pos43
      have e : ((10 : Int) ^ Int.toNat 43 + 57) * 101 + 70001 * 64 < 2 ^ 200 := by decide +kernel
      omega
    refine ⟨_, rfl, _, rfl, a, _, rfl, .inl hS, _, _, rfl, rfl, _, rfl, ?_⟩
    by_cases hi2 : i < ns.length
    · refine ifT (decide_eq_true (by rw [List.length_map]; omega)) ?_
      have e1 : (ns.map V.int)[i]? = some (V.int ns[i]) := by
        rw [List.getElem?_map, List.getElem?_eq_getElem hi2]
        rfl
      refine ⟨_, rfl, _, rfl, a, _, _, _, rfl, rfl, hS, at_of2 (j := i) rfl e1, _, rfl, ?_⟩
      generalize (if ns[i] < 0 then -ns[i] else ns[i]) = c
      refine ⟨_, rfl, _, _, rfl, rfl, ⟨by decide, by decide, by decide⟩, _, _, rfl, rfl, _, _, rfl, ?_⟩
      refine ⟨_, rfl, .inl ⟨_, rfl, _, _, rfl, rfl, ⟨by decide, by decide, by decide⟩, _, _, rfl, rfl, _, _, rfl, rfl, pos43, _, _, rfl, rfl, .inr ⟨by decide, by decide⟩, _, rfl, _, _, rfl, rfl, .inl ⟨by decide, by decide⟩, _, _, rfl, rfl, ?_⟩⟩
      refine ⟨(by show 3 ≤ sizeLine; decide), fun p hp => ?_⟩
      exact q p _ (same_new (Same.refl H) hp) hp ⟨_, _, 0, upd_same, (main c).1, (main c).2, by decide, by decide⟩
    · refine ifF (decide_eq_false (by rw [List.length_map]; omega)) ?_
      refine ⟨_, rfl, _, _, rfl, rfl, ⟨by decide, by decide, by decide⟩, _, _, rfl, rfl, _, _, rfl, ?_⟩
      refine ⟨_, rfl, .inl ⟨_, rfl, _, _, rfl, rfl, ⟨by decide, by decide, by decide⟩, _, _, rfl, rfl, _, _, rfl, rfl, pos43, _, _, rfl, rfl, .inr ⟨by decide, by decide⟩, _, rfl, _, _, rfl, rfl, .inl ⟨by decide, by decide⟩, _, _, rfl, rfl, ?_⟩⟩
      refine ⟨(by show 3 ≤ sizeLine; decide), fun p hp => ?_⟩
      exact q p _ (same_new (Same.refl H) hp) hp ⟨_, _, 0, upd_same, (main 0).1, (main 0).2, by decide, by decide⟩
theorem scT : FnScope ["jar", "wide", "least", "normal"] ["jar", "wide"] (defScope sThree) := ⟨rfl, rfl, rfl, by decide +kernel, rfl, by decide +kernel, by decide +kernel⟩
theorem ok_three {f fD : Addr} {fd fdD : FuncData} (F : Fun K "_law_three" "_law_three" sThree f fd) (gD : mg "_law_dip" = some (.ref fD)) (kD : PySem.W.keepIn K (.ref fD) = true) (bD : Binds K fdD ["jar", "many"] []) (GD : FnOk P w K mg base CX0 1 fD fdD ["jar", "many"] spDip) :
    FnOk P w K mg base CX0 2 f fd ["jar", "wide"] spThree := by
  refine F.ok scT (fun vs H Q E h => ?_) (fun cdv A outer s H vs Q E hr h => ?_)
  · obtain ⟨a, k, w, rfl, _⟩ := h
    rfl
  · obtain ⟨a, k, w, rfl, J, w0, w1, q⟩ := h
    refine ⟨_, pss_cons (ps_set (i := 2) scT.nd rfl (Or.inl rfl) (pe_op op_add pe_int (pe_call GD hr rfl gD kD bD .nil pass0 (pa_cons (pv 0) (pa_cons (pv 1) pa_nil)))))
      (pss_cons (ps_set (i := 3) scT.nd rfl (Or.inl rfl) (pe_op op_add (pv 2) (pe_ix ix_list (pe_lst (pa_cons pe_int (pa_cons (pe_call GD hr rfl gD kD bD .nil pass0 (pa_cons (pv 0) (pa_cons (pv 1) pa_nil))) (pa_cons (pe_call GD hr rfl gD kD bD .nil pass0 (pa_cons (pv 0) (pa_cons pe_int pa_nil))) pa_nil))))
        (pe_call GD hr rfl gD kD bD .nil pass0 (pa_cons (pv 0) (pa_cons pe_int pa_nil))) (fun _ _ => rfl))))
      (pss_one (ps_ret (pe_tup (pa_cons (pv 2) (pa_cons (pv 3) (pa_cons (pe_op op_add (pv 3) (pe_ix ix_list (pe_lst (pa_cons pe_int (pa_cons (pe_call GD hr rfl gD kD bD .nil pass0 (pa_cons (pv 0) (pa_cons (pv 1) pa_nil))) (pa_cons (pe_op op_add pe_int (pe_call GD hr rfl gD kD bD .nil pass0 (pa_cons (pv 0) (pa_cons pe_int pa_nil)))) pa_nil))))
        (pe_call GD hr rfl gD kD bD .nil pass0 (pa_cons (pv 0) (pa_cons pe_int pa_nil))) (fun _ _ => rfl))) pa_nil))))))), ?_⟩
    have t3 : (0 : Int) < 3 ∧ (3 : Int) < 2 ^ 120 := ⟨by decide, by decide⟩
    refine ⟨_, rfl, _, rfl, a, k + 6, w, rfl, J, w0, w1, fun v1 H1 a1 b1 J1 B1 => ⟨_, _, rfl, rfl, ?_⟩⟩
    refine ⟨_, rfl, _, rfl, _, rfl, a, k + 5, w, rfl, J1, w0, w1, fun v2 H2 a2 b2 J2 B2 => ?_⟩
    refine ⟨_, rfl, a, k + 4, 3, rfl, J2, t3.1, t3.2, fun v3 H3 a3 b3 J3 B3 => ⟨(by show 3 ≤ sizeLine; decide), fun p hp => ?_⟩⟩
    have np : a ≠ p := J3.ne hp
    have Bp := ((B1.trans B2).trans B3).new (o := .lst [.int 0, .int v2, .int v3]) hp
    refine ⟨_, rfl, a, k + 3, 3, rfl, J3.put np, t3.1, t3.2, fun v4 H4 a4 b4 J4 B4 => ?_⟩
    obtain ⟨i1, e1, c1⟩ := at3 (x := 0) (y := v2) (u := v3) a4 b4
    refine ⟨p, _, _, _, rfl, rfl, SqL.of (B4 _ _ upd_same np.symm), e1, _, _, rfl, rfl, ?_⟩
    refine ⟨_, rfl, _, rfl, _, rfl, _, rfl, _, rfl, a, k + 2, w, rfl, J4, w0, w1, fun v5 H5 a5 b5 J5 B5 => ?_⟩
    refine ⟨_, rfl, a, k + 1, 3, rfl, J5, t3.1, t3.2, fun v6 H6 a6 b6 J6 B6 => ⟨_, _, rfl, rfl, (by show 3 ≤ sizeLine; decide), fun p2 hp2 => ?_⟩⟩
    have np2 : a ≠ p2 := J6.ne hp2
    have Bq := (((Bp.trans B4).trans B5).trans B6).new (o := .lst [.int 0, .int v5, .int (1 + v6)]) hp2
    refine ⟨_, rfl, a, k, 3, rfl, J6.put np2, t3.1, t3.2, fun v7 H7 a7 b7 J7 B7 => ?_⟩
    obtain ⟨i2, e2, c2⟩ := at3 (x := 0) (y := v5) (u := 1 + v6) a7 b7
    refine ⟨p2, _, _, _, rfl, rfl, SqL.of (B7 _ _ upd_same np2.symm), e2, _, _, rfl, rfl, (by show 3 ≤ sizeLine; decide), fun p3 hp3 => ?_⟩
    have Bz := (Bq.trans B7).new (o := .tup [.int (1 + v1), .int (1 + v1 + i1), .int (1 + v1 + i1 + i2)]) hp3
    have hH : H p3 = none := by
      cases e : H p3 with
      | none => rfl
      | some o =>
        have n : p3 ≠ a := fun x => by
          have z := J7.ne hp3
          exact z x.symm
        have z := (Bq.trans B7) _ _ e n
        rw [hp3] at z
        cases z
    refine q p3 _ (1 + v1) (1 + v1 + i1) (1 + v1 + i1 + i2) (by omega) (by omega) (by omega) (by omega) (by omega) (by omega) (J7.put (J7.ne hp3)) Bz upd_same hH
end
end Cw
namespace Cw
open PySem L2
abbrev sHeap : Stmt := top 25
/-! ## raw rows: a length, pairs of a place and a kind, three numbers -/
abbrev PrAt (H : Hp) : List Addr → List (Int × Int) → Prop := Paired (fun t (p : Int × Int) => H t = some (.tup [.int p.1, .int p.2]))
theorem PrAt.imp {H H' : Hp} : ∀ {ts : List Addr} {ps : List (Int × Int)}, PrAt H ts ps → (∀ t (p : Int × Int), H t = some (.tup [.int p.1, .int p.2]) → H' t = some (.tup [.int p.1, .int p.2])) → PrAt H' ts ps
  | _, _, .nil, _ => .nil
  | _, _, .cons h r, k => .cons (k _ _ h) (PrAt.imp r k)
theorem PrAt.app {H : Hp} : ∀ {ts us : List Addr} {ps qs : List (Int × Int)}, PrAt H ts ps → PrAt H us qs → PrAt H (ts ++ us) (ps ++ qs)
  | _, _, _, _, .nil, h => h
  | _, _, _, _, .cons a r, h => .cons a (PrAt.app r h)
theorem PrAt.len {H : Hp} : ∀ {ts : List Addr} {ps : List (Int × Int)}, PrAt H ts ps → ts.length = ps.length
  | _, _, .nil => rfl
  | _, _, .cons _ r => by rw [List.length_cons, List.length_cons, PrAt.len r]
theorem PrAt.get {H : Hp} : ∀ {ts : List Addr} {ps : List (Int × Int)} {i : Nat} {v : V}, PrAt H ts ps → (ts.map V.ref)[i]? = some v → ∃ t p, v = .ref t ∧ ps[i]? = some p ∧ H t = some (.tup [.int p.1, .int p.2])
  | _, _, 0, v, .cons (a := t) (b := p) a _, e => ⟨t, p, (Option.some.inj e).symm, rfl, a⟩
  | _, _, i + 1, v, .cons _ r, e => by
    obtain ⟨t, p, h1, h2, h3⟩ := PrAt.get (i := i) r e
    exact ⟨t, p, h1, h2, h3⟩
  | _, _, _, _, .nil, e => by simp at e
def RawAt (H : Hp) (p : Addr) (n : Int) (prs : List (Int × Int)) : Prop := ∃ l t ts, H p = some (.tup [.int n, .ref l, .ref t]) ∧ H l = some (.lst (ts.map V.ref)) ∧ PrAt H ts prs
theorem RawAt.imp {H H' : Hp} {p : Addr} {n : Int} {prs : List (Int × Int)} (r : RawAt H p n prs) (k : ∀ c o, H c = some o → (∀ r m n : Int, o ≠ .lst [.int r, .int m, .int n]) → H' c = some o) : RawAt H' p n prs := by
  obtain ⟨l, t, ts, h1, h2, h3⟩ := r
  refine ⟨l, t, ts, k _ _ h1 (fun _ _ _ z => nomatch z), k _ _ h2 (fun r m n z => ?_), h3.imp fun t p h => k _ _ h (fun _ _ _ z => nomatch z)⟩
  injection z with z
  cases ts with
  | nil => cases z
  | cons t ts => cases z
theorem RawAt.same {H H' : Hp} {p : Addr} {n : Int} {prs : List (Int × Int)} (r : RawAt H p n prs) (s : Same H H') : RawAt H' p n prs := r.imp fun c o e _ => s c o e
theorem RawAt.but {H H' : Hp} {p a : Addr} {k : Nat} {n : Int} {prs : List (Int × Int)} (r : RawAt H p n prs) (J : JarAt H a k) (s : But H H' a) : RawAt H' p n prs := r.imp fun c o e z => s c o e (J.no e z)
structure GoodP (n : Int) (prs : List (Int × Int)) : Prop where
  pos : 1 ≤ n
  len : prs.length ≤ 100
  rng : ∀ q ∈ prs, 1 ≤ q.1 ∧ q.1 ≤ n - 1 ∧ (q.2 = 1 ∨ q.2 = 2)
  asc : Asc (prs.map (·.1))
abbrev marksOf (prs : List (Int × Int)) : List Int := prs.map (·.1)
abbrev strictOf (prs : List (Int × Int)) : List Int := (prs.filter fun q => decide (q.2 = 2)).map (·.1)
theorem GoodP.good {n : Int} {prs : List (Int × Int)} (g : GoodP n prs) : Good n (marksOf prs) (strictOf prs) := by
  refine ⟨g.pos, by rw [List.length_map]; have := g.len; omega, fun x hx => ?_, g.asc, ?_, fun x hx => ?_⟩
  · obtain ⟨q, hq, rfl⟩ := List.mem_map.mp hx
    have := g.rng q hq
    exact ⟨this.1, this.2.1⟩
  · have z : List.Sublist (strictOf prs) (marksOf prs) := (List.filter_sublist).map _
    exact g.asc.sublist z
  · obtain ⟨q, hq, rfl⟩ := List.mem_map.mp hx
    exact List.mem_map.mpr ⟨q, (List.mem_filter.mp hq).1, rfl⟩
def spHeap (C : Addr) : Sp := fun vs H Q _ => ∃ (p : Addr) (n : Int) (prs : List (Int × Int)), vs = [.ref p] ∧ RawAt H p n prs ∧ GoodP n prs ∧ ∀ q H', Same H H' → RowNew C H H' q n (marksOf prs) (strictOf prs) → Q (.ref q) H'
theorem ref_at {ts : List Addr} {i : Nat} {x : V} (h : (ts.map V.ref)[i]? = some x) : i < ts.length := by
  have := (List.getElem?_eq_some_iff.mp h).1
  rwa [List.length_map] at this
theorem take_map2 {ps : List (Int × Int)} {i : Nat} {z : Int × Int} (h : ps[i]? = some z) : marksOf (ps.take (i + 1)) = marksOf (ps.take i) ++ [z.1] := by
  rw [List.take_add_one, h, marksOf, List.map_append]
  rfl
theorem take_fil2 {ps : List (Int × Int)} {i : Nat} {z : Int × Int} (h : ps[i]? = some z) : strictOf (ps.take (i + 1)) = strictOf (ps.take i) ++ (if z.2 = 2 then [z.1] else []) := by
  rw [List.take_add_one, h, strictOf, List.filter_append, List.map_append]
  congr 1
  show List.map _ (List.filter _ [z]) = _
  rw [List.filter_cons]
  by_cases c : z.2 = 2 <;> simp [c]
section
variable {P : Program} {w : World} {K : PySem.W.Frag} {mg : Str → Option Value} {base : Heap}
abbrev NH : List Str := ["raw", "spot", "kind"]
theorem scH : FnScope NH ["raw"] (defScope sHeap) := ⟨rfl, rfl, rfl, by decide +kernel, rfl, by decide +kernel, by decide +kernel⟩
theorem ok_heap {f C fI : Addr} {fd fdI : FuncData} (F : Fun K "_law_heap" "_law_heap" sHeap f fd) (R : Cl K mg C) (M : Mk K C fI) (bI : Binds K fdI NI []) (GI : FnOk P w K mg base CX0 5 fI fdI NI (spInit C)) :
    FnOk P w K mg base CX0 7 f fd ["raw"] (spHeap C) := by
  refine F.ok scH (fun vs H Q E h => ?_) (fun cdv A outer s H vs Q E hr h => ?_)
  · obtain ⟨p, n, prs, rfl, _⟩ := h
    rfl
  · obtain ⟨p, n, prs, rfl, ⟨l, t, ts, h1, h2, h3⟩, G, q⟩ := h
    refine ⟨_, pss_one (ps_ret (pe_make M GI hr rfl R.mgR bI .nil pass0 (pa_cons (pe_ix ix_tup (pv 0) pe_int (fun _ _ => rfl))
      (pa_cons (pe_lc (own := [("spot", 1), ("kind", 2)]) (g := gTup K 2 (gCons (gName 1) (gCons (gName 2) gNil))) (tt := tYes) rfl scH.nd (pi_list (pe_ix ix_tup (pv 0) pe_int (fun _ _ => rfl))) (blkOk_by (own := [("spot", 1), ("kind", 2)]) (N := NH) (sc := defScope sHeap) (by decide +kernel))
          (fun _ _ _ _ _ => pg_tup rfl (pgs_cons (pg_name (i := 1) scH.nd rfl (Or.inl rfl)) (pgs_cons (pg_name (i := 2) scH.nd rfl (Or.inl rfl)) pgs_nil))) (fun _ _ _ _ _ => pts_nil) (fun _ _ _ _ _ => pv 1))
      (pa_cons (pe_lc (own := [("spot", 1), ("kind", 2)]) (g := gTup K 2 (gCons (gName 1) (gCons (gName 2) gNil))) rfl scH.nd (pi_list (pe_ix ix_tup (pv 0) pe_int (fun _ _ => rfl))) (blkOk_by (own := [("spot", 1), ("kind", 2)]) (N := NH) (sc := defScope sHeap) (by decide +kernel))
          (fun _ _ _ _ _ => pg_tup rfl (pgs_cons (pg_name (i := 1) scH.nd rfl (Or.inl rfl)) (pgs_cons (pg_name (i := 2) scH.nd rfl (Or.inl rfl)) pgs_nil))) (fun _ _ _ _ _ => pts_one (pt_cmpR op_eq (pv 2) pe_int (nomark _))) (fun _ _ _ _ _ => pv 1)) pa_nil))))), ?_⟩
    have hl := G.len
    have lt := h3.len
    refine ⟨_, rfl, p, _, _, _, rfl, rfl, SqT.of h1, at_of2 (j := 0) rfl rfl, ?_⟩
    refine ⟨_, rfl, p, _, _, _, rfl, rfl, SqT.of h1, at_of2 (j := 1) rfl rfl, l, rfl, ⟨_, SqL.of h2⟩, fun D hD => ?_⟩
    refine lc_list (K := K) (a := l) (xs := ts.map V.ref) (fun i H' => Same H H' ∧ IL H' D (marksOf (prs.take i))) ⟨same_new (Same.refl H) hD, upd_same⟩ (fun i H' _ z => SqL.of (z.1 _ _ h2)) ?_ ?_
    · rintro i x H' hx ⟨s1, hD'⟩
      obtain ⟨u, z, rfl, hz, hu⟩ := h3.get hx
      have hil := ref_at hx
      refine ⟨u, _, rfl, SqT.of (s1 _ _ hu), rfl, _, _, rfl, _, _, rfl, rfl, rfl, ?_⟩
      unfold tYes
      refine iteT ?_
      refine ⟨_, rfl, _, hD', by rw [List.length_map, List.length_map, List.length_take]; exact small1000 (by omega), same_put s1 hD, ?_⟩
      show upd _ _ _ D = _
      rw [upd_same, ints_app, take_map2 hz]
    · rintro H1 ⟨s1, hD'⟩
      rw [List.length_map, lt, List.take_length] at hD'
      refine ⟨_, rfl, p, _, _, _, rfl, rfl, SqT.of (s1 _ _ h1), at_of2 (j := 1) rfl rfl, l, rfl, ⟨_, SqL.of (s1 _ _ h2)⟩, fun D2 hD2 => ?_⟩
      have nDD : D ≠ D2 := ne_of_none hD' hD2
      refine lc_list (K := K) (a := l) (xs := ts.map V.ref) (fun i H' => Same H1 H' ∧ IL H' D2 (strictOf (prs.take i))) ⟨same_new (Same.refl H1) hD2, upd_same⟩ (fun i H' _ z => SqL.of (z.1 _ _ (s1 _ _ h2))) ?_ ?_
      · rintro i x H' hx ⟨s2, hE⟩
        obtain ⟨u, z, rfl, hz, hu⟩ := h3.get hx
        have hil := ref_at hx
        have tf := take_fil2 hz
        refine ⟨u, _, rfl, SqT.of (s2 _ _ (s1 _ _ hu)), rfl, _, _, rfl, _, _, rfl, rfl, rfl, ?_⟩
        refine ⟨_, rfl, rfl, _, rfl, ?_⟩
        by_cases c : z.2 = 2
        · refine ifT (by simp [c]) ?_
          refine ⟨_, rfl, _, hE, ?_, same_put s2 hD2, ?_⟩
          · have z1 := List.length_filter_le (fun q : Int × Int => decide (q.2 = 2)) (prs.take i)
            rw [List.length_take] at z1
            rw [List.length_map, List.length_map]
            exact small1000 (by omega)
          · show upd _ _ _ D2 = _
            rw [upd_same, ints_app, tf, if_pos c]
        · refine ifF (by simp [c]) ?_
          refine ⟨s2, ?_⟩
          show H' D2 = _
          rw [hE, tf, if_neg c, List.append_nil]
      · rintro H2 ⟨s2, hE⟩
        rw [List.length_map, lt, List.take_length] at hE
        refine fun x dx nx nd ne => ?_
        have s3 : Same H2 (upd (upd H2 dx (.own x)) x (.ins C dx [])) := same_new (same_new (Same.refl H2) nd) (by rw [upd_ne (Ne.symm ne)]; exact nx)
        refine ⟨x, dx, D, D2, n, _, _, rfl, upd_same, s3 _ _ (s2 _ _ hD'), s3 _ _ hE, G.good, fun H5 row kp => ⟨rfl, ?_⟩⟩
        exact q x H5 (same_ins (s1.trans s2) nx nd kp) (row.mono fun c o e => ⟨o, s3 _ _ (s2 _ _ (s1 _ _ e))⟩)
end
end Cw
namespace Cw
open PySem L2
def spSmall : Sp := fun vs H Q _ => ∃ (a : Addr) (k : Nat), vs = [.ref a, .int 12] ∧ JarAt H a (k + 40) ∧ ∀ (p : Addr) (H' : Hp) (n : Int) (prs : List (Int × Int)), n ≤ 12 → GoodP n prs → prs.length ≤ 11 → RawAt H' p n prs → JarAt H' a k → But H H' a → Q (.ref p) H'
theorem asc_snoc {ms : List Int} {z : Int} (h : Asc ms) (k : ∀ x ∈ ms, x < z) : Asc (ms ++ [z]) := by
  rw [Asc, List.pairwise_append]
  refine ⟨h, List.pairwise_singleton _ _, fun x hx y hy => ?_⟩
  rw [List.mem_singleton.mp hy]
  exact k x hx
/-- what the loop has found: the pairs, all below the place i -/
structure Found (i : Int) (prs : List (Int × Int)) : Prop where
  rng : ∀ q ∈ prs, 1 ≤ q.1 ∧ q.1 < i ∧ (q.2 = 1 ∨ q.2 = 2)
  asc : Asc (prs.map (·.1))
theorem Found.nil (i : Int) : Found i [] := ⟨fun _ h => (nomatch h), List.Pairwise.nil⟩
theorem Found.up {i : Int} {prs : List (Int × Int)} (h : Found i prs) : Found (i + 1) prs := by
  refine ⟨fun q hq => ?_, h.asc⟩
  have := h.rng q hq
  omega
theorem Found.snoc {i : Int} {prs : List (Int × Int)} {z : Int} (h : Found i prs) (h0 : 1 ≤ i) (hz : z = 1 ∨ z = 2) : Found (i + 1) (prs ++ [(i, z)]) := by
  refine ⟨fun q hq => ?_, ?_⟩
  · rcases List.mem_append.mp hq with hq | hq
    · have := h.rng q hq
      omega
    · rw [List.mem_singleton.mp hq]
      refine ⟨h0, ?_, hz⟩
      show i < i + 1
      omega
  · rw [List.map_append]
    refine asc_snoc h.asc fun x hx => ?_
    obtain ⟨q, hq, rfl⟩ := List.mem_map.mp hx
    exact (h.rng q hq).2.1
section
variable {P : Program} {w : World} {K : PySem.W.Frag} {mg : Str → Option Value} {base : Heap}
abbrev NSm : List Str := ["jar", "most", "length", "way", "found", "spot", "kind"]
theorem scSm : FnScope NSm ["jar", "most"] (defScope sSmall) := ⟨rfl, rfl, rfl, by decide +kernel, rfl, by decide +kernel, by decide +kernel⟩
theorem ok_small {f fD fT : Addr} {fd fdD fdT : FuncData} (F : Fun K "_law_small" "_law_small" sSmall f fd) (T : Bl mg)
    (gD : mg "_law_dip" = some (.ref fD)) (kD : PySem.W.keepIn K (.ref fD) = true) (bD : Binds K fdD ["jar", "many"] []) (GD : FnOk P w K mg base CX0 1 fD fdD ["jar", "many"] spDip)
    (gT : mg "_law_three" = some (.ref fT)) (kT : PySem.W.keepIn K (.ref fT) = true) (bT : Binds K fdT ["jar", "wide"] []) (GT : FnOk P w K mg base CX0 2 fT fdT ["jar", "wide"] spThree) :
    FnOk P w K mg base CX0 3 f fd ["jar", "most"] spSmall := by
  refine F.ok scSm (fun vs H Q E h => ?_) (fun cdv A outer s H vs Q E hr h => ?_)
  · obtain ⟨a, k, rfl, _⟩ := h
    rfl
  · obtain ⟨a, k, rfl, J, q⟩ := h
    have hr1 : Room 1 (A.deeper (PyProof.Rows.envOfC "_law_small" (defScope sSmall) s.heap.objs.size f cdv)) := hr.mono (by decide)
    refine ⟨_, pss_cons (ps_par3 (i := 2) (j := 3) (l := 4) rfl scSm.nd rfl rfl rfl (by decide) (by decide) (by decide) rfl rfl rfl (pa_cons (pe_op op_add pe_int (pe_call GD hr1 rfl gD kD bD .nil pass0 (pa_cons (pv 0) (pa_cons (pv 1) pa_nil)))) (pa_cons (pe_call GD hr1 rfl gD kD bD .nil pass0 (pa_cons (pv 0) (pa_cons pe_int pa_nil))) (pa_cons (pe_lst pa_nil) pa_nil))) (by rfl))
      (pss_cons (ps_for PassesOwn.never rfl (pi_range2 (by rfl) T.range (pa_cons pe_int (pa_cons (pv 2) pa_nil))) (pg_name (i := 5) scSm.nd rfl (Or.inl rfl))
        (pss_cons (ps_set (i := 6) scSm.nd rfl (Or.inl rfl) (pe_ifExp (pt_cmpR op_eq (pv 3) pe_int (nomark _)) (pe_op op_add pe_int (pe_call GD hr1 rfl gD kD bD .nil pass0 (pa_cons (pv 0) (pa_cons pe_int pa_nil))))
            (pe_callB (call_max2 rfl) (by rfl) T.max (by decide +kernel) (pa_cons pe_int (pa_cons (pe_op op_sub (pe_call GD hr1 rfl gD kD bD .nil pass0 (pa_cons (pv 0) (pa_cons pe_int pa_nil))) pe_int) pa_nil)))))
        (pss_one (ps_if (PW.pt (pw_and (pt_cmpR op_gt (pv 6) pe_int (nomark _)) (pw_and1 (pt_cmpR op_ne (pv 3) pe_int (nomark _)))))
          (pss_one (ps_expr (pe_bm PySem.F.plainAttrs_list PySem.F.slot_list_append PySem.F.type_list_append mt_append (pv 4) (pa_cons (pe_tup (pa_cons (pv 5) (pa_cons (pv 6) pa_nil))) pa_nil)))) pss_nil))))
      (pss_one (ps_ret (pe_tup (pa_cons (pv 2) (pa_cons (pv 4) (pa_cons (pe_call GT hr rfl gT kT bT .nil pass0 (pa_cons (pv 0) (pa_cons pe_int pa_nil))) pa_nil))))))), ?_⟩
    refine ⟨_, rfl, _, rfl, a, k + 39, 12, rfl, J, by decide, by decide, fun v1 H1 a1 b1 J1 B1 => ⟨_, _, rfl, rfl, ?_⟩⟩
    refine ⟨_, rfl, a, k + 38, 5, rfl, J1, by decide, by decide, fun v2 H2 a2 b2 J2 B2 => ⟨Nat.zero_le _, fun l hl => ⟨_, _, _, rfl, ?_⟩⟩⟩
    have nla : a ≠ l := J2.ne hl
    have nl : H l = none := none_of (fun c o e => by
      by_cases z : c = a
      · obtain ⟨r, m, n, e', _⟩ := J2
        exact ⟨_, by rw [z]; exact e'⟩
      · exact ⟨o, (B1.trans B2) _ _ e z⟩) hl
    refine ⟨_, rfl, _, _, rfl, ⟨by decide, by decide, by omega, by omega⟩, for_range (lo := 1) (n := (1 + v1 - 1).toNat) (fun i σ H' => ∃ (v5 v6 : Option V) (ts : List Addr) (prs : List (Int × Int)),
        σ = [some (.ref a), some (.int 12), some (.int (1 + v1)), some (.int v2), some (.ref l), v5, v6] ∧ JarAt H' a (k + 7 + (30 - i)) ∧ But H H' a ∧ H' l = some (.lst (ts.map V.ref)) ∧ PrAt H' ts prs ∧ Found (1 + i) prs ∧ prs.length ≤ i)
      ⟨none, none, [], [], rfl, (J2.put nla).mono (by omega), (B1.trans B2).new hl, upd_same, .nil, Found.nil _, Nat.le_refl _⟩ ?_ ?_⟩
    · rintro i σ H' hi ⟨v5, v6, ts, prs, rfl, J', B', hL, hP, hF, hlen⟩
      have Jd : JarAt H' a (k + 7 + (30 - (i + 1)) + 1) := J'.mono (by omega)
      refine ⟨_, rfl, rfl, _, rfl, ?_⟩
      refine ite2 (fun hv => ?ga) (fun hv => ?gb)
      case' ga =>
        refine ⟨_, rfl, a, _, 2, rfl, Jd, by decide, by decide, fun v3 H3 a3 b3 J3 B3 => ⟨_, _, rfl, rfl, ?_⟩⟩
        have z0 : 0 ≤ 1 + v3 := by omega
        have z2 : 1 + v3 ≤ 2 := by omega
        dsimp only
        generalize 1 + v3 = z at z0 z2 ⊢
      case' gb =>
        refine ⟨_, rfl, a, _, 5, rfl, Jd, by decide, by decide, fun v3 H3 a3 b3 J3 B3 => ⟨_, _, rfl, rfl, _, _, rfl, ?_⟩⟩
        have z0 : 0 ≤ (if v3 - 2 > 0 then v3 - 2 else 0) := by split <;> omega
        have z2 : (if v3 - 2 > 0 then v3 - 2 else 0) ≤ 2 := by split <;> omega
        dsimp only
        generalize (if v3 - 2 > 0 then v3 - 2 else 0) = z at z0 z2 ⊢
      all_goals
        have hL3 : H3 l = some (.lst (ts.map V.ref)) := B3 _ _ hL nla.symm
        have hP3 : PrAt H3 ts prs := hP.imp fun t p h => B3 _ _ h (J'.no h (fun _ _ _ y => nomatch y))
        have stay : ∃ (v5 v6 : Option V) (ts : List Addr) (prs : List (Int × Int)), [some (V.ref a), some (V.int 12), some (V.int (1 + v1)), some (V.int v2), some (V.ref l), some (V.int (1 + (i : Int))), some (V.int z)] = [some (V.ref a), some (V.int 12), some (V.int (1 + v1)), some (V.int v2), some (V.ref l), v5, v6] ∧ JarAt H3 a (k + 7 + (30 - (i + 1))) ∧ But H H3 a ∧ H3 l = some (.lst (ts.map V.ref)) ∧ PrAt H3 ts prs ∧ Found (1 + ((i + 1 : Nat) : Int)) prs ∧ prs.length ≤ i + 1 :=
          ⟨_, _, ts, prs, rfl, J3, B'.trans B3, hL3, hP3, by have := hF.up; rwa [show (1 : Int) + ((i + 1 : Nat) : Int) = 1 + i + 1 by omega], by omega⟩
        refine ⟨_, rfl, _, _, rfl, rfl, _, rfl, ?_⟩
        by_cases c1 : z > 0
        · refine ifT (decide_eq_true c1) ?_
          refine ⟨_, rfl, rfl, _, rfl, ?_⟩
          by_cases c2 : v2 = 1
          · refine ifF (by simp [c2]) ?_
            exact stay
          · refine ifT (by simp [c2]) ?_
            refine ⟨_, rfl, .inl ⟨rfl, _, SqL.of hL3⟩, _, rfl, _, rfl, (by show 2 ≤ sizeLine; decide), fun t ht => ?_⟩
            have nlt : l ≠ t := ne_of_none hL3 ht
            have hts := hP3.len
            refine ⟨l, _, _, rfl, rfl, by rw [upd_ne nlt]; exact hL3, by rw [List.length_map]; exact small1000 (by omega), ?_⟩
            refine ⟨_, _, ts ++ [t], prs ++ [(1 + (i : Int), z)], rfl, ((J3.put (J3.ne ht)).put nla), ?_, ?_, ?_, ?_, ?_⟩
            · exact ((B'.trans B3).new ht).put nl
            · rw [upd_same, List.map_append]
              rfl
            · refine PrAt.app (hP3.imp fun u p h => ?_) (.cons ?_ .nil)
              · rw [upd_ne (ne_of h hL3 (by intro y; cases y)), upd_ne (ne_of_none h ht)]
                exact h
              · rw [upd_ne (Ne.symm nlt)]
                exact upd_same
            · have := hF.snoc (z := z) (by omega) (by omega)
              rwa [show (1 : Int) + ((i + 1 : Nat) : Int) = 1 + i + 1 by omega]
            · rw [List.length_append]
              exact Nat.succ_le_succ hlen
        · refine ifF (decide_eq_false c1) ?_
          refine ifF rfl ?_
          exact stay
    · rintro σ H' ⟨v5, v6, ts, prs, rfl, J', B', hL, hP, hF, hlen⟩
      have hlen' : prs.length ≤ 11 := by omega
      refine ⟨_, rfl, _, rfl, _, rfl, a, k, 4, rfl, J'.mono (by omega), by decide, by decide, fun p H3 x y g _ _ _ _ _ _ J3 B3 hp _ => ⟨(by show 3 ≤ sizeLine; decide), fun r hr' => ?_⟩⟩
      have s3 : Same H3 (upd H3 r (.tup [.int (1 + v1), .ref l, .ref p])) := same_new (Same.refl H3) hr'
      refine q r _ (1 + v1) prs (by omega) ⟨by omega, by omega, fun w hw => ?_, hF.asc⟩ hlen' ⟨l, p, ts, upd_same, s3 _ _ (B3 _ _ hL nla.symm), hP.imp fun t w h => s3 _ _ (B3 _ _ h (J'.no h (fun _ _ _ y => nomatch y)))⟩ (J3.put (J3.ne hr')) ((B'.trans B3).new hr')
      have z := hF.rng w hw
      exact ⟨z.1, by omega, z.2.2⟩
end
end Cw
namespace Cw
open PySem L2
def spGreat : Sp := fun vs H Q _ => ∃ (a : Addr) (k : Nat), vs = [.ref a, .int 30] ∧ JarAt H a (k + 120) ∧ ∀ (p : Addr) (H' : Hp) (n : Int) (prs : List (Int × Int)), GoodP n prs → prs.length ≤ 16 → RawAt H' p n prs → JarAt H' a k → But H H' a → Q (.ref p) H'
theorem none_but {H H' : Hp} {a l : Addr} {k : Nat} (J : JarAt H' a k) (B : But H H' a) (h : H' l = none) : H l = none := none_of (fun c o e => by
  by_cases z : c = a
  · obtain ⟨r, m, n, e', _⟩ := J
    exact ⟨_, by rw [z]; exact e'⟩
  · exact ⟨o, B _ _ e z⟩) h
theorem at4 {z x y u v : Int} (h0 : 0 ≤ z) (h1 : z < 4) : ∃ r, atI [V.int x, V.int y, V.int u, V.int v] z = some (V.int r) := by
  obtain ⟨r, e, m⟩ := at_lt (xs := [V.int x, V.int y, V.int u, V.int v]) h0 (by simpa using h1)
  simp only [List.mem_cons, List.not_mem_nil, or_false] at m
  rcases m with rfl | rfl | rfl | rfl <;> exact ⟨_, e⟩
theorem at2b {x y : Int} (c : Bool) : ∃ r, atI [V.int x, V.int y] (if c = true then 1 else 0) = some (V.int r) := by
  cases c
  · exact ⟨x, rfl⟩
  · exact ⟨y, rfl⟩
section
variable {P : Program} {w : World} {K : PySem.W.Frag} {mg : Str → Option Value} {base : Heap}
abbrev NG : List Str := ["jar", "most", "three", "length", "spots", "spot", "turn", "gap", "inner", "one"]
theorem scGr : FnScope NG ["jar", "most"] (defScope sGreat) := ⟨rfl, rfl, rfl, by decide +kernel, rfl, by decide +kernel, by decide +kernel⟩
theorem ok_great {f fD fT : Addr} {fd fdD fdT : FuncData} (F : Fun K "_law_great" "_law_great" sGreat f fd) (T : Bl mg)
    (gD : mg "_law_dip" = some (.ref fD)) (kD : PySem.W.keepIn K (.ref fD) = true) (bD : Binds K fdD ["jar", "many"] []) (GD : FnOk P w K mg base CX0 1 fD fdD ["jar", "many"] spDip)
    (gT : mg "_law_three" = some (.ref fT)) (kT : PySem.W.keepIn K (.ref fT) = true) (bT : Binds K fdT ["jar", "wide"] []) (GT : FnOk P w K mg base CX0 2 fT fdT ["jar", "wide"] spThree) :
    FnOk P w K mg base CX0 3 f fd ["jar", "most"] spGreat := by
  refine F.ok scGr (fun vs H Q E h => ?_) (fun cdv A outer s H vs Q E hr h => ?_)
  · obtain ⟨a, k, rfl, _⟩ := h
    rfl
  · obtain ⟨a, k, rfl, J, q⟩ := h
    have hr1 : Room 1 (A.deeper (PyProof.Rows.envOfC "_law_great" (defScope sGreat) s.heap.objs.size f cdv)) := hr.mono (by decide)
    refine ⟨_, pss_cons (ps_set (i := 2) scGr.nd rfl (Or.inl rfl) (pe_call GT hr rfl gT kT bT .nil pass0 (pa_cons (pv 0) (pa_cons (pe_ix ix_list (pe_lst (pa_cons (pe_op op_pow pe_int pe_int) (pa_cons (pe_op op_pow pe_int pe_int) (pa_cons (pe_op op_pow pe_int pe_int) pa_nil))))
          (pe_call GD hr1 rfl gD kD bD .nil pass0 (pa_cons (pv 0) (pa_cons pe_int pa_nil))) (fun _ _ => rfl)) pa_nil))))
      (pss_cons (ps_set (i := 3) scGr.nd rfl (Or.inr rfl) (pe_op op_add pe_int (pe_call GD hr1 rfl gD kD bD .nil pass0 (pa_cons (pv 0) (pa_cons (pe_op op_mul (pe_op op_add pe_int (pe_call GD hr1 rfl gD kD bD .nil pass0 (pa_cons (pv 0) (pa_cons (pv 1) pa_nil)))) (pe_ix ix_tup (pv 2) pe_int (fun _ _ => rfl))) pa_nil)))))
      (pss_cons (ps_par (i := 4) (j := 5) rfl scGr.nd rfl rfl (by decide) rfl rfl (pa_cons (pe_lst pa_nil) (pa_cons pe_int pa_nil)) (by rfl))
      (pss_cons (ps_for PassesOwn.never rfl (pi_range1 (by rfl) T.range (pa_cons (pe_call GD hr1 rfl gD kD bD .nil pass0 (pa_cons (pv 0) (pa_cons pe_int pa_nil))) pa_nil)) (pg_name (i := 6) scGr.nd rfl (Or.inl rfl))
        (pss_cons (ps_set (i := 7) scGr.nd rfl (Or.inl rfl) (pe_ix ix_list (pe_lst (pa_cons (pe_ix ix_tup (pv 2) pe_int (fun _ _ => rfl)) (pa_cons (pe_ix ix_tup (pv 2) pe_int (fun _ _ => rfl)) (pa_cons (pe_ix ix_tup (pv 2) pe_int (fun _ _ => rfl))
            (pa_cons (pe_op op_add pe_int (pe_call GD hr1 rfl gD kD bD .nil pass0 (pa_cons (pv 0) (pa_cons (pe_op op_mul pe_int (pe_ix ix_tup (pv 2) pe_int (fun _ _ => rfl))) pa_nil)))) pa_nil)))))
            (pe_call GD hr1 rfl gD kD bD .nil pass0 (pa_cons (pv 0) (pa_cons pe_int pa_nil))) (fun _ _ => rfl)))
        (pss_cons (ps_set (i := 5) scGr.nd rfl (Or.inl rfl) (pe_op op_add (pe_ix ix_list (pe_lst (pa_cons (pv 5) (pa_cons (pe_call GD hr1 rfl gD kD bD .nil pass0 (pa_cons (pv 0) (pa_cons (pv 3) pa_nil))) pa_nil)))
            (pe_callTy call_int1 (by rfl) T.int (by decide +kernel) (pa_cons (pe_cmpR op_eq (pe_call GD hr1 rfl gD kD bD .nil pass0 (pa_cons (pv 0) (pa_cons pe_int pa_nil))) pe_int (nomark _)) pa_nil)) (fun _ _ => rfl))
            (pe_callB (call_max2 rfl) (by rfl) T.max (by decide +kernel) (pa_cons pe_int (pa_cons (pe_op op_sub (pe_op op_add (pv 7) (pe_call GD hr1 rfl gD kD bD .nil pass0 (pa_cons (pv 0) (pa_cons pe_int pa_nil)))) pe_int) pa_nil)))))
        (pss_one (ps_expr (pe_bm PySem.F.plainAttrs_list PySem.F.slot_list_append PySem.F.type_list_append mt_append (pv 4) (pa_cons (pv 5) pa_nil)))))))
      (pss_cons (ps_setLc (i := 8) (own := [("one", 9)]) (g := gName 9) rfl scGr.nd rfl rfl (sw_true rfl rfl rfl (by decide +kernel)) (pi_list (pe_callB (cr_sortedSet rfl) (by rfl) T.sorted (by decide +kernel) (pa_cons (pe_callTy (cr_setOf rfl) (by rfl) T.set (by decide +kernel) (pa_cons (pv 4) pa_nil)) pa_nil)))
          (blkOk_by (own := [("one", 9)]) (N := NG) (sc := defScope sGreat) (by decide +kernel)) (fun _ _ _ _ _ => pg_name (i := 9) scGr.nd rfl (Or.inl rfl)) (fun _ _ _ _ _ => pts_one (pt_chain op_lt op_lt pe_int (pv 9) (pv 3))) (fun _ _ _ _ _ => pv 9))
      (pss_one (ps_ret (pe_tup (pa_cons (pv 3) (pa_cons (pe_lc (own := [("one", 9)]) (g := gName 9) (tt := tYes) rfl scGr.nd (pi_list (pv 8)) (blkOk_by (own := [("one", 9)]) (N := NG) (sc := defScope sGreat) (by decide +kernel)) (fun _ _ _ _ _ => pg_name (i := 9) scGr.nd rfl (Or.inl rfl)) (fun _ _ _ _ _ => pts_nil)
          (fun _ _ _ _ _ => pe_tup (pa_cons (pv 9) (pa_cons (pe_op op_add pe_int (pe_call GD hr1 rfl gD kD bD .nil pass0 (pa_cons (pv 0) (pa_cons pe_int pa_nil)))) pa_nil)))) (pa_cons (pv 2) pa_nil)))))))))), ?_⟩
    have t3 : (0 : Int) < 3 ∧ (3 : Int) < 2 ^ 120 := ⟨by decide, by decide⟩
    refine ⟨_, rfl, _, _, rfl, rfl, ⟨by decide, by decide, by decide⟩, _, _, rfl, rfl, ⟨by decide, by decide, by decide⟩, _, _, rfl, rfl, ⟨by decide, by decide, by decide⟩, (by show 3 ≤ sizeLine; decide), fun p hp => ?_⟩
    have np : a ≠ p := J.ne hp
    refine ⟨_, rfl, a, k + 119, 3, rfl, J.put np, t3.1, t3.2, fun v1 H1 a1 b1 J1 B1 => ?_⟩
    obtain ⟨W, e1, c1⟩ := at3 (x := 10 ^ Int.toNat 3) (y := 10 ^ Int.toNat 15) (u := 10 ^ Int.toNat 27) a1 b1
    refine ⟨p, _, _, _, rfl, rfl, SqL.of (B1 _ _ upd_same np.symm), e1, ?_⟩
    have w0 : 1000 ≤ W ∧ W ≤ 10 ^ 27 := by
      have z1 : (10 : Int) ^ Int.toNat 3 = 1000 := by decide +kernel
      have z2 : (10 : Int) ^ Int.toNat 15 = 1000000000000000 := by decide +kernel
      have z3 : (10 : Int) ^ Int.toNat 27 = 1000000000000000000000000000 := by decide +kernel
      have z4 : (10 : Int) ^ 27 = 1000000000000000000000000000 := by decide +kernel
      omega
    have z4 : (10 : Int) ^ 27 = 1000000000000000000000000000 := by decide +kernel
    have z5 : (2 : Int) ^ 120 = 1329227995784915872903807060280344576 := by decide +kernel
    refine ⟨a, k + 112, W, rfl, J1, by omega, by omega, fun p3 H2 x y g hx1 hx2 hy1 hy2 hg1 hg2 J2 B2 hp3 _ => ?_⟩
    have B02 := ((But.refl H a).new hp).trans (B1.trans B2)
    have m0 : 0 < 30 * x := by omega
    have npa : p3 ≠ a := J2.no hp3 (fun _ _ _ z => nomatch z)
    refine ⟨_, rfl, _, rfl, _, rfl, a, k + 111, 30, rfl, J2, by decide, by decide, fun v2 H3 a2 b2 J3 B3 => ⟨_, _, rfl, rfl, ?_⟩⟩
    have hp3' : H3 p3 = some (.tup [.int x, .int y, .int g]) := B3 _ _ hp3 npa
    have mp : 0 < (1 + v2) * x := Int.mul_pos (by omega) (by omega)
    have mu : (1 + v2) * x ≤ 30 * x := Int.mul_le_mul_of_nonneg_right (by omega) (by omega)
    refine ⟨_, rfl, p3, _, _, _, rfl, rfl, SqT.of hp3', at_of2 (j := 0) rfl rfl, _, _, rfl, rfl, .inl ⟨by omega, by omega⟩, ?_⟩
    refine ⟨a, k + 110, (1 + v2) * x, rfl, J3, mp, by omega, fun v3 H4 a3 b3 J4 B4 => ⟨_, _, rfl, rfl, ?_⟩⟩
    have B04 := (B02.trans B3).trans B4
    have hp4 := B4 _ _ hp3' npa
    refine ⟨Nat.zero_le _, fun l hl => ⟨_, _, rfl, ?_⟩⟩
    have nla : a ≠ l := J4.ne hl
    have npl : p3 ≠ l := ne_of_none hp4 hl
    have nl : H l = none := none_but J4 B04 hl
    refine ⟨_, rfl, a, k + 109, 17, rfl, J4.put nla, by decide, by decide, fun v4 H5 a4 b4 J5 B5 => ⟨_, rfl, by omega, by omega, ?_⟩⟩
    have B05 := (B04.new (o := .lst []) hl).trans B5
    refine for_range (lo := 0) (n := v4.toNat) (fun i σ H' => ∃ (sp : Int) (v6 v7 v8 v9 : Option V) (sps : List Int),
        σ = [some (.ref a), some (.int 30), some (.ref p3), some (.int (1 + v3)), some (.ref l), some (.int sp), v6, v7, v8, v9] ∧ JarAt H' a (k + 20 + 5 * (17 - i)) ∧ But H H' a ∧ H' p3 = some (.tup [.int x, .int y, .int g]) ∧ IL H' l sps ∧ sps.length = i)
      ⟨0, none, none, none, none, [], rfl, J5.mono (by omega), B05, B5 _ _ (by rw [upd_ne npl]; exact hp4) npa, B5 _ _ upd_same nla.symm, rfl⟩ ?_ ?_
    · rintro i σ H' hi ⟨sp, v6, v7, v8, v9, sps, rfl, J', B', h3, hL, hlen⟩
      have hi16 : i < 16 := by omega
      have Jd : JarAt H' a (k + 20 + 5 * (17 - (i + 1)) + 5) := J'.mono (by omega)
      generalize k + 20 + 5 * (17 - (i + 1)) = kk at Jd ⊢
      refine ⟨_, rfl, p3, _, _, _, rfl, rfl, SqT.of h3, at_of2 (j := 0) rfl rfl, _, rfl, p3, _, _, _, rfl, rfl, SqT.of h3, at_of2 (j := 1) rfl rfl, _, rfl, p3, _, _, _, rfl, rfl, SqT.of h3, at_of2 (j := 2) rfl rfl, ?_⟩
      refine ⟨_, rfl, _, rfl, p3, _, _, _, rfl, rfl, SqT.of h3, at_of2 (j := 2) rfl rfl, _, _, rfl, rfl, .inl ⟨by decide, by decide⟩, ?_⟩
      refine ⟨a, kk + 4, 2 * g, rfl, Jd, by omega, by omega, fun u1 G1 _ _ K1 C1 => ⟨_, _, rfl, rfl, (by show 4 ≤ sizeLine; decide), fun q1 hq1 => ?_⟩⟩
      have nq1 : a ≠ q1 := K1.ne hq1
      refine ⟨_, rfl, a, kk + 3, 4, rfl, K1.put nq1, by decide, by decide, fun u2 G2 d0 d1 K2 C2 => ?_⟩
      obtain ⟨gap, e2⟩ := at4 (x := x) (y := y) (u := g) (v := 1 + u1) d0 d1
      refine ⟨q1, _, _, _, rfl, rfl, SqL.of (C2 _ _ upd_same nq1.symm), e2, ?_⟩
      have D2 := (C1.new (o := .lst [.int x, .int y, .int g, .int (1 + u1)]) hq1).trans C2
      refine ⟨_, rfl, _, rfl, _, rfl, a, kk + 2, 1 + v3, rfl, K2, by omega, by omega, fun u3 G3 _ _ K3 C3 => ⟨(by show 2 ≤ sizeLine; decide), fun q2 hq2 => ?_⟩⟩
      have nq2 : a ≠ q2 := K3.ne hq2
      refine ⟨_, rfl, a, kk + 1, 3, rfl, K3.put nq2, t3.1, t3.2, fun u4 G4 _ _ K4 C4 => ⟨rfl, .inr ⟨_, rfl, ?_⟩⟩⟩
      obtain ⟨s1, e3⟩ := at2b (x := sp) (y := u3) (decide (V.int u4 = V.int 0))
      refine ⟨q2, _, _, _, rfl, rfl, SqL.of (C4 _ _ upd_same nq2.symm), e3, ?_⟩
      refine ⟨_, rfl, _, rfl, a, kk, 3, rfl, K4, t3.1, t3.2, fun u5 G5 _ _ K5 C5 => ⟨_, _, rfl, rfl, _, _, rfl, rfl, _, _, rfl, _, _, rfl, rfl, ?_⟩⟩
      have D5 := (((D2.trans C3).new (o := .lst [.int sp, .int u3]) hq2).trans C4).trans C5
      have hL5 : IL G5 l sps := D5 _ _ hL nla.symm
      have hp5 := D5 _ _ h3 npa
      refine ⟨_, rfl, .inl ⟨rfl, _, SqL.of hL5⟩, _, rfl, l, _, _, rfl, rfl, hL5, by rw [List.length_map]; exact small1000 (by omega), ?_⟩
      refine ⟨_, _, _, _, _, sps ++ [s1 + (if gap + u5 - 1 > 0 then gap + u5 - 1 else 0)], rfl, K5.put nla, (B'.trans D5).put nl, by rw [upd_ne npl]; exact hp5, ?_, by rw [List.length_append, hlen]; rfl⟩
      show upd _ _ _ l = _
      rw [upd_same, ints_app]
    · rintro σ H' ⟨sp, v6, v7, v8, v9, sps, rfl, J', B', h3, hL, hlen⟩
      have hl16 : sps.length ≤ 16 := by omega
      refine ⟨_, rfl, l, sps, rfl, SqL.of hL, by omega, fun ps c hc hps => ⟨ps, _, _, rfl, upd_same, by omega, fun ns2 ps2 asc mem len hps2 => ⟨ps2, rfl, ⟨_, SqL.of upd_same⟩, fun D hD => ?_⟩⟩⟩
      have S2 := same_new (o := .lst (ns2.map V.int)) (same_new (o := SetO w ps (fun j => decide (j ∈ sps)) c) (Same.refl H') hps) hps2
      have hN2 : IL (upd (upd H' ps (SetO w ps (fun j => decide (j ∈ sps)) c)) ps2 (.lst (ns2.map V.int))) ps2 ns2 := upd_same
      have n2D : ps2 ≠ D := ne_of_none hN2 hD
      have nD' : H' D = none := S2.free hD
      refine lc_list (K := K) (a := ps2) (xs := ns2.map V.int) (fun i H2 => Same H' H2 ∧ IL H2 ps2 ns2 ∧ IL H2 D ((ns2.take i).filter (fun x => decide (0 < x) && decide (x < 1 + v3)))) ⟨same_new S2 hD, by show upd _ _ _ ps2 = _; rw [upd_ne n2D]; exact hN2, upd_same⟩ (fun i H2 _ z => SqL.of z.2.1) ?_ ?_
      · rintro i x' H2 hx ⟨s1, hP, hE⟩
        obtain ⟨z, rfl, hz⟩ := il_at hx
        have hil : i < ns2.length := (List.getElem?_eq_some_iff.mp hz).1
        have tf := take_fil hz (fun x => decide (0 < x) && decide (x < 1 + v3))
        have sm : (List.map V.int ((ns2.take i).filter (fun x => decide (0 < x) && decide (x < 1 + v3)))).length < sizeLine := by
          rw [List.length_map]
          have z1 := List.length_filter_le (fun x => decide (0 < x) && decide (x < 1 + v3)) (ns2.take i)
          rw [List.length_take] at z1
          exact small1000 (by omega)
        refine ⟨rfl, ?_⟩
        refine ⟨_, rfl, _, _, rfl, rfl, _, rfl, ?_⟩
        by_cases c1 : 0 < z
        · refine ifT (decide_eq_true c1) ?_
          refine ⟨_, rfl, _, _, rfl, rfl, _, rfl, ?_⟩
          by_cases c2 : z < 1 + v3
          · refine ifT (decide_eq_true c2) ?_
            refine ⟨_, rfl, _, hE, sm, same_put s1 nD', by show upd _ _ _ ps2 = _; rw [upd_ne n2D]; exact hP, ?_⟩
            show upd _ _ _ D = _
            rw [upd_same, ints_app, tf]
            simp [c1, c2]
          · refine ifF (decide_eq_false c2) ?_
            refine ⟨s1, hP, ?_⟩
            show H2 D = _
            rw [hE, tf]
            simp [c2]
        · refine ifF (decide_eq_false c1) ?_
          refine ⟨_, rfl, ?_⟩
          refine ifF rfl ?_
          refine ⟨s1, hP, ?_⟩
          show H2 D = _
          rw [hE, tf]
          simp [c1]
      · rintro H2 ⟨s1, hP, hE⟩
        rw [List.length_map, List.take_length] at hE
        generalize hins : ns2.filter (fun x => decide (0 < x) && decide (x < 1 + v3)) = ins at hE
        have iasc : Asc ins := by
          rw [← hins]
          exact asc.filter _
        have ilen : ins.length ≤ 16 := by
          have z1 := List.length_filter_le (fun x => decide (0 < x) && decide (x < 1 + v3)) ns2
          rw [hins] at z1
          omega
        have irng : ∀ x ∈ ins, 0 < x ∧ x < 1 + v3 := fun x hx => by
          rw [← hins] at hx
          have z1 := (List.mem_filter.mp hx).2
          simpa using z1
        have JD : JarAt H2 a (k + 20) := (J'.same s1).mono (by omega)
        have BD : But H H2 a := B'.trans (But.of s1)
        have nDa : D ≠ a := fun e => (J'.ne nD') e.symm
        refine ⟨_, rfl, _, rfl, D, rfl, ⟨_, SqL.of hE⟩, fun D2 hD2 => ?_⟩
        have nDD : D ≠ D2 := ne_of_none hE hD2
        have naD2 : a ≠ D2 := JD.ne hD2
        have nD2 : H D2 = none := none_but JD BD hD2
        refine lc_list (K := K) (a := D) (xs := ins.map V.int) (fun i H3 => ∃ (ts : List Addr) (prs : List (Int × Int)), JarAt H3 a (k + (20 - i)) ∧ But H H3 a ∧ IL H3 D ins ∧ H3 D2 = some (.lst (ts.map V.ref)) ∧ PrAt H3 ts prs ∧ prs.map (·.1) = ins.take i ∧ ∀ q ∈ prs, q.2 = 1 ∨ q.2 = 2)
          ⟨[], [], JD.put naD2, BD.new hD2, by show upd _ _ _ D = _; rw [upd_ne nDD]; exact hE, upd_same, .nil, rfl, fun _ h => (nomatch h)⟩ (fun i H3 _ ⟨ts, prs, z⟩ => SqL.of z.2.2.1) ?_ ?_
        · rintro i x' H3 hx ⟨ts, prs, K1, C1, hF, hG, hPr, hfst, hk⟩
          obtain ⟨z, rfl, hz⟩ := il_at hx
          have hil : i < ins.length := (List.getElem?_eq_some_iff.mp hz).1
          have Kd : JarAt H3 a (k + (20 - (i + 1)) + 1) := K1.mono (by omega)
          refine ⟨rfl, ?_⟩
          unfold tYes
          refine iteT ?_
          refine ⟨_, rfl, _, rfl, a, _, 2, rfl, Kd, by decide, by decide, fun u G u0 u1 K2 C2 => ⟨_, _, rfl, rfl, (by show 2 ≤ sizeLine; decide), fun t ht => ?_⟩⟩
          have hG2 := C2 _ _ hG naD2.symm
          have hF2 := C2 _ _ hF nDa
          have hP2 : PrAt G ts prs := hPr.imp fun t p h => C2 _ _ h (K1.no h (fun _ _ _ y => nomatch y))
          have ntD2 : D2 ≠ t := ne_of_none hG2 ht
          have hts : ts.length = i := by
            rw [hPr.len, ← List.length_map (f := (·.1)), hfst, List.length_take]
            omega
          refine ⟨_, (by rw [upd_ne ntD2]; exact hG2), by rw [List.length_map]; exact small1000 (by omega), ts ++ [t], prs ++ [(z, 1 + u)], (K2.put (K2.ne ht)).put naD2, ((C1.trans C2).new ht).put nD2, ?_, ?_, ?_, ?_, ?_⟩
          · show upd _ _ _ D = _
            rw [upd_ne nDD, upd_ne (ne_of_none hF2 ht)]
            exact hF2
          · rw [upd_same, List.map_append]
            rfl
          · refine PrAt.app (hP2.imp fun v p h => ?_) (.cons ?_ .nil)
            · rw [upd_ne (ne_of h hG2 (by intro y; cases y)), upd_ne (ne_of_none h ht)]
              exact h
            · rw [upd_ne (Ne.symm ntD2)]
              exact upd_same
          · rw [List.map_append, hfst, List.take_add_one, hz]
            rfl
          · intro q hq
            rcases List.mem_append.mp hq with hq | hq
            · exact hk q hq
            · rw [List.mem_singleton.mp hq]
              show 1 + u = 1 ∨ 1 + u = 2
              omega
        · rintro H3 ⟨ts, prs, K1, C1, hF, hG, hPr, hfst, hk⟩
          rw [List.length_map, List.take_length] at hfst
          have pl : prs.length = ins.length := by rw [← hfst, List.length_map]
          refine ⟨_, rfl, (by show 3 ≤ sizeLine; decide), fun r hr' => ?_⟩
          have s3 : Same H3 (upd H3 r (.tup [.int (1 + v3), .ref D2, .ref p3])) := same_new (Same.refl H3) hr'
          refine q r _ (1 + v3) prs ⟨by omega, by omega, fun y hy => ?_, by rw [hfst]; exact iasc⟩ (by omega) ⟨D2, p3, ts, upd_same, s3 _ _ hG, hPr.imp fun t y h => s3 _ _ h⟩ ((K1.mono (by omega)).put (K1.ne hr')) (C1.new hr')
          have z1 := irng y.1 (by rw [← hfst]; exact List.mem_map.mpr ⟨y, hy, rfl⟩)
          exact ⟨by omega, by omega, hk y hy⟩
end
end Cw
namespace Cw
open PySem L2
abbrev sKinds : Stmt := top 26
abbrev sMade : Stmt := top 27
/-- the kind of the place x -/
def kat (prs : List (Int × Int)) (x : Int) : Int := ((prs.find? fun q => decide (q.1 = x)).map (·.2)).getD 0
theorem kat_mem {prs : List (Int × Int)} (ha : Asc (prs.map (·.1))) {q : Int × Int} (hq : q ∈ prs) : kat prs q.1 = q.2 := by
  induction prs with
  | nil => cases hq
  | cons p r ih =>
    rw [List.map_cons] at ha
    obtain ⟨h1, h2⟩ := List.pairwise_cons.mp ha
    unfold kat
    rw [List.find?_cons]
    rcases List.mem_cons.mp hq with rfl | hq
    · simp
    · have n : ¬ p.1 = q.1 := fun e => by
        have := h1 q.1 (List.mem_map.mpr ⟨q, hq, rfl⟩)
        omega
      simp only [n, decide_false]
      exact ih h2 hq
theorem kat_no {prs : List (Int × Int)} {x : Int} (h : ∀ q ∈ prs, q.1 ≠ x) : kat prs x = 0 := by
  unfold kat
  rw [List.find?_eq_none.mpr fun q hq => by simpa using h q hq]
  rfl
theorem kat_pos {prs : List (Int × Int)} {x : Int} (h : kat prs x ≠ 0) : ∃ q ∈ prs, q.1 = x := by
  by_cases z : ∃ q ∈ prs, q.1 = x
  · exact z
  · exact absurd (kat_no fun q hq e => z ⟨q, hq, e⟩) h
def kvOf (q : Int × Int) : Key × V := (Sum.inl q.1, V.int q.2)
theorem merge_at {x : Int} : ∀ (prs : List (Int × Int)) (acc : List (Key × V)), Asc (prs.map (·.1)) → valV (mergeK acc (prs.map kvOf)) (Sum.inl x) = ((prs.find? fun q => decide (q.1 = x)).map fun q => V.int q.2).or (valV acc (Sum.inl x))
  | [], acc, _ => rfl
  | p :: r, acc, ha => by
    rw [List.map_cons] at ha
    obtain ⟨h1, h2⟩ := List.pairwise_cons.mp ha
    show valV (mergeK (putK acc (Sum.inl p.1) (V.int p.2)) (r.map kvOf)) (Sum.inl x) = _
    rw [merge_at r _ h2, List.find?_cons]
    by_cases e : p.1 = x
    · have z : r.find? (fun q => decide (q.1 = x)) = none := List.find?_eq_none.mpr fun q hq => by
        have := h1 q.1 (List.mem_map.mpr ⟨q, hq, rfl⟩)
        simp
        omega
      subst e
      rw [z, valV_put, if_pos rfl]
      simp
    · rw [valV_put, if_neg (by intro z; exact e (Sum.inl.inj z).symm)]
      simp [e]
def kl (prs : List (Int × Int)) (n : Nat) : List Int := (List.range n).map fun (i : Nat) => kat prs ((i : Int) + 1)
/-- the places of the kinds that p holds of, among the first m -/
def mkOf (p : Int → Bool) (ks : List Int) (m : Nat) : List Int := ((List.range m).filter fun (i : Nat) => p (ks.getD i 0)).map fun (i : Nat) => (i : Int) + 1
theorem mem_mkOf {p : Int → Bool} {ks : List Int} {m : Nat} {x : Int} : x ∈ mkOf p ks m ↔ ∃ i, i < m ∧ p (ks.getD i 0) = true ∧ x = (i : Int) + 1 := by
  unfold mkOf
  rw [List.mem_map]
  constructor
  · rintro ⟨i, hi, rfl⟩
    obtain ⟨h1, h2⟩ := List.mem_filter.mp hi
    exact ⟨i, List.mem_range.mp h1, h2, rfl⟩
  · rintro ⟨i, h1, h2, rfl⟩
    exact ⟨i, List.mem_filter.mpr ⟨List.mem_range.mpr h1, h2⟩, rfl⟩
theorem asc_mkOf {p : Int → Bool} {ks : List Int} {m : Nat} : Asc (mkOf p ks m) := by
  unfold mkOf
  rw [Asc, List.pairwise_map]
  exact (List.pairwise_lt_range.filter _).imp fun h => by omega
theorem len_mkOf {p : Int → Bool} {ks : List Int} {m : Nat} : (mkOf p ks m).length ≤ m := by
  unfold mkOf
  rw [List.length_map]
  have := List.length_filter_le (fun i => p (ks.getD i 0)) (List.range m)
  rwa [List.length_range] at this
theorem mkOf_succ {p : Int → Bool} {ks : List Int} {m : Nat} : mkOf p ks (m + 1) = mkOf p ks m ++ (if p (ks.getD m 0) = true then [(m : Int) + 1] else []) := by
  unfold mkOf
  rw [List.range_succ, List.filter_append, List.map_append]
  congr 1
  rw [List.filter_cons]
  split <;> rfl
abbrev pPos : Int → Bool := fun x => decide (x > 0)
abbrev pTwo : Int → Bool := fun x => decide (x = 2)
theorem good_mk {ks : List Int} (h0 : 1 ≤ ks.length) (h1 : ks.length ≤ 100) : Good (ks.length : Int) (mkOf pPos ks (ks.length - 1)) (mkOf pTwo ks (ks.length - 1)) := by
  refine ⟨by omega, Nat.le_trans len_mkOf (by omega), fun x hx => ?_, asc_mkOf, asc_mkOf, fun x hx => ?_⟩
  · obtain ⟨i, h1, h2, rfl⟩ := mem_mkOf.mp hx
    omega
  · obtain ⟨i, h1, h2, rfl⟩ := mem_mkOf.mp hx
    refine mem_mkOf.mpr ⟨i, h1, ?_, rfl⟩
    have z := of_decide_eq_true h2
    exact decide_eq_true (by omega)
theorem asc_ext : ∀ {xs ys : List Int}, Asc xs → Asc ys → (∀ z, z ∈ xs ↔ z ∈ ys) → xs = ys
  | [], [], _, _, _ => rfl
  | [], y :: ys, _, _, h => absurd ((h y).mpr (List.mem_cons_self ..)) (by simp)
  | x :: xs, [], _, _, h => absurd ((h x).mp (List.mem_cons_self ..)) (by simp)
  | x :: xs, y :: ys, hx, hy, h => by
    obtain ⟨a1, a2⟩ := List.pairwise_cons.mp hx
    obtain ⟨b1, b2⟩ := List.pairwise_cons.mp hy
    have e : x = y := by
      rcases List.mem_cons.mp ((h x).mp (List.mem_cons_self ..)) with e | e
      · exact e
      · rcases List.mem_cons.mp ((h y).mpr (List.mem_cons_self ..)) with e' | e'
        · exact e'.symm
        · have := b1 x e
          have := a1 y e'
          omega
    subst e
    congr 1
    refine asc_ext a2 b2 fun z => ?_
    constructor
    · intro hz
      have := a1 z hz
      rcases List.mem_cons.mp ((h z).mp (List.mem_cons_of_mem _ hz)) with e | e
      · omega
      · exact e
    · intro hz
      have := b1 z hz
      rcases List.mem_cons.mp ((h z).mpr (List.mem_cons_of_mem _ hz)) with e | e
      · omega
      · exact e
def spKinds : Sp := fun vs H Q _ => ∃ (p : Addr) (n : Int) (prs : List (Int × Int)), vs = [.ref p] ∧ RawAt H p n prs ∧ GoodP n prs ∧ n ≤ 100 ∧ ∀ a H', Same H H' → H a = none → IL H' a (kl prs n.toNat) → Q (.ref a) H'
def spMade (C : Addr) : Sp := fun vs H Q _ => ∃ (a : Addr) (ks : List Int), vs = [.ref a] ∧ IL H a ks ∧ 1 ≤ ks.length ∧ ks.length ≤ 100 ∧ ∀ q H', Same H H' → RowNew C H H' q (ks.length : Int) (mkOf pPos ks (ks.length - 1)) (mkOf pTwo ks (ks.length - 1)) → Q (.ref q) H'
section
variable {P : Program} {w : World} {K : PySem.W.Frag} {mg : Str → Option Value} {base : Heap}
abbrev NK : List Str := ["raw", "known", "place"]
theorem scK : FnScope NK ["raw"] (defScope sKinds) := ⟨rfl, rfl, rfl, by decide +kernel, rfl, by decide +kernel, by decide +kernel⟩
theorem ok_kinds {f : Addr} {fd : FuncData} (F : Fun K "_law_kinds" "_law_kinds" sKinds f fd) (T : Bl mg) : FnOk P w K mg base CX0 1 f fd ["raw"] spKinds := by
  refine F.ok scK (fun vs H Q E h => ?_) (fun cdv A outer s H vs Q E hr h => ?_)
  · obtain ⟨p, n, prs, rfl, _⟩ := h
    rfl
  · obtain ⟨p, n, prs, rfl, ⟨l, t, ts, h1, h2, h3⟩, G, n100, q⟩ := h
    have hu := hu_of hr
    refine ⟨_, pss_cons (ps_set (i := 1) scK.nd rfl (Or.inr rfl) (pe_callTy (call_dictP rfl) (by rfl) T.dict (by decide +kernel) (pa_cons (pe_ix ix_tup (pv 0) pe_int (fun _ _ => rfl)) pa_nil)))
      (pss_one (ps_ret (pe_lc (own := [("place", 2)]) (g := gName 2) (tt := tYes) rfl scK.nd (pi_range2 (by rfl) T.range (pa_cons pe_int (pa_cons (pe_op op_add (pe_ix ix_tup (pv 0) pe_int (fun _ _ => rfl)) pe_int) pa_nil)))
        (blkOk_by (own := [("place", 2)]) (N := NK) (sc := defScope sKinds) (by decide +kernel)) (fun _ _ _ _ _ => pg_name (i := 2) scK.nd rfl (Or.inl rfl)) (fun _ _ _ _ _ => pts_nil)
        (fun _ _ _ _ _ => pe_dget2 hu (pv 1) (pv 2) pe_int ⟨rfl, rfl, rfl, rfl⟩)))), ?_⟩
    have hp := G.pos
    have kv : ∀ {ts : List Addr} {ps : List (Int × Int)}, PrAt H ts ps → Paired (fun p (kv : Key × V) => SqT K H p [kV kv.1, kv.2]) ts (ps.map kvOf) := fun {ts ps} h => by
      induction h with
      | nil => exact .nil
      | cons a _ ih => exact .cons (SqT.of a) ih
    refine ⟨_, rfl, p, _, _, _, rfl, rfl, SqT.of h1, at_of2 (j := 1) rfl rfl, l, ts, _, rfl, SqL.of h2, kv h3, fun d hd => ?_⟩
    have s1 := same_new (o := .dK (mergeK [] (prs.map kvOf))) (Same.refl H) hd
    refine ⟨_, rfl, p, _, _, _, rfl, rfl, SqT.of (s1 _ _ h1), at_of2 (j := 0) rfl rfl, _, _, rfl, rfl, _, _, rfl, ⟨by decide, by decide, by omega, by omega⟩, fun D hD => ?_⟩
    have en : (n + 1 - 1).toNat = n.toNat := by omega
    have ndD : d ≠ D := ne_of_none upd_same hD
    have nD : H D = none := s1.free hD
    refine lc_range (lo := 1) (n := (n + 1 - 1).toNat) (fun i H' => Same H H' ∧ H' d = some (.dK (mergeK [] (prs.map kvOf))) ∧ IL H' D (kl prs i)) ⟨same_new s1 hD, by rw [upd_ne ndD]; exact upd_same, upd_same⟩ ?_ ?_
    · rintro i H' hi ⟨s2, hd', hD'⟩
      refine ⟨rfl, ?_⟩
      unfold tYes
      refine iteT ?_
      refine ⟨_, rfl, d, rfl, .inl ⟨_, .inl hd'⟩, _, rfl, _, DGet.k (k := Sum.inl (1 + (i : Int))) hd', ?_⟩
      refine ⟨_, hD', by rw [List.length_map, kl, List.length_map, List.length_range]; exact small1000 (by omega), same_put s2 nD, by rw [upd_ne ndD]; exact hd', ?_⟩
      have e : (valV (mergeK [] (prs.map kvOf)) (Sum.inl (1 + (i : Int)))).getD (V.int 0) = V.int (kat prs ((i : Int) + 1)) := by
        rw [merge_at _ _ G.asc, Int.add_comm 1 (i : Int)]
        unfold kat
        cases prs.find? (fun q => decide (q.1 = (i : Int) + 1)) <;> rfl
      rw [e]
      show upd _ _ _ D = _
      have e2 : kl prs (i + 1) = kl prs i ++ [kat prs ((i : Int) + 1)] := by
        rw [kl, List.range_succ, List.map_append]
        rfl
      rw [upd_same, ints_app, e2]
    · rintro H' ⟨s2, hd', hD'⟩
      rw [en] at hD'
      exact q D H' s2 nD hD'
abbrev NM : List Str := ["kinds", "marks_here", "spot"]
theorem scMd : FnScope NM ["kinds"] (defScope sMade) := ⟨rfl, rfl, rfl, by decide +kernel, rfl, by decide +kernel, by decide +kernel⟩
theorem ok_made {f C fI : Addr} {fd fdI : FuncData} (F : Fun K "_law_made" "_law_made" sMade f fd) (T : Bl mg) (R : Cl K mg C) (M : Mk K C fI) (bI : Binds K fdI NI []) (GI : FnOk P w K mg base CX0 5 fI fdI NI (spInit C)) :
    FnOk P w K mg base CX0 7 f fd ["kinds"] (spMade C) := by
  refine F.ok scMd (fun vs H Q E h => ?_) (fun cdv A outer s H vs Q E hr h => ?_)
  · obtain ⟨a, ks, rfl, _⟩ := h
    rfl
  · obtain ⟨a, ks, rfl, hS, k0, k1, q⟩ := h
    refine ⟨_, pss_cons (ps_setLc (i := 1) (own := [("spot", 2)]) (g := gName 2) rfl scMd.nd rfl rfl (sw_true rfl rfl rfl (by decide +kernel)) (pi_range1 (by rfl) T.range (pa_cons (pe_op op_sub (pe_callB call_len_seq (by rfl) T.len PySem.boot_len (pa_cons (pv 0) pa_nil)) pe_int) pa_nil))
        (blkOk_by (own := [("spot", 2)]) (N := NM) (sc := defScope sMade) (by decide +kernel)) (fun _ _ _ _ _ => pg_name (i := 2) scMd.nd rfl (Or.inl rfl)) (fun _ _ _ _ _ => pts_one (pt_cmpR op_gt (pe_ix (r := rIxL K) ix_list (pv 0) (pv 2) (fun _ _ => rfl)) pe_int (nomark _))) (fun _ _ _ _ _ => pe_op op_add (pv 2) pe_int))
      (pss_one (ps_ret (pe_make M GI hr rfl R.mgR bI .nil pass0 (pa_cons (pe_callB call_len_seq (by rfl) T.len PySem.boot_len (pa_cons (pv 0) pa_nil)) (pa_cons (pv 1)
        (pa_cons (pe_lc (own := [("spot", 2)]) (g := gName 2) rfl scMd.nd (pi_range1 (by rfl) T.range (pa_cons (pe_op op_sub (pe_callB call_len_seq (by rfl) T.len PySem.boot_len (pa_cons (pv 0) pa_nil)) pe_int) pa_nil))
          (blkOk_by (own := [("spot", 2)]) (N := NM) (sc := defScope sMade) (by decide +kernel)) (fun _ _ _ _ _ => pg_name (i := 2) scMd.nd rfl (Or.inl rfl)) (fun _ _ _ _ _ => pts_one (pt_cmpR op_eq (pe_ix (r := rIxL K) ix_list (pv 0) (pv 2) (fun _ _ => rfl)) pe_int (nomark _))) (fun _ _ _ _ _ => pe_op op_add (pv 2) pe_int)) pa_nil)))))), ?_⟩
    have len : (ks.map V.int).length = ks.length := List.length_map _
    have en : (((ks.map V.int).length : Int) - 1).toNat = ks.length - 1 := by rw [len]; omega
    have at_ : ∀ i : Nat, i < ks.length - 1 → atI (ks.map V.int) (0 + (i : Int)) = some (V.int (ks.getD i 0)) := fun i hi => by
      refine at_of2 (j := i) (by omega) ?_
      rw [List.getElem?_map, List.getD_eq_getElem?_getD, List.getElem?_eq_getElem (by omega)]
      rfl
    refine ⟨_, rfl, a, _, rfl, .inl (SqL.of hS), _, _, rfl, rfl, _, rfl, by rw [len]; omega, by rw [len]; omega, fun D hD => ?_⟩
    refine lc_range (lo := 0) (n := (((ks.map V.int).length : Int) - 1).toNat) (fun i H' => Same H H' ∧ IL H' D (mkOf pPos ks i)) ⟨same_new (Same.refl H) hD, upd_same⟩ ?_ ?_
    · rintro i H' hi ⟨s1, hD'⟩
      rw [en] at hi
      refine ⟨rfl, ?_⟩
      refine ⟨_, rfl, _, rfl, a, _, _, _, rfl, rfl, SqL.of (s1 _ _ hS), at_ i hi, _, _, rfl, rfl, _, rfl, ?_⟩
      by_cases c : ks.getD i 0 > 0
      · refine ifT (decide_eq_true c) ?_
        refine ⟨_, rfl, _, _, rfl, rfl, _, hD', ?_, same_put s1 hD, ?_⟩
        · have := len_mkOf (p := pPos) (ks := ks) (m := i)
          rw [List.length_map]
          exact small1000 (by omega)
        · show upd _ _ _ D = _
          rw [upd_same, ints_app, mkOf_succ, if_pos (decide_eq_true c), Int.zero_add]
      · refine ifF (decide_eq_false c) ?_
        refine ⟨s1, ?_⟩
        show H' D = _
        rw [hD', mkOf_succ, if_neg (by simpa using c), List.append_nil]
    · rintro H1 ⟨s1, hD'⟩
      rw [en] at hD'
      refine ⟨_, rfl, a, _, rfl, .inl (SqL.of (s1 _ _ hS)), _, rfl, ?_⟩
      refine ⟨_, rfl, a, _, rfl, .inl (SqL.of (s1 _ _ hS)), _, _, rfl, rfl, _, rfl, by rw [len]; omega, by rw [len]; omega, fun D2 hD2 => ?_⟩
      refine lc_range (lo := 0) (n := (((ks.map V.int).length : Int) - 1).toNat) (fun i H' => Same H1 H' ∧ IL H' D2 (mkOf pTwo ks i)) ⟨same_new (Same.refl H1) hD2, upd_same⟩ ?_ ?_
      · rintro i H' hi ⟨s2, hE⟩
        rw [en] at hi
        refine ⟨rfl, ?_⟩
        refine ⟨_, rfl, _, rfl, a, _, _, _, rfl, rfl, SqL.of (s2 _ _ (s1 _ _ hS)), at_ i hi, rfl, _, rfl, ?_⟩
        by_cases c : ks.getD i 0 = 2
        · refine ifT (decide_eq_true (by rw [c])) ?_
          refine ⟨_, rfl, _, _, rfl, rfl, _, hE, ?_, same_put s2 hD2, ?_⟩
          · have := len_mkOf (p := pTwo) (ks := ks) (m := i)
            rw [List.length_map]
            exact small1000 (by omega)
          · show upd _ _ _ D2 = _
            rw [upd_same, ints_app, mkOf_succ, if_pos (decide_eq_true c), Int.zero_add]
        · refine ifF (decide_eq_false (by intro z; exact c (V.int.inj z))) ?_
          refine ⟨s2, ?_⟩
          show H' D2 = _
          rw [hE, mkOf_succ, if_neg (by simpa using c), List.append_nil]
      · rintro H2 ⟨s2, hE⟩
        rw [en] at hE
        refine fun x dx nx nd ne => ?_
        have s3 : Same H2 (upd (upd H2 dx (.own x)) x (.ins C dx [])) := same_new (same_new (Same.refl H2) nd) (by rw [upd_ne (Ne.symm ne)]; exact nx)
        refine ⟨x, dx, D, D2, (ks.length : Int), _, _, by rw [len]; rfl, upd_same, s3 _ _ (s2 _ _ hD'), s3 _ _ hE, good_mk k0 k1, fun H5 row kp => ⟨rfl, ?_⟩⟩
        exact q x H5 (same_ins (s1.trans s2) nx nd kp) (row.mono fun c o e => ⟨o, s3 _ _ (s2 _ _ (s1 _ _ e))⟩)
end
end Cw
namespace Cw
open PySem L2
theorem kl_len {prs : List (Int × Int)} {m : Nat} : (kl prs m).length = m := by rw [kl, List.length_map, List.length_range]
theorem kl_get {prs : List (Int × Int)} {m i : Nat} (h : i < m) : (kl prs m).getD i 0 = kat prs ((i : Int) + 1) := by
  rw [List.getD_eq_getElem?_getD, kl, List.getElem?_map, List.getElem?_range h]
  rfl
theorem kinds_pos {n : Int} {prs : List (Int × Int)} (G : GoodP n prs) : mkOf pPos (kl prs n.toNat) (n.toNat - 1) = marksOf prs := by
  have hp := G.pos
  refine asc_ext asc_mkOf G.asc fun x => ?_
  rw [mem_mkOf, List.mem_map]
  constructor
  · rintro ⟨i, h1, h2, rfl⟩
    rw [kl_get (by omega)] at h2
    have z := of_decide_eq_true h2
    obtain ⟨q, hq, e⟩ := kat_pos (prs := prs) (x := (i : Int) + 1) (by omega)
    exact ⟨q, hq, e⟩
  · rintro ⟨q, hq, rfl⟩
    obtain ⟨r1, r2, r3⟩ := G.rng q hq
    have e : ((q.1.toNat - 1 : Nat) : Int) + 1 = q.1 := by omega
    refine ⟨q.1.toNat - 1, by omega, ?_, e.symm⟩
    rw [kl_get (by omega), e, kat_mem G.asc hq]
    exact decide_eq_true (by omega)
theorem kinds_two {n : Int} {prs : List (Int × Int)} (G : GoodP n prs) : mkOf pTwo (kl prs n.toNat) (n.toNat - 1) = strictOf prs := by
  have hp := G.pos
  refine asc_ext asc_mkOf G.good.asc2 fun x => ?_
  rw [mem_mkOf, List.mem_map]
  constructor
  · rintro ⟨i, h1, h2, rfl⟩
    rw [kl_get (by omega)] at h2
    have z := of_decide_eq_true h2
    obtain ⟨q, hq, e⟩ := kat_pos (prs := prs) (x := (i : Int) + 1) (by omega)
    refine ⟨q, List.mem_filter.mpr ⟨hq, ?_⟩, e⟩
    rw [← e, kat_mem G.asc hq] at z
    exact decide_eq_true z
  · rintro ⟨q, hq', rfl⟩
    obtain ⟨hq, h2⟩ := List.mem_filter.mp hq'
    obtain ⟨r1, r2, r3⟩ := G.rng q hq
    have e : ((q.1.toNat - 1 : Nat) : Int) + 1 = q.1 := by omega
    refine ⟨q.1.toNat - 1, by omega, ?_, e.symm⟩
    rw [kl_get (by omega), e, kat_mem G.asc hq]
    exact h2
theorem kinds_last {n : Int} {prs : List (Int × Int)} (G : GoodP n prs) : (kl prs n.toNat).getD (n.toNat - 1) 0 = 0 := by
  have hp := G.pos
  rw [kl_get (by omega)]
  refine kat_no fun q hq e => ?_
  have := G.rng q hq
  omega
/-! ## a change of kinds -/
section
variable {ks fr : List Int} {b e i : Nat}
theorem sp_lo (hb : b ≤ ks.length) (h : i < b) : (ks.take b ++ fr ++ ks.drop e).getD i 0 = ks.getD i 0 := by
  rw [List.getD_eq_getElem?_getD, List.getD_eq_getElem?_getD, List.append_assoc, List.getElem?_append_left (by rw [List.length_take]; omega), List.getElem?_take_of_lt h]
theorem sp_mid (hb : b ≤ ks.length) (h : b ≤ i) (h2 : i < b + fr.length) : (ks.take b ++ fr ++ ks.drop e).getD i 0 = fr.getD (i - b) 0 := by
  have l : (ks.take b).length = b := by rw [List.length_take]; omega
  rw [List.getD_eq_getElem?_getD, List.getD_eq_getElem?_getD, List.append_assoc, List.getElem?_append_right (by omega), l, List.getElem?_append_left (by omega)]
theorem sp_hi (hb : b ≤ ks.length) (h2 : b + fr.length ≤ i) : (ks.take b ++ fr ++ ks.drop e).getD i 0 = ks.getD (e + (i - b - fr.length)) 0 := by
  have l : (ks.take b).length = b := by rw [List.length_take]; omega
  rw [List.getD_eq_getElem?_getD, List.getD_eq_getElem?_getD, List.append_assoc, List.getElem?_append_right (by omega), l, List.getElem?_append_right (by omega), List.getElem?_drop]
end
theorem splice {p : Int → Bool} {ks fr : List Int} {b e n nl : Nat} (p0 : p 0 = false) (hn : ks.length = n) (hl : ks.getD (n - 1) 0 = 0) (be : b ≤ e) (en : e ≤ n) (hf : e = n → fr = [] ∨ fr.getD (fr.length - 1) 0 = 0) (hnl : nl + e = n + b + fr.length) (big : 1 ≤ nl) (n1 : 1 ≤ n) :
    rep (mkOf p ks (n - 1)) (mkOf p fr fr.length) b e fr.length nl = mkOf p (ks.take b ++ fr ++ ks.drop e) (nl - 1) := by
  have hb : b ≤ ks.length := by omega
  refine asc_ext (asc_rep asc_mkOf asc_mkOf (fun x hx => ?_) (by omega)) asc_mkOf fun x => ?_
  · obtain ⟨i, h1, _, rfl⟩ := mem_mkOf.mp hx
    omega
  rw [mem_rep, mem_mkOf, mem_mkOf, mem_mkOf, mem_mkOf]
  constructor
  · rintro (⟨⟨j, h1, h2, rfl⟩, h3, h4⟩ | ⟨j, h1, h2, h3⟩ | ⟨⟨j, h1, h2, h3⟩, h4⟩)
    · exact ⟨j, by omega, by rw [sp_lo hb (by omega)]; exact h2, rfl⟩
    · have ne : ¬ (e = n ∧ j = fr.length - 1) := fun z => by
        rcases hf z.1 with f | f
        · rw [f] at h1
          exact absurd h1 (by simp)
        · rw [z.2, f, p0] at h2
          cases h2
      refine ⟨b + j, by omega, ?_, by omega⟩
      rw [sp_mid hb (by omega) (by omega), Nat.add_sub_cancel_left]
      exact h2
    · refine ⟨b + fr.length + (j - e), by omega, ?_, by omega⟩
      rw [sp_hi hb (by omega), show e + (b + fr.length + (j - e) - b - fr.length) = j by omega]
      exact h2
  · rintro ⟨i, h1, h2, rfl⟩
    by_cases c1 : i < b
    · rw [sp_lo hb c1] at h2
      have ne : i ≠ n - 1 := fun z => by
        rw [z, hl, p0] at h2
        cases h2
      exact .inl ⟨⟨i, by omega, h2, rfl⟩, by omega, by omega⟩
    · by_cases c2 : i < b + fr.length
      · rw [sp_mid hb (by omega) c2] at h2
        exact .inr (.inl ⟨i - b, by omega, h2, by omega⟩)
      · rw [sp_hi hb (by omega)] at h2
        have ne : e + (i - b - fr.length) ≠ n - 1 := fun z => by
          rw [z, hl, p0] at h2
          cases h2
        exact .inr (.inr ⟨⟨e + (i - b - fr.length), by omega, h2, by omega⟩, by omega⟩)
theorem change_ok {fr : List Int} {b e n : Nat} (be : b ≤ e) (en : e ≤ n) (hf : e = n → fr = [] ∨ fr.getD (fr.length - 1) 0 = 0) (big : e + 1 ≤ n + b + fr.length) (hl : fr.length ≤ 100) :
    ChOk n b e fr.length (mkOf pPos fr fr.length) (mkOf pTwo fr fr.length) := by
  refine ⟨by omega, by omega, by omega, by omega, by omega, Nat.le_trans len_mkOf (by omega), fun x hx => ?_, asc_mkOf, asc_mkOf, fun x hx => ?_⟩
  · obtain ⟨i, h1, h2, rfl⟩ := mem_mkOf.mp hx
    refine ⟨by omega, ?_⟩
    split
    · rename_i z
      have ne : i ≠ fr.length - 1 := fun y => by
        rcases hf (by omega) with f | f
        · rw [f] at h1
          exact absurd h1 (by simp)
        · rw [y, f] at h2
          exact absurd h2 (by decide)
      omega
    · omega
  · obtain ⟨i, h1, h2, rfl⟩ := mem_mkOf.mp hx
    refine mem_mkOf.mpr ⟨i, h1, ?_, rfl⟩
    have z := of_decide_eq_true h2
    exact decide_eq_true (by omega)
end Cw
namespace Cw
open PySem L2
abbrev sSR : Stmt := top 28
abbrev sGR : Stmt := top 29
abbrev sLaw : Stmt := top 30
def RowOff (C : Addr) (H : Hp) (a p : Addr) (n : Int) (ms ss : List Int) : Prop := ∃ dx l1 l2, H p = some (.ins C dx (flds n l1 l2)) ∧ IL H l1 ms ∧ IL H l2 ss ∧ l1 ≠ a ∧ l2 ≠ a
theorem RowNew.off {C : Addr} {H H' : Hp} {p a : Addr} {k : Nat} {n : Int} {ms ss : List Int} (r : RowNew C H H' p n ms ss) (J : JarAt H a k) : RowOff C H' a p n ms ss := by
  obtain ⟨dx, l1, l2, h1, h2, h3, n1, n2⟩ := r
  exact ⟨dx, l1, l2, h1, h2, h3, (J.ne n1).symm, (J.ne n2).symm⟩
theorem RowOff.at {C : Addr} {H : Hp} {p a : Addr} {n : Int} {ms ss : List Int} (r : RowOff C H a p n ms ss) : RowAt C H p n ms ss := by
  obtain ⟨dx, l1, l2, h1, h2, h3, _⟩ := r
  exact ⟨dx, l1, l2, h1, h2, h3⟩
theorem RowOff.but {C : Addr} {H H' : Hp} {p a : Addr} {k : Nat} {n : Int} {ms ss : List Int} (r : RowOff C H a p n ms ss) (J : JarAt H a k) (B : But H H' a) : RowOff C H' a p n ms ss := by
  obtain ⟨dx, l1, l2, h1, h2, h3, n1, n2⟩ := r
  exact ⟨dx, l1, l2, B _ _ h1 (J.no h1 fun _ _ _ z => nomatch z), B _ _ h2 n1, B _ _ h3 n2, n1, n2⟩
theorem RowNew.put {C : Addr} {H H' : Hp} {p c : Addr} {o o' : HO} {n : Int} {ms ss : List Int} (r : RowNew C H H' p n ms ss) (h : H c = some o) (hc : ∃ xs, H' c = some (.lst xs)) : RowNew C H (upd H' c o') p n ms ss := by
  obtain ⟨dx, l1, l2, h1, h2, h3, n1, n2⟩ := r
  obtain ⟨xs, hc⟩ := hc
  refine ⟨dx, l1, l2, ?_, ?_, ?_, n1, n2⟩
  · rw [upd_ne (ne_of h1 hc (by intro z; cases z))]
    exact h1
  · show upd H' c o' l1 = _
    rw [upd_ne (fun z => by rw [z, h] at n1; cases n1)]
    exact h2
  · show upd H' c o' l2 = _
    rw [upd_ne (fun z => by rw [z, h] at n2; cases n2)]
    exact h3
/-- what stands while the jar is drawn from -/
structure Side (C : Addr) (H0 H : Hp) (a kp mp p : Addr) (n : Int) (prs : List (Int × Int)) (ks : List Int) : Prop where
  b : But H0 H a
  raw : RawAt H p n prs
  kn : IL H kp ks
  ka : kp ≠ a
  row : RowOff C H a mp n (marksOf prs) (strictOf prs)
theorem Side.step {C : Addr} {H0 H H' : Hp} {a kp mp p : Addr} {k : Nat} {n : Int} {prs : List (Int × Int)} {ks : List Int} (e : Side C H0 H a kp mp p n prs ks) (J : JarAt H a k) (B : But H H' a) : Side C H0 H' a kp mp p n prs ks :=
  ⟨e.b.trans B, e.raw.but J B, B _ _ e.kn e.ka, e.ka, e.row.but J B⟩
/-- what is said of == of rows -/
structure Eqs (P : Program) (w : World) (K : PySem.W.Frag) (mg : Str → Option Value) (base : Heap) (C fE : Addr) (fdE : FuncData) : Prop where
  ok : FnOk P w K mg base CX0 1 fE fdE ["self", "other"] (spEq (Alike C))
  hm : PySem.W.mroIn K C (.type "object") = some true
  hn : PySem.W.findIn K (.ref C) "__ne__" = some (some (.builtin "object.__ne__"))
  hs : PySem.W.findIn K (.ref C) "__eq__" = some (some (.ref fE))
  hf : PySem.W.isFn K (.ref fE) = true
  hb : Binds K fdE ["self", "other"] []
theorem alike_ins {C : Addr} {H : Hp} {a b : Addr} {n : Int} {ms ss : List Int} (r : RowAt C H a n ms ss) (q : RowAt C H b n ms ss) : DIns C (Alike C) (.ref a) (.ref b) H := by
  obtain ⟨dx, l1, l2, h1, h2, h3⟩ := id r
  obtain ⟨dy, m1, m2, g1, g2, g3⟩ := id q
  exact ⟨a, b, dx, dy, _, _, rfl, rfl, h1, g1, n, ms, ss, r, q⟩
theorem eqv_nil {ns : List Int} : PyData.eqv (.list (ns.map PyData.int)) (.list []) = decide (ns = []) := by
  cases ns <;> simp [PyData.eqv, PyData.eqvAll]
theorem cut_lo {xs : List V} {b : Nat} (h : b ≤ xs.length) : cutV xs none (some (b : Int)) = xs.take b := by
  unfold cutV
  have e1 : HT.sIx xs.length xs.length (some (b : Int)) = min b xs.length := HT.sIx_nat xs.length xs.length b
  rw [e1, HT.sIx_none, List.drop_zero, Nat.sub_zero, Nat.min_eq_left h]
theorem cut_hi {xs : List V} {e : Nat} (h : e ≤ xs.length) : cutV xs (some (e : Int)) none = xs.drop e := by
  unfold cutV
  have e1 : HT.sIx xs.length 0 (some (e : Int)) = min e xs.length := HT.sIx_nat xs.length 0 e
  rw [e1, HT.sIx_none, Nat.min_eq_left h, ← List.length_drop, List.take_length]
end Cw
namespace Cw
open PySem L2
def spSR : Sp := fun vs H Q _ => ∃ (a p : Addr) (k : Nat) (n : Int) (prs : List (Int × Int)), vs = [.ref a, .ref p] ∧ JarAt H a (k + 40) ∧ RawAt H p n prs ∧ GoodP n prs ∧ n ≤ 12 ∧ prs.length ≤ 11 ∧ ∀ H', JarAt H' a k → But H H' a → Q (.bl true) H'
abbrev NSR : List Str := ["jar", "raw", "kinds", "made", "turn", "begin", "end", "fresh", "marks_here", "some", "told", "cell", "spot"]
theorem cut_last {xs : List V} : cutV xs none (some (-1)) = xs.dropLast := by
  unfold cutV
  have e1 : HT.sIx xs.length xs.length (some (-1)) = xs.length - 1 := by
    show (if (-1 : Int) < 0 then ((-1 : Int) + (xs.length : Int)).toNat else min (-1 : Int).toNat xs.length) = xs.length - 1
    rw [if_pos (by decide)]
    omega
  rw [e1, HT.sIx_none, List.drop_zero, Nat.sub_zero, List.dropLast_eq_take]
theorem snoc_len {fr : List Int} (h : fr ≠ []) : (fr.dropLast ++ [0]).length = fr.length := by
  have : 0 < fr.length := List.length_pos_iff.mpr h
  rw [List.length_append, List.length_dropLast, List.length_singleton]
  omega
theorem snoc_last {fr : List Int} : (fr.dropLast ++ [0]).getD ((fr.dropLast ++ [0]).length - 1) 0 = 0 := by
  rw [List.getD_eq_getElem?_getD, List.length_append, List.length_singleton, Nat.add_sub_cancel, List.getElem?_append_right (Nat.le_refl _), Nat.sub_self]
  rfl
section
variable {P : Program} {w : World} {K : PySem.W.Frag} {mg : Str → Option Value} {base : Heap}
theorem scSR : FnScope NSR ["jar", "raw"] (defScope sSR) := ⟨rfl, rfl, rfl, by decide +kernel, rfl, by decide +kernel, by decide +kernel⟩
theorem ok_small_right {f C fD fK fH fM fG fE : Addr} {fd fdD fdK fdH fdM fdG fdE : FuncData} (F : Fun K "_law_small_right" "_law_small_right" sSR f fd) (T : Bl mg) (R : Cl K mg C) (Z : Eqs P w K mg base C fE fdE)
    (gD : mg "_law_dip" = some (.ref fD)) (kD : PySem.W.keepIn K (.ref fD) = true) (bD : Binds K fdD ["jar", "many"] []) (GD : FnOk P w K mg base CX0 1 fD fdD ["jar", "many"] spDip)
    (gK : mg "_law_kinds" = some (.ref fK)) (kK : PySem.W.keepIn K (.ref fK) = true) (bK : Binds K fdK ["raw"] []) (GK : FnOk P w K mg base CX0 1 fK fdK ["raw"] spKinds)
    (gH : mg "_law_heap" = some (.ref fH)) (kH : PySem.W.keepIn K (.ref fH) = true) (bH : Binds K fdH ["raw"] []) (GH : FnOk P w K mg base CX0 7 fH fdH ["raw"] (spHeap C))
    (gM : mg "_law_made" = some (.ref fM)) (kM : PySem.W.keepIn K (.ref fM) = true) (bM : Binds K fdM ["kinds"] []) (GM : FnOk P w K mg base CX0 7 fM fdM ["kinds"] (spMade C))
    (mG : Meth K C "changed" fG) (bG : Binds K fdG ["self", "change"] []) (GG : FnOk P w K mg base CX0 7 fG fdG ["self", "change"] (spChanged C)) :
    FnOk P w K mg base CX0 8 f fd ["jar", "raw"] spSR := by
  refine F.ok scSR (fun vs H Q E h => ?_) (fun cdv A outer s H vs Q E hr h => ?_)
  · obtain ⟨a, p, k, n, prs, rfl, _⟩ := h
    rfl
  · obtain ⟨a, p, k, n, prs, rfl, J, hR, G, n12, p11, q⟩ := h
    have hr1 : Room 1 (A.deeper (PyProof.Rows.envOfC "_law_small_right" (defScope sSR) s.heap.objs.size f cdv)) := hr.mono (by decide)
    have hr2 : Room 2 (A.deeper (PyProof.Rows.envOfC "_law_small_right" (defScope sSR) s.heap.objs.size f cdv)) := hr.mono (by decide)
    refine ⟨_, pss_cons (ps_par (i := 2) (j := 3) rfl scSR.nd rfl rfl (by decide) rfl rfl (pa_cons (pe_call GK hr1 rfl gK kK bK .nil pass0 (pa_cons (pv 1) pa_nil)) (pa_cons (pe_call GH hr rfl gH kH bH .nil pass0 (pa_cons (pv 1) pa_nil)) pa_nil)) (by rfl))
      (pss_cons (ps_for PassesOwn.never rfl (pi_range1 (by rfl) T.range (pa_cons pe_int pa_nil)) (pg_name (i := 4) scSR.nd rfl (Or.inl rfl))
        (pss_cons (ps_set (i := 5) scSR.nd rfl (Or.inl rfl) (pe_call GD hr1 rfl gD kD bD .nil pass0 (pa_cons (pv 0) (pa_cons (pe_op op_add (pe_ix ix_tup (pv 1) pe_int (fun _ _ => rfl)) pe_int) pa_nil))))
        (pss_cons (ps_set (i := 6) scSR.nd rfl (Or.inl rfl) (pe_op op_add (pv 5) (pe_call GD hr1 rfl gD kD bD .nil pass0 (pa_cons (pv 0) (pa_cons (pe_op op_add (pe_op op_sub (pe_ix ix_tup (pv 1) pe_int (fun _ _ => rfl)) (pv 5)) pe_int) pa_nil)))))
        (pss_cons (ps_set (i := 7) scSR.nd rfl (Or.inr rfl) (pe_lc (own := [("cell", 11)]) (g := gName 11) (tt := tYes) rfl scSR.nd (pi_range1 (by rfl) T.range (pa_cons (pe_call GD hr1 rfl gD kD bD .nil pass0 (pa_cons (pv 0) (pa_cons pe_int pa_nil))) pa_nil))
            (blkOk_by (own := [("cell", 11)]) (N := NSR) (sc := defScope sSR) (by decide +kernel)) (fun _ _ _ _ _ => pg_name (i := 11) scSR.nd rfl (Or.inl rfl)) (fun _ _ _ _ _ => pts_nil) (fun _ _ _ _ _ => pe_call GD hr1 rfl gD kD bD .nil pass0 (pa_cons (pv 0) (pa_cons pe_int pa_nil)))))
        (pss_cons (ps_set (i := 7) scSR.nd rfl (Or.inr rfl) (pe_ifExp (PW.pt (pw_and (pt_cmpR (op_eqD hr.units) (pv 7) (pe_lst pa_nil) (nomark _)) (pw_and1 (pt_cmpR op_eq (pe_op op_sub (pv 6) (pv 5)) (pe_ix ix_tup (pv 1) pe_int (fun _ _ => rfl)) (nomark _))))) (pe_lst (pa_cons pe_int pa_nil)) (pv 7)))
        (pss_cons (ps_if (PW.pt (pw_and (pt_cmpR op_eq (pv 6) (pe_ix ix_tup (pv 1) pe_int (fun _ _ => rfl)) (nomark _)) (pw_and1 (pt_cmpR (op_neD hr.units) (pv 7) (pe_lst pa_nil) (nomark _)))))
            (pss_one (ps_set (i := 7) scSR.nd rfl (Or.inr rfl) (pe_op op_cat (pe_slice sl_list (pv 7) po_none (po_some (pe_un un_neg pe_int))) (pe_lst (pa_cons pe_int pa_nil))))) pss_nil)
        (pss_cons (ps_setLc (i := 8) (own := [("spot", 12)]) (g := gName 12) rfl scSR.nd rfl rfl (sw_true rfl rfl rfl (by decide +kernel)) (pi_range1 (by rfl) T.range (pa_cons (pe_callB call_len_seq (by rfl) T.len PySem.boot_len (pa_cons (pv 7) pa_nil)) pa_nil))
            (blkOk_by (own := [("spot", 12)]) (N := NSR) (sc := defScope sSR) (by decide +kernel)) (fun _ _ _ _ _ => pg_name (i := 12) scSR.nd rfl (Or.inl rfl)) (fun _ _ _ _ _ => pts_one (pt_cmpR op_gt (pe_ix (r := rIxL K) ix_list (pv 7) (pv 12) (fun _ _ => rfl)) pe_int (nomark _))) (fun _ _ _ _ _ => pe_op op_add (pv 12) pe_int))
        (pss_cons (ps_setLc (i := 9) (own := [("spot", 12)]) (g := gName 12) rfl scSR.nd rfl rfl (sw_true rfl rfl rfl (by decide +kernel)) (pi_range1 (by rfl) T.range (pa_cons (pe_callB call_len_seq (by rfl) T.len PySem.boot_len (pa_cons (pv 7) pa_nil)) pa_nil))
            (blkOk_by (own := [("spot", 12)]) (N := NSR) (sc := defScope sSR) (by decide +kernel)) (fun _ _ _ _ _ => pg_name (i := 12) scSR.nd rfl (Or.inl rfl)) (fun _ _ _ _ _ => pts_one (pt_cmpR op_eq (pe_ix (r := rIxL K) ix_list (pv 7) (pv 12) (fun _ _ => rfl)) pe_int (nomark _))) (fun _ _ _ _ _ => pe_op op_add (pv 12) pe_int))
        (pss_cons (ps_set (i := 10) scSR.nd rfl (Or.inl rfl) (pe_meth (pv 3) R.cl mG GG hr bG .nil pass0 (pa_cons (pe_tup (pa_cons (pv 5) (pa_cons (pv 6) (pa_cons (pe_callB call_len_seq (by rfl) T.len PySem.boot_len (pa_cons (pv 7) pa_nil)) (pa_cons (pv 8) (pa_cons (pv 9) pa_nil)))))) pa_nil)))
        (pss_cons (ps_expr (pe_bm PySem.F.plainAttrs_list PySem.F.slot_list_append PySem.F.type_list_append mt_append (pv 8) (pa_cons pe_int pa_nil)))
        (pss_cons (ps_expr (pe_bm PySem.F.plainAttrs_list PySem.F.slot_list_append PySem.F.type_list_append mt_append (pv 9) (pa_cons pe_int pa_nil)))
        (pss_one (ps_if (PW.pt (pw_or (pt_cmpR (op_neG Z.ok Z.hm Z.hn Z.hs Z.hf Z.hb pass0 hr2) (pv 10) (pe_call GM hr rfl gM kM bM .nil pass0 (pa_cons (pe_op op_cat (pe_op op_cat (pe_slice sl_list (pv 2) po_none (po_some (pv 5))) (pv 7)) (pe_slice sl_list (pv 2) (po_some (pv 6)) po_none)) pa_nil)) (nomark _))
            (pw_or1 (pt_cmpR (op_neG Z.ok Z.hm Z.hn Z.hs Z.hf Z.hb pass0 hr2) (pe_call GM hr rfl gM kM bM .nil pass0 (pa_cons (pv 2) pa_nil)) (pv 3) (nomark _))))) (pss_one (ps_ret pe_bl)) pss_nil)))))))))))))
      (pss_one (ps_ret pe_bl))), ?_⟩
    refine ⟨_, rfl, p, n, prs, rfl, hR, G, by omega, fun kp H1 s1 nk hk => ?_⟩
    refine ⟨_, rfl, p, n, prs, rfl, hR.same s1, G, fun mp H2 s2 row => ⟨_, _, rfl, ?_⟩⟩
    have n1 := G.pos
    have J2 := (J.same s1).same s2
    have S2 : Side C H H2 a kp mp p n prs (kl prs n.toNat) := ⟨But.of (s1.trans s2), (hR.same s1).same s2, s2 _ _ hk, (J.ne nk).symm, row.off (J.same s1)⟩
    refine ⟨_, rfl, by decide, by decide, for_range (lo := 0) (n := 4) (fun i σ H' => ∃ (v4 v5 v6 v7 v8 v9 v10 v11 v12 : Option V), σ = [some (.ref a), some (.ref p), some (.ref kp), some (.ref mp), v4, v5, v6, v7, v8, v9, v10, v11, v12] ∧ JarAt H' a (k + 8 * (4 - i)) ∧ Side C H H' a kp mp p n prs (kl prs n.toNat))
      ⟨none, none, none, none, none, none, none, none, none, rfl, J2.mono (by omega), S2⟩ ?_ ?_⟩
    · rintro i σ H' hi ⟨v4, v5, v6, v7, v8, v9, v10, v11, v12, rfl, J', S'⟩
      have Jd : JarAt H' a (k + 8 * (4 - (i + 1)) + 8) := J'.mono (by omega)
      generalize k + 8 * (4 - (i + 1)) = kk at Jd ⊢
      obtain ⟨l, t, ts, hp, _, _⟩ := S'.raw
      refine ⟨_, rfl, _, rfl, p, _, _, _, rfl, rfl, SqT.of hp, at_of2 (j := 0) rfl rfl, _, _, rfl, rfl, a, kk + 7, n + 1, rfl, Jd, by omega, by omega, fun b H3 b0 b1 J3 B3 => ?_⟩
      have S3 := S'.step Jd B3
      obtain ⟨l3, t3, ts3, hp3, _, _⟩ := S3.raw
      refine ⟨_, rfl, _, rfl, _, rfl, p, _, _, _, rfl, rfl, SqT.of hp3, at_of2 (j := 0) rfl rfl, _, rfl, _, _, rfl, rfl, _, _, rfl, rfl, a, kk + 6, n - b + 1, rfl, J3, by omega, by omega, fun d H4 d0 d1 J4 B4 => ⟨_, _, rfl, rfl, ?_⟩⟩
      have S4 := S3.step J3 B4
      refine ⟨_, rfl, a, kk + 5, 6, rfl, J4, by decide, by decide, fun m H5 m0 m1 J5 B5 => ⟨_, rfl, by omega, by omega, fun D hD => ?_⟩⟩
      have S5 := S4.step J4 B5
      have nDa : D ≠ a := (J5.ne hD).symm
      refine lc_range (lo := 0) (n := m.toNat) (fun j H' => ∃ fr : List Int, JarAt H' a (kk + (5 - j)) ∧ But H5 H' a ∧ IL H' D fr ∧ fr.length = j) ⟨[], J5.put nDa.symm, (But.refl H5 a).new hD, upd_same, rfl⟩ ?_ ?_
      · rintro j H' hj ⟨fr, K1, C1, hf, hfl⟩
        have Kd : JarAt H' a (kk + (5 - (j + 1)) + 1) := K1.mono (by omega)
        refine ⟨rfl, ?_⟩
        unfold tYes
        refine iteT ?_
        refine ⟨_, rfl, a, _, 3, rfl, Kd, by decide, by decide, fun u G _ _ K2 C2 => ⟨_, C2 _ _ hf nDa, by rw [List.length_map]; exact small1000 (by omega), fr ++ [u], K2.put nDa.symm, (C1.trans C2).put hD, ?_, by rw [List.length_append, hfl]; rfl⟩⟩
        show upd _ _ _ D = _
        rw [upd_same, ints_app]
      · rintro H6 ⟨fr, K1, C1, hf, hfl⟩
        have J6 : JarAt H6 a kk := K1.mono (by omega)
        have S6 := S5.step J5 C1
        have hfl5 : fr.length ≤ 5 := by omega
        clear K1 hfl
        refine ⟨_, rfl, Nat.zero_le _, fun c1 hc1 => ⟨_, _, dp_il (show IL _ D fr from ?_), dp_il (ns := []) upd_same, shape_il _, shape_il [], _, rfl, ?_⟩⟩
        · show upd _ _ _ D = _
          rw [upd_ne (ne_of_none hf hc1)]
          exact hf
        have J7 : JarAt (upd H6 c1 (.lst [])) a kk := J6.put (J6.ne hc1)
        have S7 := S6.step J6 ((But.refl H6 a).new (o := .lst []) hc1)
        have hf7 : IL (upd H6 c1 (.lst [])) D fr := by
          show upd _ _ _ D = _
          rw [upd_ne (ne_of_none hf hc1)]
          exact hf
        generalize upd H6 c1 (.lst []) = H7 at J7 S7 hf7 ⊢
        have eqn := eqv_nil (ns := fr)
        obtain ⟨l7, t7, ts7, hp7, _, _⟩ := S7.raw
        by_cases c0 : fr = []
        case' neg =>
          have hbig : d + 1 ≤ n + fr.length := by
            have z1 : 0 < fr.length := List.length_pos_iff.mpr c0
            omega
          refine ifF (eqn.trans (decide_eq_false c0)) ?_
          refine ifF rfl ?_
          refine ⟨_, rfl, ?_⟩
          obtain ⟨fp, hfp⟩ : ∃ x, x = D := ⟨D, rfl⟩
          subst hfp
          obtain ⟨H9, hH9⟩ : ∃ x, x = H7 := ⟨H7, rfl⟩
          subst hH9
          have J9 := J7
          have S9 := S7
          have hf9 := hf7
          clear J7 S7 hf7
        case' pos =>
          refine ifT (eqn.trans (decide_eq_true c0)) ?_
          refine ⟨_, rfl, _, rfl, _, _, rfl, rfl, _, rfl, p, _, _, _, rfl, rfl, SqT.of hp7, at_of2 (j := 0) rfl rfl, rfl, _, rfl, ?_⟩
          by_cases c2 : b + d - b = n
          case' neg =>
            have hbig : d + 1 ≤ n + fr.length := by omega
            refine ifF (decide_eq_false (fun z => c2 (V.int.inj z))) ?_
            refine ⟨_, rfl, ?_⟩
            obtain ⟨fp, hfp⟩ : ∃ x, x = D := ⟨D, rfl⟩
            subst hfp
            obtain ⟨H9, hH9⟩ : ∃ x, x = H7 := ⟨H7, rfl⟩
            subst hH9
            have J9 := J7
            have S9 := S7
            have hf9 := hf7
            clear J7 S7 hf7
          case' pos =>
            refine ifT (decide_eq_true (by show V.int (b + d - b) = V.int n; rw [c2])) ?_
            clear hfl5 hf7 eqn c0
            refine ⟨(by show 1 ≤ sizeLine; decide), fun fp hfp => ?_⟩
            have J9 := J7.put (o := .lst [V.int 0]) (J7.ne hfp)
            have S9 := S7.step J7 ((But.refl H7 a).new (o := .lst [V.int 0]) hfp)
            have hf9 : IL (upd H7 fp (.lst [V.int 0])) fp [0] := upd_same
            have nDa : fp ≠ a := (J7.ne hfp).symm
            generalize upd H7 fp (.lst [V.int 0]) = H9 at J9 S9 hf9 ⊢
            clear hf hfp J7 S7 hp7
            obtain ⟨fr, hfr⟩ : ∃ x : List Int, x = [0] := ⟨_, rfl⟩
            rw [← hfr] at hf9
            have hfl5 : fr.length ≤ 5 := by rw [hfr]; decide
            have hbig : d + 1 ≤ n + fr.length := by rw [hfr]; show d + 1 ≤ n + 1; omega
            clear hfr
        all_goals
          obtain ⟨l9, t9, ts9, hp9, _, _⟩ := S9.raw
          refine ⟨_, rfl, _, rfl, p, _, _, _, rfl, rfl, SqT.of hp9, at_of2 (j := 0) rfl rfl, rfl, _, rfl, ?_⟩
          by_cases he : b + d = n
          case' neg =>
            have hz : b + d = n → fr = [] ∨ fr.getD (fr.length - 1) 0 = 0 := fun z => absurd z he
            refine ifF (decide_eq_false (fun z => he (V.int.inj z))) ?_
            refine ifF rfl ?_
            obtain ⟨Hb, hHb⟩ : ∃ x, x = H9 := ⟨H9, rfl⟩
            subst hHb
            have J0 := J9
            have S0 := S9
            have hf0 := hf9
            clear J9 S9 hf9
          case' pos =>
            refine ifT (decide_eq_true (by show V.int (b + d) = V.int n; rw [he])) ?_
            refine ⟨_, rfl, Nat.zero_le _, fun c3 hc3 => ?_⟩
            have hfB : IL (upd H9 c3 (.lst [])) fp fr := by
              show upd _ _ _ fp = _
              rw [upd_ne (ne_of_none hf9 hc3)]
              exact hf9
            have JB := J9.put (o := .lst []) (J9.ne hc3)
            have SB := S9.step J9 ((But.refl H9 a).new (o := .lst []) hc3)
            have hn3 : IL (upd H9 c3 (.lst [])) c3 [] := upd_same
            generalize upd H9 c3 (.lst []) = HB at hfB JB SB hn3 ⊢
            clear J9 S9 hf9 hp9
            refine ⟨_, _, dp_il hfB, dp_il hn3, shape_il _, shape_il [], _, rfl, ?_⟩
            have eqn2 := eqv_nil (ns := fr)
            by_cases hne : fr = []
            case' pos =>
              have hz : b + d = n → fr = [] ∨ fr.getD (fr.length - 1) 0 = 0 := fun _ => .inl hne
              have ne1 : (!PyData.eqv (.list (fr.map PyData.int)) (.list [])) = false := by rw [eqn2, decide_eq_true hne]; rfl
              refine ifF ne1 ?_
              obtain ⟨Hb, hHb⟩ : ∃ x, x = HB := ⟨HB, rfl⟩
              subst hHb
              have J0 := JB
              have S0 := SB
              have hf0 := hfB
              clear JB SB hfB hn3
            case' neg =>
              have ne1 : (!PyData.eqv (.list (fr.map PyData.int)) (.list [])) = true := by rw [eqn2, decide_eq_false hne]; rfl
              refine ifT ne1 ?_
              refine ⟨_, rfl, _, rfl, _, rfl, fp, _, rfl, SqL.of hfB, fun c4 hc4 => ?_⟩
              rw [cut_last]
              refine ⟨(by show 1 ≤ sizeLine; decide), fun c5 hc5 => ?_⟩
              refine ⟨c4, c5, _, _, rfl, rfl, by rw [upd_ne (ne_of_none upd_same hc5)]; exact upd_same, upd_same, ?_, fun fq hfq => ?_⟩
              · rw [List.length_dropLast, List.length_map]
                exact Nat.le_of_lt (small1000 (by show fr.length - 1 + 1 ≤ 1000; omega))
              have sy := same_new (o := .lst [V.int 0]) (same_new (o := .lst (fr.map V.int).dropLast) (Same.refl HB) hc4) hc5
              have nDb : fq ≠ a := ((JB.same sy).ne hfq).symm
              have sx := same_new (o := .lst ((fr.map V.int).dropLast ++ [.int 0])) (same_new (o := .lst [.int 0]) (same_new (o := .lst (fr.map V.int).dropLast) (Same.refl HB) hc4) hc5) hfq
              have J0 := JB.same sx
              have S0 := SB.step JB (But.of sx)
              have hf0 : IL (upd (upd (upd HB c4 (.lst (fr.map V.int).dropLast)) c5 (.lst [.int 0])) fq (.lst ((fr.map V.int).dropLast ++ [.int 0]))) fq (fr.dropLast ++ [0]) := by
                show upd _ _ _ fq = _
                rw [upd_same, List.map_append, List.map_dropLast]
                rfl
              generalize upd (upd (upd HB c4 (.lst (fr.map V.int).dropLast)) c5 (.lst [.int 0])) fq (.lst ((fr.map V.int).dropLast ++ [.int 0])) = Hb at J0 S0 hf0 ⊢
              clear JB SB hfB hn3 hc4 hc5 hfq sx
              have hz : b + d = n → fr.dropLast ++ [0] = [] ∨ (fr.dropLast ++ [0]).getD ((fr.dropLast ++ [0]).length - 1) 0 = 0 := fun _ => .inr snoc_last
              have hfl6 : (fr.dropLast ++ [0]).length ≤ 5 := by rw [snoc_len hne]; exact hfl5
              have hbi6 : d + 1 ≤ n + (fr.dropLast ++ [0]).length := by rw [snoc_len hne]; exact hbig
              generalize fr.dropLast ++ [0] = fr2 at hf0 hz hfl6 hbi6
              clear hfl5 hbig hne eqn2
              obtain ⟨fr, hfr2⟩ : ∃ x, x = fr2 := ⟨fr2, rfl⟩
              subst hfr2
              have hfl5 := hfl6
              have hbig := hbi6
              obtain ⟨fp, hfp2⟩ : ∃ x, x = fq := ⟨fq, rfl⟩
              subst hfp2
          all_goals
            have n0 := G.pos
            obtain ⟨b', rfl⟩ : ∃ b' : Nat, b = b' := ⟨b.toNat, by omega⟩
            obtain ⟨d', rfl⟩ : ∃ d' : Nat, d = d' := ⟨d.toNat, by omega⟩
            obtain ⟨n', rfl⟩ : ∃ n' : Nat, n = n' := ⟨n.toNat, by omega⟩
            have len : (fr.map V.int).length = fr.length := List.length_map _
            have at_ : ∀ i : Nat, i < fr.length → atI (fr.map V.int) (0 + (i : Int)) = some (V.int (fr.getD i 0)) := fun i hi => by
              refine at_of2 (j := i) (by omega) ?_
              rw [List.getElem?_map, List.getD_eq_getElem?_getD, List.getElem?_eq_getElem hi]
              rfl
            refine ⟨_, rfl, fp, _, rfl, .inl (SqL.of hf0), _, rfl, by rw [len]; omega, by rw [len]; omega, fun D1 hD1 => ?_⟩
            refine lc_range (lo := 0) (n := (((fr.map V.int).length : Nat) : Int).toNat) (fun i H' => Same Hb H' ∧ IL H' D1 (mkOf pPos fr i)) ⟨same_new (Same.refl Hb) hD1, upd_same⟩ ?_ ?_
            · rintro i H' hi ⟨s1, hD'⟩
              rw [Int.toNat_natCast, len] at hi
              refine ⟨rfl, ?_⟩
              refine ⟨_, rfl, _, rfl, fp, _, _, _, rfl, rfl, SqL.of (s1 _ _ hf0), at_ i hi, _, _, rfl, rfl, _, rfl, ?_⟩
              by_cases c : fr.getD i 0 > 0
              · refine ifT (decide_eq_true c) ?_
                refine ⟨_, rfl, _, _, rfl, rfl, _, hD', ?_, same_put s1 hD1, ?_⟩
                · have := len_mkOf (p := pPos) (ks := fr) (m := i)
                  rw [List.length_map]
                  exact small1000 (by omega)
                · show upd _ _ _ D1 = _
                  rw [upd_same, ints_app, mkOf_succ, if_pos (decide_eq_true c), Int.zero_add]
              · refine ifF (decide_eq_false c) ?_
                refine ⟨s1, ?_⟩
                show H' D1 = _
                rw [hD', mkOf_succ, if_neg (by simpa using c), List.append_nil]
            rintro Hc ⟨sc, hm1⟩
            rw [Int.toNat_natCast, len] at hm1
            refine ⟨_, rfl, fp, _, rfl, .inl (SqL.of (sc _ _ hf0)), _, rfl, by rw [len]; omega, by rw [len]; omega, fun D2 hD2 => ?_⟩
            refine lc_range (lo := 0) (n := (((fr.map V.int).length : Nat) : Int).toNat) (fun i H' => Same Hc H' ∧ IL H' D2 (mkOf pTwo fr i)) ⟨same_new (Same.refl Hc) hD2, upd_same⟩ ?_ ?_
            · rintro i H' hi ⟨s2, hE⟩
              rw [Int.toNat_natCast, len] at hi
              refine ⟨rfl, ?_⟩
              refine ⟨_, rfl, _, rfl, fp, _, _, _, rfl, rfl, SqL.of (s2 _ _ (sc _ _ hf0)), at_ i hi, rfl, _, rfl, ?_⟩
              by_cases c : fr.getD i 0 = 2
              · refine ifT (decide_eq_true (by rw [c])) ?_
                refine ⟨_, rfl, _, _, rfl, rfl, _, hE, ?_, same_put s2 hD2, ?_⟩
                · have := len_mkOf (p := pTwo) (ks := fr) (m := i)
                  rw [List.length_map]
                  exact small1000 (by omega)
                · show upd _ _ _ D2 = _
                  rw [upd_same, ints_app, mkOf_succ, if_pos (decide_eq_true c), Int.zero_add]
              · refine ifF (decide_eq_false (by intro z; exact c (V.int.inj z))) ?_
                refine ⟨s2, ?_⟩
                show H' D2 = _
                rw [hE, mkOf_succ, if_neg (by simpa using c), List.append_nil]
            rintro Hd ⟨sd, hm2⟩
            rw [Int.toNat_natCast, len] at hm2
            have sbd := sc.trans sd
            have hm1d := sd _ _ hm1
            -- told
            have Sd := S0.step J0 (But.of sbd)
            obtain ⟨dx, l1, l2, ho, hl1, hl2, _, _⟩ := id Sd.row
            refine ⟨_, rfl, mp, dx, _, rfl, ho, fl_no _ _ _ (by decide +kernel) (by decide +kernel) (by decide +kernel), ?_⟩
            refine ⟨_, rfl, _, rfl, _, rfl, fp, _, rfl, .inl (SqL.of (sbd _ _ hf0)), _, rfl, _, rfl, (by show 5 ≤ sizeLine; decide), fun tp htp => ?_⟩
            have st := same_new (o := .tup [.int (b' : Int), .int ((b' : Int) + d'), .int ((fr.map V.int).length : Int), .ref D1, .ref D2]) (Same.refl Hd) htp
            have CH : ChOk n' b' ((b' : Int) + d') ((fr.map V.int).length : Int) (mkOf pPos fr fr.length) (mkOf pTwo fr fr.length) := by
              rw [len]
              exact change_ok (n := n') (b := b') (e := b' + d') (fr := fr) (by omega) (by omega) (fun z => hz (by omega)) (by omega) (by omega)
            have NL : ((n' : Int) - ((b' : Int) + d' - b') + ((fr.map V.int).length : Int)) = ((n' - d' + fr.length : Nat) : Int) := by
              rw [len]
              omega
            have LL : ((kl prs n').take b' ++ fr ++ (kl prs n').drop (b' + d')).length = n' - d' + fr.length := by
              rw [List.length_append, List.length_append, List.length_take, List.length_drop, kl_len]
              omega
            have lastz : (kl prs n').getD (n' - 1) 0 = 0 := kinds_last G
            have spl : ∀ p : Int → Bool, p 0 = false → rep (mkOf p (kl prs n') (n' - 1)) (mkOf p fr fr.length) b' ((b' : Int) + d') ((fr.map V.int).length : Int) ((n' - d' + fr.length : Nat) : Int) = mkOf p ((kl prs n').take b' ++ fr ++ (kl prs n').drop (b' + d')) (n' - d' + fr.length - 1) := fun p p0 => by
              rw [len]
              exact splice (b := b') (e := b' + d') (n := n') (nl := n' - d' + fr.length) p0 kl_len lastz (by omega) (by omega) (fun z => hz (by omega)) (by omega) (by omega) (by omega)
            have kp1 : mkOf pPos (kl prs n') (n' - 1) = marksOf prs := kinds_pos G
            have kp2 : mkOf pTwo (kl prs n') (n' - 1) = strictOf prs := kinds_two G
            have sp1 := spl pPos (by decide)
            have sp2 := spl pTwo (by decide)
            rw [kp1] at sp1
            rw [kp2] at sp2
            refine ⟨mp, tp, D1, D2, n', b', (b' : Int) + d', _, _, _, _, _, rfl, (Sd.row.at).same st, upd_same, st _ _ hm1d, st _ _ hm2, G.good, CH, ?_, fun told Hf sf rowT => ?_⟩
            · rw [NL, sp1]
              exact Nat.le_trans len_mkOf (by omega)
            rw [NL, sp1, sp2] at rowT
            -- marks_here.append(1), some.append(1)
            have sdf := st.trans sf
            have f1 : IL Hf D1 (mkOf pPos fr fr.length) := sdf _ _ hm1d
            have f2 : IL Hf D2 (mkOf pTwo fr fr.length) := sdf _ _ hm2
            have n12 : D1 ≠ D2 := ne_of_none hm1 hD2
            have g2 : IL (upd Hf D1 (.lst ((mkOf pPos fr fr.length).map V.int ++ [V.int 1]))) D2 (mkOf pTwo fr fr.length) := by
              show upd _ _ _ D2 = _
              rw [upd_ne n12.symm]
              exact f2
            have lm1 := len_mkOf (p := pPos) (ks := fr) (m := fr.length)
            have lm2 := len_mkOf (p := pTwo) (ks := fr) (m := fr.length)
            refine ⟨_, rfl, .inl ⟨rfl, _, SqL.of f1⟩, D1, _, _, rfl, rfl, f1, by rw [List.length_map]; exact small1000 (by omega), ?_⟩
            refine ⟨_, rfl, .inl ⟨rfl, _, SqL.of g2⟩, D2, _, _, rfl, rfl, g2, by rw [List.length_map]; exact small1000 (by omega), ?_⟩
            have sbh : Same Hb (upd (upd Hf D1 (.lst ((mkOf pPos fr fr.length).map V.int ++ [V.int 1]))) D2 (.lst ((mkOf pTwo fr fr.length).map V.int ++ [V.int 1]))) :=
              same_put (same_put (sbd.trans sdf) hD1) (sc.free hD2)
            have rowH := ((rowT.put (o' := .lst ((mkOf pPos fr fr.length).map V.int ++ [V.int 1])) (st _ _ hm1d) ⟨_, f1⟩).put (o' := .lst ((mkOf pTwo fr fr.length).map V.int ++ [V.int 1])) (st _ _ hm2) ⟨_, g2⟩).at
            generalize upd (upd Hf D1 (.lst ((mkOf pPos fr fr.length).map V.int ++ [V.int 1]))) D2 (.lst ((mkOf pTwo fr fr.length).map V.int ++ [V.int 1])) = Hh at sbh rowH ⊢
            have Jh := J0.same sbh
            have Sh := S0.step J0 (But.of sbh)
            have hk1 : IL Hh kp (kl prs n') := Sh.kn
            -- told != made of the kinds
            refine ⟨_, rfl, _, rfl, _, rfl, _, rfl, kp, _, rfl, SqL.of hk1, fun q1 hq1 => ?_⟩
            have e1 : cutV ((kl prs n').map V.int) none (some (b' : Int)) = ((kl prs n').take b').map V.int := by
              rw [cut_lo (by rw [List.length_map, kl_len]; omega), List.map_take]
            rw [e1]
            have u1 := same_new (o := .lst (((kl prs n').take b').map V.int)) (Same.refl Hh) hq1
            have lt1 : ((kl prs n').take b').length ≤ 12 := by
              rw [List.length_take, kl_len]
              omega
            refine ⟨_, rfl, q1, fp, _, _, rfl, rfl, upd_same, u1 _ _ (sbh _ _ hf0), by rw [List.length_map, List.length_map]; exact Nat.le_of_lt (small1000 (by omega)), fun q2 hq2 => ?_⟩
            rw [← List.map_append]
            have u2 := same_new (o := .lst (((kl prs n').take b' ++ fr).map V.int)) u1 hq2
            refine ⟨_, rfl, _, rfl, _, rfl, kp, _, rfl, SqL.of (u2 _ _ hk1), fun q3 hq3 => ?_⟩
            have e2 : cutV ((kl prs n').map V.int) (some ((b' : Int) + d')) none = ((kl prs n').drop (b' + d')).map V.int := by
              have z := cut_hi (xs := (kl prs n').map V.int) (e := b' + d') (by rw [List.length_map, kl_len]; omega)
              rw [List.map_drop, ← z]
              rfl
            have e2' : cutV ((kl prs n').map V.int) (some ((fun i j => i + j) (b' : Int) (d' : Int))) none = ((kl prs n').drop (b' + d')).map V.int := e2
            first | rw [e2] | rw [e2']
            have n23 : q2 ≠ q3 := ne_of_none upd_same hq3
            have u3 := same_new (o := .lst (((kl prs n').drop (b' + d')).map V.int)) u2 hq3
            have lt2 : ((kl prs n').drop (b' + d')).length ≤ 12 := by
              rw [List.length_drop, kl_len]
              omega
            refine ⟨q2, q3, _, _, rfl, rfl, by rw [upd_ne n23]; exact upd_same, upd_same, by rw [List.length_map, List.length_map, List.length_append]; exact Nat.le_of_lt (small1000 (by omega)), fun q4 hq4 => ?_⟩
            rw [← List.map_append]
            have u4 := same_new (o := .lst (((kl prs n').take b' ++ fr ++ (kl prs n').drop (b' + d')).map V.int)) u3 hq4
            refine ⟨q4, _, rfl, upd_same, by rw [LL]; omega, by rw [LL]; omega, fun mq Hi si rowM => ?_⟩
            rw [LL] at rowM
            have u5 := u4.trans si
            refine ⟨alike_ins (rowH.same u5) rowM.at, fun Hj ej => ⟨_, rfl, ifF rfl ?_⟩⟩
            have u6 : Same Hh Hj := fun c o e => ej c o (u5 c o e)
            refine ⟨_, rfl, kp, _, rfl, u6 _ _ hk1, by rw [kl_len]; omega, by rw [kl_len]; omega, fun mq2 Hk sk rowK => ?_⟩
            have rk := rowK.at
            rw [kl_len, kp1, kp2] at rk
            have u7 := u6.trans sk
            refine ⟨_, rfl, alike_ins rk (Sh.row.at.same u7), fun Hl el => ⟨_, rfl, ifF rfl ?_⟩⟩
            have u8 : Same Hh Hl := fun c o e => el c o (u7 c o e)
            exact ⟨_, _, _, _, _, _, _, _, _, rfl, Jh.same u8, Sh.step Jh (But.of u8)⟩
    · rintro σ H' ⟨v4, v5, v6, v7, v8, v9, v10, v11, v12, rfl, J', S'⟩
      exact q H' (J'.mono (by omega)) S'.b
end
end Cw
namespace Cw
open PySem L2
/-! ## great rows: the changed row's pairs -/
def dueOf (prs fr : List (Int × Int)) (b e many : Int) : List (Int × Int) := prs.filter (fun q => decide (q.1 ≤ b)) ++ fr.map (fun q => (b + q.1, q.2)) ++ (prs.filter (fun q => decide (q.1 > e))).map (fun q => (q.1 + many - e + b, q.2))
theorem due_part {f : Int × Int → Bool} (hf : ∀ x y k, f (x, k) = f (y, k)) {prs fr : List (Int × Int)} {b e many nl : Int} (hn : ∀ q ∈ prs, q.1 ≤ b → q.1 < nl) :
    ((dueOf prs fr b e many).filter f).map (·.1) = rep ((prs.filter f).map (·.1)) ((fr.filter f).map (·.1)) b e many nl := by
  have hf' : ∀ (q : Int × Int) (y : Int), f (y, q.2) = f q := fun q y => hf y q.1 q.2
  unfold dueOf rep
  rw [List.filter_append, List.filter_append, List.map_append, List.map_append]
  congr 1
  · congr 1
    · rw [List.filter_map, List.filter_filter, List.filter_filter]
      refine congrArg _ (List.filter_congr fun q hq => ?_)
      show (f q && decide (q.1 ≤ b)) = ((decide (q.1 ≤ b) && decide (q.1 < nl)) && f q)
      by_cases c : q.1 ≤ b
      · rw [decide_eq_true c, decide_eq_true (hn q hq c)]
        simp
      · rw [decide_eq_false c]
        simp
    · rw [List.filter_map, List.map_map, List.map_map]
      have e1 : (f ∘ fun q : Int × Int => (b + q.1, q.2)) = f := funext fun q => hf' q _
      rw [e1]
      refine List.map_congr_left fun q _ => ?_
      show b + q.1 = q.1 + b
      omega
  · rw [List.filter_map, List.map_map, List.filter_map, List.map_map]
    have e1 : (f ∘ fun q : Int × Int => (q.1 + many - e + b, q.2)) = f := funext fun q => hf' q _
    rw [e1, List.filter_filter, List.filter_filter]
    have e2 : prs.filter (fun a => f a && decide (a.1 > e)) = prs.filter (fun a => ((fun x => decide (x > e)) ∘ fun x : Int × Int => x.1) a && f a) := List.filter_congr fun q _ => Bool.and_comm _ _
    rw [e2]
    refine List.map_congr_left fun q _ => ?_
    show q.1 + many - e + b = q.1 + (many - (e - b))
    omega
theorem due_marks {prs fr : List (Int × Int)} {b e many nl : Int} (hn : ∀ q ∈ prs, q.1 ≤ b → q.1 < nl) : marksOf (dueOf prs fr b e many) = rep (marksOf prs) (marksOf fr) b e many nl := by
  have z := due_part (f := fun _ => true) (fun _ _ _ => rfl) (prs := prs) (fr := fr) (b := b) (e := e) (many := many) (nl := nl) hn
  have tt : ∀ xs : List (Int × Int), xs.filter (fun _ => true) = xs := fun xs => List.filter_eq_self.mpr fun _ _ => rfl
  rw [tt, tt, tt] at z
  exact z
theorem due_strict {prs fr : List (Int × Int)} {b e many nl : Int} (hn : ∀ q ∈ prs, q.1 ≤ b → q.1 < nl) : strictOf (dueOf prs fr b e many) = rep (strictOf prs) (strictOf fr) b e many nl :=
  due_part (f := fun q => decide (q.2 = 2)) (fun _ _ _ => rfl) hn
theorem due_good {n b e many : Int} {prs fr : List (Int × Int)} (G : GoodP n prs) (D : ChOk n b e many (marksOf fr) (strictOf fr)) (hk : ∀ q ∈ fr, q.2 = 1 ∨ q.2 = 2) (hl : prs.length ≤ 16) (hf : fr.length ≤ 16) (m1 : 1 ≤ many) :
    GoodP (n + many - e + b) (dueOf prs fr b e many) ∧ (rep (marksOf prs) (marksOf fr) b e many (n - (e - b) + many)).length ≤ 400 := by
  have en := D.en
  have hn : ∀ q ∈ prs, q.1 ≤ b → q.1 < n - (e - b) + many := fun q hq h => by omega
  have e1 := due_marks (fr := fr) (e := e) (many := many) hn
  have ln : (dueOf prs fr b e many).length ≤ 48 := by
    unfold dueOf
    rw [List.length_append, List.length_append, List.length_map, List.length_map]
    have z1 := List.length_filter_le (fun q : Int × Int => decide (q.1 ≤ b)) prs
    have z2 := List.length_filter_le (fun q : Int × Int => decide (q.1 > e)) prs
    omega
  have l4 : (rep (marksOf prs) (marksOf fr) b e many (n - (e - b) + many)).length ≤ 400 := by
    rw [← e1, List.length_map]
    omega
  have GR := good_rep G.good D l4
  refine ⟨⟨by have := GR.pos; omega, by omega, fun q hq => ?_, by have := GR.asc; rw [← e1] at this; exact this⟩, l4⟩
  have r := GR.rng q.1 (by rw [← e1]; exact List.mem_map.mpr ⟨q, hq, rfl⟩)
  refine ⟨r.1, by omega, ?_⟩
  unfold dueOf at hq
  rcases List.mem_append.mp hq with hq | hq
  · rcases List.mem_append.mp hq with hq | hq
    · exact (G.rng q (List.mem_filter.mp hq).1).2.2
    · obtain ⟨y, hy, rfl⟩ := List.mem_map.mp hq
      exact hk y hy
  · obtain ⟨y, hy, rfl⟩ := List.mem_map.mp hq
    exact (G.rng y (List.mem_filter.mp hy).1).2.2
end Cw
namespace Cw
open PySem L2
def spGR : Sp := fun vs H Q _ => ∃ (a p : Addr) (k : Nat) (n : Int) (prs : List (Int × Int)), vs = [.ref a, .ref p] ∧ JarAt H a (k + 20) ∧ RawAt H p n prs ∧ GoodP n prs ∧ prs.length ≤ 16 ∧ ∀ H', JarAt H' a k → But H H' a → Q (.bl true) H'
abbrev NGR : List Str := ["jar", "raw", "length", "marked", "three", "made", "near", "one", "two", "begin", "end", "many", "fresh", "some", "told", "due", "place", "kind", "turn"]
/-- what stands while the jar is drawn from -/
structure Sid (C : Addr) (H0 H : Hp) (a np mp p l t : Addr) (ts : List Addr) (n : Int) (prs : List (Int × Int)) (ks : List Int) : Prop where
  b : But H0 H a
  hp : H p = some (.tup [.int n, .ref l, .ref t])
  hl : H l = some (.lst (ts.map V.ref))
  pr : PrAt H ts prs
  kn : IL H np ks
  ka : np ≠ a
  row : RowOff C H a mp n (marksOf prs) (strictOf prs)
theorem refs_no {ts : List Addr} : ∀ r m n : Int, HO.lst (ts.map V.ref) ≠ .lst [.int r, .int m, .int n] := fun r m n z => by
  injection z with z
  cases ts with
  | nil => cases z
  | cons t ts => cases z
theorem Sid.step {C : Addr} {H0 H H' : Hp} {a np mp p l t : Addr} {ts : List Addr} {k : Nat} {n : Int} {prs : List (Int × Int)} {ks : List Int} (e : Sid C H0 H a np mp p l t ts n prs ks) (J : JarAt H a k) (B : But H H' a) : Sid C H0 H' a np mp p l t ts n prs ks :=
  ⟨e.b.trans B, B _ _ e.hp (J.no e.hp fun _ _ _ z => nomatch z), B _ _ e.hl (J.no e.hl refs_no), e.pr.imp fun _ _ h => B _ _ h (J.no h fun _ _ _ z => nomatch z), B _ _ e.kn e.ka, e.ka, e.row.but J B⟩
theorem near_at {ks : List Int} {z : Int} (h0 : 0 ≤ z) (h1 : z < (ks.map V.int).length) : ∃ v, atI (ks.map V.int) z = some (V.int v) ∧ v ∈ ks := by
  obtain ⟨v, e, m⟩ := at_lt h0 h1
  obtain ⟨y, hy, rfl⟩ := List.mem_map.mp m
  exact ⟨y, e, hy⟩
theorem pos28 : (0 : Int) < 10 ^ Int.toNat 28 := by decide +kernel
theorem lt28 : (10 : Int) ^ Int.toNat 28 + 2 < 2 ^ 120 := by decide +kernel
/-- a comprehension that makes pairs of pairs -/
theorem lc_prs {K : PySem.W.Frag} {a D : Addr} {ts : List Addr} {prs : List (Int × Int)} {g : TG} {tt : TT} {te : TE} {vs : List Nat} {σ : St} {H1 : Hp} {Qd : Hp → Prop} (f : Int × Int → Bool) (h : Int × Int → Int × Int)
    (ha : H1 a = some (.lst (ts.map V.ref))) (hp : PrAt H1 ts prs) (hD : H1 D = none) (few : prs.length ≤ 100)
    (step : ∀ (u : Addr) (z : Int × Int) (H : Hp) (A : V → Hp → Prop) (B : Hp → Prop), H u = some (.tup [.int z.1, .int z.2]) →
      (f z = true → ∀ t, H t = none → A (.ref t) (upd H t (.tup [.int (h z).1, .int (h z).2]))) → (f z = false → B H) →
      g (.ref u) (wipe σ vs) H fun σ2 H2 => wipe σ2 vs = wipe σ vs ∧ tt σ2 H2 fun b H3 => if b = true then te σ2 H3 fun y H4 => A y H4 else B H3)
    (fin : ∀ (H : Hp) (us : List Addr), Same H1 H → H D = some (.lst (us.map V.ref)) → PrAt H us ((prs.filter f).map h) → Qd H) :
    ∃ W : Nat → Nat → Hp → Prop, (∃ m, W 0 m (upd H1 D (HO.lst []))) ∧ ∀ (i m : Nat) (H : Hp), W i m H → (Itl K a).stop i H ∧ Qd H ∨ (Itl K a).go i H ∧ ∃ Nx : Hp → Prop, (∀ H', Nx H' → ∃ m', m' < m ∧ W (i + 1) m' H') ∧
      ∀ (x : V) (H' : Hp), (Itl K a).yld i H x H' → g x (wipe σ vs) H' fun σ2 H2 => wipe σ2 vs = wipe σ vs ∧ tt σ2 H2 fun b H3 => if b = true then te σ2 H3 fun y H4 => ∃ acc, H4 D = some (HO.lst acc) ∧ acc.length < sizeLine ∧ Nx (upd H4 D (HO.lst (acc ++ [y]))) else Nx H3 := by
  have lt := hp.len
  refine lc_list (K := K) (a := a) (xs := ts.map V.ref) (fun i H' => ∃ us, Same H1 H' ∧ H' D = some (.lst (us.map V.ref)) ∧ PrAt H' us (((prs.take i).filter f).map h)) ⟨[], same_new (Same.refl H1) hD, upd_same, .nil⟩ (fun i H' _ ⟨us, z⟩ => SqL.of (z.1 _ _ ha)) ?_ ?_
  · rintro i x H' hx ⟨us, s1, hE, hq⟩
    obtain ⟨u, z, rfl, hz, hu⟩ := hp.get hx
    have hil := ref_at hx
    have tk : prs.take (i + 1) = prs.take i ++ [z] := by rw [List.take_add_one, hz]; rfl
    have ln : us.length ≤ 100 := by
      rw [hq.len, List.length_map]
      have z1 := List.length_filter_le f (prs.take i)
      rw [List.length_take] at z1
      omega
    refine step u z H' _ _ (s1 _ _ hu) (fun c t ht => ?_) (fun c => ?_)
    · have nt : D ≠ t := ne_of_none hE ht
      refine ⟨_, (by rw [upd_ne nt]; exact hE), by rw [List.length_map]; exact small1000 (by omega), us ++ [t], same_put (same_new s1 ht) hD, by rw [upd_same, List.map_append]; rfl, ?_⟩
      rw [tk, List.filter_append, List.map_append]
      refine PrAt.app (hq.imp fun v p e => ?_) ?_
      · rw [upd_ne (ne_of e hE (by intro y; cases y)), upd_ne (ne_of_none e ht)]
        exact e
      · have e1 : List.map h (List.filter f [z]) = [h z] := by rw [List.filter_cons, if_pos c]; rfl
        rw [e1]
        refine .cons ?_ .nil
        rw [upd_ne (Ne.symm nt)]
        exact upd_same
    · refine ⟨us, s1, hE, ?_⟩
      rw [tk, List.filter_append, List.map_append]
      have e1 : List.filter f [z] = [] := by rw [List.filter_cons, if_neg (by rw [c]; exact Bool.false_ne_true)]; rfl
      rw [e1, List.map_nil, List.append_nil]
      exact hq
  · rintro H ⟨us, s1, hE, hq⟩
    rw [List.length_map, lt, List.take_length] at hq
    exact fin H us s1 hE hq

section
variable {P : Program} {w : World} {K : PySem.W.Frag} {mg : Str → Option Value} {base : Heap}
theorem scGR : FnScope NGR ["jar", "raw"] (defScope sGR) := ⟨rfl, rfl, rfl, by decide +kernel, rfl, by decide +kernel, by decide +kernel⟩
abbrev gCx (P : Program) (w : World) (K : PySem.W.Frag) (mg : Str → Option Value) (base : Heap) (f : Addr) (cdv : Value) (A : Around) (outer : List Env) (s : Shared) (H : Hp) (E : XK) := (cxOf CX0 P w K mg base NGR "_law_great_right" (defScope sGR) f cdv A outer s H E).nox
theorem gr_tail {f C fH fG fE : Addr} {fdH fdG fdE : FuncData} (R : Cl K mg C) (Z : Eqs P w K mg base C fE fdE)
    (gH : mg "_law_heap" = some (.ref fH)) (kH : PySem.W.keepIn K (.ref fH) = true) (bH : Binds K fdH ["raw"] []) (GH : FnOk P w K mg base CX0 7 fH fdH ["raw"] (spHeap C))
    (mG : Meth K C "changed" fG) (bG : Binds K fdG ["self", "change"] []) (GG : FnOk P w K mg base CX0 7 fG fdG ["self", "change"] (spChanged C))
    {cdv : Value} {A : Around} {outer : List Env} {s : Shared} {H0 : Hp} {E : XK} (hr : Room 7 (A.deeper (PyProof.Rows.envOfC "_law_great_right" (defScope sGR) s.heap.objs.size f cdv))) :
    ∃ tl, PSs (gCx P w K mg base f cdv A outer s H0 E) ((defBody sGR).drop 7) tl ∧
      ∀ (Q : VK) (Hx Hd : Hp) (a np mp p l t D3 : Addr) (ts us : List Addr) (k : Nat) (n one two b e v : Int) (prs fr : List (Int × Int)) (ks : List Int),
        JarAt Hd a k → Sid C Hx Hd a np mp p l t ts n prs ks → Hd D3 = some (.lst (us.map V.ref)) → PrAt Hd us fr → fr.length ≤ 16 → prs.length ≤ 16 → GoodP n prs → ChOk n b e v (marksOf fr) (strictOf fr) →
        GoodP (n + v - e + b) (dueOf prs fr b e v) → (rep (marksOf prs) (marksOf fr) b e v (n - (e - b) + v)).length ≤ 400 → 1 ≤ v →
        (∀ H', JarAt H' a k → But Hx H' a → Q (.bl true) H') →
        tl { nx := fun x H' => Q V.non H', rt := Q } [some (.ref a), some (.ref p), some (.int n), some (.ref l), some (.ref t), some (.ref mp), some (.ref np), some (.int one), some (.int two), some (.int b), some (.int e), some (.int v), some (.ref D3), none, none, none, none, none, none] Hd := by
  have hr1 : Room 1 (A.deeper (PyProof.Rows.envOfC "_law_great_right" (defScope sGR) s.heap.objs.size f cdv)) := hr.mono (by decide)
  refine ⟨_, (pss_cons (ps_setLc (i := 13) (own := [("place", 16), ("kind", 17)]) (g := gTup K 2 (gCons (gName 16) (gCons (gName 17) gNil))) rfl scGR.nd rfl rfl (sw_true rfl rfl rfl (by decide +kernel)) (pi_list (pv 12)) (blkOk_by (own := [("place", 16), ("kind", 17)]) (N := NGR) (sc := defScope sGR) (by decide +kernel))
          (fun _ _ _ _ _ => pg_tup rfl (pgs_cons (pg_name (i := 16) scGR.nd rfl (Or.inl rfl)) (pgs_cons (pg_name (i := 17) scGR.nd rfl (Or.inl rfl)) pgs_nil))) (fun _ _ _ _ _ => pts_one (pt_cmpR op_eq (pv 17) pe_int (nomark _))) (fun _ _ _ _ _ => pv 16))
      (pss_cons (ps_set (i := 14) scGR.nd rfl (Or.inl rfl) (pe_meth (pv 5) R.cl mG GG hr bG .nil pass0 (pa_cons (pe_tup (pa_cons (pv 9) (pa_cons (pv 10) (pa_cons (pv 11)
          (pa_cons (pe_lc (own := [("place", 16), ("kind", 17)]) (g := gTup K 2 (gCons (gName 16) (gCons (gName 17) gNil))) (tt := tYes) rfl scGR.nd (pi_list (pv 12)) (blkOk_by (own := [("place", 16), ("kind", 17)]) (N := NGR) (sc := defScope sGR) (by decide +kernel))
            (fun _ _ _ _ _ => pg_tup rfl (pgs_cons (pg_name (i := 16) scGR.nd rfl (Or.inl rfl)) (pgs_cons (pg_name (i := 17) scGR.nd rfl (Or.inl rfl)) pgs_nil))) (fun _ _ _ _ _ => pts_nil) (fun _ _ _ _ _ => pv 16)) (pa_cons (pv 13) pa_nil)))))) pa_nil)))
      (pss_cons (ps_setLc (i := 15) (own := [("place", 16), ("kind", 17)]) (g := gTup K 2 (gCons (gName 16) (gCons (gName 17) gNil))) rfl scGR.nd rfl rfl (sw_true rfl rfl rfl (by decide +kernel)) (pi_list (pv 3)) (blkOk_by (own := [("place", 16), ("kind", 17)]) (N := NGR) (sc := defScope sGR) (by decide +kernel))
          (fun _ _ _ _ _ => pg_tup rfl (pgs_cons (pg_name (i := 16) scGR.nd rfl (Or.inl rfl)) (pgs_cons (pg_name (i := 17) scGR.nd rfl (Or.inl rfl)) pgs_nil))) (fun _ _ _ _ _ => pts_one (pt_cmpR op_le (pv 16) (pv 9) (nomark _))) (fun _ _ _ _ _ => pe_tup (pa_cons (pv 16) (pa_cons (pv 17) pa_nil))))
      (pss_cons (ps_set (i := 15) scGR.nd rfl (Or.inl rfl) (pe_op op_cat (pv 15) (pe_lc (own := [("place", 16), ("kind", 17)]) (g := gTup K 2 (gCons (gName 16) (gCons (gName 17) gNil))) (tt := tYes) rfl scGR.nd (pi_list (pv 12)) (blkOk_by (own := [("place", 16), ("kind", 17)]) (N := NGR) (sc := defScope sGR) (by decide +kernel))
            (fun _ _ _ _ _ => pg_tup rfl (pgs_cons (pg_name (i := 16) scGR.nd rfl (Or.inl rfl)) (pgs_cons (pg_name (i := 17) scGR.nd rfl (Or.inl rfl)) pgs_nil))) (fun _ _ _ _ _ => pts_nil) (fun _ _ _ _ _ => pe_tup (pa_cons (pe_op op_add (pv 9) (pv 16)) (pa_cons (pv 17) pa_nil))))))
      (pss_cons (ps_set (i := 15) scGR.nd rfl (Or.inl rfl) (pe_op op_cat (pv 15) (pe_lc (own := [("place", 16), ("kind", 17)]) (g := gTup K 2 (gCons (gName 16) (gCons (gName 17) gNil))) rfl scGR.nd (pi_list (pv 3)) (blkOk_by (own := [("place", 16), ("kind", 17)]) (N := NGR) (sc := defScope sGR) (by decide +kernel))
            (fun _ _ _ _ _ => pg_tup rfl (pgs_cons (pg_name (i := 16) scGR.nd rfl (Or.inl rfl)) (pgs_cons (pg_name (i := 17) scGR.nd rfl (Or.inl rfl)) pgs_nil))) (fun _ _ _ _ _ => pts_one (pt_cmpR op_gt (pv 16) (pv 10) (nomark _))) (fun _ _ _ _ _ => pe_tup (pa_cons (pe_op op_add (pe_op op_sub (pe_op op_add (pv 16) (pv 11)) (pv 10)) (pv 9)) (pa_cons (pv 17) pa_nil))))))
      (pss_one (ps_ret (pe_and (pe_cmpR (op_eqG (rcG_ins Z.ok Z.hs Z.hf Z.hb pass0) hr1) (pv 14) (pe_call GH hr rfl gH kH bH .nil pass0 (pa_cons (pe_tup (pa_cons (pe_op op_add (pe_op op_sub (pe_op op_add (pv 2) (pv 11)) (pv 10)) (pv 9)) (pa_cons (pv 15) (pa_cons (pv 4) pa_nil)))) pa_nil)) (nomark _))
          (pe_one (pe_cmpR (op_eqG (rcG_ins Z.ok Z.hs Z.hf Z.hb pass0) hr1) (pv 5) (pe_call GH hr rfl gH kH bH .nil pass0 (pa_cons (pv 1) pa_nil)) (nomark _))))))))))), ?_⟩
  intro Q Hx Hd a np mp p l t D3 ts us k n one two b e v prs fr ks Jd Sd hG hPr f16 p16 G CH DG l400 v1 q
  have prl := hPr.len
  have lt := Sd.pr.len
  refine ⟨_, rfl, D3, rfl, ⟨_, SqL.of hG⟩, fun D4 hD4 => ?_⟩
  have n34 : D3 ≠ D4 := ne_of_none hG hD4
  refine lc_list (K := K) (a := D3) (xs := us.map V.ref) (fun i H' => Same Hd H' ∧ IL H' D4 (strictOf (fr.take i))) ⟨same_new (Same.refl Hd) hD4, upd_same⟩ (fun i H' _ z => SqL.of (z.1 _ _ hG)) ?_ ?_
  · rintro i x H' hx ⟨s2, hE⟩
    obtain ⟨u, z, rfl, hz, hu⟩ := hPr.get hx
    have hil := ref_at hx
    have tf := take_fil2 hz
    refine ⟨u, _, rfl, SqT.of (s2 _ _ hu), rfl, _, _, rfl, _, _, rfl, rfl, rfl, ?_⟩
    refine ⟨_, rfl, rfl, _, rfl, ?_⟩
    by_cases c : z.2 = 2
    · refine ifT (by simp [c]) ?_
      refine ⟨_, rfl, _, hE, ?_, same_put s2 hD4, ?_⟩
      · have z1 := List.length_filter_le (fun q : Int × Int => decide (q.2 = 2)) (fr.take i)
        rw [List.length_take] at z1
        rw [List.length_map, List.length_map]
        exact small1000 (by omega)
      · show upd _ _ _ D4 = _
        rw [upd_same, ints_app, tf, if_pos c]
    · refine ifF (by simp [c]) ?_
      refine ⟨s2, ?_⟩
      show H' D4 = _
      rw [hE, tf, if_neg c, List.append_nil]
  rintro He ⟨s2, hE⟩
  rw [List.length_map, prl, List.take_length] at hE
  obtain ⟨dx, l1, l2, ho, hl1, hl2, _, _⟩ := id Sd.row
  refine ⟨_, rfl, mp, dx, _, rfl, s2 _ _ ho, fl_no _ _ _ (by decide +kernel) (by decide +kernel) (by decide +kernel), ?_⟩
  refine ⟨_, rfl, _, rfl, _, rfl, _, rfl, D3, rfl, ⟨_, SqL.of (s2 _ _ hG)⟩, fun D5 hD5 => ?_⟩
  have n45 : D4 ≠ D5 := ne_of_none hE hD5
  refine lc_list (K := K) (a := D3) (xs := us.map V.ref) (fun i H' => Same He H' ∧ IL H' D5 (marksOf (fr.take i))) ⟨same_new (Same.refl He) hD5, upd_same⟩ (fun i H' _ z => SqL.of (z.1 _ _ (s2 _ _ hG))) ?_ ?_
  · rintro i x H' hx ⟨s3, hD'⟩
    obtain ⟨u, z, rfl, hz, hu⟩ := hPr.get hx
    have hil := ref_at hx
    refine ⟨u, _, rfl, SqT.of (s3 _ _ (s2 _ _ hu)), rfl, _, _, rfl, _, _, rfl, rfl, rfl, ?_⟩
    unfold tYes
    refine iteT ?_
    refine ⟨_, rfl, _, hD', by rw [List.length_map, List.length_map, List.length_take]; exact small1000 (by omega), same_put s3 hD5, ?_⟩
    show upd _ _ _ D5 = _
    rw [upd_same, ints_app, take_map2 hz]
  rintro Hf ⟨s3, hM⟩
  rw [List.length_map, prl, List.take_length] at hM
  have hE3 := s3 _ _ hE
  have s23 := s2.trans s3
  refine ⟨_, rfl, (by show 5 ≤ sizeLine; decide), fun tp htp => ?_⟩
  have st := same_new (o := .tup [.int b, .int e, .int v, .ref D5, .ref D4]) (Same.refl Hf) htp
  refine ⟨mp, tp, D5, D4, n, b, e, v, _, _, _, _, rfl, (Sd.row.at).same (s23.trans st), upd_same, st _ _ hM, st _ _ hE3, G.good, CH, l400, fun told Hg sg rowT => ?_⟩
  have s5 := s23.trans (st.trans sg)
  have row5 := rowT.at
  -- due, the part before
  refine ⟨_, rfl, l, rfl, ⟨_, SqL.of (s5 _ _ Sd.hl)⟩, fun D6 hD6 => ?_⟩
  have pl : prs.length ≤ 100 := by omega
  have fl : fr.length ≤ 100 := by omega
  refine lc_prs (K := K) (fun q => decide (q.1 ≤ b)) id (s5 _ _ Sd.hl) (Sd.pr.imp fun _ _ h => s5 _ _ h) hD6 pl ?_ ?_
  · intro u z H A B hu ka kb
    refine ⟨u, _, rfl, SqT.of hu, rfl, _, _, rfl, _, _, rfl, rfl, rfl, ?_⟩
    refine ⟨_, rfl, _, rfl, _, _, rfl, rfl, _, rfl, ?_⟩
    by_cases c : z.1 ≤ b
    · refine ifT (decide_eq_true c) ?_
      exact ⟨_, rfl, _, rfl, (by show 2 ≤ sizeLine; decide), fun t ht => ka (decide_eq_true c) t ht⟩
    · exact ifF (decide_eq_false c) (kb (decide_eq_false c))
  intro Hh w6 s6 h6 p6
  have s7 := s5.trans s6
  -- due, the fresh part
  have idm : (List.map id (prs.filter fun q => decide (q.1 ≤ b))) = prs.filter fun q => decide (q.1 ≤ b) := List.map_id _
  rw [idm] at p6
  refine ⟨_, rfl, _, rfl, D3, rfl, ⟨_, SqL.of (s7 _ _ hG)⟩, fun D7 hD7 => ?_⟩
  have n67 : D6 ≠ D7 := ne_of_none h6 hD7
  refine lc_prs (K := K) (fun _ => true) (fun q => (b + q.1, q.2)) (s7 _ _ hG) (hPr.imp fun _ _ h => s7 _ _ h) hD7 fl ?_ ?_
  · intro u z H A B hu ka kb
    refine ⟨u, _, rfl, SqT.of hu, rfl, _, _, rfl, _, _, rfl, rfl, rfl, ?_⟩
    unfold tYes
    refine iteT ?_
    exact ⟨_, rfl, _, rfl, _, _, rfl, rfl, _, rfl, (by show 2 ≤ sizeLine; decide), fun t ht => ka rfl t ht⟩
  intro Hi w7 s8 h7 p7
  have tt : fr.filter (fun _ => true) = fr := List.filter_eq_self.mpr fun _ _ => rfl
  rw [tt] at p7
  have f6 := List.length_filter_le (fun q : Int × Int => decide (q.1 ≤ b)) prs
  have l6 : w6.length ≤ 100 := by rw [p6.len]; omega
  have l7 : w7.length ≤ 100 := by rw [p7.len, List.length_map]; omega
  refine ⟨D6, D7, _, _, rfl, rfl, s8 _ _ h6, h7, by rw [List.length_map, List.length_map]; exact Nat.le_of_lt (small1000 (by omega)), fun E1 hE1 => ?_⟩
  have t1 := same_new (o := .lst (w6.map V.ref ++ w7.map V.ref)) s8 hE1
  have p67 : PrAt (upd Hi E1 (.lst (w6.map V.ref ++ w7.map V.ref))) (w6 ++ w7) ((prs.filter fun q => decide (q.1 ≤ b)) ++ fr.map fun q => (b + q.1, q.2)) :=
    PrAt.app (p6.imp fun _ _ h => t1 _ _ h) (p7.imp fun _ _ h => same_new (Same.refl Hi) hE1 _ _ h)
  have h67 : upd Hi E1 (.lst (w6.map V.ref ++ w7.map V.ref)) E1 = some (.lst ((w6 ++ w7).map V.ref)) := by
    rw [upd_same, List.map_append]
  generalize upd Hi E1 (.lst (w6.map V.ref ++ w7.map V.ref)) = Hj at t1 p67 h67 ⊢
  have s9 := s7.trans t1
  -- due, the part behind
  refine ⟨_, rfl, _, rfl, l, rfl, ⟨_, SqL.of (s9 _ _ Sd.hl)⟩, fun D8 hD8 => ?_⟩
  refine lc_prs (K := K) (fun q => decide (q.1 > e)) (fun q => (q.1 + v - e + b, q.2)) (s9 _ _ Sd.hl) (Sd.pr.imp fun _ _ h => s9 _ _ h) hD8 pl ?_ ?_
  · intro u z H A B hu ka kb
    refine ⟨u, _, rfl, SqT.of hu, rfl, _, _, rfl, _, _, rfl, rfl, rfl, ?_⟩
    refine ⟨_, rfl, _, rfl, _, _, rfl, rfl, _, rfl, ?_⟩
    by_cases c : z.1 > e
    · refine ifT (decide_eq_true c) ?_
      exact ⟨_, rfl, _, rfl, _, _, rfl, rfl, _, rfl, _, _, rfl, rfl, _, rfl, _, _, rfl, rfl, _, rfl, (by show 2 ≤ sizeLine; decide), fun t ht => ka (decide_eq_true c) t ht⟩
    · exact ifF (decide_eq_false c) (kb (decide_eq_false c))
  intro Hk w8 s10 h8 p8
  have f8 := List.length_filter_le (fun q : Int × Int => decide (q.1 > e)) prs
  have l8 : w8.length ≤ 100 := by rw [p8.len, List.length_map]; omega
  refine ⟨E1, D8, _, _, rfl, rfl, s10 _ _ h67, h8, by rw [List.length_map, List.length_map, List.length_append]; exact Nat.le_of_lt (small1000 (by omega)), fun E2 hE2 => ?_⟩
  have t2 := same_new (o := .lst ((w6 ++ w7).map V.ref ++ w8.map V.ref)) s10 hE2
  have p68 : PrAt (upd Hk E2 (.lst ((w6 ++ w7).map V.ref ++ w8.map V.ref))) (w6 ++ w7 ++ w8) (dueOf prs fr b e v) :=
    PrAt.app (p67.imp fun _ _ h => t2 _ _ h) (p8.imp fun _ _ h => same_new (Same.refl Hk) hE2 _ _ h)
  have h68 : upd Hk E2 (.lst ((w6 ++ w7).map V.ref ++ w8.map V.ref)) E2 = some (.lst ((w6 ++ w7 ++ w8).map V.ref)) := by
    rw [upd_same, ← List.map_append]
  generalize upd Hk E2 (.lst ((w6 ++ w7).map V.ref ++ w8.map V.ref)) = Hl at t2 p68 h68 ⊢
  have s11 := s9.trans t2
  have s12 : Same Hg Hl := s6.trans (t1.trans t2)
  -- the two rows
  refine ⟨_, rfl, _, rfl, _, rfl, _, _, rfl, rfl, _, rfl, _, _, rfl, rfl, _, rfl, _, _, rfl, rfl, _, rfl, _, rfl, (by show 3 ≤ sizeLine; decide), fun tq htq => ?_⟩
  have t3 := same_new (o := .tup [.int (n + v - e + b), .ref E2, .ref t]) (Same.refl Hl) htq
  have en : n + v - e + b = n - (e - b) + v := by omega
  have hn : ∀ q ∈ prs, q.1 ≤ b → q.1 < n - (e - b) + v := fun q hq h => by
    have := CH.en
    have := (G.rng q hq).2.1
    omega
  refine ⟨tq, _, _, rfl, ⟨E2, t, _, upd_same, t3 _ _ h68, p68.imp fun _ _ h => t3 _ _ h⟩, DG, fun r1 Hm sm row1 => ?_⟩
  have r1a := row1.at
  rw [en, due_marks hn, due_strict hn] at r1a
  have s13 := t3.trans sm
  refine ⟨alike_ins (row5.same (s12.trans s13)) r1a, fun Hn en2 => ?_⟩
  have s14 : Same Hd Hn := fun c o h => en2 c o (s13 c o (s11 c o h))
  refine ⟨_, rfl, ifT rfl ?_⟩
  refine ⟨_, rfl, _, rfl, p, n, prs, rfl, ⟨l, t, ts, s14 _ _ Sd.hp, s14 _ _ Sd.hl, Sd.pr.imp fun _ _ h => s14 _ _ h⟩, G, fun r2 Ho so row2 => ?_⟩
  refine ⟨alike_ins (Sd.row.at.same (s14.trans so)) row2.at, fun Hp ep => ?_⟩
  have s15 : Same Hd Hp := fun c o h => ep c o (so c o (s14 c o h))
  exact q Hp (Jd.same s15) (Sd.b.trans (But.of s15))
end
end Cw
namespace Cw
open PySem L2
section
variable {P : Program} {w : World} {K : PySem.W.Frag} {mg : Str → Option Value} {base : Heap}
theorem ok_great_right {f C fD fH fG fE : Addr} {fd fdD fdH fdG fdE : FuncData} (F : Fun K "_law_great_right" "_law_great_right" sGR f fd) (T : Bl mg) (R : Cl K mg C) (Z : Eqs P w K mg base C fE fdE)
    (gD : mg "_law_dip" = some (.ref fD)) (kD : PySem.W.keepIn K (.ref fD) = true) (bD : Binds K fdD ["jar", "many"] []) (GD : FnOk P w K mg base CX0 1 fD fdD ["jar", "many"] spDip)
    (gH : mg "_law_heap" = some (.ref fH)) (kH : PySem.W.keepIn K (.ref fH) = true) (bH : Binds K fdH ["raw"] []) (GH : FnOk P w K mg base CX0 7 fH fdH ["raw"] (spHeap C))
    (mG : Meth K C "changed" fG) (bG : Binds K fdG ["self", "change"] []) (GG : FnOk P w K mg base CX0 7 fG fdG ["self", "change"] (spChanged C)) :
    FnOk P w K mg base CX0 8 f fd ["jar", "raw"] spGR := by
  refine F.ok scGR (fun vs H Q E h => ?_) (fun cdv A outer s H vs Q E hr h => ?_)
  · obtain ⟨a, p, k, n, prs, rfl, _⟩ := h
    rfl
  · obtain ⟨a, p, k, n, prs, rfl, J, ⟨l, t, ts, hp, hl, hpr⟩, G, p16, q⟩ := h
    have hr1 : Room 1 (A.deeper (PyProof.Rows.envOfC "_law_great_right" (defScope sGR) s.heap.objs.size f cdv)) := hr.mono (by decide)
    obtain ⟨tl, hTL, hQ⟩ := gr_tail (P := P) (w := w) (K := K) (mg := mg) (base := base) R Z gH kH bH GH mG bG GG (outer := outer) (H0 := H) (E := E) hr
    refine ⟨_, pss_cons (ps_asg (pv 1) (pg_tup (by rfl) (pgs_cons (pg_name (i := 2) scGR.nd rfl (Or.inr rfl)) (pgs_cons (pg_name (i := 3) scGR.nd rfl (Or.inl rfl)) (pgs_cons (pg_name (i := 4) scGR.nd rfl (Or.inl rfl)) pgs_nil)))))
      (pss_cons (ps_par (i := 5) (j := 6) rfl scGR.nd rfl rfl (by decide) rfl rfl (pa_cons (pe_call GH hr rfl gH kH bH .nil pass0 (pa_cons (pv 1) pa_nil))
          (pa_cons (pe_op op_cat (pe_lst (pa_cons pe_int (pa_cons (pv 2) pa_nil))) (pe_lc (own := [("place", 16), ("kind", 17)]) (g := gTup K 2 (gCons (gName 16) (gCons (gName 17) gNil))) (tt := tYes) rfl scGR.nd (pi_list (pv 3)) (blkOk_by (own := [("place", 16), ("kind", 17)]) (N := NGR) (sc := defScope sGR) (by decide +kernel))
            (fun _ _ _ _ _ => pg_tup rfl (pgs_cons (pg_name (i := 16) scGR.nd rfl (Or.inl rfl)) (pgs_cons (pg_name (i := 17) scGR.nd rfl (Or.inl rfl)) pgs_nil))) (fun _ _ _ _ _ => pts_nil) (fun _ _ _ _ _ => pv 16))) pa_nil)) (by rfl))
      (pss_cons (ps_par (i := 7) (j := 8) rfl scGR.nd rfl rfl (by decide) rfl rfl (pa_cons (pe_ix ix_list (pv 6) (pe_call GD hr1 rfl gD kD bD .nil pass0 (pa_cons (pv 0) (pa_cons (pe_callB call_len_seq (by rfl) T.len PySem.boot_len (pa_cons (pv 6) pa_nil)) pa_nil))) (fun _ _ => rfl))
          (pa_cons (pe_ix ix_list (pv 6) (pe_call GD hr1 rfl gD kD bD .nil pass0 (pa_cons (pv 0) (pa_cons (pe_callB call_len_seq (by rfl) T.len PySem.boot_len (pa_cons (pv 6) pa_nil)) pa_nil))) (fun _ _ => rfl)) pa_nil)) (by rfl))
      (pss_cons (ps_asg (pe_tup (pa_cons (pe_callB (call_min2 rfl) (by rfl) T.min (by decide +kernel) (pa_cons (pv 7) (pa_cons (pv 8) pa_nil)))
          (pa_cons (pe_op op_sub (pe_callB (call_max2 rfl) (by rfl) T.max (by decide +kernel) (pa_cons (pv 7) (pa_cons (pv 8) pa_nil))) (pe_op op_mul (pe_call GD hr1 rfl gD kD bD .nil pass0 (pa_cons (pv 0) (pa_cons pe_int pa_nil))) (pe_callTy call_int1 (by rfl) T.int (by decide +kernel) (pa_cons (pe_cmpR op_ne (pv 7) (pv 8) (nomark _)) pa_nil)))) pa_nil)))
          (pg_tup (by rfl) (pgs_cons (pg_name (i := 9) scGR.nd rfl (Or.inr rfl)) (pgs_cons (pg_name (i := 10) scGR.nd rfl (Or.inr rfl)) pgs_nil))))
      (pss_cons (ps_set (i := 11) scGR.nd rfl (Or.inr rfl) (pe_op op_add pe_int (pe_call GD hr1 rfl gD kD bD .nil pass0 (pa_cons (pv 0) (pa_cons (pe_op op_pow pe_int pe_int) pa_nil)))))
      (pss_cons (ps_set (i := 12) scGR.nd rfl (Or.inl rfl) (pe_callB (cr_sortedSet rfl) (by rfl) T.sorted (by decide +kernel) (pa_cons (pe_callTy (cr_setOf rfl) (by rfl) T.set (by decide +kernel) (pa_cons
          (pe_lc (own := [("turn", 18)]) (g := gName 18) (tt := tYes) rfl scGR.nd (pi_range1 (by rfl) T.range (pa_cons (pe_call GD hr1 rfl gD kD bD .nil pass0 (pa_cons (pv 0) (pa_cons pe_int pa_nil))) pa_nil)) (blkOk_by (own := [("turn", 18)]) (N := NGR) (sc := defScope sGR) (by decide +kernel))
            (fun _ _ _ _ _ => pg_name (i := 18) scGR.nd rfl (Or.inl rfl)) (fun _ _ _ _ _ => pts_nil) (fun _ _ _ _ _ => pe_op op_add pe_int (pe_call GD hr1 rfl gD kD bD .nil pass0 (pa_cons (pv 0) (pa_cons (pv 11) pa_nil))))) pa_nil)) pa_nil)))
      (pss_cons (ps_setLc (i := 12) (own := [("place", 16)]) (g := gName 16) rfl scGR.nd rfl rfl (sw_true rfl rfl rfl (by decide +kernel)) (pi_list (pv 12)) (blkOk_by (own := [("place", 16)]) (N := NGR) (sc := defScope sGR) (by decide +kernel))
          (fun _ _ _ _ _ => pg_name (i := 16) scGR.nd rfl (Or.inl rfl)) (fun _ _ _ _ _ => pts_one (PW.pt (pw_or (pt_cmpR op_lt (pv 10) (pv 2) (nomark _)) (pw_or1 (pt_cmpR op_lt (pv 16) (pv 11) (nomark _))))))
          (fun _ _ _ _ _ => pe_tup (pa_cons (pv 16) (pa_cons (pe_op op_add pe_int (pe_call GD hr1 rfl gD kD bD .nil pass0 (pa_cons (pv 0) (pa_cons pe_int pa_nil)))) pa_nil)))) hTL)))))), ?_⟩
    have n1 := G.pos
    have lt := hpr.len
    refine ⟨_, rfl, p, _, rfl, SqT.of hp, rfl, _, _, rfl, _, _, rfl, _, _, rfl, rfl, ?_⟩
    try dsimp only [L2.start, List.set, List.map, List.append, List.replicate, List.length]
    refine ⟨_, rfl, p, n, prs, rfl, ⟨l, t, ts, hp, hl, hpr⟩, G, fun mp H1 s1 row => ?_⟩
    refine ⟨_, rfl, (by show 2 ≤ sizeLine; decide), fun y1 hy1 => ?_⟩
    have s2 := same_new (o := .lst [V.int 0, V.int n]) s1 hy1
    have r2 := same_new (o := .lst [V.int 0, V.int n]) (Same.refl H1) hy1
    have hy : upd H1 y1 (.lst [V.int 0, V.int n]) y1 = some (.lst [V.int 0, V.int n]) := upd_same
    generalize upd H1 y1 (.lst [V.int 0, V.int n]) = H1' at s2 r2 hy ⊢
    refine ⟨_, rfl, l, rfl, ⟨_, SqL.of (s2 _ _ hl)⟩, fun D hD => ?_⟩
    refine lc_list (K := K) (a := l) (xs := ts.map V.ref) (fun i H' => Same H1' H' ∧ IL H' D (marksOf (prs.take i))) ⟨same_new (Same.refl H1') hD, upd_same⟩ (fun i H' _ z => SqL.of (z.1 _ _ (s2 _ _ hl))) ?_ ?_
    · rintro i x H' hx ⟨s3, hD'⟩
      obtain ⟨u, z, rfl, hz, hu⟩ := hpr.get hx
      have hil := ref_at hx
      refine ⟨u, _, rfl, SqT.of (s3 _ _ (s2 _ _ hu)), rfl, _, _, rfl, _, _, rfl, rfl, rfl, ?_⟩
      unfold tYes
      refine iteT ?_
      refine ⟨_, rfl, _, hD', by rw [List.length_map, List.length_map, List.length_take]; exact small1000 (by omega), same_put s3 hD, ?_⟩
      show upd _ _ _ D = _
      rw [upd_same, ints_app, take_map2 hz]
    rintro H2 ⟨s3, hD'⟩
    rw [List.length_map, lt, List.take_length] at hD'
    refine ⟨y1, D, _, _, rfl, rfl, s3 _ _ hy, hD', by rw [List.length_map, List.length_map]; exact Nat.le_of_lt (small1000 (by show 2 + prs.length ≤ 1000; omega)), fun np hnp => ⟨_, _, rfl, ?_⟩⟩
    have s4 := same_new (o := .lst ([V.int 0, V.int n] ++ (marksOf prs).map V.int)) (s2.trans s3) hnp
    have s5 := same_new (o := .lst ([V.int 0, V.int n] ++ (marksOf prs).map V.int)) (r2.trans s3) hnp
    have hk : IL (upd H2 np (.lst ([V.int 0, V.int n] ++ (marksOf prs).map V.int))) np (0 :: n :: marksOf prs) := upd_same
    have npa : np ≠ a := ((J.same (s2.trans s3)).ne hnp).symm
    generalize upd H2 np (.lst ([V.int 0, V.int n] ++ (marksOf prs).map V.int)) = H3 at s4 s5 hk ⊢
    have J3 : JarAt H3 a (k + 19 + 1) := J.same s4
    have S3 : Sid C H H3 a np mp p l t ts n prs (0 :: n :: marksOf prs) := ⟨But.of s4, s4 _ _ hp, s4 _ _ hl, hpr.imp fun _ _ h => s4 _ _ h, hk, npa, (row.off J).but (J.same s1) (But.of s5)⟩
    have kr : ∀ z ∈ (0 :: n :: marksOf prs), 0 ≤ z ∧ z ≤ n := fun z hz => by
      rcases List.mem_cons.mp hz with rfl | hz
      · exact ⟨Int.le_refl _, by omega⟩
      · rcases List.mem_cons.mp hz with rfl | hz
        · exact ⟨by omega, Int.le_refl _⟩
        · obtain ⟨y, hy, rfl⟩ := List.mem_map.mp hz
          have := G.rng y hy
          omega
    have kl' : (((0 :: n :: marksOf prs).map V.int).length : Int) = prs.length + 2 := by
      rw [List.length_map, List.length_cons, List.length_cons, List.length_map]
      omega
    clear row s1 s2 r2 hy hy1 hD hD' s3 hnp s4 s5 hk
    try dsimp only [L2.start, List.set, List.map, List.append, List.replicate, List.length]
    refine ⟨_, rfl, _, rfl, _, rfl, np, _, rfl, .inl (SqL.of S3.kn), a, k + 19, _, rfl, J3, by rw [kl']; omega, by rw [kl']; omega, fun w1 H4 a1 b1 J4 B4 => ?_⟩
    have S4 := S3.step J3 B4
    obtain ⟨one, e1, m1⟩ := near_at a1 b1
    refine ⟨np, _, _, _, rfl, rfl, SqL.of S4.kn, e1, ?_⟩
    refine ⟨_, rfl, _, rfl, _, rfl, np, _, rfl, .inl (SqL.of S4.kn), a, k + 18, _, rfl, J4, by rw [kl']; omega, by rw [kl']; omega, fun w2 H5 a2 b2 J5 B5 => ?_⟩
    have S5 := S4.step J4 B5
    obtain ⟨two, e2, m2⟩ := near_at a2 b2
    refine ⟨np, _, _, _, rfl, rfl, SqL.of S5.kn, e2, _, _, rfl, ?_⟩
    have o1 := kr _ m1
    have o2 := kr _ m2
    try dsimp only [L2.start, List.set, List.map, List.append, List.replicate, List.length]
    refine ⟨_, rfl, _, rfl, _, _, rfl, _, rfl, _, rfl, _, _, rfl, _, rfl, a, k + 17, 2, rfl, J5, by decide, by decide, fun d H6 a3 b3 J6 B6 => ?_⟩
    have S6 := S5.step J5 B6
    refine ⟨_, rfl, _, rfl, rfl, .inr ⟨_, rfl, _, _, rfl, rfl, .inl ⟨by omega, by omega⟩, _, _, rfl, rfl, (by show 2 ≤ sizeLine; decide), fun tp htp => ⟨tp, _, rfl, SqT.of upd_same, rfl, _, _, rfl, _, _, rfl, rfl, ?_⟩⟩⟩
    have be : (if two < one then two else one) ≤ (if two > one then two else one) - d * (if (!decide (V.int one = V.int two)) = true then 1 else 0) ∧ (if two > one then two else one) - d * (if (!decide (V.int one = V.int two)) = true then 1 else 0) ≤ n ∧ 0 ≤ (if two < one then two else one) := by
      by_cases c : one = two
      · subst c
        simp
        omega
      · have z : ¬ V.int one = V.int two := fun z => c (V.int.inj z)
        simp [z]
        split <;> split <;> omega
    dsimp only
    generalize (if two < one then two else one) = b at be ⊢
    generalize (if two > one then two else one) - d * (if (!decide (V.int one = V.int two)) = true then 1 else 0) = e at be ⊢
    have S7 := S6.step J6 ((But.refl H6 a).new (o := .tup [V.int b, V.int e]) htp)
    have J7 : JarAt (upd H6 tp (.tup [V.int b, V.int e])) a (k + 17) := J6.put (J6.ne htp)
    generalize upd H6 tp (.tup [V.int b, V.int e]) = H7 at J7 S7 ⊢
    try dsimp only [L2.start, List.set, List.map, List.append, List.replicate, List.length]
    refine ⟨_, rfl, _, _, rfl, rfl, ⟨by decide, by decide, by decide⟩, a, k + 16, _, rfl, J7, pos28, by have := lt28; omega, fun v H8 a4 b4 J8 B8 => ⟨_, _, rfl, rfl, ?_⟩⟩
    have S8 := S7.step J7 B8
    have l28 := lt28
    try dsimp only [L2.start, List.set, List.map, List.append, List.replicate, List.length]
    refine ⟨_, rfl, a, k + 15, 5, rfl, J8, by decide, by decide, fun m H9 a5 b5 J9 B9 => ⟨_, rfl, by omega, by omega, fun D2 hD2 => ?_⟩⟩
    have S9 := S8.step J8 B9
    have nD2 : D2 ≠ a := (J9.ne hD2).symm
    refine lc_range (lo := 0) (n := m.toNat) (fun j H' => ∃ fs : List Int, JarAt H' a (k + 10 + (5 - j)) ∧ But H9 H' a ∧ IL H' D2 fs ∧ fs.length = j ∧ ∀ x ∈ fs, 1 ≤ x ∧ x ≤ 1 + v) ⟨[], J9.put nD2.symm, (But.refl H9 a).new hD2, upd_same, rfl, fun _ h => (nomatch h)⟩ ?_ ?_
    · rintro j H' hj ⟨fs, K1, C1, hf, hfl, hr⟩
      have Kd : JarAt H' a (k + 10 + (5 - (j + 1)) + 1) := K1.mono (by omega)
      refine ⟨rfl, ?_⟩
      unfold tYes
      refine iteT ?_
      refine ⟨_, rfl, _, rfl, a, _, 1 + v, rfl, Kd, by omega, by omega, fun u G u0 u1 K2 C2 => ⟨_, _, rfl, rfl, _, C2 _ _ hf nD2, by rw [List.length_map]; exact small1000 (by omega), fs ++ [1 + u], K2.put nD2.symm, (C1.trans C2).put hD2, ?_, by rw [List.length_append, hfl]; rfl, fun x hx => ?_⟩⟩
      · show upd _ _ _ D2 = _
        rw [upd_same, ints_app]
      · rcases List.mem_append.mp hx with hx | hx
        · exact hr x hx
        · rw [List.mem_singleton.mp hx]
          omega
    rintro H10 ⟨fs, K1, C1, hf, hfl, hrg⟩
    refine ⟨D2, fs, rfl, SqL.of hf, by omega, fun ps c hc hps => ⟨ps, _, _, rfl, upd_same, by omega, fun ns2 ps2 asc mem len hps2 => ?_⟩⟩
    have s6 := same_new (o := .lst (ns2.map V.int)) (same_new (o := SetO w ps (fun j => decide (j ∈ fs)) c) (Same.refl H10) hps) hps2
    have hN2 : IL (upd (upd H10 ps (SetO w ps (fun j => decide (j ∈ fs)) c)) ps2 (.lst (ns2.map V.int))) ps2 ns2 := upd_same
    have J11 := (K1.mono (j := k + 10) (by omega)).same s6
    have S11 := (S9.step J9 C1).step K1 (But.of s6)
    have p2a : ps2 ≠ a := ((K1.same (same_new (o := SetO w ps (fun j => decide (j ∈ fs)) c) (Same.refl H10) hps)).ne hps2).symm
    have nsr : ∀ x ∈ ns2, 1 ≤ x ∧ x ≤ 1 + v := fun x hx => hrg x (of_decide_eq_true ((mem x).mp hx))
    have nsl : ns2.length ≤ 4 := by omega
    try dsimp only [L2.start, List.set, List.map, List.append, List.replicate, List.length]
    refine ⟨_, rfl, ps2, rfl, ⟨_, SqL.of hN2⟩, fun D3 hD3 => ?_⟩
    have nD3 : D3 ≠ a := (J11.ne hD3).symm
    have n23 : ps2 ≠ D3 := ne_of_none hN2 hD3
    obtain ⟨Hc, hHc⟩ : ∃ Hc, Hc = upd (upd H10 ps (SetO w ps (fun j => decide (j ∈ fs)) c)) ps2 (.lst (ns2.map V.int)) := ⟨_, rfl⟩
    refine lc_list (K := K) (a := ps2) (xs := ns2.map V.int) (fun i H' => ∃ (us : List Addr) (fr : List (Int × Int)), JarAt H' a (k + 5 + (5 - i)) ∧ But Hc H' a ∧ IL H' ps2 ns2 ∧ H' D3 = some (.lst (us.map V.ref)) ∧ PrAt H' us fr ∧ fr.map (·.1) = (ns2.take i).filter (fun x => decide (e < n) || decide (x < 1 + v)) ∧ ∀ y ∈ fr, y.2 = 1 ∨ y.2 = 2)
      ⟨[], [], (J11.mono (by omega)).put nD3.symm, by rw [hHc]; exact (But.refl _ a).new hD3, by show upd _ _ _ ps2 = _; rw [upd_ne n23]; exact hN2, upd_same, .nil, rfl, fun _ h => (nomatch h)⟩ (fun i H' _ ⟨us, fr, z⟩ => SqL.of z.2.2.1) ?_ ?_
    · rintro i x' H' hx ⟨us, fr, K2, C2, hF, hG, hPr, hfst, hk2⟩
      obtain ⟨z, rfl, hz⟩ := il_at hx
      have hil : i < ns2.length := (List.getElem?_eq_some_iff.mp hz).1
      have tf := take_fil hz (fun x => decide (e < n) || decide (x < 1 + v))
      have Kd : JarAt H' a (k + 5 + (5 - (i + 1)) + 1) := K2.mono (by omega)
      have hD3c : Hc D3 = none := by rw [hHc]; exact hD3
      refine ⟨rfl, ?_⟩
      refine ⟨_, rfl, _, rfl, _, _, rfl, rfl, _, rfl, ?_⟩
      by_cases c1 : e < n
      case' pos =>
        have hkeep : (decide (e < n) || decide (z < 1 + v)) = true := by rw [decide_eq_true c1]; rfl
        refine ifT (decide_eq_true c1) ?_
        refine ifT rfl ?_
      case' neg =>
        refine ifF (decide_eq_false c1) ?_
        refine ⟨_, rfl, _, rfl, _, _, rfl, rfl, _, rfl, ?_⟩
        by_cases c2 : z < 1 + v
        case neg =>
          refine ifF (decide_eq_false c2) ?_
          refine ⟨us, fr, K2.mono (by omega), C2, hF, hG, hPr, ?_, hk2⟩
          rw [hfst, tf, if_neg (by simp [c1, c2]), List.append_nil]
        have hkeep : (decide (e < n) || decide (z < 1 + v)) = true := by rw [decide_eq_true c2]; simp
        refine ifT (decide_eq_true c2) ?_
      all_goals
        refine ⟨_, rfl, _, rfl, a, _, 2, rfl, Kd, by decide, by decide, fun u G u0 u1 K3 C3 => ⟨_, _, rfl, rfl, (by show 2 ≤ sizeLine; decide), fun t' ht' => ?_⟩⟩
        have hG2 := C3 _ _ hG nD3
        have hF2 := C3 _ _ hF p2a
        have hP2 : PrAt G us fr := hPr.imp fun t p h => C3 _ _ h (K2.no h (fun _ _ _ y => nomatch y))
        have ntD3 : D3 ≠ t' := ne_of_none hG2 ht'
        have hts : us.length ≤ 4 := by
          rw [hPr.len, ← List.length_map (f := (·.1)), hfst]
          have z1 := List.length_filter_le (fun x => decide (e < n) || decide (x < 1 + v)) (ns2.take i)
          rw [List.length_take] at z1
          omega
        refine ⟨_, (by rw [upd_ne ntD3]; exact hG2), by rw [List.length_map]; exact small1000 (by omega), us ++ [t'], fr ++ [(z, 1 + u)], (K3.put (K3.ne ht')).put nD3.symm, ((C2.trans C3).new ht').put hD3c, ?_, ?_, ?_, ?_, ?_⟩
        · show upd _ _ _ ps2 = _
          rw [upd_ne n23, upd_ne (ne_of_none hF2 ht')]
          exact hF2
        · rw [upd_same, List.map_append]
          rfl
        · refine PrAt.app (hP2.imp fun v p h => ?_) (.cons ?_ .nil)
          · rw [upd_ne (ne_of h hG2 (by intro y; cases y)), upd_ne (ne_of_none h ht')]
            exact h
          · rw [upd_ne (Ne.symm ntD3)]
            exact upd_same
        · rw [List.map_append, hfst, tf, if_pos hkeep]
          rfl
        · intro y hy
          rcases List.mem_append.mp hy with hy | hy
          · exact hk2 y hy
          · rw [List.mem_singleton.mp hy]
            show 1 + u = 1 ∨ 1 + u = 2
            omega
    rintro Hd ⟨us, fr, K2, C2, hF, hG, hPr, hfst, hk2⟩
    rw [List.length_map, List.take_length] at hfst
    rw [hHc] at C2
    have Sd := S11.step J11 C2
    have Jd := K2.mono (j := k) (by omega)
    have frlen : fr.length ≤ 4 := by
      rw [← List.length_map (f := (·.1)), hfst]
      have z1 := List.length_filter_le (fun x => decide (e < n) || decide (x < 1 + v)) ns2
      omega
    have frm : ∀ x ∈ marksOf fr, 1 ≤ x ∧ x ≤ (if e = n then 1 + v - 1 else 1 + v) := fun x hx => by
      rw [marksOf, hfst] at hx
      obtain ⟨h1, h2⟩ := List.mem_filter.mp hx
      have h3 := nsr x h1
      simp only [Bool.or_eq_true, decide_eq_true_eq] at h2
      split <;> omega
    have frasc : Asc (marksOf fr) := by
      rw [marksOf, hfst]
      exact asc.filter _
    have CH : ChOk n b e (1 + v) (marksOf fr) (strictOf fr) := by
      refine ⟨be.2.2, be.1, be.2.1, by omega, by omega, by rw [List.length_map]; omega, frm, frasc, ?_, fun x hx => ?_⟩
      · have z : List.Sublist (strictOf fr) (marksOf fr) := (List.filter_sublist).map _
        exact frasc.sublist z
      · obtain ⟨y, hy, rfl⟩ := List.mem_map.mp hx
        exact List.mem_map.mpr ⟨y, (List.mem_filter.mp hy).1, rfl⟩
    obtain ⟨DG, l400⟩ := due_good G CH hk2 p16 (by omega) (by omega)
    exact hQ _ _ _ _ _ _ _ _ _ _ _ _ _ _ _ _ _ _ _ _ _ _ Jd Sd hG hPr (by omega) p16 G CH DG l400 (by omega) q
end
end Cw
namespace Cw
open PySem L2
abbrev NL : List Str := ["script", "k", "jar", "turn", "made", "told", "one"]
def spLaw (K : PySem.W.Frag) : Sp := fun vs H Q _ => ∃ (a : Addr) (ns : List Int), vs = [.ref a] ∧ SqL K H a (ns.map V.int) ∧ ns.length ≤ 63 ∧ ∀ H', Q (.bl true) H'
theorem same_but {H0 H1 H' : Hp} {p : Addr} (s : Same H0 H1) (n : H0 p = none) (b : But H1 H' p) : Same H0 H' := fun c o e => b c o (s c o e) (ne_of_none e n)
abbrev ILs (H : Hp) : List Addr → List (List Int) → Prop := Paired (fun t (p : List Int) => IL H t p)
theorem pair_imp {α β : Type} {R S : α → β → Prop} : ∀ {xs : List α} {ys : List β}, Paired R xs ys → (∀ a b, R a b → S a b) → Paired S xs ys
  | _, _, .nil, _ => .nil
  | _, _, .cons h r, k => .cons (k _ _ h) (pair_imp r k)
theorem pair_app {α β : Type} {R : α → β → Prop} : ∀ {xs us : List α} {ys vs : List β}, Paired R xs ys → Paired R us vs → Paired R (xs ++ us) (ys ++ vs)
  | _, _, _, _, .nil, h => h
  | _, _, _, _, .cons a r, h => .cons a (pair_app r h)
theorem pair_len {α β : Type} {R : α → β → Prop} : ∀ {xs : List α} {ys : List β}, Paired R xs ys → xs.length = ys.length
  | _, _, .nil => rfl
  | _, _, .cons _ r => by rw [List.length_cons, List.length_cons, pair_len r]
theorem dps_ils {K : PySem.W.Frag} {H : Hp} : ∀ {ts : List Addr} {ms : List (List Int)}, ILs H ts ms → DpAll K H (ts.map V.ref) (ms.map fun m => .list (m.map PyData.int))
  | _, _, .nil => .nil
  | _, _, .cons h r => .cons (dp_il h) (dps_ils r)
/-- a change by hand, its lists made on the way -/
theorem good20 : Good 20 [3, 7, 8, 13] [3, 8] := ⟨by decide, by decide, by decide, by decide, by decide, by decide⟩
theorem good8 : Good 8 [3, 7] [3] := ⟨by decide, by decide, by decide, by decide, by decide, by decide⟩
theorem ch1 : ChOk 20 4 6 3 [2] [] := ⟨by decide, by decide, by decide, by decide, by decide, by decide, by decide, by decide, by decide, by decide⟩
theorem ch2 : ChOk 20 8 20 0 [] [] := ⟨by decide, by decide, by decide, by decide, by decide, by decide, by decide, by decide, by decide, by decide⟩
theorem ch3 : ChOk 20 0 20 1 [] [] := ⟨by decide, by decide, by decide, by decide, by decide, by decide, by decide, by decide, by decide, by decide⟩
section
variable {P : Program} {w : World} {K : PySem.W.Frag} {mg : Str → Option Value} {base : Heap}
theorem scL : FnScope NL ["script"] (defScope sLaw) := ⟨rfl, rfl, rfl, by decide +kernel, rfl, by decide +kernel, by decide +kernel⟩
theorem ok_law {f C fJ fS fT fA fB fG fI fE fP pp : Addr} {fd fdJ fdS fdT fdA fdB fdG fdI fdE fdP : FuncData} (F : Fun K "law" "law" sLaw f fd) (T : Bl mg) (R : Cl K mg C) (Z : Eqs P w K mg base C fE fdE) (M : Mk K C fI)
    (gJ : mg "_law_jar" = some (.ref fJ)) (kJ : PySem.W.keepIn K (.ref fJ) = true) (bJ : Binds K fdJ ["script", "k"] []) (GJ : FnOk P w K mg base CX0 1 fJ fdJ ["script", "k"] (spJar K))
    (gS : mg "_law_small" = some (.ref fS)) (kS : PySem.W.keepIn K (.ref fS) = true) (bS : Binds K fdS ["jar", "most"] []) (GS : FnOk P w K mg base CX0 3 fS fdS ["jar", "most"] spSmall)
    (gT : mg "_law_great" = some (.ref fT)) (kT : PySem.W.keepIn K (.ref fT) = true) (bT : Binds K fdT ["jar", "most"] []) (GT : FnOk P w K mg base CX0 3 fT fdT ["jar", "most"] spGreat)
    (gA : mg "_law_small_right" = some (.ref fA)) (kA : PySem.W.keepIn K (.ref fA) = true) (bA : Binds K fdA ["jar", "raw"] []) (GA : FnOk P w K mg base CX0 8 fA fdA ["jar", "raw"] spSR)
    (gB : mg "_law_great_right" = some (.ref fB)) (kB : PySem.W.keepIn K (.ref fB) = true) (bB : Binds K fdB ["jar", "raw"] []) (GB : FnOk P w K mg base CX0 8 fB fdB ["jar", "raw"] spGR)
    (mG : Meth K C "changed" fG) (bG : Binds K fdG ["self", "change"] []) (GG : FnOk P w K mg base CX0 7 fG fdG ["self", "change"] (spChanged C))
    (bI : Binds K fdI NI []) (GI : FnOk P w K mg base CX0 5 fI fdI NI (spInit C))
    (hP : PropOf K C "marks" pp fP) (bP : Binds K fdP ["self"] []) (GP : FnOk P w K mg base CX0 1 fP fdP ["self"] (spGetM C)) :
    FnOk P w K mg base CX0 9 f fd ["script"] (spLaw K) := by
  refine F.ok scL (fun vs H Q E h => ?_) (fun cdv A outer s H vs Q E hr h => ?_)
  · obtain ⟨a, ns, rfl, _⟩ := h
    rfl
  · obtain ⟨a, ns, rfl, hS, hl, q⟩ := h
    have hr1 : Room 1 (A.deeper (PyProof.Rows.envOfC "law" (defScope sLaw) s.heap.objs.size f cdv)) := hr.mono (by decide)
    have hr2 : Room 2 (A.deeper (PyProof.Rows.envOfC "law" (defScope sLaw) s.heap.objs.size f cdv)) := hr.mono (by decide)
    have hr3 : Room 3 (A.deeper (PyProof.Rows.envOfC "law" (defScope sLaw) s.heap.objs.size f cdv)) := hr.mono (by decide)
    have hr6 : Room 6 (A.deeper (PyProof.Rows.envOfC "law" (defScope sLaw) s.heap.objs.size f cdv)) := hr.mono (by decide)
    have hr7 : Room 7 (A.deeper (PyProof.Rows.envOfC "law" (defScope sLaw) s.heap.objs.size f cdv)) := hr.mono (by decide)
    refine ⟨_, pss_cons (ps_for PassesOwn.never rfl (pi_range1 (by rfl) T.range (pa_cons (pe_callB (call_max2 rfl) (by rfl) T.max (by decide +kernel) (pa_cons pe_int (pa_cons (pe_callB (call_min2 rfl) (by rfl) T.min (by decide +kernel) (pa_cons pe_int (pa_cons (pe_callB call_len_seq (by rfl) T.len PySem.boot_len (pa_cons (pv 0) pa_nil)) pa_nil))) pa_nil))) pa_nil)) (pg_name (i := 1) scL.nd rfl (Or.inl rfl))
        (pss_cons (ps_set (i := 2) scL.nd rfl (Or.inl rfl) (pe_call GJ hr1 rfl gJ kJ bJ .nil pass0 (pa_cons (pv 0) (pa_cons (pv 1) pa_nil))))
        (pss_one (ps_for PassesOwn.never rfl (pi_range1 (by rfl) T.range (pa_cons pe_int pa_nil)) (pg_name (i := 3) scL.nd rfl (Or.inl rfl))
          (pss_one (ps_if (PW.pt (pw_or (pt_not (pt_val (pe_call GA hr rfl gA kA bA .nil pass0 (pa_cons (pv 2) (pa_cons (pe_call GS hr3 rfl gS kS bS .nil pass0 (pa_cons (pv 2) (pa_cons pe_int pa_nil))) pa_nil)))))
            (pw_or1 (pt_not (pt_val (pe_call GB hr rfl gB kB bB .nil pass0 (pa_cons (pv 2) (pa_cons (pe_call GT hr3 rfl gT kT bT .nil pass0 (pa_cons (pv 2) (pa_cons pe_int pa_nil))) pa_nil)))))))) (pss_one (ps_ret pe_bl)) pss_nil))))))
      (pss_cons (ps_set (i := 4) scL.nd rfl (Or.inl rfl) (pe_make M GI hr6 rfl R.mgR bI .nil pass0 (pa_cons pe_int (pa_cons (pe_lst (pa_cons pe_int (pa_cons pe_int (pa_cons pe_int (pa_cons pe_int pa_nil))))) (pa_cons (pe_lst (pa_cons pe_int (pa_cons pe_int pa_nil))) pa_nil)))))
      (pss_cons (ps_set (i := 5) scL.nd rfl (Or.inl rfl) (pe_lst (pa_cons (pe_meth (pv 4) R.cl mG GG hr7 bG .nil pass0 (pa_cons (pe_tup (pa_cons pe_int (pa_cons pe_int (pa_cons pe_int (pa_cons (pe_lst (pa_cons pe_int pa_nil)) (pa_cons (pe_lst pa_nil) pa_nil)))))) pa_nil))
        (pa_cons (pe_meth (pv 4) R.cl mG GG hr7 bG .nil pass0 (pa_cons (pe_tup (pa_cons pe_int (pa_cons pe_int (pa_cons pe_int (pa_cons (pe_lst pa_nil) (pa_cons (pe_lst pa_nil) pa_nil)))))) pa_nil))
        (pa_cons (pe_meth (pv 4) R.cl mG GG hr7 bG .nil pass0 (pa_cons (pe_tup (pa_cons pe_int (pa_cons pe_int (pa_cons pe_int (pa_cons (pe_lst pa_nil) (pa_cons (pe_lst pa_nil) pa_nil)))))) pa_nil)) pa_nil)))))
      (pss_one (ps_ret (pe_and (pe_cmpR (op_eqD hr.units) (pe_lc (own := [("one", 6)]) (g := gName 6) (tt := tYes) rfl scL.nd (pi_list (pv 5)) (blkOk_by (own := [("one", 6)]) (N := NL) (sc := defScope sLaw) (by decide +kernel))
            (fun _ _ _ _ _ => pg_name (i := 6) scL.nd rfl (Or.inl rfl)) (fun _ _ _ _ _ => pts_nil) (fun _ _ _ _ _ => pe_prop (pv 6) R.cl hP GP hr2 bP .nil pass0 rfl))
          (pe_lst (pa_cons (pe_lst (pa_cons pe_int (pa_cons pe_int (pa_cons pe_int (pa_cons pe_int (pa_cons pe_int pa_nil)))))) (pa_cons (pe_lst (pa_cons pe_int (pa_cons pe_int pa_nil))) (pa_cons (pe_lst pa_nil) pa_nil)))) (nomark _))
        (pe_one (pe_cmpR (op_eqG (rcG_ins Z.ok Z.hs Z.hf Z.hb pass0) hr1) (pe_ix ix_list (pv 5) pe_int (fun _ _ => rfl)) (pe_make M GI hr6 rfl R.mgR bI .nil pass0 (pa_cons pe_int (pa_cons (pe_lst (pa_cons pe_int (pa_cons pe_int pa_nil))) (pa_cons (pe_lst (pa_cons pe_int pa_nil)) pa_nil)))) (nomark _)))))))), ?_⟩
    refine ⟨_, rfl, a, _, rfl, .inl hS, _, _, rfl, _, _, rfl, _, rfl, ?_, ?_, for_range (lo := 0) (n := Int.toNat _) (fun _ σ H' => ∃ v1 v2 v3, σ = [some (.ref a), v1, v2, v3, none, none, none] ∧ Same H H') ⟨_, _, _, rfl, Same.refl H⟩ ?_ ?_⟩
    · rw [List.length_map]
      split <;> split <;> omega
    · rw [List.length_map]
      split <;> split <;> omega
    · rintro i σ H1 hi ⟨v1, v2, v3, rfl, s1⟩
      have hil : i ≤ ns.length := by
        rw [List.length_map] at hi
        split at hi <;> split at hi <;> omega
      refine ⟨_, rfl, _, rfl, a, ns, i, by rw [Int.zero_add]; rfl, hS.ext s1, hil, hl, fun p H2 s2 np J2 => ?_⟩
      have p0 : H p = none := s1.free np
      have s12 := s1.trans s2
      refine ⟨_, rfl, by decide, by decide, for_range (lo := 0) (n := 3) (fun t σ H' => ∃ v1 v3, σ = [some (.ref a), v1, some (.ref p), v3, none, none, none] ∧ JarAt H' p (220 * (3 - t)) ∧ Same H H') ⟨_, _, rfl, J2.mono (by omega), s12⟩ ?_ ?_⟩
      · rintro t σ H3 ht ⟨v1, v3, rfl, J3, s3⟩
        have Jd : JarAt H3 p (220 * (3 - (t + 1)) + 220) := J3.mono (by omega)
        generalize 220 * (3 - (t + 1)) = kk at Jd ⊢
        refine ⟨_, rfl, _, rfl, p, kk + 180, rfl, Jd, fun r1 H4 n prs n12 G l11 hR J4 B4 => ?_⟩
        refine ⟨p, r1, kk + 140, n, prs, rfl, J4, hR, G, n12, l11, fun H5 J5 B5 => ⟨_, rfl, ?_⟩⟩
        refine ifF rfl ?_
        refine ⟨_, rfl, _, rfl, p, kk + 20, rfl, J5, fun r2 H6 n2 prs2 G2 l16 hR2 J6 B6 => ?_⟩
        refine ⟨p, r2, kk, n2, prs2, rfl, J6, hR2, G2, l16, fun H7 J7 B7 => ⟨_, rfl, ?_⟩⟩
        refine ifF rfl ?_
        exact ⟨_, _, rfl, J7, same_but (same_but s3 p0 (B4.trans B5)) p0 (B6.trans B7)⟩
      · rintro σ H3 ⟨v1, v3, rfl, J3, s3⟩
        exact ⟨_, _, _, rfl, s3⟩
    · rintro σ H1 ⟨v1, v2, v3, rfl, s1⟩
      -- made
      refine ⟨(by show 4 ≤ sizeLine; decide), fun c1 hc1 => ⟨(by show 2 ≤ sizeLine; decide), fun c2 hc2 => ?_⟩⟩
      have m1 : IL (upd (upd H1 c1 (.lst [.int 3, .int 7, .int 8, .int 13])) c2 (.lst [.int 3, .int 8])) c1 [3, 7, 8, 13] := by
        show upd _ _ _ c1 = _
        rw [upd_ne (ne_of_none upd_same hc2)]
        exact upd_same
      have m2 : IL (upd (upd H1 c1 (.lst [.int 3, .int 7, .int 8, .int 13])) c2 (.lst [.int 3, .int 8])) c2 [3, 8] := upd_same
      generalize upd (upd H1 c1 (.lst [.int 3, .int 7, .int 8, .int 13])) c2 (.lst [.int 3, .int 8]) = H2 at m1 m2 ⊢
      refine fun x dx nx nd ne => ?_
      have s3 : Same H2 (upd (upd H2 dx (.own x)) x (.ins C dx [])) := same_new (same_new (Same.refl H2) nd) (by rw [upd_ne (Ne.symm ne)]; exact nx)
      refine ⟨x, dx, c1, c2, 20, _, _, rfl, upd_same, s3 _ _ m1, s3 _ _ m2, good20, fun H3 row kp => ⟨rfl, ?_⟩⟩
      have rm := row.at
      clear row kp s3 nx nd ne m1 m2 hc1 hc2
      -- told, the first
      obtain ⟨dy, l1, l2, ho, _, _⟩ := id rm
      refine ⟨_, rfl, x, dy, _, rfl, ho, fl_no _ _ _ (by decide +kernel) (by decide +kernel) (by decide +kernel), ?_⟩
      refine ⟨(by show 1 ≤ sizeLine; decide), fun d1 hd1 => ⟨Nat.zero_le _, fun d2 hd2 => ⟨(by show 5 ≤ sizeLine; decide), fun tp htp => ?_⟩⟩⟩
      have t1 := same_new (o := .tup [.int 4, .int 6, .int 3, .ref d1, .ref d2]) (same_new (o := .lst []) (same_new (o := .lst [.int 2]) (Same.refl H3) hd1) hd2) htp
      have e2 : IL (upd (upd (upd H3 d1 (.lst [.int 2])) d2 (.lst [])) tp (.tup [.int 4, .int 6, .int 3, .ref d1, .ref d2])) d2 [] := same_new (Same.refl _) htp _ _ upd_same
      have e1 : IL (upd (upd (upd H3 d1 (.lst [.int 2])) d2 (.lst [])) tp (.tup [.int 4, .int 6, .int 3, .ref d1, .ref d2])) d1 [2] := same_new (same_new (Same.refl _) hd2) htp _ _ upd_same
      refine ⟨x, tp, d1, d2, 20, 4, 6, 3, _, _, _, _, rfl, rm.same t1, upd_same, e1, e2, good20, ch1, by decide +kernel, fun o1 H4 g1 row1 => ?_⟩
      have s4 : Same H3 H4 := t1.trans g1
      have r1 := row1.at
      clear t1 g1 e1 e2 htp hd1 hd2 row1
      -- the second
      refine ⟨_, rfl, x, dy, _, rfl, s4 _ _ ho, fl_no _ _ _ (by decide +kernel) (by decide +kernel) (by decide +kernel), ?_⟩
      refine ⟨Nat.zero_le _, fun d1 hd1 => ⟨Nat.zero_le _, fun d2 hd2 => ⟨(by show 5 ≤ sizeLine; decide), fun tp htp => ?_⟩⟩⟩
      have t1 := same_new (o := .tup [.int 8, .int 20, .int 0, .ref d1, .ref d2]) (same_new (o := .lst []) (same_new (o := .lst []) (Same.refl H4) hd1) hd2) htp
      have e2 : IL (upd (upd (upd H4 d1 (.lst [])) d2 (.lst [])) tp (.tup [.int 8, .int 20, .int 0, .ref d1, .ref d2])) d2 [] := same_new (Same.refl _) htp _ _ upd_same
      have e1 : IL (upd (upd (upd H4 d1 (.lst [])) d2 (.lst [])) tp (.tup [.int 8, .int 20, .int 0, .ref d1, .ref d2])) d1 [] := same_new (same_new (Same.refl _) hd2) htp _ _ upd_same
      refine ⟨x, tp, d1, d2, 20, 8, 20, 0, _, _, _, _, rfl, rm.same (s4.trans t1), upd_same, e1, e2, good20, ch2, by decide +kernel, fun o2 H5 g1 row2 => ?_⟩
      have s5 : Same H4 H5 := t1.trans g1
      have r2 := row2.at
      clear t1 g1 e1 e2 htp hd1 hd2 row2
      -- the third
      refine ⟨_, rfl, x, dy, _, rfl, s5 _ _ (s4 _ _ ho), fl_no _ _ _ (by decide +kernel) (by decide +kernel) (by decide +kernel), ?_⟩
      refine ⟨Nat.zero_le _, fun d1 hd1 => ⟨Nat.zero_le _, fun d2 hd2 => ⟨(by show 5 ≤ sizeLine; decide), fun tp htp => ?_⟩⟩⟩
      have t1 := same_new (o := .tup [.int 0, .int 20, .int 1, .ref d1, .ref d2]) (same_new (o := .lst []) (same_new (o := .lst []) (Same.refl H5) hd1) hd2) htp
      have e2 : IL (upd (upd (upd H5 d1 (.lst [])) d2 (.lst [])) tp (.tup [.int 0, .int 20, .int 1, .ref d1, .ref d2])) d2 [] := same_new (Same.refl _) htp _ _ upd_same
      have e1 : IL (upd (upd (upd H5 d1 (.lst [])) d2 (.lst [])) tp (.tup [.int 0, .int 20, .int 1, .ref d1, .ref d2])) d1 [] := same_new (same_new (Same.refl _) hd2) htp _ _ upd_same
      refine ⟨x, tp, d1, d2, 20, 0, 20, 1, _, _, _, _, rfl, rm.same (s4.trans (s5.trans t1)), upd_same, e1, e2, good20, ch3, by decide +kernel, fun o3 H6 g1 row3 => ?_⟩
      have s6 : Same H5 H6 := t1.trans g1
      have r3 := row3.at
      clear t1 g1 e1 e2 htp hd1 hd2 row3
      refine ⟨(by show 3 ≤ sizeLine; decide), fun tl htl => ?_⟩
      have s7 := same_new (o := .lst [.ref o1, .ref o2, .ref o3]) (Same.refl H6) htl
      have q1 := r1.same (s5.trans (s6.trans s7))
      have q2 := r2.same (s6.trans s7)
      have q3 := r3.same s7
      have ht : upd H6 tl (.lst [.ref o1, .ref o2, .ref o3]) tl = some (.lst [.ref o1, .ref o2, .ref o3]) := upd_same
      generalize upd H6 tl (.lst [.ref o1, .ref o2, .ref o3]) = H7 at q1 q2 q3 ht ⊢
      have z1 : rep [3, 7, 8, 13] [2] 4 6 3 (20 - (6 - 4) + 3) = [3, 6, 8, 9, 14] := by decide +kernel
      have z2 : rep [3, 7, 8, 13] [] 8 20 0 (20 - (20 - 8) + 0) = [3, 7] := by decide +kernel
      have z2' : rep [3, 8] [] 8 20 0 (20 - (20 - 8) + 0) = [3] := by decide +kernel
      have z3 : rep [3, 7, 8, 13] [] 0 20 1 (20 - (20 - 0) + 1) = [] := by decide +kernel
      rw [z1] at q1
      rw [z2, z2'] at q2
      rw [z3] at q3
      clear r1 r2 r3 s4 s5 s6 s7 ho rm
      refine ⟨_, rfl, tl, rfl, ⟨_, SqL.of ht⟩, fun D hD => ?_⟩
      have ntD : tl ≠ D := ne_of_none ht hD
      refine lc_list (K := K) (a := tl) (xs := [V.ref o1, V.ref o2, V.ref o3]) (fun i H' => ∃ ds : List Addr, Same H7 H' ∧ H' D = some (.lst (ds.map V.ref)) ∧ Paired (fun t (m : List Int) => IL H' t m ∧ t ≠ D) ds ([[3, 6, 8, 9, 14], [3, 7], []].take i)) ⟨[], same_new (Same.refl H7) hD, upd_same, .nil⟩ (fun i H' _ ⟨ds, z⟩ => SqL.of (z.1 _ _ ht)) ?_ ?_
      · rintro i x' H' hx ⟨ds, w1, hE, hq⟩
        obtain ⟨o, n, ms, ss, rfl, ro, tk⟩ : ∃ o n ms ss, x' = V.ref o ∧ RowAt C H7 o n ms ss ∧ ([[3, 6, 8, 9, 14], [3, 7], []] : List (List Int)).take (i + 1) = ([[3, 6, 8, 9, 14], [3, 7], []] : List (List Int)).take i ++ [ms] := by
          match i, hx with
          | 0, e => exact ⟨o1, _, _, _, (Option.some.inj e).symm, q1, rfl⟩
          | 1, e => exact ⟨o2, _, _, _, (Option.some.inj e).symm, q2, rfl⟩
          | 2, e => exact ⟨o3, _, _, _, (Option.some.inj e).symm, q3, rfl⟩
          | i + 3, e => exact (nomatch e)
        have il : ds.length ≤ 3 := by
          rw [pair_len hq, List.length_take]
          exact Nat.min_le_right _ _
        have rw1 := ro.same w1
        obtain ⟨dz, y1, y2, hz, _, _⟩ := id rw1
        refine ⟨rfl, ?_⟩
        unfold tYes
        refine iteT ?_
        refine ⟨_, rfl, o, dz, _, rfl, hz, o, n, ms, ss, rfl, rw1, fun u H8 w2 nu hu => ?_⟩
        have nuD : u ≠ D := (ne_of_none hE nu).symm
        refine ⟨_, w2 _ _ hE, by rw [List.length_map]; exact small1000 (by omega), ds ++ [u], same_put (w1.trans w2) hD, by rw [upd_same, List.map_append]; rfl, ?_⟩
        rw [tk]
        refine pair_app (pair_imp hq fun t m z => ⟨?_, z.2⟩) (.cons ⟨?_, nuD⟩ .nil)
        · show upd _ _ _ t = _
          rw [upd_ne z.2]
          exact w2 _ _ z.1
        · show upd _ _ _ u = _
          rw [upd_ne nuD]
          exact hu
      rintro H8 ⟨ds, w1, hE, hq⟩
      -- the lists that are due
      refine ⟨(by show 5 ≤ sizeLine; decide), fun d1 hd1 => ⟨(by show 2 ≤ sizeLine; decide), fun d2 hd2 => ⟨Nat.zero_le _, fun d3 hd3 => ⟨(by show 3 ≤ sizeLine; decide), fun d4 hd4 => ?_⟩⟩⟩⟩
      have g1 := same_new (o := .lst [.int 3, .int 6, .int 8, .int 9, .int 14]) (Same.refl H8) hd1
      have g2 := same_new (o := .lst [.int 3, .int 7]) g1 hd2
      have g3 := same_new (o := .lst []) g2 hd3
      have g4 := same_new (o := .lst [.ref d1, .ref d2, .ref d3]) g3 hd4
      have f3 : IL (upd (upd (upd (upd H8 d1 (.lst [.int 3, .int 6, .int 8, .int 9, .int 14])) d2 (.lst [.int 3, .int 7])) d3 (.lst [])) d4 (.lst [.ref d1, .ref d2, .ref d3])) d3 [] := same_new (Same.refl _) hd4 _ _ upd_same
      have f2 : IL (upd (upd (upd (upd H8 d1 (.lst [.int 3, .int 6, .int 8, .int 9, .int 14])) d2 (.lst [.int 3, .int 7])) d3 (.lst [])) d4 (.lst [.ref d1, .ref d2, .ref d3])) d2 [3, 7] := same_new (same_new (Same.refl _) hd3) hd4 _ _ upd_same
      have f1 : IL (upd (upd (upd (upd H8 d1 (.lst [.int 3, .int 6, .int 8, .int 9, .int 14])) d2 (.lst [.int 3, .int 7])) d3 (.lst [])) d4 (.lst [.ref d1, .ref d2, .ref d3])) d1 [3, 6, 8, 9, 14] := same_new (same_new (same_new (Same.refl _) hd2) hd3) hd4 _ _ upd_same
      have f4 : upd (upd (upd (upd H8 d1 (.lst [.int 3, .int 6, .int 8, .int 9, .int 14])) d2 (.lst [.int 3, .int 7])) d3 (.lst [])) d4 (.lst [.ref d1, .ref d2, .ref d3]) d4 = some (.lst ([d1, d2, d3].map V.ref)) := upd_same
      generalize upd (upd (upd (upd H8 d1 (.lst [.int 3, .int 6, .int 8, .int 9, .int 14])) d2 (.lst [.int 3, .int 7])) d3 (.lst [])) d4 (.lst [.ref d1, .ref d2, .ref d3]) = H9 at g4 f1 f2 f3 f4 ⊢
      have ils : ILs H9 [d1, d2, d3] [[3, 6, 8, 9, 14], [3, 7], []] := .cons f1 (.cons f2 (.cons f3 .nil))
      have ils2 : ILs H9 ds [[3, 6, 8, 9, 14], [3, 7], []] := pair_imp hq fun t m z => g4 _ _ z.1
      refine ⟨_, _, .lst (SqL.of (g4 _ _ hE)) (dps_ils ils2), .lst (SqL.of f4) (dps_ils ils), by decide +kernel, by decide +kernel, _, rfl, ?_⟩
      refine ifT (by decide +kernel) ?_
      have w9 := w1.trans g4
      refine ⟨_, rfl, tl, _, _, _, rfl, rfl, SqL.of (w9 _ _ ht), at_of2 (j := 1) rfl rfl, ?_⟩
      refine ⟨(by show 2 ≤ sizeLine; decide), fun c1 hc1 => ⟨(by show 1 ≤ sizeLine; decide), fun c2 hc2 => ?_⟩⟩
      have h1 := same_new (o := .lst [.int 3]) (same_new (o := .lst [.int 3, .int 7]) (Same.refl H9) hc1) hc2
      have m1 : IL (upd (upd H9 c1 (.lst [.int 3, .int 7])) c2 (.lst [.int 3])) c1 [3, 7] := same_new (Same.refl _) hc2 _ _ upd_same
      have m2 : IL (upd (upd H9 c1 (.lst [.int 3, .int 7])) c2 (.lst [.int 3])) c2 [3] := upd_same
      generalize upd (upd H9 c1 (.lst [.int 3, .int 7])) c2 (.lst [.int 3]) = H10 at h1 m1 m2 ⊢
      refine fun y dy2 ny nd ne => ?_
      have s3 : Same H10 (upd (upd H10 dy2 (.own y)) y (.ins C dy2 [])) := same_new (same_new (Same.refl H10) nd) (by rw [upd_ne (Ne.symm ne)]; exact ny)
      refine ⟨y, dy2, c1, c2, 8, _, _, rfl, upd_same, s3 _ _ m1, s3 _ _ m2, good8, fun H11 row kp => ⟨rfl, ?_⟩⟩
      exact ⟨alike_ins (q2.same ((w9.trans h1).trans (same_ins (Same.refl H10) ny nd kp))) row.at, fun H' _ => q H'⟩
end
end Cw
namespace Cw
open PySem L2
/-! ## what the top has written -/
theorem all_mk {l : PySem.W.OpenLaw} {w : World} {K : PySem.W.Frag} {h : Heap} {mg : Str → Option Value} {fa : Addr} (X : K.In h) (G : h.Ns mainGlobals mg) (hfa : mg "law" = some (.ref fa))
    {C pL pM pS fII fAP fAA fAM fAS fIC fIR fSH fPA fRP fJR fDP fTH fSM fGT fHP fKD fMD fSR fGR fLW fIn fGl fGm fGs fEq fCh : Addr} {tN : Tok} {restpL restpM restpS : List Value}
    {ocII kVII dcII pmII cdII ctII : Value} {odII anII : Option Addr} {slII : Array (Option Value)}
    {ocAP kVAP dcAP pmAP cdAP ctAP : Value} {odAP anAP : Option Addr} {slAP : Array (Option Value)}
    {ocAA kVAA dcAA pmAA cdAA ctAA : Value} {odAA anAA : Option Addr} {slAA : Array (Option Value)}
    {ocAM kVAM dcAM pmAM cdAM ctAM : Value} {odAM anAM : Option Addr} {slAM : Array (Option Value)}
    {ocAS kVAS dcAS pmAS cdAS ctAS : Value} {odAS anAS : Option Addr} {slAS : Array (Option Value)}
    {ocIC kVIC dcIC pmIC cdIC ctIC : Value} {odIC anIC : Option Addr} {slIC : Array (Option Value)}
    {ocIR kVIR dcIR pmIR cdIR ctIR : Value} {odIR anIR : Option Addr} {slIR : Array (Option Value)}
    {ocSH kVSH dcSH pmSH cdSH ctSH : Value} {odSH anSH : Option Addr} {slSH : Array (Option Value)}
    {ocPA kVPA dcPA pmPA cdPA ctPA : Value} {odPA anPA : Option Addr} {slPA : Array (Option Value)}
    {ocRP kVRP dcRP pmRP cdRP ctRP : Value} {odRP anRP : Option Addr} {slRP : Array (Option Value)}
    {ocJR kVJR dcJR pmJR cdJR ctJR : Value} {odJR anJR : Option Addr} {slJR : Array (Option Value)}
    {ocDP kVDP dcDP pmDP cdDP ctDP : Value} {odDP anDP : Option Addr} {slDP : Array (Option Value)}
    {ocTH kVTH dcTH pmTH cdTH ctTH : Value} {odTH anTH : Option Addr} {slTH : Array (Option Value)}
    {ocSM kVSM dcSM pmSM cdSM ctSM : Value} {odSM anSM : Option Addr} {slSM : Array (Option Value)}
    {ocGT kVGT dcGT pmGT cdGT ctGT : Value} {odGT anGT : Option Addr} {slGT : Array (Option Value)}
    {ocHP kVHP dcHP pmHP cdHP ctHP : Value} {odHP anHP : Option Addr} {slHP : Array (Option Value)}
    {ocKD kVKD dcKD pmKD cdKD ctKD : Value} {odKD anKD : Option Addr} {slKD : Array (Option Value)}
    {ocMD kVMD dcMD pmMD cdMD ctMD : Value} {odMD anMD : Option Addr} {slMD : Array (Option Value)}
    {ocSR kVSR dcSR pmSR cdSR ctSR : Value} {odSR anSR : Option Addr} {slSR : Array (Option Value)}
    {ocGR kVGR dcGR pmGR cdGR ctGR : Value} {odGR anGR : Option Addr} {slGR : Array (Option Value)}
    {ocLW kVLW dcLW pmLW cdLW ctLW : Value} {odLW anLW : Option Addr} {slLW : Array (Option Value)}
    {ocIn kVIn dcIn pmIn cdIn ctIn : Value} {odIn anIn : Option Addr} {slIn : Array (Option Value)}
    {ocGl kVGl dcGl pmGl cdGl ctGl : Value} {odGl anGl : Option Addr} {slGl : Array (Option Value)}
    {ocGm kVGm dcGm pmGm cdGm ctGm : Value} {odGm anGm : Option Addr} {slGm : Array (Option Value)}
    {ocGs kVGs dcGs pmGs cdGs ctGs : Value} {odGs anGs : Option Addr} {slGs : Array (Option Value)}
    {ocEq kVEq dcEq pmEq cdEq ctEq : Value} {odEq anEq : Option Addr} {slEq : Array (Option Value)}
    {ocCh kVCh dcCh pmCh cdCh ctCh : Value} {odCh anCh : Option Addr} {slCh : Array (Option Value)}
    (aC : PySem.W.nsIn K mainGlobals "Row" = some (some (.ref C)))
    (aN : PySem.W.nsIn K mainGlobals "MOST_MARKS" = some (some (.int 400 tN)))
    (n_int : PySem.W.nsIn K mainGlobals "int" = some none)
    (n_bool : PySem.W.nsIn K mainGlobals "bool" = some none)
    (n_list : PySem.W.nsIn K mainGlobals "list" = some none)
    (n_tuple : PySem.W.nsIn K mainGlobals "tuple" = some none)
    (n_range : PySem.W.nsIn K mainGlobals "range" = some none)
    (n_len : PySem.W.nsIn K mainGlobals "len" = some none)
    (n_abs : PySem.W.nsIn K mainGlobals "abs" = some none)
    (n_all : PySem.W.nsIn K mainGlobals "all" = some none)
    (n_isi : PySem.W.nsIn K mainGlobals "isinstance" = some none)
    (n_zip : PySem.W.nsIn K mainGlobals "zip" = some none)
    (n_max : PySem.W.nsIn K mainGlobals "max" = some none)
    (n_min : PySem.W.nsIn K mainGlobals "min" = some none)
    (n_set : PySem.W.nsIn K mainGlobals "set" = some none)
    (n_sorted : PySem.W.nsIn K mainGlobals "sorted" = some none)
    (n_dict : PySem.W.nsIn K mainGlobals "dict" = some none)
    (aII : PySem.W.nsIn K mainGlobals "is_integer" = some (some (.ref fII)))
    (lII : K.lookup fII = some ⟨ocII, odII, .func (PySem.W.fnOf "is_integer" "is_integer" (defArgs sIsInt) (defBody sIsInt) (defScope sIsInt) .none kVII dcII pmII anII cdII ctII), slII⟩)
    (coII : PySem.W.codeIn K cdII "is_integer" = true)
    (kII : PySem.W.keepIn K (.ref fII) = true)
    (aAP : PySem.W.nsIn K mainGlobals "are_places" = some (some (.ref fAP)))
    (lAP : K.lookup fAP = some ⟨ocAP, odAP, .func (PySem.W.fnOf "are_places" "are_places" (defArgs sPlaces) (defBody sPlaces) (defScope sPlaces) .none kVAP dcAP pmAP anAP cdAP ctAP), slAP⟩)
    (coAP : PySem.W.codeIn K cdAP "are_places" = true)
    (kAP : PySem.W.keepIn K (.ref fAP) = true)
    (aAA : PySem.W.nsIn K mainGlobals "are_ascending" = some (some (.ref fAA)))
    (lAA : K.lookup fAA = some ⟨ocAA, odAA, .func (PySem.W.fnOf "are_ascending" "are_ascending" (defArgs sAsc) (defBody sAsc) (defScope sAsc) .none kVAA dcAA pmAA anAA cdAA ctAA), slAA⟩)
    (coAA : PySem.W.codeIn K cdAA "are_ascending" = true)
    (kAA : PySem.W.keepIn K (.ref fAA) = true)
    (aAM : PySem.W.nsIn K mainGlobals "are_marks" = some (some (.ref fAM)))
    (lAM : K.lookup fAM = some ⟨ocAM, odAM, .func (PySem.W.fnOf "are_marks" "are_marks" (defArgs sMarks) (defBody sMarks) (defScope sMarks) .none kVAM dcAM pmAM anAM cdAM ctAM), slAM⟩)
    (coAM : PySem.W.codeIn K cdAM "are_marks" = true)
    (kAM : PySem.W.keepIn K (.ref fAM) = true)
    (aAS : PySem.W.nsIn K mainGlobals "are_some_of" = some (some (.ref fAS)))
    (lAS : K.lookup fAS = some ⟨ocAS, odAS, .func (PySem.W.fnOf "are_some_of" "are_some_of" (defArgs sSome) (defBody sSome) (defScope sSome) .none kVAS dcAS pmAS anAS cdAS ctAS), slAS⟩)
    (coAS : PySem.W.codeIn K cdAS "are_some_of" = true)
    (kAS : PySem.W.keepIn K (.ref fAS) = true)
    (aIC : PySem.W.nsIn K mainGlobals "is_change" = some (some (.ref fIC)))
    (lIC : K.lookup fIC = some ⟨ocIC, odIC, .func (PySem.W.fnOf "is_change" "is_change" (defArgs sChange) (defBody sChange) (defScope sChange) .none kVIC dcIC pmIC anIC cdIC ctIC), slIC⟩)
    (coIC : PySem.W.codeIn K cdIC "is_change" = true)
    (kIC : PySem.W.keepIn K (.ref fIC) = true)
    (aIR : PySem.W.nsIn K mainGlobals "is_replacement" = some (some (.ref fIR)))
    (lIR : K.lookup fIR = some ⟨ocIR, odIR, .func (PySem.W.fnOf "is_replacement" "is_replacement" (defArgs sRepl) (defBody sRepl) (defScope sRepl) .none kVIR dcIR pmIR anIR cdIR ctIR), slIR⟩)
    (coIR : PySem.W.codeIn K cdIR "is_replacement" = true)
    (kIR : PySem.W.keepIn K (.ref fIR) = true)
    (aSH : PySem.W.nsIn K mainGlobals "shifted" = some (some (.ref fSH)))
    (lSH : K.lookup fSH = some ⟨ocSH, odSH, .func (PySem.W.fnOf "shifted" "shifted" (defArgs sShift) (defBody sShift) (defScope sShift) .none kVSH dcSH pmSH anSH cdSH ctSH), slSH⟩)
    (coSH : PySem.W.codeIn K cdSH "shifted" = true)
    (kSH : PySem.W.keepIn K (.ref fSH) = true)
    (aPA : PySem.W.nsIn K mainGlobals "changed_parts" = some (some (.ref fPA)))
    (lPA : K.lookup fPA = some ⟨ocPA, odPA, .func (PySem.W.fnOf "changed_parts" "changed_parts" (defArgs sParts) (defBody sParts) (defScope sParts) .none kVPA dcPA pmPA anPA cdPA ctPA), slPA⟩)
    (coPA : PySem.W.codeIn K cdPA "changed_parts" = true)
    (kPA : PySem.W.keepIn K (.ref fPA) = true)
    (aRP : PySem.W.nsIn K mainGlobals "replaced" = some (some (.ref fRP)))
    (lRP : K.lookup fRP = some ⟨ocRP, odRP, .func (PySem.W.fnOf "replaced" "replaced" (defArgs sReplaced) (defBody sReplaced) (defScope sReplaced) .none kVRP dcRP pmRP anRP cdRP ctRP), slRP⟩)
    (coRP : PySem.W.codeIn K cdRP "replaced" = true)
    (kRP : PySem.W.keepIn K (.ref fRP) = true)
    (aJR : PySem.W.nsIn K mainGlobals "_law_jar" = some (some (.ref fJR)))
    (lJR : K.lookup fJR = some ⟨ocJR, odJR, .func (PySem.W.fnOf "_law_jar" "_law_jar" (defArgs sJar) (defBody sJar) (defScope sJar) .none kVJR dcJR pmJR anJR cdJR ctJR), slJR⟩)
    (coJR : PySem.W.codeIn K cdJR "_law_jar" = true)
    (kJR : PySem.W.keepIn K (.ref fJR) = true)
    (aDP : PySem.W.nsIn K mainGlobals "_law_dip" = some (some (.ref fDP)))
    (lDP : K.lookup fDP = some ⟨ocDP, odDP, .func (PySem.W.fnOf "_law_dip" "_law_dip" (defArgs sDip) (defBody sDip) (defScope sDip) .none kVDP dcDP pmDP anDP cdDP ctDP), slDP⟩)
    (coDP : PySem.W.codeIn K cdDP "_law_dip" = true)
    (kDP : PySem.W.keepIn K (.ref fDP) = true)
    (aTH : PySem.W.nsIn K mainGlobals "_law_three" = some (some (.ref fTH)))
    (lTH : K.lookup fTH = some ⟨ocTH, odTH, .func (PySem.W.fnOf "_law_three" "_law_three" (defArgs sThree) (defBody sThree) (defScope sThree) .none kVTH dcTH pmTH anTH cdTH ctTH), slTH⟩)
    (coTH : PySem.W.codeIn K cdTH "_law_three" = true)
    (kTH : PySem.W.keepIn K (.ref fTH) = true)
    (aSM : PySem.W.nsIn K mainGlobals "_law_small" = some (some (.ref fSM)))
    (lSM : K.lookup fSM = some ⟨ocSM, odSM, .func (PySem.W.fnOf "_law_small" "_law_small" (defArgs sSmall) (defBody sSmall) (defScope sSmall) .none kVSM dcSM pmSM anSM cdSM ctSM), slSM⟩)
    (coSM : PySem.W.codeIn K cdSM "_law_small" = true)
    (kSM : PySem.W.keepIn K (.ref fSM) = true)
    (aGT : PySem.W.nsIn K mainGlobals "_law_great" = some (some (.ref fGT)))
    (lGT : K.lookup fGT = some ⟨ocGT, odGT, .func (PySem.W.fnOf "_law_great" "_law_great" (defArgs sGreat) (defBody sGreat) (defScope sGreat) .none kVGT dcGT pmGT anGT cdGT ctGT), slGT⟩)
    (coGT : PySem.W.codeIn K cdGT "_law_great" = true)
    (kGT : PySem.W.keepIn K (.ref fGT) = true)
    (aHP : PySem.W.nsIn K mainGlobals "_law_heap" = some (some (.ref fHP)))
    (lHP : K.lookup fHP = some ⟨ocHP, odHP, .func (PySem.W.fnOf "_law_heap" "_law_heap" (defArgs sHeap) (defBody sHeap) (defScope sHeap) .none kVHP dcHP pmHP anHP cdHP ctHP), slHP⟩)
    (coHP : PySem.W.codeIn K cdHP "_law_heap" = true)
    (kHP : PySem.W.keepIn K (.ref fHP) = true)
    (aKD : PySem.W.nsIn K mainGlobals "_law_kinds" = some (some (.ref fKD)))
    (lKD : K.lookup fKD = some ⟨ocKD, odKD, .func (PySem.W.fnOf "_law_kinds" "_law_kinds" (defArgs sKinds) (defBody sKinds) (defScope sKinds) .none kVKD dcKD pmKD anKD cdKD ctKD), slKD⟩)
    (coKD : PySem.W.codeIn K cdKD "_law_kinds" = true)
    (kKD : PySem.W.keepIn K (.ref fKD) = true)
    (aMD : PySem.W.nsIn K mainGlobals "_law_made" = some (some (.ref fMD)))
    (lMD : K.lookup fMD = some ⟨ocMD, odMD, .func (PySem.W.fnOf "_law_made" "_law_made" (defArgs sMade) (defBody sMade) (defScope sMade) .none kVMD dcMD pmMD anMD cdMD ctMD), slMD⟩)
    (coMD : PySem.W.codeIn K cdMD "_law_made" = true)
    (kMD : PySem.W.keepIn K (.ref fMD) = true)
    (aSR : PySem.W.nsIn K mainGlobals "_law_small_right" = some (some (.ref fSR)))
    (lSR : K.lookup fSR = some ⟨ocSR, odSR, .func (PySem.W.fnOf "_law_small_right" "_law_small_right" (defArgs sSR) (defBody sSR) (defScope sSR) .none kVSR dcSR pmSR anSR cdSR ctSR), slSR⟩)
    (coSR : PySem.W.codeIn K cdSR "_law_small_right" = true)
    (kSR : PySem.W.keepIn K (.ref fSR) = true)
    (aGR : PySem.W.nsIn K mainGlobals "_law_great_right" = some (some (.ref fGR)))
    (lGR : K.lookup fGR = some ⟨ocGR, odGR, .func (PySem.W.fnOf "_law_great_right" "_law_great_right" (defArgs sGR) (defBody sGR) (defScope sGR) .none kVGR dcGR pmGR anGR cdGR ctGR), slGR⟩)
    (coGR : PySem.W.codeIn K cdGR "_law_great_right" = true)
    (kGR : PySem.W.keepIn K (.ref fGR) = true)
    (aLW : PySem.W.nsIn K mainGlobals "law" = some (some (.ref fLW)))
    (lLW : K.lookup fLW = some ⟨ocLW, odLW, .func (PySem.W.fnOf "law" "law" (defArgs sLaw) (defBody sLaw) (defScope sLaw) .none kVLW dcLW pmLW anLW cdLW ctLW), slLW⟩)
    (coLW : PySem.W.codeIn K cdLW "law" = true)
    (kLW : PySem.W.keepIn K (.ref fLW) = true)
    (apL : PySem.W.findIn K (.ref C) "length" = some (some (.ref pL)))
    (gpL : PySem.W.specialIn K (.ref pL) "__get__" = some (some (.builtin "property.__get__")))
    (tpL : PySem.W.takesIn K (.ref pL) = some true)
    (rpL : PySem.W.recIn K pL "property" = some (.ref fGl :: restpL))
    (apM : PySem.W.findIn K (.ref C) "marks" = some (some (.ref pM)))
    (gpM : PySem.W.specialIn K (.ref pM) "__get__" = some (some (.builtin "property.__get__")))
    (tpM : PySem.W.takesIn K (.ref pM) = some true)
    (rpM : PySem.W.recIn K pM "property" = some (.ref fGm :: restpM))
    (apS : PySem.W.findIn K (.ref C) "strict" = some (some (.ref pS)))
    (gpS : PySem.W.specialIn K (.ref pS) "__get__" = some (some (.builtin "property.__get__")))
    (tpS : PySem.W.takesIn K (.ref pS) = some true)
    (rpS : PySem.W.recIn K pS "property" = some (.ref fGs :: restpS))
    (aIn : PySem.W.findIn K (.ref C) "__init__" = some (some (.ref fIn)))
    (iIn : PySem.W.isFn K (.ref fIn) = true)
    (lIn : K.lookup fIn = some ⟨ocIn, odIn, .func (PySem.W.fnOf "__init__" "Row.__init__" (defArgs sInit) (defBody sInit) (defScope sInit) .none kVIn dcIn pmIn anIn cdIn ctIn), slIn⟩)
    (coIn : PySem.W.codeIn K cdIn "Row.__init__" = true)
    (kIn : PySem.W.keepIn K (.ref fIn) = true)
    (lGl : K.lookup fGl = some ⟨ocGl, odGl, .func (PySem.W.fnOf "length" "Row.length" (defArgs sGetL) (defBody sGetL) (defScope sGetL) .none kVGl dcGl pmGl anGl cdGl ctGl), slGl⟩)
    (coGl : PySem.W.codeIn K cdGl "Row.length" = true)
    (kGl : PySem.W.keepIn K (.ref fGl) = true)
    (lGm : K.lookup fGm = some ⟨ocGm, odGm, .func (PySem.W.fnOf "marks" "Row.marks" (defArgs sGetM) (defBody sGetM) (defScope sGetM) .none kVGm dcGm pmGm anGm cdGm ctGm), slGm⟩)
    (coGm : PySem.W.codeIn K cdGm "Row.marks" = true)
    (kGm : PySem.W.keepIn K (.ref fGm) = true)
    (lGs : K.lookup fGs = some ⟨ocGs, odGs, .func (PySem.W.fnOf "strict" "Row.strict" (defArgs sGetS) (defBody sGetS) (defScope sGetS) .none kVGs dcGs pmGs anGs cdGs ctGs), slGs⟩)
    (coGs : PySem.W.codeIn K cdGs "Row.strict" = true)
    (kGs : PySem.W.keepIn K (.ref fGs) = true)
    (aEq : PySem.W.findIn K (.ref C) "__eq__" = some (some (.ref fEq)))
    (iEq : PySem.W.isFn K (.ref fEq) = true)
    (lEq : K.lookup fEq = some ⟨ocEq, odEq, .func (PySem.W.fnOf "__eq__" "Row.__eq__" (defArgs sEq) (defBody sEq) (defScope sEq) .none kVEq dcEq pmEq anEq cdEq ctEq), slEq⟩)
    (coEq : PySem.W.codeIn K cdEq "Row.__eq__" = true)
    (kEq : PySem.W.keepIn K (.ref fEq) = true)
    (aCh : PySem.W.findIn K (.ref C) "changed" = some (some (.ref fCh)))
    (iCh : PySem.W.isFn K (.ref fCh) = true)
    (lCh : K.lookup fCh = some ⟨ocCh, odCh, .func (PySem.W.fnOf "changed" "Row.changed" (defArgs sChanged) (defBody sChanged) (defScope sChanged) .none kVCh dcCh pmCh anCh cdCh ctCh), slCh⟩)
    (coCh : PySem.W.codeIn K cdCh "Row.changed" = true)
    (kCh : PySem.W.keepIn K (.ref fCh) = true)
    (pg : PySem.W.plainGet K C Str.empty = true)
    (hd : PySem.W.hasDictIn K C = true)
    (po : PySem.W.plainOver K C = true)
    (sa : PySem.W.findIn K (.ref C) "__setattr__" = some (some (.builtin "object.__setattr__")))
    (mk : PySem.W.makesIn K C = true)
    (kc : PySem.W.keepIn K (.ref C) = true)
    (nL : PySem.W.findIn K (.ref C) "_length" = some none)
    (nM : PySem.W.findIn K (.ref C) "_marks" = some none)
    (nS : PySem.W.findIn K (.ref C) "_strict" = some none)
    (kt : PySem.W.kitOne K (.ref C) (.ref C) = some true)
    (ca : PySem.W.findIn K (.ref C) "__class__" = some (some (.builtin "object.__class__")))
    (cn : PySem.W.specialIn K (.builtin "object.__class__") "__get__" = some (some (.builtin "getset_descriptor.__get__")))
    (ct : PySem.W.takesIn K (.builtin "object.__class__") = some true)
    (cm : PySem.W.mroIn K C (.type "object") = some true)
    (en : PySem.W.findIn K (.ref C) "__ne__" = some (some (.builtin "object.__ne__")))
    : ∃ fd : FuncData, (∀ (s : Shared) (v : Value), BindsTo s fd ⟨[v], []⟩ [("script", v)]) ∧ ∀ base : Heap, K.In base → base.Ns mainGlobals mg → FnOk l.prog w K mg base CX0 9 fa fd ["script"] (spLaw K) := by
  have e := hfa.symm.trans (PySem.W.mg_of X G aLW)
  cases e
  have T : Bl mg := ⟨PySem.W.mg_none_of X G n_int, PySem.W.mg_none_of X G n_bool, PySem.W.mg_none_of X G n_list, PySem.W.mg_none_of X G n_tuple, PySem.W.mg_none_of X G n_range, PySem.W.mg_none_of X G n_len, PySem.W.mg_none_of X G n_abs, PySem.W.mg_none_of X G n_all, PySem.W.mg_none_of X G n_isi, PySem.W.mg_none_of X G n_zip, PySem.W.mg_none_of X G n_max, PySem.W.mg_none_of X G n_min, PySem.W.mg_none_of X G n_set, PySem.W.mg_none_of X G n_sorted, PySem.W.mg_none_of X G n_dict⟩
  have R : Cl K mg C := ⟨⟨pg, hd, po, sa⟩, nL, nM, nS, PySem.W.mg_of X G aC, kt⟩
  have N : Ci K C := ⟨ca, cn, ct, cm⟩
  have M : Mk K C fIn := ⟨mk, aIn, iIn, kc⟩
  have FII := fun_mk (st := sIsInt) lII coII kII
  have bII := FII.binds (ps := ["thing"]) fun _ _ _ _ _ _ us hl => match us, hl with | [_], _ => rfl
  have gII := PySem.W.mg_of X G aII
  have FAP := fun_mk (st := sPlaces) lAP coAP kAP
  have bAP := FAP.binds (ps := ["thing", "low", "high"]) fun _ _ _ _ _ _ us hl => match us, hl with | [_, _, _], _ => rfl
  have gAP := PySem.W.mg_of X G aAP
  have FAA := fun_mk (st := sAsc) lAA coAA kAA
  have bAA := FAA.binds (ps := ["thing", "low", "high"]) fun _ _ _ _ _ _ us hl => match us, hl with | [_, _, _], _ => rfl
  have gAA := PySem.W.mg_of X G aAA
  have FAM := fun_mk (st := sMarks) lAM coAM kAM
  have bAM := FAM.binds (ps := ["thing", "high"]) fun _ _ _ _ _ _ us hl => match us, hl with | [_, _], _ => rfl
  have gAM := PySem.W.mg_of X G aAM
  have FAS := fun_mk (st := sSome) lAS coAS kAS
  have bAS := FAS.binds (ps := ["thing", "marks"]) fun _ _ _ _ _ _ us hl => match us, hl with | [_, _], _ => rfl
  have gAS := PySem.W.mg_of X G aAS
  have FIC := fun_mk (st := sChange) lIC coIC kIC
  have bIC := FIC.binds (ps := ["thing", "row_length"]) fun _ _ _ _ _ _ us hl => match us, hl with | [_, _], _ => rfl
  have gIC := PySem.W.mg_of X G aIC
  have FIR := fun_mk (st := sRepl) lIR coIR kIR
  have bIR := FIR.binds (ps := ["begin", "end", "length", "row_length"]) fun _ _ _ _ _ _ us hl => match us, hl with | [_, _, _, _], _ => rfl
  have gIR := PySem.W.mg_of X G aIR
  have FSH := fun_mk (st := sShift) lSH coSH kSH
  have bSH := FSH.binds (ps := ["places", "number"]) fun _ _ _ _ _ _ us hl => match us, hl with | [_, _], _ => rfl
  have gSH := PySem.W.mg_of X G aSH
  have FPA := fun_mk (st := sParts) lPA coPA kPA
  have bPA := FPA.binds (ps := ["row", "change"]) fun _ _ _ _ _ _ us hl => match us, hl with | [_, _], _ => rfl
  have gPA := PySem.W.mg_of X G aPA
  have FRP := fun_mk (st := sReplaced) lRP coRP kRP
  have bRP := FRP.binds (ps := ["old", "new", "change", "new_length"]) fun _ _ _ _ _ _ us hl => match us, hl with | [_, _, _, _], _ => rfl
  have gRP := PySem.W.mg_of X G aRP
  have FJR := fun_mk (st := sJar) lJR coJR kJR
  have bJR := FJR.binds (ps := ["script", "k"]) fun _ _ _ _ _ _ us hl => match us, hl with | [_, _], _ => rfl
  have gJR := PySem.W.mg_of X G aJR
  have FDP := fun_mk (st := sDip) lDP coDP kDP
  have bDP := FDP.binds (ps := ["jar", "many"]) fun _ _ _ _ _ _ us hl => match us, hl with | [_, _], _ => rfl
  have gDP := PySem.W.mg_of X G aDP
  have FTH := fun_mk (st := sThree) lTH coTH kTH
  have bTH := FTH.binds (ps := ["jar", "wide"]) fun _ _ _ _ _ _ us hl => match us, hl with | [_, _], _ => rfl
  have gTH := PySem.W.mg_of X G aTH
  have FSM := fun_mk (st := sSmall) lSM coSM kSM
  have bSM := FSM.binds (ps := ["jar", "most"]) fun _ _ _ _ _ _ us hl => match us, hl with | [_, _], _ => rfl
  have gSM := PySem.W.mg_of X G aSM
  have FGT := fun_mk (st := sGreat) lGT coGT kGT
  have bGT := FGT.binds (ps := ["jar", "most"]) fun _ _ _ _ _ _ us hl => match us, hl with | [_, _], _ => rfl
  have gGT := PySem.W.mg_of X G aGT
  have FHP := fun_mk (st := sHeap) lHP coHP kHP
  have bHP := FHP.binds (ps := ["raw"]) fun _ _ _ _ _ _ us hl => match us, hl with | [_], _ => rfl
  have gHP := PySem.W.mg_of X G aHP
  have FKD := fun_mk (st := sKinds) lKD coKD kKD
  have bKD := FKD.binds (ps := ["raw"]) fun _ _ _ _ _ _ us hl => match us, hl with | [_], _ => rfl
  have gKD := PySem.W.mg_of X G aKD
  have FMD := fun_mk (st := sMade) lMD coMD kMD
  have bMD := FMD.binds (ps := ["kinds"]) fun _ _ _ _ _ _ us hl => match us, hl with | [_], _ => rfl
  have gMD := PySem.W.mg_of X G aMD
  have FSR := fun_mk (st := sSR) lSR coSR kSR
  have bSR := FSR.binds (ps := ["jar", "raw"]) fun _ _ _ _ _ _ us hl => match us, hl with | [_, _], _ => rfl
  have gSR := PySem.W.mg_of X G aSR
  have FGR := fun_mk (st := sGR) lGR coGR kGR
  have bGR := FGR.binds (ps := ["jar", "raw"]) fun _ _ _ _ _ _ us hl => match us, hl with | [_, _], _ => rfl
  have gGR := PySem.W.mg_of X G aGR
  have FLW := fun_mk (st := sLaw) lLW coLW kLW
  have gLW := PySem.W.mg_of X G aLW
  have FIn := fun_mk (st := sInit) lIn coIn kIn
  have bIn := FIn.binds (ps := ["self", "length", "marks", "strict"]) fun _ _ _ _ _ _ us hl => match us, hl with | [_, _, _, _], _ => rfl
  have FGl := fun_mk (st := sGetL) lGl coGl kGl
  have bGl := FGl.binds (ps := ["self"]) fun _ _ _ _ _ _ us hl => match us, hl with | [_], _ => rfl
  have FGm := fun_mk (st := sGetM) lGm coGm kGm
  have bGm := FGm.binds (ps := ["self"]) fun _ _ _ _ _ _ us hl => match us, hl with | [_], _ => rfl
  have FGs := fun_mk (st := sGetS) lGs coGs kGs
  have bGs := FGs.binds (ps := ["self"]) fun _ _ _ _ _ _ us hl => match us, hl with | [_], _ => rfl
  have FEq := fun_mk (st := sEq) lEq coEq kEq
  have bEq := FEq.binds (ps := ["self", "other"]) fun _ _ _ _ _ _ us hl => match us, hl with | [_, _], _ => rfl
  have FCh := fun_mk (st := sChanged) lCh coCh kCh
  have bCh := FCh.binds (ps := ["self", "change"]) fun _ _ _ _ _ _ us hl => match us, hl with | [_, _], _ => rfl
  have mG : Meth K C "changed" fCh := ⟨aCh, iCh, kCh⟩
  refine ⟨PySem.W.fnOf "law" "law" (defArgs sLaw) (defBody sLaw) (defScope sLaw) .none kVLW dcLW pmLW anLW cdLW ctLW, fun s v => .of_eq rfl, fun base _ _ => ?_⟩
  have GII := ok_int (P := l.prog) (w := w) (base := base) FII T
  have GAP := ok_places FAP T gII kII bII GII
  have GAA := ok_asc FAA T gAP kAP bAP GAP
  have GAM := ok_marks FAM T (PySem.W.mg_of X G aN) gAA kAA bAA GAA
  have GAS := ok_some FAS T gAA kAA bAA GAA
  have GIn := ok_init FIn T R gII kII bII GII gAM kAM bAM GAM gAS kAS bAS GAS
  have GGm := ok_getM (P := l.prog) (w := w) (base := base) FGm T R
  have GEq := ok_eq (P := l.prog) (w := w) (base := base) FEq T R N
  have Z : Eqs l.prog w K mg base C fEq _ := ⟨GEq, cm, en, aEq, iEq, bEq⟩
  have GIR := ok_repl FIR T gII kII bII GII
  have GIC := ok_change FIC T gIR kIR bIR GIR gAM kAM bAM GAM gAS kAS bAS GAS
  have GSH := ok_shift (P := l.prog) (w := w) (mg := mg) (base := base) FSH
  have GRP := ok_replaced FRP gSH kSH bSH GSH
  have GGl := ok_getL (P := l.prog) (w := w) (base := base) FGl R
  have GGs := ok_getS (P := l.prog) (w := w) (base := base) FGs T R
  have Gs : Gets l.prog w K mg base C pL fGl pM fGm pS fGs _ _ _ := ⟨⟨apL, gpL, tpL, ⟨restpL, rpL⟩⟩, bGl, GGl, ⟨apM, gpM, tpM, ⟨restpM, rpM⟩⟩, bGm, GGm, ⟨apS, gpS, tpS, ⟨restpS, rpS⟩⟩, bGs, GGs⟩
  have GPA := ok_parts FPA R Gs gRP kRP bRP GRP
  have GCh := ok_changed FCh R M gIC kIC bIC GIC gPA kPA bPA GPA bIn GIn
  have GJR := ok_jar (P := l.prog) (w := w) (base := base) FJR T
  have GDP := ok_dip (P := l.prog) (w := w) (base := base) FDP T
  have GTH := ok_three FTH gDP kDP bDP GDP
  have GSM := ok_small FSM T gDP kDP bDP GDP gTH kTH bTH GTH
  have GGT := ok_great FGT T gDP kDP bDP GDP gTH kTH bTH GTH
  have GHP := ok_heap FHP R M bIn GIn
  have GKD := ok_kinds (P := l.prog) (w := w) (base := base) FKD T
  have GMD := ok_made FMD T R M bIn GIn
  have GSR := ok_small_right FSR T R Z gDP kDP bDP GDP gKD kKD bKD GKD gHP kHP bHP GHP gMD kMD bMD GMD mG bCh GCh
  have GGR := ok_great_right FGR T R Z gDP kDP bDP GDP gHP kHP bHP GHP mG bCh GCh
  exact ok_law FLW T R Z M gJR kJR bJR GJR gSM kSM bSM GSM gGT kGT bGT GGT gSR kSR bSR GSR gGR kGR bGR GGR mG bCh GCh bIn GIn ⟨apM, gpM, tpM, ⟨restpM, rpM⟩⟩ bGm GGm
theorem walk {l : PySem.W.OpenLaw} {q : Program} {loose : List Str} {XP : (Str → Option Value) → Heap → Prop} {YP : World → Heap → Prop} {d : DefRec} {K : Params → PySem.W.Frag} (hn : l.most = some 63) (hdf : d.params.defaults = [])
    (hY : ∀ (w : World) (h : Heap), YP w h → (K w.params).In h)
    (F : ∀ (w : World) (mg : Str → Option Value) (fa : Addr) (h : Heap), (K w.params).In h → h.Ns mainGlobals mg → mg d.name = some (.ref fa) →
      ∃ fd : FuncData, (∀ (s : Shared) (u : Value), BindsTo s fd ⟨[u], []⟩ [("script", u)]) ∧ ∀ base : Heap, (K w.params).In base → base.Ns mainGlobals mg → FnOk l.prog w (K w.params) mg base CX0 9 fa fd ["script"] (spLaw (K w.params))) :
    PySem.W.WalkO q loose XP YP l.row.toRowW d [] (fun f vs => PySem.call f vs) :=
  L2.walk_of (n := 63) (k := 9) (x := "script") (CX := fun _ => CX0) (sp := fun w => spLaw (K w.params)) hn (by decide) hdf ⟨rfl, by decide, by decide⟩ hY F (fun _ _ a ns hl _ hS => ⟨a, ns, rfl, hS, hl, fun _ => rfl⟩) fun _ _ _ _ _ z => z
end Cw
open PySem PySem.W PyProof.Rows
set_option maxRecDepth 100000 in
set_option maxHeartbeats 0 in
theorem PySem.Challenge.cw_cutwalks_k04_rows_changed_cell_by_cell_holds : PySem.Challenge.rw_cutwalks_k04_rows_changed_cell_by_cell.Holds := by
  w_on; o_law; k_head; (case hw => w_witness2)
  k_fill
  refine Cw.walk (l := PySem.Challenge.rw_cutwalks_k04_rows_changed_cell_by_cell) rfl rfl (fun w h Y => PySem.W.kIn_of Y) ?F
  case F =>
    intro w mg fa h KX G hmg
    refine' Cw.all_mk KX G hmg ?aC ?aN ?n_int ?n_bool ?n_list ?n_tuple ?n_range ?n_len ?n_abs ?n_all ?n_isi ?n_zip ?n_max ?n_min ?n_set ?n_sorted ?n_dict ?aII ?lII ?coII ?kII ?aAP ?lAP ?coAP ?kAP ?aAA ?lAA ?coAA ?kAA ?aAM ?lAM ?coAM ?kAM ?aAS ?lAS ?coAS ?kAS ?aIC ?lIC ?coIC ?kIC ?aIR ?lIR ?coIR ?kIR ?aSH ?lSH ?coSH ?kSH ?aPA ?lPA ?coPA ?kPA ?aRP ?lRP ?coRP ?kRP ?aJR ?lJR ?coJR ?kJR ?aDP ?lDP ?coDP ?kDP ?aTH ?lTH ?coTH ?kTH ?aSM ?lSM ?coSM ?kSM ?aGT ?lGT ?coGT ?kGT ?aHP ?lHP ?coHP ?kHP ?aKD ?lKD ?coKD ?kKD ?aMD ?lMD ?coMD ?kMD ?aSR ?lSR ?coSR ?kSR ?aGR ?lGR ?coGR ?kGR ?aLW ?lLW ?coLW ?kLW ?apL ?gpL ?tpL ?rpL ?apM ?gpM ?tpM ?rpM ?apS ?gpS ?tpS ?rpS ?aIn ?iIn ?lIn ?coIn ?kIn ?lGl ?coGl ?kGl ?lGm ?coGm ?kGm ?lGs ?coGs ?kGs ?aEq ?iEq ?lEq ?coEq ?kEq ?aCh ?iCh ?lCh ?coCh ?kCh ?pg ?hd ?po ?sa ?mk ?kc ?nL ?nM ?nS ?kt ?ca ?cn ?ct ?cm ?en
    (case aC => k_is)
    (case aN => k_is)
    (case n_int => k_is)
    (case n_bool => k_is)
    (case n_list => k_is)
    (case n_tuple => k_is)
    (case n_range => k_is)
    (case n_len => k_is)
    (case n_abs => k_is)
    (case n_all => k_is)
    (case n_isi => k_is)
    (case n_zip => k_is)
    (case n_max => k_is)
    (case n_min => k_is)
    (case n_set => k_is)
    (case n_sorted => k_is)
    (case n_dict => k_is)
    (case aII => k_is)
    (case lII => k_is)
    (case coII => k_is)
    (case kII => k_is)
    (case aAP => k_is)
    (case lAP => k_is)
    (case coAP => k_is)
    (case kAP => k_is)
    (case aAA => k_is)
    (case lAA => k_is)
    (case coAA => k_is)
    (case kAA => k_is)
    (case aAM => k_is)
    (case lAM => k_is)
    (case coAM => k_is)
    (case kAM => k_is)
    (case aAS => k_is)
    (case lAS => k_is)
    (case coAS => k_is)
    (case kAS => k_is)
    (case aIC => k_is)
    (case lIC => k_is)
    (case coIC => k_is)
    (case kIC => k_is)
    (case aIR => k_is)
    (case lIR => k_is)
    (case coIR => k_is)
    (case kIR => k_is)
    (case aSH => k_is)
    (case lSH => k_is)
    (case coSH => k_is)
    (case kSH => k_is)
    (case aPA => k_is)
    (case lPA => k_is)
    (case coPA => k_is)
    (case kPA => k_is)
    (case aRP => k_is)
    (case lRP => k_is)
    (case coRP => k_is)
    (case kRP => k_is)
    (case aJR => k_is)
    (case lJR => k_is)
    (case coJR => k_is)
    (case kJR => k_is)
    (case aDP => k_is)
    (case lDP => k_is)
    (case coDP => k_is)
    (case kDP => k_is)
    (case aTH => k_is)
    (case lTH => k_is)
    (case coTH => k_is)
    (case kTH => k_is)
    (case aSM => k_is)
    (case lSM => k_is)
    (case coSM => k_is)
    (case kSM => k_is)
    (case aGT => k_is)
    (case lGT => k_is)
    (case coGT => k_is)
    (case kGT => k_is)
    (case aHP => k_is)
    (case lHP => k_is)
    (case coHP => k_is)
    (case kHP => k_is)
    (case aKD => k_is)
    (case lKD => k_is)
    (case coKD => k_is)
    (case kKD => k_is)
    (case aMD => k_is)
    (case lMD => k_is)
    (case coMD => k_is)
    (case kMD => k_is)
    (case aSR => k_is)
    (case lSR => k_is)
    (case coSR => k_is)
    (case kSR => k_is)
    (case aGR => k_is)
    (case lGR => k_is)
    (case coGR => k_is)
    (case kGR => k_is)
    (case aLW => k_is)
    (case lLW => k_is)
    (case coLW => k_is)
    (case kLW => k_is)
    (case apL => k_is)
    (case gpL => first | k_is | kernel_rfl)
    (case tpL => first | k_is | kernel_rfl)
    (case rpL => k_is)
    (case apM => k_is)
    (case gpM => first | k_is | kernel_rfl)
    (case tpM => first | k_is | kernel_rfl)
    (case rpM => k_is)
    (case apS => k_is)
    (case gpS => first | k_is | kernel_rfl)
    (case tpS => first | k_is | kernel_rfl)
    (case rpS => k_is)
    (case aIn => k_is)
    (case iIn => k_is)
    (case lIn => k_is)
    (case coIn => k_is)
    (case kIn => k_is)
    (case lGl => k_is)
    (case coGl => k_is)
    (case kGl => k_is)
    (case lGm => k_is)
    (case coGm => k_is)
    (case kGm => k_is)
    (case lGs => k_is)
    (case coGs => k_is)
    (case kGs => k_is)
    (case aEq => k_is)
    (case iEq => k_is)
    (case lEq => k_is)
    (case coEq => k_is)
    (case kEq => k_is)
    (case aCh => k_is)
    (case iCh => k_is)
    (case lCh => k_is)
    (case coCh => k_is)
    (case kCh => k_is)
    (case pg => k_is)
    (case hd => k_is)
    (case po => k_is)
    (case sa => k_is)
    (case mk => k_is)
    (case kc => k_is)
    (case nL => k_is)
    (case nM => k_is)
    (case nS => k_is)
    (case kt => first | k_is | kernel_rfl)
    (case ca => first | k_is | kernel_rfl)
    (case cn => first | k_is | kernel_rfl)
    (case ct => first | k_is | kernel_rfl)
    (case cm => first | k_is | kernel_rfl)
    (case en => first | k_is | kernel_rfl)
#print axioms PySem.Challenge.cw_cutwalks_k04_rows_changed_cell_by_cell_holds
