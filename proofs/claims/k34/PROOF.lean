import PyProof.Rows.All
import Wide.All
import OpenK.AllK
import Wide.FinOn
import HandS.ForMost
import HandS.Strs
import HandS.SetFor
import HandS.SortKw
import KE.DataMinMax
import HandS.OwnEq
import PyProof.InstNe
import HandS.IsInst
import HandS.Walk
import HandS.Exc
import PySem.Challenge.RW_cutwalks_k34_whole_marks_out_of_sight
import HandS.Property
import HandS.WideBits
import HandS.Flt
import PyProof.MaxThree
import PyProof.SeqI3
import HandS.Style
import HandS.TupSets
import HandS.SortInts
set_option Elab.async false
set_option maxRecDepth 100000
set_option maxHeartbeats 8000000
namespace Cw
open PySem PySem.Spec PyProof.Rows L2
/-! ## set(xs) of a list of nts -/
section
variable {P : Program} {w : World} {A : Around} {E : Value → Shared → Prop} {s : Shared}
abbrev newS (w : World) : Obj := { cls := .type "set", dict := none, data := .set #[] 0 (.fresh 0 0 (!w.params.followText "set-order")) }
theorem set_list {l : Addr} {its : Array Value} (ns : List Int) {Q : Value → Shared → Prop} (hand : A.handled = none) (isl : s.heap.IsList l its) (nts : IntsAre its.toList ns) (room : ns.length + 1 < scanBound)
    (q : ∀ (g' : Heap) (tk c : Nat), SetR w g' s.heap.objs.size (fun j => decide (j ∈ ns)) c → c ≤ ns.length → (∀ b o, s.heap.get? b = some o → g'.get? b = some o) → Q (.ref s.heap.objs.size) { s with heap := g', toks := tk }) :
    wpAny (model P w) A (call (.type "set") [.ref l]) Q E s := by
  have len : its.size = ns.length := by rw [← IntsAre.length nts, Array.length_toList]
  obtain ⟨c, tl, hmro⟩ := F.called_set.mro; have hmade := F.called_set.made; have hsub := F.called_set.sub
  refine wpAny_call (codeAny_of_tree ?_); show wpAny _ _ (callAny (.type "set") _) _ _ _
  refine wpAny_pure ⟨Code.quiet_builtin _ (by decide +kernel), codeAny_builtin F.entry_type_call ?_⟩; rw [Around.under_plain (weight_type_call_type "set" [.ref l] []) rfl]
  have h1 := F.called_set.notType; have h2 := F.called_set.canCreate; have hct := F.typeCall_set_1 (.ref l)
  repeat (any_goals (first | assumption | wp_step))
  refine codeAny_mono (code_set_led1 (.ref l) (E := E) (Q₁ := fun ob t₁ => ob = .ref s.heap.objs.size ∧ t₁ = { s with heap := s.heap.push (newS w) }) ⟨rfl, rfl⟩) fun r t₁ hr => ?_
  cases r with
  | error e => exact hr
  | ok fl =>
    cases fl with
    | ret ob =>
      obtain ⟨rfl, rfl⟩ := hr
      have at0 : (s.heap.push (newS w)).get? s.heap.objs.size = some (newS w) := Heap.get?_push_size _ rfl
      have ty0 : Shared.TypeIs { s with heap := s.heap.push (newS w) } (.ref s.heap.objs.size) "set" := ⟨_, at0, rfl⟩
      have hli := F.called_set.init.lookup; have hbi := F.called_set.init.bind (.ref s.heap.objs.size)
      repeat (any_goals (first | assumption | wp_step))
      refine codeAny_mono (codeAny_call_builtin (R := wants (fun r t₂ => r = .none ∧ ∃ g' tk c, t₂ = { s with heap := g', toks := tk } ∧ SetR w g' s.heap.objs.size (fun j => decide (j ∈ ns)) c ∧ c ≤ ns.length ∧ (∀ b o, s.heap.get? b = some o → g'.get? b = some o)) E)
        F.called_set.init.plain F.entry_set_init (check_set_init_1 ty0 ?_)) fun r₂ t₂ hr₂ => ?_
      · obtain ⟨ol, lo, lc, nl, ld⟩ := isl
        obtain ⟨oc, odi, oda, osl⟩ := ol
        simp only at lc ld; subst lc; subst ld
        have lo' : (s.heap.push (newS w)).get? l = some { cls := .type "list", dict := odi, data := .seq its nl, slots := osl } := Heap.get?_push_of_some _ lo
        have u1 := F.sub_list_set; have u2 := F.sub_list_frozenset
        have u3 : (Value.type "list" == Value.type "dict") = false := by decide
        have il : (s.heap.push (newS w)).IsList l its := ⟨_, lo', rfl, nl, rfl⟩
        unfold Builtin.«set.__init__» noKeywords Builtin.Frozenset.updateFrom
        generalize hPI : pyIter = PI; wp_walk; subst hPI
        refine wpAny_pyIter_list il ?_; refine wpAny_bind (wpAny_runValue ?_)
        have lt : l < s.heap.objs.size := Heap.lt_size lo
        have hand3 : A.in1.in1.in1.handled = none := by simp [hand]
        have ne1 : l ≠ (s.heap.push (newS w)).objs.size := by rw [Heap.size_push]; exact Nat.ne_of_lt (Nat.lt_succ_of_lt lt)
        have nin : s.heap.objs.size ∉ [(s.heap.push (newS w)).objs.size, l] := by
          rw [Heap.size_push]
          simp only [List.mem_cons, List.mem_singleton, List.not_mem_nil, or_false, not_or]
          exact ⟨Nat.ne_of_lt (Nat.lt_succ_self _), Nat.ne_of_gt lt⟩
        have val : ∀ (i : Nat) (v : Value), its[i]? = some v → ∃ k t, ns[i]? = some k ∧ v = .int k t := fun i v hv => by
          have hi : i < ns.length := by rw [← len]; exact (Array.getElem?_eq_some_iff.mp hv).1
          obtain ⟨t, e⟩ := PyProof.Rows.IntsAre.int_at nts i v (by rw [Array.getElem?_toList]; exact hv)
          exact ⟨ns[i], t, List.getElem?_eq_getElem hi, by rw [e, List.getD_eq_getElem?_getD, List.getElem?_eq_getElem hi] <;> rfl⟩
        refine set_update_ints ((Walks.list hand3 _ l ne1 its).toS) s.heap.objs.size nin ns len room val (its.size - 0) 0 _ (by omega) (Nat.zero_le _) ⟨⟨_, Heap.get?_push_size _ rfl, rfl, rfl⟩, (il.push _)⟩ ?z0 ?zR
        case z0 => exact ⟨0, Nat.le_refl 0, setR_new_at (Heap.get?_push_of_some _ at0)⟩
        case zR =>
          intro t' c' hm hc' hS'
          obtain ⟨g', g2, d', tk', os'⟩ := t'
          have eg : g2 = s.gens := hm.gens; have ed : d' = s.drawn := hm.drawn; have eo : os' = s.os := hm.os
          subst eg; subst ed; subst eo
          show wpAny _ _ _ _ _ _
          refine wpAny_pure ?_; show wpAny _ _ (ret Value.none) _ _ _
          rw [len] at hc'
          refine wpAny_pure ⟨rfl, g', tk', c', rfl, hS', hc', fun b o e => ?_⟩
          have b0 : b < s.heap.objs.size := Heap.lt_size e
          have b2 : b ≠ (s.heap.push (newS w)).objs.size := by rw [Heap.size_push]; exact Nat.ne_of_lt (Nat.lt_succ_of_lt b0)
          exact hm.heap b o (by simp only [List.mem_cons, List.mem_singleton, List.not_mem_nil, or_false, not_or]; exact ⟨Nat.ne_of_lt b0, b2⟩) (Heap.get?_push_of_some _ (Heap.get?_push_of_some _ e))
      · cases r₂ with
        | error e => exact hr₂
        | ok fl₂ =>
          cases fl₂ with
          | ret r =>
            obtain ⟨rfl, g', tk, c', rfl, hS', hc', hk'⟩ := hr₂
            repeat (any_goals (first | assumption | wp_step))
            exact q _ _ _ hS' hc' hk'
          | _ => exact hr₂.elim
    | _ => exact hr.elim
end
section
variable {P : Program} {w : World} {A : Around} {E : Value → Shared → Prop} {s : Shared}
theorem entry_sub : entryFor table "set.__sub__" = some Builtin.«frozenset.__sub__» := entryFor_alias (id' := "frozenset.__sub__") (by kernel_rfl) rfl (by decide +kernel) (by kernel_rfl)
theorem sub_form (a b : Value) : Builtin.«frozenset.__sub__» ⟨[a, b], []⟩ = (do
    let p ← Builtin.Frozenset.slot1 "__sub__" ⟨[a, b], []⟩
    if !(← (Builtin.Frozenset.isAnySet p.1 <&&> Builtin.Frozenset.isAnySet p.2)) then
      rule "frozenset.__sub__.declined"
      ret .notImplemented
    else ret (← Builtin.Frozenset.difference "frozenset.__sub__" (← Builtin.Frozenset.addrOf p.1) p.2)) := by
  rfl
variable {a b : Addr} {S T : Int → Bool} {n m : Nat}
theorem isSet_at {s : Shared} {Q : Bool → Shared → Prop} {a : Addr} (ty : s.TypeIs (.ref a) "set") (q : Q true s) : wpAny (model P w) A (Builtin.Frozenset.isAnySet (.ref a)) Q E s := by
  unfold Builtin.Frozenset.isAnySet isInstance
  have z := sub_set_self
  wp_walk
  exact q
/-- what is walked: all of the set's members -/
def Mem (xs : Array (Int × Value)) (S : Int → Bool) : Prop := ∀ e ∈ xs.toList, GoodE e ∧ S (keyOf e) = true
section
variable {o : Obj} {es : Array (Int × Value)} {ep : Nat} {t : SetTable}
theorem walk_at (ho : s.heap.get? a = some o) (hd : o.data = .set es ep t) (hf : t.fits es.size = true) (hl : w.params.followText "set-order" = true ∨ t.led = true) (hp : w.params.followText "set-order" = true ∨ (!t.plain && decide (es.size > 1)) = false)
    {Q : Array (Int × Value) → Shared → Prop} (q : ∀ xs, (∀ e ∈ xs.toList, e ∈ es.toList) → Q xs s) : wpAny (model P w) A (setWalk a) Q E s := by
  unfold setWalk
  refine wpAny_bind (wpAny_setState_of ho hd hf ?_)
  dsimp only
  refine wpAny_bind (wpAny_byText ?_)
  by_cases c : w.params.followText "set-order" = true
  · refine wp_if_pos c ?_
    refine wpAny_bind (wpAny_askSetting (wpAny_pure (q _ fun e he => ?_)))
    exact (pick_perm _ es).mem_iff.mp he
  · refine wp_if_neg c ?_
    have p1 := hp.resolve_left c
    have p2 := hl.resolve_left c
    try refine wpAny_bind (wpAny_pure ?_)
    refine wp_if_neg (by show ¬ ((!t.plain && decide (es.size > 1)) = true); rw [p1]; exact Bool.false_ne_true) ?_
    try refine wpAny_bind (wpAny_pure ?_)
    refine wpAny_bind (wpAny_of_eq (a := ()) ?_ (wpAny_pure (q es fun _ h => h)))
    show (if (!t.led && decide (es.size > 1)) = true then unsupported "set:maker-not-led" else pure ()) = pure ()
    rw [p2]
    rfl
end
theorem forIn_keep {α β : Type} {M : Model} {f : α → β → Sem (ForInStep β)} {b : β} (I : Shared → Prop) : ∀ (l : List α) {s : Shared} {Q : β → Shared → Prop},
    (∀ x ∈ l, ∀ (s : Shared) (Q' : ForInStep β → Shared → Prop), I s → (∀ s', I s' → Q' (.yield b) s') → wpAny M A (f x b) Q' E s) → I s → (∀ s', I s' → Q b s') → wpAny M A (forIn l b f) Q E s
  | [], s, Q, _, i, q => by
    rw [List.forIn_nil]
    exact wpAny_pure (q s i)
  | x :: l, s, Q, h, i, q => by
    rw [List.forIn_cons]
    exact wpAny_bind (h x (List.mem_cons_self ..) s _ i fun s' i' => forIn_keep I l (fun y hy => h y (List.mem_cons_of_mem _ hy)) i' q)
theorem forIn_keepA {α β : Type} {M : Model} {f : α → β → Sem (ForInStep β)} {b : β} (I : Shared → Prop) (l : Array α) {s : Shared} {Q : β → Shared → Prop}
    (h : ∀ x ∈ l.toList, ∀ (s : Shared) (Q' : ForInStep β → Shared → Prop), I s → (∀ s', I s' → Q' (.yield b) s') → wpAny M A (f x b) Q' E s) (i : I s) (q : ∀ s', I s' → Q b s') : wpAny M A (forIn l b f) Q E s := by
  rw [← Array.forIn_toList]
  exact forIn_keep I l.toList h i q
theorem quiet_at : ∀ (l : List Addr) {s : Shared} {Q : Bool → Shared → Prop}, (∀ c ∈ l, ∃ S n, SetR w s.heap c S n) → Q true s → wpAny (model P w) A (setsQuiet l) Q E s := by
  intro l s Q h q
  unfold setsQuiet
  refine wpAny_bind (forIn_keep (fun s' => s' = s) l (fun c hc s' Q' hs k => ?_) rfl fun s' hs => ?_)
  · subst hs
    obtain ⟨S, n, o, es, ep, t, ho, hx, hd, g, nd, hm, hb, hf, _⟩ := h c hc
    refine wpAny_bind (wpAny_setEntries_of ho hd hf ?_)
    refine wpAny_bind (forIn_keepA (fun s'' => s'' = s') es (fun e he s'' Q'' hs k' => ?_) rfl fun s'' hs => ?_)
    · subst hs
      obtain ⟨i, tk, h1, h2⟩ := g e he
      obtain ⟨e1, e2⟩ := e
      dsimp only at h1
      subst h1
      exact wpAny_pure (k' _ rfl)
    · subst hs
      exact wpAny_pure (k _ rfl)
  · subst hs
    exact wpAny_pure q
/-- the set at a walked while the empty set at r is filled -/
theorem unseen_at {r : Addr} (R : SetR w s.heap a S n) (Rr : SetR w s.heap r (fun _ => false) 0) {l : List Addr} (hall : ∀ c ∈ a :: l, ∃ S n, SetR w s.heap c S n) {Q : Array (Int × Value) → Shared → Prop}
    (q : ∀ xs h', Mem xs S → (∀ c o, c ≠ r → s.heap.get? c = some o → h'.get? c = some o) → SetR w h' r (fun _ => false) 0 → Q xs { s with heap := h' }) : wpAny (model P w) A (setWalkUnseen a l (some r)) Q E s := by
  obtain ⟨o, es, ep, t, ho, hx, hd, g, nd, hm, hb, hf, hn, hr, hl⟩ := R
  have mem : ∀ xs : Array (Int × Value), (∀ e ∈ xs.toList, e ∈ es.toList) → Mem xs S := fun xs h e he => ⟨g e (h e he), (hm _).mpr (List.mem_map_of_mem (h e he))⟩
  unfold setWalkUnseen
  refine wpAny_bind (wpAny_setState_of ho hd hf ?_)
  dsimp only
  refine wpAny_bind (wpAny_byText ?_)
  by_cases c : (w.params.followText "set-order" || t.led && t.plain || decide (es.size ≤ 1)) = true
  · refine wp_if_pos c ?_
    refine walk_at ho hd hf hl ?_ fun xs h => ?_
    · simp only [Bool.or_eq_true, Bool.and_eq_true, decide_eq_true_eq] at c
      rcases c with (c | c) | c
      · exact .inl c
      · exact .inr (by rw [c.2]; rfl)
      · exact .inr (by rw [decide_eq_false (by omega), Bool.and_false])
    · exact q xs s.heap (mem xs h) (fun _ _ _ e => e) Rr
  · refine wp_if_neg c ?_
    try refine wpAny_bind (wpAny_pure ?_)
    refine wpAny_bind (quiet_at (a :: l) hall ?_)
    refine wp_if_neg (by decide) ?_
    try refine wpAny_bind (wpAny_pure ?_)
    refine wpAny_bind (wpAny_rule ?_)
    obtain ⟨o2, es2, ep2, t2, ho2, hx2, hd2, g2, nd2, hm2, hb2, hf2, hn2, hr2, hl2⟩ := Rr
    try dsimp only
    refine wpAny_bind (wpAny_setState_of ho2 hd2 hf2 ?_)
    dsimp only
    have nb : w.params.followText "set-order" = false := by
      cases z : w.params.followText "set-order" with
      | false => rfl
      | true => rw [z] at c; simp at c
    have l1 : t.led = true := hl.resolve_left (by rw [nb]; exact Bool.false_ne_true)
    have l2 : t2.led = true := hl2.resolve_left (by rw [nb]; exact Bool.false_ne_true)
    by_cases c2 : (t2.led && !t.led || t2.plain && !t.plain) = true
    · refine wp_if_pos c2 ?_
      refine wpAny_bind (wpAny_storeSet_of ho2 hd2 ?_ (fits_of_scanBound hb2))
      refine wpAny_pure (q es _ (mem es fun _ h => h) (fun y o' hy e => by rw [Heap.get?_update_other _ _ (Ne.symm hy)]; exact e) ?_)
      exact ⟨_, es2, _, _, store_at ho2 hd2, hx2, rfl, g2, nd2, hm2, hb2, by exact hf2, hn2, hr2, .inr (by rw [l1, l2]; rfl)⟩
    · refine wp_if_neg c2 ?_
      try refine wpAny_bind (wpAny_pure ?_)
      exact wpAny_pure (q es s.heap (mem es fun _ h => h) (fun _ _ _ e => e) ⟨o2, es2, ep2, t2, ho2, hx2, hd2, g2, nd2, hm2, hb2, hf2, hn2, hr2, hl2⟩)
theorem sub_none (R1 : SetR w s.heap a S n) (R2 : SetR w s.heap b T m) (sub : ∀ k, S k = true → T k = true) (le : n ≤ m) {Q : Value → Shared → Prop}
    (q : ∀ h', (∀ c o, s.heap.get? c = some o → h'.get? c = some o) → SetR w h' s.heap.objs.size (fun _ => false) 0 → Q (.ref s.heap.objs.size) { s with heap := h' }) : wpAny (model P w) A (binaryOp .Sub (.ref a) (.ref b)) Q E s := by
  have ta : s.TypeIs (.ref a) "set" := (R1.setOf (P := P)).typeIs
  have tb : s.TypeIs (.ref b) "set" := (R2.setOf (P := P)).typeIs
  refine wpAny_binaryOp_same (T := "set") ta tb F.fills_set_sub F.slot_set_sub ?_
  refine wpAny_call_entry F.slot_set_sub ta entry_sub ?_ (F.args_set_sub_2 _ _)
  rw [sub_form]
  unfold Builtin.Frozenset.slot1 slotArgs
  refine wpAny_bind (wpAny_bind (wpAny_of_eq (a := (Value.ref a, [Value.ref b])) rfl (wpAny_pure ?_)))
  dsimp only
  refine wpAny_bind (m := _ <&&> _) ?_
  unfold andM
  refine wpAny_bind (isSet_at ta ?_)
  show wpAny _ _ (Builtin.Frozenset.isAnySet (.ref b)) _ _ _
  refine isSet_at tb (wp_if_neg (by decide) ?_)
  refine wpAny_bind (wpAny_pure (wpAny_bind ?_))
  obtain ⟨o, es, ep, t, ho, hx, hd, g, nd, hm, hb, hf, hn, hr, hl⟩ := id R1
  obtain ⟨o2, es2, ep2, t2, ho2, hx2, hd2, g2, nd2, hm2, hb2, hf2, hn2, hr2, hl2⟩ := id R2
  unfold Builtin.Frozenset.difference
  dsimp only
  refine wpAny_bind (isSet_at tb ?_)
  refine wp_if_neg (by decide) ?_
  try refine wpAny_bind (m := Builtin.Frozenset.addrOf (.ref b)) (wpAny_pure ?_)
  refine wp_if_neg (by simp) ?_
  refine wp_if_pos rfl ?_
  unfold Builtin.Frozenset.sizeOf
  refine wpAny_bind (wpAny_bind (wpAny_setEntries_of ho2 hd2 hf2 (wpAny_pure ?_)))
  refine wpAny_bind (wpAny_bind (wpAny_setEntries_of ho hd hf (wpAny_pure ?_)))
  refine wp_if_neg (by rw [hn, hn2]; omega) ?_
  unfold Builtin.Frozenset.baseOf isInstance
  have z := sub_set_self
  obtain ⟨hp, gg, dr, tk, os⟩ := s
  wp_walk
  dsimp only at ho ho2 q R1 R2
  refine wpAny_askSetting (wpAny_pure ?_)
  simp only [newObj, if_true]
  refine wpAny_bind (wpAny_alloc (wpAny_pure ?_))
  dsimp only
  have k1 : ∀ c o, hp.get? c = some o → (hp.push (newS w)).get? c = some o := fun c o e => Heap.get?_push_of_some _ e
  have fr := setR_fresh (h := hp) w
  have na : a ≠ hp.objs.size := Nat.ne_of_lt (Heap.lt_size ho)
  have nb : b ≠ hp.objs.size := Nat.ne_of_lt (Heap.lt_size ho2)
  refine wpAny_bind (m := Builtin.Frozenset.addrOf (.ref hp.objs.size)) (wpAny_pure ?_)
  refine wpAny_bind (wpAny_setEpoch_of (k1 _ _ ho) hd hf ?_)
  refine wpAny_bind (wpAny_holding (wpAny_bind ?_))
  refine unseen_at (R1.at fun o e => k1 _ _ e) fr (fun c hc => ?_) fun xs h' hxs k2 R' => ?_
  · rcases List.mem_cons.mp hc with rfl | hc
    · exact ⟨_, _, R1.at fun o e => k1 _ _ e⟩
    rcases List.mem_cons.mp hc with rfl | hc
    · exact ⟨_, _, R2.at fun o e => k1 _ _ e⟩
    rcases List.mem_cons.mp hc with rfl | hc
    · exact ⟨_, _, fr⟩
    · cases hc
  · have k3 : ∀ c o, hp.get? c = some o → h'.get? c = some o := fun c o e => k2 c o (Nat.ne_of_lt (Heap.lt_size e)) (k1 c o e)
    refine wpAny_bind (forIn_keepA (fun s' => s' = ⟨h', gg, dr, tk, os⟩) xs (fun e he s' Q' hs kk => ?_) rfl fun s' hs => ?_)
    · subst hs
      obtain ⟨⟨i, ti, h1, h2⟩, h3⟩ := hxs e he
      obtain ⟨e1, e2⟩ := e
      dsimp only at h1 h2
      subst h1 h2
      refine wpAny_bind (wpAny_holding (wpAny_bind ?_))
      refine wpAny_setFind_of (knd := intKind P w) (k := i) (intKind_is P w i ti) rfl ((R2.at fun o e => k3 _ _ e).setOf (P := P)) fun r hr => ?_
      refine wpAny_bind (wpAny_pure ?_)
      have hs : r.isSome = true := by rw [hr]; exact sub i h3
      refine wp_if_neg (by rw [hs]; decide) ?_
      refine wpAny_pure ?_
      unfold Builtin.Frozenset.unchanged
      refine wpAny_bind (wpAny_bind (wpAny_setEpoch_of (k3 _ _ ho) hd hf ?_))
      refine wp_if_neg (by simp) (wpAny_pure (wpAny_pure (kk _ rfl)))
    · subst hs
      refine wpAny_pure (wpAny_pure (wpAny_pure ⟨_, rfl, (fun z => nomatch z), q h' k3 R'⟩))
end
end Cw
namespace Cw
open PySem PySem.Spec PyProof.Rows L2
theorem nodup_len : ∀ {l m : List Int}, l.Nodup → (∀ x ∈ l, x ∈ m) → l.length ≤ m.length
  | [], m, _, _ => Nat.zero_le _
  | x :: l, m, nd, h => by
    obtain ⟨nx, nd'⟩ := List.nodup_cons.mp nd
    have hx : x ∈ m := h x (List.mem_cons_self ..)
    have z := nodup_len (l := l) (m := m.erase x) nd' fun y hy => by
      have ne : y ≠ x := fun e => nx (by rw [← e]; exact hy)
      exact (List.mem_erase_of_ne ne).mpr (h y (List.mem_cons_of_mem _ hy))
    rw [List.length_erase_of_mem hx] at z
    have p : 0 < m.length := List.length_pos_of_mem hx
    rw [List.length_cons]
    omega
section
variable {X : Cx}
theorem setR_le {w : World} {h : Heap} {a b : Addr} {S T : Int → Bool} {n m : Nat} (R1 : SetR w h a S n) (R2 : SetR w h b T m) (sub : ∀ k, S k = true → T k = true) : n ≤ m := by
  obtain ⟨o, es, ep, t, ho, hx, hd, g, nd, hm, hb, hf, hn, _⟩ := R1
  obtain ⟨o2, es2, ep2, t2, ho2, hx2, hd2, g2, nd2, hm2, hb2, hf2, hn2, _⟩ := R2
  have z := nodup_len (l := es.toList.map keyOf) (m := es2.toList.map keyOf) nd fun x hx => (hm2 x).mp (sub x ((hm x).mpr hx))
  rw [List.length_map, List.length_map, Array.length_toList, Array.length_toList, hn, hn2] at z
  exact z
/-- set(xs) -/
def rSetOf (X : Cx) : List V → Hp → VK → Prop := fun xs H Q => ∃ (l : Addr) (ns : List Int), xs = [.ref l] ∧ SqL X.K H l (ns.map V.int) ∧ ns.length ≤ 4000 ∧ ∀ p c, c ≤ ns.length → H p = none → Q (.ref p) (upd H p (SetO X.w p (fun j => decide (j ∈ ns)) c))
theorem cr_setOf (hc : X.calm = true) : CallR X (.type "set") (rSetOf X) := by
  intro pins s σ H vs us Q I r h
  obtain ⟨l, ns, rfl, hs, hl, q⟩ := h
  obtain ⟨its, rv, pl, _⟩ := I.list hs
  rw [Vals.ref1 r]
  refine set_list (its := its.toArray) ns (I.ok.hd hc) pl.isList rv.ints (by show ns.length + 1 < 4096; omega) fun g' tk c R hc' k => ?_
  exact ⟨.ref s.heap.objs.size, _, I.laid (t' := tk) k (Nat.le_refl _) (setO_new R), rfl, q _ c hc' (I.hok.fresh (Nat.le_refl _))⟩
/-- a - b, all of a's being b's: a new empty set -/
def rSubN (w : World) : R2 := fun x y H Q => ∃ (a b : Addr) (S T : Int → Bool) (n m : Nat), x = .ref a ∧ y = .ref b ∧ H a = some (SetO w a S n) ∧ H b = some (SetO w b T m) ∧ (∀ k, S k = true → T k = true) ∧ ∀ p, H p = none → Q (.ref p) (upd H p (SetO w p (fun _ => false) 0))
theorem op_subN : OpR X (binaryOp .Sub) (rSubN X.w) := by
  intro pins s σ H x y v u Q I rx ry h
  obtain ⟨a, b, S, T, n, m, rfl, rfl, ha, hb, sub, q⟩ := h
  cases rx
  cases ry
  have R1 := setO_get I ha
  have R2 := setO_get I hb
  refine sub_none R1 R2 sub (setR_le R1 R2 sub) fun h' k R => ?_
  exact ⟨.ref s.heap.objs.size, _, I.laid (t' := s.toks) k (Nat.le_refl _) (setO_new R), rfl, q _ (I.hok.fresh (Nat.le_refl _))⟩
/-- len(s) -/
theorem cr_lenS : CallR X (.builtin "len") (fun xs H Q => ∃ (a : Addr) (S : Int → Bool) (n : Nat), xs = [.ref a] ∧ H a = some (SetO X.w a S n) ∧ Q (.int n) H) := by
  intro pins s σ H vs us Q I r h
  obtain ⟨a, S, n, rfl, ha, q⟩ := h
  rw [Vals.ref1 r]
  obtain ⟨o, es, ep, t, ho, hx, hd, g, nd, hm, hb, hf, hn, _⟩ := setO_get I ha
  have e : scanBound = 4096 := rfl
  refine call_len_set ho hx hd hf (by rw [e] at hb; omega) ?_
  rw [hn]
  exact ⟨.int n, H, I.tok _, ⟨_, rfl⟩, q⟩
/-- max(xs, default=k) -/
def rMaxD (K : PySem.W.Frag) : List V → List V → Hp → VK → Prop := fun xs zs H Q => ∃ (a : Addr) (ns : List Int) (k : Int), xs = [.ref a] ∧ SqL K H a (ns.map V.int) ∧ zs = [.int k] ∧ ∀ M, (ns = [] → M = k) → (∀ y ∈ ns, y ≤ M) → Q (.int M) H
theorem fold_max (n : Int) : ∀ (ns : List Int), n ≤ ns.foldl max n ∧ ∀ y ∈ ns, y ≤ ns.foldl max n := by
  intro ns
  induction ns generalizing n with
  | nil => exact ⟨Int.le_refl _, fun _ h => nomatch h⟩
  | cons k r ih =>
    rw [List.foldl_cons]
    obtain ⟨h1, h2⟩ := ih (max n k)
    refine ⟨Int.le_trans (Int.le_max_left _ _) h1, fun y hy => ?_⟩
    rcases List.mem_cons.mp hy with rfl | hy
    · exact Int.le_trans (Int.le_max_right _ _) h1
    · exact h2 y hy
theorem alike_ints (ns : List Int) : PySem.W.AlikeAll (ns.map PyData.int) := by
  constructor
  · intro x hx y hy
    obtain ⟨i, _, rfl⟩ := List.mem_map.mp hx
    obtain ⟨j, _, rfl⟩ := List.mem_map.mp hy
    rfl
  · intro x hx
    obtain ⟨i, _, rfl⟩ := List.mem_map.mp hx
    exact fun z => nomatch z
theorem cr_maxD (hc : X.calm = true) (hu : X.A.units + 3 < cLine) : CallRK X (.builtin "max") ["default"] (rMaxD X.K) := by
  intro pins s σ H xs zs us ws Q I r rz h
  obtain ⟨a, ns, k, rfl, hs, rfl, q⟩ := h
  obtain ⟨its, rv, pl, _⟩ := I.list hs
  rw [Vals.ref1 r]
  obtain ⟨u, rfl, tk0, rfl⟩ := vals1 rz
  have dpi : ∀ ns : List Int, DpAll X.K H (ns.map V.int) (ns.map PyData.int) := fun ns => by
    induction ns with
    | nil => exact .nil
    | cons n r ih => exact .cons (.int n) ih
  have dpt : ∀ ns : List Int, PyData.depthAll (ns.map PyData.int) ≤ 1 := fun ns => by
    induction ns with
    | nil => exact Nat.zero_le _
    | cons n r ih =>
      rw [List.map_cons]
      unfold PyData.depthAll PyData.depth
      omega
  obtain ⟨as, hr⟩ := Dp.readsAll I _ _ _ (dpi ns) rv
  have hd := dpt ns
  refine PySem.W.max_list_default (vs := its.toArray) (I.ok.hd hc) pl.isList (by rw [List.toList_toArray]; exact hr) (alike_ints ns) (by omega) (fun e h' tk k' => ?_) (fun y ys i v h' tk bs e _ rd k' => ?_)
  · exact ⟨.int k, H, I.kept k', ⟨_, rfl⟩, q k (fun _ => rfl) fun y hy => by rw [List.map_eq_nil_iff.mp e] at hy; cases hy⟩
  · cases ns with
    | nil => cases e
    | cons n r =>
      rw [List.map_cons] at e
      injection e with e1 e2
      subst e1 e2
      rw [PySem.W.maxD_ints] at rd
      cases rd with
      | int i t =>
        obtain ⟨f1, f2⟩ := fold_max n r
        refine ⟨.int (r.foldl max n), H, I.kept k', ⟨t, rfl⟩, q _ (fun z => nomatch z) fun y hy => ?_⟩
        rcases List.mem_cons.mp hy with rfl | hy
        · exact f1
        · exact f2 y hy
end
end Cw
namespace Cw
open PySem PySem.Spec PyProof.Rows PySem.SeqAt L2
/-! ## != by an own __eq__ -/
section
variable {M : Model} {prog : Program} {w : World} {A : Around} {E : Value → Shared → Prop} {s : Shared} {K : PySem.W.Frag} {x y f C : Addr} {ox oy : Obj} {od oe : Option Obj}
theorem objNe_entry (X : K.In s.heap) (I : PySem.W.InstAt s.heap x ox C od) (hs : PySem.W.findIn K (.ref C) "__eq__" = some (some (.ref f))) (hf : PySem.W.isFn K (.ref f) = true) (hu : A.units < cLine) {Q : Fin → Shared → Prop}
    (hcall : wpAny (model prog w) A (call (.ref f) [.ref x, .ref y]) (fun v s' => ∃ b, v = .bool b ∧ Q (.done (.ret (.bool (!b)))) s') E s) :
    wpAny (model prog w) A (Builtin.«object.__ne__» ⟨[.ref x, .ref y], []⟩) Q E s := by
  unfold Builtin.«object.__ne__»
  repeat (first
    | with_reducible refine wpAny_cRoomFor hu ?_
    | (refine wpAny_bind (m := callSpecialIfBound? (.ref x) (Str.ofString "__eq__") [.ref y])
        (PySem.W.ifBound_K X I hs hf (wpAny_mono hcall (fun r s' hr => by
          obtain ⟨b, rfl, hq⟩ := hr
          repeat (first | exact hq | exact wpAny_pure hq | exact wpAny_truthy_bool hq | (refine wpAny_bind (m := truthy (.bool _)) (wpAny_truthy_bool ?_)) | wp_step)) fun _ _ e => e)))
    | wp_step)
theorem ifBound_objNe {args : List Value} {Q : Option Value → Shared → Prop} (X : K.In s.heap) (I : PySem.W.InstAt s.heap x ox C od) (hs : PySem.W.findIn K (.ref C) "__ne__" = some (some (.builtin "object.__ne__")))
    (h : wpAny M A (call (.builtin "object.__ne__") (.ref x :: args)) (fun v => Q (some v)) E s) : wpAny M A (callSpecialIfBound? (.ref x) "__ne__" args) Q E s := by
  simp only [callSpecialIfBound?, bindSpecialIfBound?]
  refine wpAny_holding (wpAny_bind (wpAny_bind (wpAny_bind (I.type.here ((PySem.W.looks_findIn X hs).here ?_)))))
  refine wpAny_bind (wpAny_askSetting (wpAny_ite ?_))
  have fin : wpAny M A (call (.builtin "object.__ne__") ([.ref x] ++ args) >>= fun v => pure (some v)) Q E s := wpAny_bind (wpAny_mono h (fun v s' h' => wpAny_pure h') fun _ _ h' => h')
  split
  · exact wpAny_bind (wpAny_of_eq (F.cmp_object.ne.bind _) (wpAny_pure (by exact fin)))
  · exact wpAny_tryCatch (wpAny_bind (wpAny_of_eq (F.cmp_object.ne.bind _) (wpAny_pure (by exact fin))))
theorem rc_ne (hu : A.units + 1 < cLine) (X : K.In s.heap) (I : PySem.W.InstAt s.heap x ox C od) (J : PySem.W.InstAt s.heap y oy C oe) (hm : PySem.W.mroIn K C (.type "object") = some true) (hn : PySem.W.findIn K (.ref C) "__ne__" = some (some (.builtin "object.__ne__")))
    (hs : PySem.W.findIn K (.ref C) "__eq__" = some (some (.ref f))) (hf : PySem.W.isFn K (.ref f) = true) {Q : Value → Shared → Prop}
    (hcall : wpAny (model prog w) A.in1 (call (.ref f) [.ref x, .ref y]) (fun v s' => ∃ b, v = .bool b ∧ Q (.bool (!b)) s') E s) :
    wpAny (model prog w) A (richCompare .NotEq (.ref x) (.ref y)) Q E s := by
  have one : wpAny (model prog w) A (tryCompare (.ref x) "__ne__" (.ref y)) (fun r s' => ∃ b, r = some (.bool b) ∧ Q (.bool b) s') E s := by
    unfold tryCompare
    refine wpAny_bind (ifBound_objNe X I hn (wpAny_call (codeAny_call_builtin F.cmp_object.ne.plain F.cmpEntry_ne (PySem.W.check_slot F.cmpKind_ne F.cmpSplit_ne (I.type.andThen (PySem.W.looks_mroIn X hm)) (F.cmpArgs_ne _ _)
      (objNe_entry (A := A.in1) X I hs hf (by exact hu) (wpAny_mono hcall (fun v s' hv => ?_) fun _ _ e => e))))))
    obtain ⟨b, rfl, hq⟩ := hv
    first | exact ⟨b, rfl, wpAny_pure ⟨_, rfl, hq⟩⟩ | exact ⟨b, rfl, wpAny_pure (wpAny_pure ⟨_, rfl, hq⟩)⟩
  unfold richCompare
  simp only [oneThing_ref]
  refine wpAny_holding (wpAny_bind (wpAny_cRoomFor (Nat.lt_of_succ_lt hu) ?_))
  rw [cmpInfo_NotEq]
  dsimp only
  refine wpAny_bind (I.type.here (wpAny_bind (J.type.here ?_)))
  rw [show (Value.ref C != Value.ref C) = false from by simp]
  simp only [Bool.false_eq_true, if_false]
  refine wpAny_bind (wpAny_pure ?_)
  simp only [Bool.false_eq_true, if_false]
  refine wpAny_bind (wpAny_mono one (fun v s' hv => ?_) fun _ _ e => e)
  obtain ⟨b, rfl, hq⟩ := hv
  first | exact wpAny_pure hq | exact wpAny_pure (wpAny_pure hq)
end
/-- x != y, equal by the own == -/
def rNeG (D : Eqv) : R2 := fun x y H Q => D x y H ∧ ∀ H', Ext H H' → Q (.bl false) H'
section
variable {X : Cx} {n : Nat}
theorem op_neG {CX : CXT} {C f : Addr} {fd : FuncData} {ps : List Str} {R : Addr → Addr → Hp → Prop} {E : XK} (F : FnOk X.prog X.w X.K X.mg X.base CX n f fd ps (spEq R))
    (hm : PySem.W.mroIn X.K C (.type "object") = some true) (hn : PySem.W.findIn X.K (.ref C) "__ne__" = some (some (.builtin "object.__ne__")))
    (hs : PySem.W.findIn X.K (.ref C) "__eq__" = some (some (.ref f))) (hf : PySem.W.isFn X.K (.ref f) = true) (hb : Binds X.K fd ps []) (hx : Passes CX X E) (hr : Room (n + 1) X.A) : OpR X (compareOp .NotEq) (rNeG (DIns C R)) := by
  intro pins s σ H x y u v Q I rx ry hq
  obtain ⟨⟨a, b, dx, dy, fs, gs, rfl, rfl, ha, hb', hR⟩, q⟩ := hq
  cases rx
  cases ry
  obtain ⟨mA, J, _⟩ := ins_get I.hok ha
  obtain ⟨mB, J', _⟩ := ins_get I.hok hb'
  obtain ⟨od, J, _⟩ := J.look
  obtain ⟨od', J', _⟩ := J'.look
  show wpAny (model X.prog X.w) X.A (richCompare .NotEq (.ref a) (.ref b)) (EP X pins σ Q) X.xe s
  refine rc_ne (hr.mono (Nat.succ_le_succ (Nat.zero_le n)) |>.in1.units0) I.kIn J J' hm hn hs hf ?_
  have hsp : spEq R [.ref a, .ref b] H (fun v H' => v = .bl true ∧ Ext H H') E := ⟨a, b, rfl, hR, fun H' e => ⟨rfl, e⟩⟩
  have hl := F.len _ _ _ _ hsp
  have r2 : Vals [V.ref a, V.ref b] [Value.ref a, Value.ref b] := .cons rfl (.cons rfl .nil)
  have e0 : Env0 X.prog X.w X.K X.mg X.base X.A.in1 X.stack s H := I.env0.in1
  refine wpAny_call (codeAny_mono (F.run X.A.in1 X.stack s H ⟨[.ref a, .ref b], []⟩ [.ref a, .ref b] [.ref a, .ref b] _ E hr.in1 e0 (by
    have := hb s [.ref a, .ref b] I.kIn (by simpa using hl)
    simpa using this) r2 hsp) fun r s' hq => ?_)
  cases r with
  | error e => exact hx pins σ H s e s' I hq
  | ok fl =>
    cases fl with
    | ret w =>
      obtain ⟨z, H', I', rz, ez, ex⟩ := I.after hq
      subst ez
      cases rz
      exact ⟨true, rfl, .bl false, H', I', rfl, q H' ex⟩
    | next => exact False.elim hq
    | brk => exact False.elim hq
    | cont => exact False.elim hq
end
end Cw
namespace Cw
open PySem L2
def top (i : Nat) : Stmt := PySem.Challenge.pw_cutwalks_k34_whole_marks_out_of_sight.main.body.getD i (.Pass ⟨0, 0, 0, 0⟩)
abbrev sIsInt : Stmt := top 10
abbrev sPlaces : Stmt := top 11
abbrev sAsc : Stmt := top 12
abbrev sMarks : Stmt := top 13
abbrev sSome : Stmt := top 14
abbrev sChange : Stmt := top 0
abbrev sRepl : Stmt := top 0
abbrev sRow : Stmt := top 28
theorem ifT {c : Bool} {A B : Prop} (h : c = true) (x : A) : if c = true then A else B := by
  rw [if_pos h]
  exact x
theorem ifF {c : Bool} {A B : Prop} (h : c = false) (x : B) : if c = true then A else B := by
  rw [h, if_neg Bool.false_ne_true]
  exact x
theorem same_new {H H1 : Hp} {p : Addr} {o : HO} (s : Same H H1) (h : H1 p = none) : Same H (upd H1 p o) := fun b u e => by
  rw [upd_ne (ne_of_none (s b u e) h)]
  exact s b u e
/-- what stands at D is replaced, D being new since H -/
theorem same_put {H H1 : Hp} {p : Addr} {o : HO} (s : Same H H1) (h : H p = none) : Same H (upd H1 p o) := fun b u e => by
  rw [upd_ne (ne_of_none e h)]
  exact s b u e
theorem all_true (n : Nat) : (List.replicate n true).all id = true := by
  induction n with
  | zero => rfl
  | succ n ih => rw [List.replicate_succ, List.all_cons, ih]; rfl
abbrev Asc (ns : List Int) : Prop := ns.Pairwise (· < ·)
/-- a list of ints stands at a -/
abbrev IL (H : Hp) (a : Addr) (ns : List Int) : Prop := H a = some (.lst (ns.map V.int))
theorem il_at {ns : List Int} {i : Nat} {x : V} (h : (ns.map V.int)[i]? = some x) : ∃ z, x = V.int z ∧ ns[i]? = some z := by
  rw [List.getElem?_map] at h
  cases e : ns[i]? with
  | none => rw [e] at h; cases h
  | some z => rw [e] at h; exact ⟨z, (Option.some.inj h).symm, rfl⟩
/-- what the names of the built-ins hold -/
structure Bl (mg : Str → Option Value) : Prop where
  int : mg "int" = none
  bool : mg "bool" = none
  list : mg "list" = none
  tuple : mg "tuple" = none
  range : mg "range" = none
  len : mg "len" = none
  abs : mg "abs" = none
  all : mg "all" = none
  isi : mg "isinstance" = none
  zip : mg "zip" = none
  max : mg "max" = none
  min : mg "min" = none
  set : mg "set" = none
  sorted : mg "sorted" = none
  dict : mg "dict" = none
def spOne : Sp := fun vs H Q _ => ∃ i : Int, vs = [.int i] ∧ Q (.bl true) H
/-- places from low to high -/
def spPlaces : Sp := fun vs H Q _ => ∃ (a : Addr) (ns : List Int) (lo hi : Int), vs = [.ref a, .int lo, .int hi] ∧ IL H a ns ∧ ns.length ≤ 1000 ∧ (∀ x ∈ ns, lo ≤ x ∧ x ≤ hi) ∧ ∀ H', Same H H' → Q (.bl true) H'
def spAsc : Sp := fun vs H Q _ => ∃ (a : Addr) (ns : List Int) (lo hi : Int), vs = [.ref a, .int lo, .int hi] ∧ IL H a ns ∧ ns.length ≤ 1000 ∧ (∀ x ∈ ns, lo ≤ x ∧ x ≤ hi) ∧ Asc ns ∧ ∀ H', Same H H' → Q (.bl true) H'
def spMarks : Sp := fun vs H Q _ => ∃ (a : Addr) (ns : List Int) (hi : Int), vs = [.ref a, .int hi] ∧ IL H a ns ∧ ns.length ≤ 400 ∧ (∀ x ∈ ns, 1 ≤ x ∧ x ≤ hi) ∧ Asc ns ∧ ∀ H', Same H H' → Q (.bl true) H'
def spSome : Sp := fun vs H Q _ => ∃ (a b : Addr) (ns ms : List Int), vs = [.ref a, .ref b] ∧ IL H a ns ∧ IL H b ms ∧ ns.length ≤ 400 ∧ ms.length ≤ 400 ∧ Asc ns ∧ (∀ x ∈ ns, 1 ≤ x) ∧ (∀ x ∈ ns, x ∈ ms) ∧ ∀ H', Same H H' → Q (.bl true) H'
section
variable {P : Program} {w : World} {K : PySem.W.Frag} {mg : Str → Option Value} {base : Heap}
theorem scI : FnScope ["thing"] ["thing"] (defScope sIsInt) := ⟨rfl, rfl, rfl, by decide +kernel, rfl, by decide +kernel, by decide +kernel⟩
theorem ok_int {f : Addr} {fd : FuncData} (F : Fun K "is_integer" "is_integer" sIsInt f fd) (T : Bl mg) : FnOk P w K mg base CX0 1 f fd ["thing"] spOne := by
  refine F.ok scI (fun vs H Q E h => ?_) (fun cdv A outer s H vs Q E hr h => ?_)
  · obtain ⟨i, rfl, _⟩ := h
    rfl
  · obtain ⟨i, rfl, k⟩ := h
    refine ⟨_, pss_one (ps_ret (pe_and (pe_callB call_isi (by rfl) T.isi (by decide +kernel) (pa_cons (pv 0) (pa_cons (pe_bltn (by rfl) T.int (by decide +kernel) (v := V.ty "int") rfl) pa_nil)))
      (pe_one (pe_not (pe_callB call_isi (by rfl) T.isi (by decide +kernel) (pa_cons (pv 0) (pa_cons (pe_bltn (by rfl) T.bool (by decide +kernel) (v := V.ty "bool") rfl) pa_nil))))))), ?_⟩
    refine ⟨_, rfl, _, _, _, _, true, rfl, ClsV.ty _, .base (.int i), kit_ty (by decide +kernel), _, rfl, ?_⟩
    refine ifT rfl ?_
    refine ⟨_, rfl, _, _, _, _, false, rfl, ClsV.ty _, .base (.int i), kit_ty (by decide +kernel), _, rfl, ?_⟩
    exact k
theorem scP : FnScope ["thing", "low", "high", "place"] ["thing", "low", "high"] (defScope sPlaces) := ⟨rfl, rfl, rfl, by decide +kernel, rfl, by decide +kernel, by decide +kernel⟩
theorem ok_places {f fI : Addr} {fd fdI : FuncData} (F : Fun K "are_places" "are_places" sPlaces f fd) (T : Bl mg) (gI : mg "is_integer" = some (.ref fI)) (kI : PySem.W.keepIn K (.ref fI) = true) (bI : Binds K fdI ["thing"] []) (GI : FnOk P w K mg base CX0 1 fI fdI ["thing"] spOne) :
    FnOk P w K mg base CX0 2 f fd ["thing", "low", "high"] spPlaces := by
  refine F.ok scP (fun vs H Q E h => ?_) (fun cdv A outer s H vs Q E hr h => ?_)
  · obtain ⟨a, ns, lo, hi, rfl, _⟩ := h
    rfl
  · obtain ⟨a, ns, lo, hi, rfl, hS, hl, hb, k⟩ := h
    refine ⟨_, pss_cons (ps_if (pt_not (pt_val (pe_callB call_isi (by rfl) T.isi (by decide +kernel) (pa_cons (pv 0) (pa_cons (pe_bltn (by rfl) T.list (by decide +kernel) (v := V.ty "list") rfl) pa_nil))))) (pss_one (ps_ret pe_bl)) pss_nil)
      (pss_one (ps_ret (pe_callB (cr_all rfl) (by rfl) T.all (by decide +kernel) (pa_cons (pe_lc (own := [("place", 3)]) (g := gName 3) (tt := tYes) rfl scP.nd
        (pi_list (pv 0)) (blkOk_by (own := [("place", 3)]) (N := ["thing", "low", "high", "place"]) (sc := defScope sPlaces) (by decide +kernel)) (fun _ _ _ _ _ => pg_name (i := 3) scP.nd rfl (Or.inl rfl)) (fun _ _ _ _ _ => pts_nil)
        (fun _ _ _ _ _ => pe_and (pe_call GI hr rfl gI kI bI .nil pass0 (pa_cons (pv 3) pa_nil)) (pe_one (pe_chain op_le op_le (pv 1) (pv 3) (pv 2))))) pa_nil)))), ?_⟩
    refine ⟨_, rfl, _, _, _, _, true, rfl, ClsV.ty _, .base (.lst hS), kit_ty (by decide +kernel), _, rfl, ?_⟩
    refine ifF rfl ?_
    refine ⟨_, rfl, a, rfl, ⟨_, SqL.of hS⟩, fun D hD => ?_⟩
    refine lc_list (K := K) (a := a) (xs := ns.map V.int) (fun i H' => Same H H' ∧ H' D = some (.lst (List.replicate i (V.bl true)))) ⟨same_new (Same.refl H) hD, upd_same⟩ (fun i H' _ q => SqL.of (q.1 _ _ hS)) ?_ ?_
    · rintro i x H' hx ⟨s1, hD'⟩
      obtain ⟨z, rfl, hz⟩ := il_at hx
      have hil : i < ns.length := (List.getElem?_eq_some_iff.mp hz).1
      obtain ⟨b1, b2⟩ := hb z (List.mem_of_getElem? hz)
      refine ⟨rfl, ?_⟩
      unfold tYes
      refine iteT ?_
      refine ⟨_, rfl, _, rfl, _, rfl, ?_⟩
      refine ifT rfl ?_
      refine ⟨_, rfl, _, rfl, _, _, rfl, rfl, _, rfl, ?_⟩
      refine ifT (by simp [b1]) ?_
      refine ⟨_, rfl, _, _, rfl, rfl, ?_⟩
      refine ⟨_, hD', by rw [List.length_replicate]; exact small1000 (by omega), same_put s1 hD, ?_⟩
      rw [upd_same, List.replicate_succ']
      simp [b2]
    · rintro H' ⟨s1, hD'⟩
      refine ⟨D, List.replicate ns.length true, rfl, SqL.of (by rw [hD', List.map_replicate, List.length_map]), ?_⟩
      rw [all_true]
      exact k _ s1
end
end Cw
namespace Cw
open PySem L2
theorem cut_one (xs : List V) : cutV xs (some 1) none = xs.drop 1 := by
  unfold cutV
  have e1 : HT.sIx xs.length 0 (some 1) = min 1 xs.length := HT.sIx_nat xs.length 0 1
  rw [e1, HT.sIx_none]
  cases xs with
  | nil => rfl
  | cons x r =>
    have e2 : min 1 (x :: r).length = 1 := by
      rw [List.length_cons]
      omega
    rw [e2, List.drop_succ_cons, List.drop_zero, List.length_cons, Nat.add_sub_cancel]
    exact List.take_length
section
variable {P : Program} {w : World} {K : PySem.W.Frag} {mg : Str → Option Value} {base : Heap}
abbrev NA : List Str := ["thing", "low", "high", "before", "place"]
theorem scA : FnScope NA ["thing", "low", "high"] (defScope sAsc) := ⟨rfl, rfl, rfl, by decide +kernel, rfl, by decide +kernel, by decide +kernel⟩
theorem ok_asc {f fP : Addr} {fd fdP : FuncData} (F : Fun K "are_ascending" "are_ascending" sAsc f fd) (T : Bl mg) (gP : mg "are_places" = some (.ref fP)) (kP : PySem.W.keepIn K (.ref fP) = true) (bP : Binds K fdP ["thing", "low", "high"] []) (GP : FnOk P w K mg base CX0 2 fP fdP ["thing", "low", "high"] spPlaces) :
    FnOk P w K mg base CX0 3 f fd ["thing", "low", "high"] spAsc := by
  refine F.ok scA (fun vs H Q E h => ?_) (fun cdv A outer s H vs Q E hr h => ?_)
  · obtain ⟨a, ns, lo, hi, rfl, _⟩ := h
    rfl
  · obtain ⟨a, ns, lo, hi, rfl, hS, hl, hb, ha, k⟩ := h
    refine ⟨_, pss_cons (ps_if (pt_not (pt_val (pe_call GP hr rfl gP kP bP .nil pass0 (pa_cons (pv 0) (pa_cons (pv 1) (pa_cons (pv 2) pa_nil)))))) (pss_one (ps_ret pe_bl)) pss_nil)
      (pss_one (ps_ret (pe_callB (cr_all rfl) (by rfl) T.all (by decide +kernel) (pa_cons (pe_lc (own := [("before", 3), ("place", 4)]) (g := gTup K 2 (gCons (gName 3) (gCons (gName 4) gNil))) (tt := tYes) rfl scA.nd
        (pi_zip (by rfl) T.zip (pa_cons (pv 0) (pa_cons (pe_slice sl_list (pv 0) (po_some pe_int) po_none) pa_nil))) (blkOk_by (own := [("before", 3), ("place", 4)]) (N := NA) (sc := defScope sAsc) (by decide +kernel))
        (fun _ _ _ _ _ => pg_tup rfl (pgs_cons (pg_name (i := 3) scA.nd rfl (Or.inl rfl)) (pgs_cons (pg_name (i := 4) scA.nd rfl (Or.inl rfl)) pgs_nil))) (fun _ _ _ _ _ => pts_nil)
        (fun _ _ _ _ _ => pe_cmpR op_lt (pv 3) (pv 4) (nomark _))) pa_nil)))), ?_⟩
    refine ⟨_, rfl, _, rfl, _, rfl, a, ns, lo, hi, rfl, hS, hl, hb, fun H1 s1 => ⟨_, rfl, ?_⟩⟩
    refine ifF rfl ?_
    refine ⟨_, rfl, _, rfl, 1, rfl, a, _, rfl, SqL.of (s1 _ _ hS), fun c nc => ?_⟩
    have s2 := same_new (o := .lst (cutV (ns.map V.int) (some 1) none)) s1 nc
    rw [cut_one] at s2
    rw [cut_one]
    refine ⟨a, c, _, _, rfl, SqL.of (s2 _ _ hS), SqL.of upd_same, fun D hD => ?_⟩
    have nc' : H c = none := s1.free nc
    have ncD : c ≠ D := ne_of_none upd_same hD
    have hn : ns.length - 1 = min (ns.map V.int).length ((ns.map V.int).drop 1).length := by
      rw [List.length_drop, List.length_map]
      omega
    refine lc_it (walk_zip hn) (fun i H' => Same H H' ∧ H' c = some (.lst ((ns.map V.int).drop 1)) ∧ H' D = some (.lst (List.replicate i (V.bl true)))) ⟨same_new s2 hD, by rw [upd_ne ncD]; exact upd_same, upd_same⟩ (fun i H' _ q => ⟨SqL.of (q.1 _ _ hS), SqL.of q.2.1⟩) ?_ ?_
    · rintro i x H' H'' hi ⟨s3, hc, hD'⟩ ⟨t, x1, x2, rfl, nt, rfl, e1, e2⟩
      have h1 : i < ns.length := by omega
      have h2 : i + 1 < ns.length := by omega
      have g1 : x1 = .int ns[i] := by
        dsimp only at e1
        rw [List.getElem?_map, List.getElem?_eq_getElem h1] at e1
        exact (Option.some.inj e1).symm
      have g2 : x2 = .int ns[i + 1] := by
        dsimp only at e2
        rw [List.getElem?_drop, List.getElem?_map, Nat.add_comm 1 i, List.getElem?_eq_getElem h2] at e2
        exact (Option.some.inj e2).symm
      subst g1 g2
      have hlt : ns[i] < ns[i + 1] := List.pairwise_iff_getElem.mp ha i (i + 1) h1 h2 (Nat.lt_succ_self i)
      have ntc : c ≠ t := ne_of_none hc nt
      have ntD : D ≠ t := ne_of_none hD' nt
      refine ⟨t, _, rfl, SqT.of upd_same, rfl, _, _, rfl, _, _, rfl, rfl, rfl, ?_⟩
      unfold tYes
      refine iteT ?_
      refine ⟨_, rfl, _, rfl, _, _, rfl, rfl, ?_⟩
      refine ⟨_, (by rw [upd_ne ntD]; exact hD'), by rw [List.length_replicate]; exact small1000 (by omega), same_put (same_new s3 nt) (s2.trans (Same.refl _) |>.free hD), ?_, ?_⟩
      · rw [upd_ne ncD, upd_ne ntc]
        exact hc
      · rw [upd_same, List.replicate_succ']
        simp [hlt]
    · rintro H' ⟨s3, hc, hD'⟩
      refine ⟨D, List.replicate (ns.length - 1) true, rfl, SqL.of (by rw [hD', List.map_replicate]), ?_⟩
      rw [all_true]
      exact k _ s3
theorem scM : FnScope ["thing", "high"] ["thing", "high"] (defScope sMarks) := ⟨rfl, rfl, rfl, by decide +kernel, rfl, by decide +kernel, by decide +kernel⟩
theorem ok_marks {f fA : Addr} {fd fdA : FuncData} {t : Tok} (F : Fun K "are_marks" "are_marks" sMarks f fd) (T : Bl mg) (gN : mg "MOST_MARKS" = some (.int 400 t)) (gA : mg "are_ascending" = some (.ref fA)) (kA : PySem.W.keepIn K (.ref fA) = true) (bA : Binds K fdA ["thing", "low", "high"] []) (GA : FnOk P w K mg base CX0 3 fA fdA ["thing", "low", "high"] spAsc) :
    FnOk P w K mg base CX0 4 f fd ["thing", "high"] spMarks := by
  refine F.ok scM (fun vs H Q E h => ?_) (fun cdv A outer s H vs Q E hr h => ?_)
  · obtain ⟨a, ns, hi, rfl, _⟩ := h
    rfl
  · obtain ⟨a, ns, hi, rfl, hS, hl, hb, ha, k⟩ := h
    refine ⟨_, pss_one (ps_ret (pe_and (pe_call GA hr rfl gA kA bA .nil pass0 (pa_cons (pv 0) (pa_cons pe_int (pa_cons (pv 1) pa_nil))))
      (pe_one (pe_cmpR op_le (pe_callB call_len_seq (by rfl) T.len PySem.boot_len (pa_cons (pv 0) pa_nil)) (pe_glob rfl gN (v := V.int 400) ⟨_, rfl⟩) (nomark _))))), ?_⟩
    refine ⟨_, rfl, _, rfl, a, ns, 1, hi, rfl, hS, by omega, hb, ha, fun H1 s1 => ⟨_, rfl, ?_⟩⟩
    refine ifT rfl ?_
    refine ⟨_, rfl, a, _, rfl, .inl (SqL.of (s1 _ _ hS)), _, _, rfl, rfl, ?_⟩
    have e : decide (((ns.map V.int).length : Int) ≤ 400) = true := by
      rw [List.length_map]
      exact decide_eq_true (by omega)
    have z := k _ s1
    rw [← e] at z
    exact z
theorem scSo : FnScope ["thing", "marks"] ["thing", "marks"] (defScope sSome) := ⟨rfl, rfl, rfl, by decide +kernel, rfl, by decide +kernel, by decide +kernel⟩
theorem ok_some {f fA : Addr} {fd fdA : FuncData} (F : Fun K "are_some_of" "are_some_of" sSome f fd) (T : Bl mg) (gA : mg "are_ascending" = some (.ref fA)) (kA : PySem.W.keepIn K (.ref fA) = true) (bA : Binds K fdA ["thing", "low", "high"] []) (GA : FnOk P w K mg base CX0 3 fA fdA ["thing", "low", "high"] spAsc) :
    FnOk P w K mg base CX0 4 f fd ["thing", "marks"] spSome := by
  refine F.ok scSo (fun vs H Q E h => ?_) (fun cdv A outer s H vs Q E hr h => ?_)
  · obtain ⟨a, b, ns, ms, rfl, _⟩ := h
    rfl
  · obtain ⟨a, b, ns, ms, rfl, hS, hM, hl, hm, ha, h1, hsub, k⟩ := h
    have hu := hr.units
    refine ⟨_, pss_cons (ps_if (pt_not (pt_val (pe_call GA hr rfl gA kA bA .nil pass0 (pa_cons (pv 0) (pa_cons pe_int (pa_cons (pe_callBK (cr_maxD rfl (Nat.lt_of_le_of_lt (Nat.add_le_add_left (by decide : 3 ≤ 64) _) hu)) (by rfl) T.max (by decide +kernel) (pa_cons (pv 1) pa_nil) (pk_cons pe_int pk_nil)) pa_nil)))))) (pss_one (ps_ret pe_bl)) pss_nil)
      (pss_one (ps_ret (pe_cmpR op_eq (pe_callB cr_lenS (by rfl) T.len PySem.boot_len (pa_cons (pe_op op_subN (pe_callTy (cr_setOf rfl) (by rfl) T.set (by decide +kernel) (pa_cons (pv 0) pa_nil)) (pe_callTy (cr_setOf rfl) (by rfl) T.set (by decide +kernel) (pa_cons (pv 1) pa_nil))) pa_nil)) pe_int (nomark _)))), ?_⟩
    refine ⟨_, rfl, _, rfl, b, ms, 0, rfl, SqL.of hM, rfl, fun M _ hM2 => ?_⟩
    refine ⟨a, ns, 0, M, rfl, hS, by omega, fun x hx => ⟨Int.le_trans (by decide) (h1 x hx), hM2 x (hsub x hx)⟩, ha, fun H1 s1 => ⟨_, rfl, ?_⟩⟩
    refine ifF rfl ?_
    refine ⟨_, rfl, a, ns, rfl, SqL.of (s1 _ _ hS), by omega, fun p c _ hp => ?_⟩
    have s2 := same_new (o := SetO w p (fun j => decide (j ∈ ns)) c) s1 hp
    refine ⟨_, rfl, b, ms, rfl, SqL.of (s2 _ _ hM), by omega, fun p2 c2 _ hp2 => ?_⟩
    have s3 := same_new (o := SetO w p2 (fun j => decide (j ∈ ms)) c2) s2 hp2
    have n12 : p ≠ p2 := ne_of_none upd_same hp2
    refine ⟨p, p2, _, _, _, _, rfl, rfl, by rw [upd_ne n12]; exact upd_same, upd_same, fun j hj => decide_eq_true (hsub j (of_decide_eq_true hj)), fun p3 hp3 => ?_⟩
    refine ⟨p3, _, 0, rfl, upd_same, rfl, ?_⟩
    have e : decide (V.int ((0 : Nat) : Int) = V.int 0) = true := by simp
    have z := k _ (same_new (o := SetO w p3 (fun _ => false) 0) s3 hp3)
    rw [← e] at z
    exact z
end
end Cw
namespace Cw
open PySem L2
abbrev sInit : Stmt := inClass sRow 0
abbrev sGetM : Stmt := inClass sRow 2
abbrev sEq : Stmt := inClass sRow 6
abbrev sChanged : Stmt := inClass sRow 11
theorem k12 : ¬ (("_length" : Str) = "_marks") := by decide +kernel
theorem k13 : ¬ (("_length" : Str) = "_strict") := by decide +kernel
theorem k23 : ¬ (("_marks" : Str) = "_strict") := by decide +kernel
def flds (n : Int) (l1 l2 : Addr) : List (Str × V) := putF "_strict" (.ref l2) (putF "_marks" (.ref l1) (putF "_length" (.int n) []))
theorem flds_eq (n : Int) (l1 l2 : Addr) : flds n l1 l2 = ([("_length", V.int n), ("_marks", V.ref l1), ("_strict", V.ref l2)] : List (Str × V)) := by
  unfold flds
  rw [show putF "_length" (V.int n) [] = ([("_length", V.int n)] : List (Str × V)) from rfl]
  rw [show putF "_marks" (V.ref l1) ([("_length", V.int n)] : List (Str × V)) = (if ("_length" : Str) = "_marks" then ([("_length", V.ref l1)] : List (Str × V)) else ("_length", V.int n) :: putF "_marks" (V.ref l1) []) from rfl, if_neg k12]
  rw [show putF "_marks" (V.ref l1) [] = ([("_marks", V.ref l1)] : List (Str × V)) from rfl]
  rw [show putF "_strict" (V.ref l2) ([("_length", V.int n), ("_marks", V.ref l1)] : List (Str × V)) = (if ("_length" : Str) = "_strict" then ([("_length", V.ref l2), ("_marks", V.ref l1)] : List (Str × V)) else ("_length", V.int n) :: (if ("_marks" : Str) = "_strict" then ([("_marks", V.ref l2)] : List (Str × V)) else ("_marks", V.ref l1) :: putF "_strict" (V.ref l2) [])) from rfl, if_neg k13, if_neg k23]
  rfl
theorem fl_L (n : Int) (l1 l2 : Addr) : (flds n l1 l2).lookup ("_length" : Str) = some (.int n) := by
  unfold flds
  rw [lookup_putF, if_neg k13, lookup_putF, if_neg k12, lookup_putF, if_pos rfl]
theorem fl_M (n : Int) (l1 l2 : Addr) : (flds n l1 l2).lookup ("_marks" : Str) = some (.ref l1) := by
  unfold flds
  rw [lookup_putF, if_neg k23, lookup_putF, if_pos rfl]
theorem fl_S (n : Int) (l1 l2 : Addr) : (flds n l1 l2).lookup ("_strict" : Str) = some (.ref l2) := by
  unfold flds
  rw [lookup_putF, if_pos rfl]
theorem fl_no (n : Int) (l1 l2 : Addr) {m : Str} (h1 : ¬ m = "_length") (h2 : ¬ m = "_marks") (h3 : ¬ m = "_strict") : (flds n l1 l2).lookup m = none := by
  unfold flds
  rw [lookup_putF, if_neg h3, lookup_putF, if_neg h2, lookup_putF, if_neg h1]
  rfl
/-- what a row is -/
structure Good (n : Int) (ms ss : List Int) : Prop where
  pos : 1 ≤ n
  len : ms.length ≤ 400
  rng : ∀ x ∈ ms, 1 ≤ x ∧ x ≤ n - 1
  asc : Asc ms
  asc2 : Asc ss
  sub : ∀ x ∈ ss, x ∈ ms
theorem Good.len2 {n : Int} {ms ss : List Int} (g : Good n ms ss) : ss.length ≤ 400 :=
  Nat.le_trans (nodup_len (g.asc2.imp fun h e => by omega) g.sub) g.len
/-- a row stands at p -/
def RowAt (C : Addr) (H : Hp) (p : Addr) (n : Int) (ms ss : List Int) : Prop := ∃ dx l1 l2, H p = some (.ins C dx (flds n l1 l2)) ∧ IL H l1 ms ∧ IL H l2 ss
theorem RowAt.same {C : Addr} {H H' : Hp} {p : Addr} {n : Int} {ms ss : List Int} (r : RowAt C H p n ms ss) (s : Same H H') : RowAt C H' p n ms ss := by
  obtain ⟨dx, l1, l2, a, b, c⟩ := r
  exact ⟨dx, l1, l2, s _ _ a, s _ _ b, s _ _ c⟩
/-- a row has been made at p, its lists are new since H -/
def RowNew (C : Addr) (H H' : Hp) (p : Addr) (n : Int) (ms ss : List Int) : Prop := ∃ dx l1 l2, H' p = some (.ins C dx (flds n l1 l2)) ∧ IL H' l1 ms ∧ IL H' l2 ss ∧ H l1 = none ∧ H l2 = none
theorem RowNew.at {C : Addr} {H H' : Hp} {p : Addr} {n : Int} {ms ss : List Int} (r : RowNew C H H' p n ms ss) : RowAt C H' p n ms ss := by
  obtain ⟨dx, l1, l2, a, b, c, _⟩ := r
  exact ⟨dx, l1, l2, a, b, c⟩
theorem none_of {H H' : Hp} {l : Addr} (k : ∀ c o, H c = some o → ∃ o', H' c = some o') (h : H' l = none) : H l = none := by
  cases e : H l with
  | none => rfl
  | some o =>
    obtain ⟨o', z⟩ := k _ _ e
    rw [h] at z
    cases z
theorem RowNew.mono {C : Addr} {H0 H H' : Hp} {p : Addr} {n : Int} {ms ss : List Int} (r : RowNew C H H' p n ms ss) (k : ∀ c o, H0 c = some o → ∃ o', H c = some o') : RowNew C H0 H' p n ms ss := by
  obtain ⟨dx, l1, l2, a, b, c, d, e⟩ := r
  exact ⟨dx, l1, l2, a, b, c, none_of k d, none_of k e⟩
structure Cl (K : PySem.W.Frag) (mg : Str → Option Value) (C : Addr) : Prop where
  cl : Cls K C
  nL : NoAttr K C "_length"
  nM : NoAttr K C "_marks"
  nS : NoAttr K C "_strict"
  mgR : mg "Row" = some (.ref C)
  kit : PySem.W.kitOne K (.ref C) (.ref C) = some true
/-- Row(n, marks, strict): from the new instance on -/
def spInit (C : Addr) : Sp := fun vs H Q _ => ∃ (x dx a b : Addr) (n : Int) (ms ss : List Int), vs = [.ref x, .int n, .ref a, .ref b] ∧ H x = some (.ins C dx []) ∧ IL H a ms ∧ IL H b ss ∧ Good n ms ss ∧
  ∀ H', RowNew C H H' x n ms ss → (∀ c o, H c = some o → c ≠ x → H' c = some o) → Q .non H'
section
variable {P : Program} {w : World} {K : PySem.W.Frag} {mg : Str → Option Value} {base : Heap}
abbrev NI : List Str := ["self", "length", "marks", "strict"]
theorem scIn : FnScope NI NI (defScope sInit) := ⟨rfl, rfl, rfl, by decide +kernel, rfl, by decide +kernel, by decide +kernel⟩
theorem ok_init {f C fI fM fS : Addr} {fd fdI fdM fdS : FuncData} (F : Fun K "__init__" "Row.__init__" sInit f fd) (T : Bl mg) (R : Cl K mg C)
    (gI : mg "is_integer" = some (.ref fI)) (kI : PySem.W.keepIn K (.ref fI) = true) (bI : Binds K fdI ["thing"] []) (GI : FnOk P w K mg base CX0 1 fI fdI ["thing"] spOne)
    (gM : mg "are_marks" = some (.ref fM)) (kM : PySem.W.keepIn K (.ref fM) = true) (bM : Binds K fdM ["thing", "high"] []) (GM : FnOk P w K mg base CX0 4 fM fdM ["thing", "high"] spMarks)
    (gS : mg "are_some_of" = some (.ref fS)) (kS : PySem.W.keepIn K (.ref fS) = true) (bS : Binds K fdS ["thing", "marks"] []) (GS : FnOk P w K mg base CX0 4 fS fdS ["thing", "marks"] spSome) :
    FnOk P w K mg base CX0 5 f fd NI (spInit C) := by
  refine F.ok scIn (fun vs H Q E h => ?_) (fun cdv A outer s H vs Q E hr h => ?_)
  · obtain ⟨x, dx, a, b, n, ms, ss, rfl, _⟩ := h
    rfl
  · obtain ⟨x, dx, a, b, n, ms, ss, rfl, hx, hM, hS, G, k⟩ := h
    have hr1 : Room 1 (A.deeper (PyProof.Rows.envOfC "Row.__init__" (defScope sInit) s.heap.objs.size f cdv)) := hr.mono (by decide)
    refine ⟨_, pss_cons (ps_if (PW.pt (pw_or (pt_not (pt_val (pe_call GI hr1 rfl gI kI bI .nil pass0 (pa_cons (pv 1) pa_nil)))) (pw_or1 (pt_cmpR op_lt (pv 1) pe_int (nomark _))))) pss_never pss_nil)
      (pss_cons (ps_if (pt_not (pt_val (pe_call GM hr rfl gM kM bM .nil pass0 (pa_cons (pv 2) (pa_cons (pe_op op_sub (pv 1) pe_int) pa_nil))))) pss_never pss_nil)
      (pss_cons (ps_if (pt_not (pt_val (pe_call GS hr rfl gS kS bS .nil pass0 (pa_cons (pv 3) (pa_cons (pv 2) pa_nil))))) pss_never pss_nil)
      (pss_cons (ps_fld (pv 0) (pv 1) rfl)
      (pss_cons (ps_fld (pv 0) (pe_callTy call_list_of (by rfl) T.list (by decide +kernel) (pa_cons (pv 2) pa_nil)) rfl)
      (pss_one (ps_fld (pv 0) (pe_callTy call_list_of (by rfl) T.list (by decide +kernel) (pa_cons (pv 3) pa_nil)) rfl)))))), ?_⟩
    have hp := G.pos
    refine ⟨_, rfl, n, rfl, _, rfl, ?_⟩
    refine ifF rfl ?_
    refine ⟨_, rfl, _, _, rfl, rfl, _, rfl, ?_⟩
    refine ifF (decide_eq_false (by omega)) ?_
    refine ⟨_, rfl, _, rfl, _, _, rfl, rfl, a, ms, n - 1, rfl, hM, G.len, G.rng, G.asc, fun H1 s1 => ⟨_, rfl, ?_⟩⟩
    refine ifF rfl ?_
    refine ⟨_, rfl, _, rfl, b, a, ss, ms, rfl, s1 _ _ hS, s1 _ _ hM, G.len2, G.len, G.asc2, (fun y hy => (G.rng y (G.sub y hy)).1), G.sub, fun H2 s2 => ⟨_, rfl, ?_⟩⟩
    refine ifF rfl ?_
    have s12 := s1.trans s2
    refine ⟨_, rfl, _, rfl, x, C, dx, _, rfl, s12 _ _ hx, R.cl, R.nL, (by show 0 < 1000; decide), ?_⟩
    have na : a ≠ x := ne_of hM hx (by intro z; cases z)
    have nb : b ≠ x := ne_of hS hx (by intro z; cases z)
    have hM3 : ∀ o, IL (upd H2 x o) a ms := fun o => by
      show upd H2 x o a = _
      rw [upd_ne na]
      exact s12 _ _ hM
    have hS3 : ∀ o, IL (upd H2 x o) b ss := fun o => by
      show upd H2 x o b = _
      rw [upd_ne nb]
      exact s12 _ _ hS
    refine ⟨_, rfl, a, _, rfl, .inl (SqL.of (hM3 _)), fun l1 h1 => ?_⟩
    have nx1 : x ≠ l1 := ne_of_none upd_same h1
    have nb1 : b ≠ l1 := ne_of_none (hS3 _) h1
    refine ⟨_, rfl, x, C, dx, _, rfl, (by rw [upd_ne nx1]; exact upd_same), R.cl, R.nM, (by show 1 < 1000; decide), ?_⟩
    refine ⟨_, rfl, b, ss.map V.int, rfl, .inl (SqL.of (by rw [upd_ne nb, upd_ne nb1]; exact hS3 _)), fun l2 h2 => ?_⟩
    have nx2 : x ≠ l2 := ne_of_none upd_same h2
    have n12 : l1 ≠ l2 := ne_of_none (show _ = some (HO.lst (ms.map V.int)) by rw [upd_ne (Ne.symm nx1)]; exact upd_same) h2
    refine ⟨_, rfl, x, C, dx, _, rfl, (by rw [upd_ne nx2]; exact upd_same), R.cl, R.nS, (by show 2 < 1000; decide), ?_⟩
    have up : ∀ (H : Hp) (x : Addr) (o' : HO) (c : Addr) (o : HO), H c = some o → ∃ o'', upd H x o' c = some o'' := fun H x o' c o e => by
      by_cases z : c = x
      · exact ⟨o', by rw [z]; exact upd_same⟩
      · exact ⟨o, by rw [upd_ne z]; exact e⟩
    have f1 : H l1 = none := none_of (fun c o e => up _ _ _ _ _ (s12 _ _ e)) h1
    have f2 : H l2 = none := none_of (fun c o e => by
      obtain ⟨o1, e1⟩ := up H2 x (.ins C dx (putF "_length" (V.int n) [])) _ _ (s12 _ _ e)
      obtain ⟨o2, e2⟩ := up _ l1 (.lst (ms.map V.int)) _ _ e1
      exact up _ _ _ _ _ e2) h2
    refine k _ ⟨dx, l1, l2, upd_same, ?_, ?_, f1, f2⟩ ?_
    · show upd _ _ _ l1 = _
      rw [upd_ne (Ne.symm nx1), upd_ne n12, upd_ne (Ne.symm nx1)]
      exact upd_same
    · show upd _ _ _ l2 = _
      rw [upd_ne (Ne.symm nx2)]
      exact upd_same
    · intro c o ec nc
      have e3 : ∀ o', upd H2 x o' c = some o := fun o' => by
        rw [upd_ne nc]
        exact s12 _ _ ec
      have e4 := e3 (.ins C dx (putF "_length" (V.int n) []))
      have ne1 : c ≠ l1 := ne_of_none e4 h1
      rw [upd_ne nc]
      have e5 : upd (upd (upd H2 x (.ins C dx (putF "_length" (V.int n) []))) l1 (.lst (ms.map V.int))) x (.ins C dx (putF "_marks" (V.ref l1) (putF "_length" (V.int n) []))) c = some o := by
        rw [upd_ne nc, upd_ne ne1]
        exact e4
      rw [upd_ne (ne_of_none e5 h2)]
      exact e5
end
end Cw
namespace Cw
open PySem PySem.Spec PyProof.Rows L2
theorem dps_ints {K : PySem.W.Frag} {H : Hp} : ∀ ns : List Int, DpAll K H (ns.map V.int) (ns.map PyData.int)
  | [] => .nil
  | n :: r => .cons (.int n) (dps_ints r)
theorem dp_il {K : PySem.W.Frag} {H : Hp} {a : Addr} {ns : List Int} (h : IL H a ns) : Dp K H (.ref a) (.list (ns.map PyData.int)) := .lst (SqL.of h) (dps_ints ns)
theorem depth_ints : ∀ ns : List Int, PyData.depthAll (ns.map PyData.int) ≤ 1 := fun ns => by
  induction ns with
  | nil => exact Nat.zero_le _
  | cons n r ih =>
    rw [List.map_cons]
    unfold PyData.depthAll PyData.depth
    omega
theorem lay_ints : ∀ ns : List Int, PyData.canLayAll0 (ns.map PyData.int) = true := fun ns => by
  induction ns with
  | nil => rfl
  | cons n r ih =>
    rw [List.map_cons]
    unfold PyData.canLayAll0 PyData.canLay0
    rw [ih]
    rfl
theorem shape_il (ns : List Int) : SeqAt.shaped (.list (ns.map PyData.int)) = true := by
  have h1 : PyData.canLay0 (.list (ns.map PyData.int)) = true := by
    unfold PyData.canLay0
    exact lay_ints ns
  have h2 : PyData.depth (.list (ns.map PyData.int)) ≤ 64 := by
    have z := depth_ints ns
    unfold PyData.depth
    omega
  unfold SeqAt.shaped
  rw [h1, decide_eq_true h2]
  rfl
theorem eqv_il (ns : List Int) : PyData.eqv (.list (ns.map PyData.int)) (.list (ns.map PyData.int)) = true := SeqAt.eqv_refl _ (SeqAt.canLay_of_shaped (shape_il ns))
section
variable {X : Cx} {a b c d : Expr} {ta tb tc td : TE} {pos : Pos}
/-- a op1 b op2 c op3 d -/
def tChain3 (r1 r2 r3 : R2) (ta tb tc td : TE) : TE := fun σ H Q => ta σ H fun x H1 => tb σ H1 fun y H2 => r1 x y H2 fun z H3 => ∃ k, z = .bl k ∧
  (if k = true then tc σ H3 fun u H4 => r2 y u H4 fun z2 H5 => ∃ k2, z2 = .bl k2 ∧ (if k2 = true then td σ H5 fun v H6 => r3 u v H6 Q else Q (.bl false) H5) else Q (.bl false) H3)
theorem pt_chain3 {o1 o2 o3 : CmpOp} {r1 r2 r3 : R2} (h1 : OpR X (compareOp o1) r1) (h2 : OpR X (compareOp o2) r2) (h3 : OpR X (compareOp o3) r3) (ha : PE X a ta) (hb : PE X b tb) (hc : PE X c tc) (hd : PE X d td)
    (hm : lastMarks [o1, o2, o3] [b, c, d] = false := by with_unfolding_all rfl) : PT X (.Compare a [o1, o2, o3] [b, c, d] pos) (tTest (tChain3 r1 r2 r3 ta tb tc td)) := by
  refine ⟨fun pins s σ H Q I h => ?_⟩
  refine isTrue_chain (thn (ha.run pins s σ H _ I h) fun v s1 ⟨x, H1, I1, e1, q1⟩ => test_link (thn (hb.run pins s1 σ H1 _ I1 q1) fun u s2 ⟨y, H2, I2, e2, q2⟩ =>
    thn (h1 pins s2 σ H2 x y v u _ I2 e1 e2 q2) fun d1 s3 ⟨z, H3, I3, e3, k, e, q3⟩ => ?_)) hm
  subst e
  cases e3
  refine wpAny_truthy_bool ?_
  cases k with
  | false =>
    obtain ⟨k', e', q'⟩ := q3
    cases e'
    exact ite_ff ⟨H3, I3, q'⟩
  | true =>
    refine ite_tt (test_link (thn (hc.run pins s3 σ H3 _ I3 q3) fun w' s4 ⟨z', H4, I4, e4, q4⟩ => thn (h2 pins s4 σ H4 y z' u w' _ I4 e2 e4 q4) fun d' s5 ⟨z2, H5, I5, e5, k2, f2, q5⟩ => ?_))
    subst f2
    cases e5
    refine wpAny_truthy_bool ?_
    cases k2 with
    | false =>
      obtain ⟨k', e', q'⟩ := q5
      cases e'
      exact ite_ff ⟨H5, I5, q'⟩
    | true =>
      refine ite_tt (test_last (thn (hd.run pins s5 σ H5 _ I5 q5) fun w2 s6 ⟨y2, H6, I6, e6, q6⟩ => thn (h3 pins s6 σ H6 z' y2 w' w2 _ I6 e4 e6 q6) fun d2 s7 ⟨y3, H7, I7, e7, k3, f3, q7⟩ => ?_))
      subst f3
      cases e7
      exact wpAny_truthy_bool ⟨H7, I7, q7⟩
end
/-- two rows alike -/
def Alike (C : Addr) : Addr → Addr → Hp → Prop := fun a b H => ∃ n ms ss, RowAt C H a n ms ss ∧ RowAt C H b n ms ss
/-- what a row's .marks promises -/
def spGetM (C : Addr) : Sp := fun vs H Q _ => ∃ (a : Addr) (n : Int) (ms ss : List Int), vs = [.ref a] ∧ RowAt C H a n ms ss ∧ ∀ p H', Same H H' → H p = none → IL H' p ms → Q (.ref p) H'
/-- what isinstance asks of the class -/
structure Ci (K : PySem.W.Frag) (C : Addr) : Prop where
  ha : PySem.W.findIn K (.ref C) "__class__" = some (some (.builtin "object.__class__"))
  hn : PySem.W.specialIn K (.builtin "object.__class__") "__get__" = some (some (.builtin "getset_descriptor.__get__"))
  ht : PySem.W.takesIn K (.builtin "object.__class__") = some true
  hm : PySem.W.mroIn K C (.type "object") = some true
section
variable {P : Program} {w : World} {K : PySem.W.Frag} {mg : Str → Option Value} {base : Heap}
theorem scG : FnScope ["self"] ["self"] (defScope sGetM) := ⟨rfl, rfl, rfl, by decide +kernel, rfl, by decide +kernel, by decide +kernel⟩
theorem ok_getM {f C : Addr} {fd : FuncData} (F : Fun K "marks" "Row.marks" sGetM f fd) (T : Bl mg) (R : Cl K mg C) : FnOk P w K mg base CX0 1 f fd ["self"] (spGetM C) := by
  refine F.ok scG (fun vs H Q E h => ?_) (fun cdv A outer s H vs Q E hr h => ?_)
  · obtain ⟨a, n, ms, ss, rfl, _⟩ := h
    rfl
  · obtain ⟨a, n, ms, ss, rfl, ⟨dx, l1, l2, ho, h1, h2⟩, k⟩ := h
    refine ⟨_, pss_one (ps_ret (pe_callTy call_list_of (by rfl) T.list (by decide +kernel) (pa_cons (pe_fld (pv 0) rfl) pa_nil))), ?_⟩
    refine ⟨_, rfl, a, C, dx, _, _, rfl, ho, R.cl, R.nM, fl_M _ _ _, l1, _, rfl, .inl (SqL.of h1), fun p hp => ?_⟩
    exact k p _ (same_new (Same.refl H) hp) hp upd_same
theorem scE : FnScope ["self", "other"] ["self", "other"] (defScope sEq) := ⟨rfl, rfl, rfl, by decide +kernel, rfl, by decide +kernel, by decide +kernel⟩
theorem ok_eq {f C : Addr} {fd : FuncData} (F : Fun K "__eq__" "Row.__eq__" sEq f fd) (T : Bl mg) (R : Cl K mg C) (N : Ci K C) : FnOk P w K mg base CX0 1 f fd ["self", "other"] (spEq (Alike C)) := by
  refine F.ok scE (fun vs H Q E h => ?_) (fun cdv A outer s H vs Q E hr h => ?_)
  · obtain ⟨a, b, rfl, _⟩ := h
    rfl
  · obtain ⟨a, b, rfl, ⟨n, ms, ss, ⟨dx, l1, l2, ho, h1, h2⟩, ⟨dy, m1, m2, hp, g1, g2⟩⟩, k⟩ := h
    refine ⟨_, pss_cons (ps_if (pt_not (pt_val (pe_callB call_isi (by rfl) T.isi (by decide +kernel) (pa_cons (pv 1) (pa_cons (pe_glob (by rfl) R.mgR (v := V.ref C) rfl) pa_nil))))) (pss_one (ps_ret pe_bl)) pss_nil)
      (pss_cons (ps_if (pt_cmpR op_ne (pe_fld (pv 0) rfl) (pe_fld (pv 1) rfl) (nomark _)) (pss_one (ps_ret pe_bl)) pss_nil)
      (pss_one (ps_ret (pe_and (pe_cmpR (op_eqD hr.units) (pe_fld (pv 0) rfl) (pe_fld (pv 1) rfl) (nomark _)) (pe_one (pe_cmpR (op_eqD hr.units) (pe_fld (pv 0) rfl) (pe_fld (pv 1) rfl) (nomark _))))))), ?_⟩
    refine ⟨_, rfl, _, _, _, _, true, rfl, ClsV.own _, .base (.ins hp R.cl N.ha N.hn N.ht N.hm), R.kit, _, rfl, ?_⟩
    refine ifF rfl ?_
    refine ⟨_, rfl, a, C, dx, _, _, rfl, ho, R.cl, R.nL, fl_L _ _ _, _, rfl, b, C, dy, _, _, rfl, hp, R.cl, R.nL, fl_L _ _ _, rfl, _, rfl, ?_⟩
    refine ifF (by simp) ?_
    refine ⟨_, rfl, a, C, dx, _, _, rfl, ho, R.cl, R.nM, fl_M _ _ _, _, rfl, b, C, dy, _, _, rfl, hp, R.cl, R.nM, fl_M _ _ _, _, _, dp_il h1, dp_il g1, shape_il _, shape_il _, _, rfl, ?_⟩
    refine ifT (eqv_il ms) ?_
    refine ⟨_, rfl, a, C, dx, _, _, rfl, ho, R.cl, R.nS, fl_S _ _ _, _, rfl, b, C, dy, _, _, rfl, hp, R.cl, R.nS, fl_S _ _ _, _, _, dp_il h2, dp_il g2, shape_il _, shape_il _, ?_⟩
    have z := k H Ext.rfl'
    rw [← eqv_il ss] at z
    exact z
end
end Cw
namespace Cw
open PySem L2
theorem same_ins {H H1 H' : Hp} {x dx C : Addr} (s : Same H H1) (nx : H1 x = none) (nd : H1 dx = none) (k : ∀ c o, upd (upd H1 dx (.own x)) x (.ins C dx []) c = some o → c ≠ x → H' c = some o) : Same H H' := fun c o e => by
  have z := s _ _ e
  refine k c o ?_ (ne_of_none z nx)
  rw [upd_ne (ne_of_none z nx), upd_ne (ne_of_none z nd)]
  exact z
theorem ints_app {ns : List Int} {z : Int} : ns.map V.int ++ [V.int z] = (ns ++ [z]).map V.int := by rw [List.map_append]; rfl
abbrev sJar : Stmt := top 30
abbrev sDip : Stmt := top 31
abbrev sThree : Stmt := top 32
abbrev sSmall : Stmt := top 33
abbrev sGreat : Stmt := top 34
def But (H H' : Hp) (b : Addr) : Prop := ∀ a o, H a = some o → a ≠ b → H' a = some o
theorem But.refl (H : Hp) (b : Addr) : But H H b := fun _ _ e _ => e
theorem But.trans {H H1 H2 : Hp} {b : Addr} (x : But H H1 b) (y : But H1 H2 b) : But H H2 b := fun a o e n => y a o (x a o e n) n
theorem But.of {H H1 : Hp} {b : Addr} (x : Same H H1) : But H H1 b := fun a o e _ => x a o e
theorem But.upd {H H1 : Hp} {b : Addr} {o : HO} (x : But H H1 b) : But H (upd H1 b o) b := fun a u e n => by
  rw [upd_ne n]
  exact x a u e n
theorem But.put {H H1 : Hp} {b p : Addr} {o : HO} (x : But H H1 b) (h : H p = none) : But H (L2.upd H1 p o) b := fun a u e n => by
  rw [upd_ne (ne_of_none e h)]
  exact x a u e n
theorem But.new {H H1 : Hp} {b p : Addr} {o : HO} (x : But H H1 b) (h : H1 p = none) : But H (L2.upd H1 p o) b := fun a u e n => by
  rw [upd_ne (ne_of_none (x a u e n) h)]
  exact x a u e n
def CPowW (i j : Int) : Prop := 0 ≤ j ∧ ((Builtin.Int.intBits i : Nat) : Int) * j ≤ 2 ^ 27
theorem op_powW {X : Cx} : OpR X (binaryOp .Pow) (rI CPowW fun i j => .int (i ^ j.toNat)) := opI fun _ _ _ _ _ _ _ hc q => PyProof.Rows.pow_int hc.1 hc.2 q
theorem cube_ok {i : Int} (h0 : 0 ≤ i) (h1 : i < 2 ^ 250) : CPowW i 3 := by
  have z : Builtin.Int.intBits i ≤ 250 := PyProof.Rows.intBits_le (k := 250) (by
    have e : ((2 ^ 250 : Nat) : Int) = 2 ^ 250 := by norm_cast
    omega)
  refine ⟨by decide, ?_⟩
  have e : (2 : Int) ^ 27 = 134217728 := by decide
  omega
/-- the draws: what is left of the cell, the stirred number, the turns; k more draws are surely allowed -/
def JarAt (H : Hp) (a : Addr) (k : Nat) : Prop := ∃ r m n : Int, H a = some (.lst [.int r, .int m, .int n]) ∧ 0 ≤ m ∧ m < 2 ^ 200 ∧ 0 ≤ n ∧ n + k ≤ 5000
theorem JarAt.mono {H : Hp} {a : Addr} {k j : Nat} (h : JarAt H a k) (l : j ≤ k) : JarAt H a j := by
  obtain ⟨r, m, n, e, h0, h1, h2, h3⟩ := h
  exact ⟨r, m, n, e, h0, h1, h2, by omega⟩
theorem JarAt.same {H H' : Hp} {a : Addr} {k : Nat} (h : JarAt H a k) (s : Same H H') : JarAt H' a k := by
  obtain ⟨r, m, n, e, q⟩ := h
  exact ⟨r, m, n, s _ _ e, q⟩
theorem JarAt.put {H : Hp} {a p : Addr} {o : HO} {k : Nat} (h : JarAt H a k) (n : a ≠ p) : JarAt (upd H p o) a k := by
  obtain ⟨r, m, i, e, q⟩ := h
  exact ⟨r, m, i, by rw [upd_ne n]; exact e, q⟩
theorem JarAt.ne {H : Hp} {a p : Addr} {k : Nat} (h : JarAt H a k) (n : H p = none) : a ≠ p := by
  obtain ⟨r, m, i, e, q⟩ := h
  exact ne_of_none e n
theorem JarAt.no {H : Hp} {a p : Addr} {o : HO} {k : Nat} (h : JarAt H a k) (e : H p = some o) (z : ∀ r m n : Int, o ≠ .lst [.int r, .int m, .int n]) : p ≠ a := fun x => by
  obtain ⟨r, m, i, f, q⟩ := h
  rw [x, f] at e
  exact z r m i (Option.some.inj e).symm
theorem pos47 : (0 : Int) < 10 ^ Int.toNat 47 + 91 := by decide +kernel
theorem pos46 : (0 : Int) < 10 ^ Int.toNat 46 + 79 := by decide +kernel
def spDip : Sp := fun vs H Q _ => ∃ (a : Addr) (k : Nat) (w : Int), vs = [.ref a, .int w] ∧ JarAt H a (k + 1) ∧ 0 < w ∧ w < 2 ^ 120 ∧ ∀ (v : Int) (H' : Hp), 0 ≤ v → v < w → JarAt H' a k → But H H' a → Q (.int v) H'
/-- the script's jar -/
def spJar (K : PySem.W.Frag) : Sp := fun vs H Q _ => ∃ (a : Addr) (ns : List Int) (i : Nat), vs = [.ref a, .int i] ∧ SqL K H a (ns.map V.int) ∧ i ≤ ns.length ∧ ns.length ≤ 63 ∧ ∀ p H', Same H H' → H p = none → JarAt H' p 5000 → Q (.ref p) H'
section
variable {P : Program} {w : World} {K : PySem.W.Frag} {mg : Str → Option Value} {base : Heap}
theorem scD : FnScope ["jar", "many", "digit", "mixed"] ["jar", "many"] (defScope sDip) := ⟨rfl, rfl, rfl, by decide +kernel, rfl, by decide +kernel, by decide +kernel⟩
theorem ok_dip {f : Addr} {fd : FuncData} (F : Fun K "_law_dip" "_law_dip" sDip f fd) (T : Bl mg) : FnOk P w K mg base CX0 1 f fd ["jar", "many"] spDip := by
  refine F.ok scD (fun vs H Q E h => ?_) (fun cdv A outer s H vs Q E hr h => ?_)
  · obtain ⟨a, k, w, rfl, _⟩ := h
    rfl
  · obtain ⟨a, k, w, rfl, ⟨r, m, n, hj, m0, m1, n0, n1⟩, w0, w1, q⟩ := h
    have wn : w.natAbs < 2 ^ 120 := by
      have e : ((2 ^ 120 : Nat) : Int) = 2 ^ 120 := by norm_cast
      omega
    have dv : ∀ i, CDivW i w := fun i => wide_div w0 wn (by decide) (by decide)
    refine ⟨_, pss_cons (ps_if (pt_cmpR op_gt (pe_ix ix_list (pv 0) pe_int (fun _ _ => rfl)) pe_int (nomark _))
        (pss_cons (ps_set (i := 2) scD.nd rfl (Or.inl rfl) (pe_op op_mod (pe_callTy call_int1 (by rfl) T.int (by decide +kernel) (pa_cons (pe_ix ix_list (pv 0) pe_int (fun _ _ => rfl)) pa_nil)) (pv 1)))
        (pss_cons (ps_asg (pe_op op_fdivW (pe_ix ix_list (pv 0) pe_int (fun _ _ => rfl)) (pv 1)) (pg_sub (pv 0) pe_int L2.set_list))
        (pss_one (ps_ret (pv 2))))) pss_nil)
      (pss_cons (ps_asg (pe_op op_add (pe_ix ix_list (pv 0) pe_int (fun _ _ => rfl)) pe_int) (pg_sub (pv 0) pe_int L2.set_list))
      (pss_cons (ps_set (i := 3) scD.nd rfl (Or.inl rfl) (pe_op op_mod (pe_callTy call_int1 (by rfl) T.int (by decide +kernel) (pa_cons (pe_op op_powW (pe_op op_add (pe_ix ix_list (pv 0) pe_int (fun _ _ => rfl)) (pe_op op_mul pe_int (pe_ix ix_list (pv 0) pe_int (fun _ _ => rfl)))) pe_int) pa_nil)) (pe_op op_add (pe_op op_pow pe_int pe_int) pe_int)))
      (pss_cons (ps_set (i := 3) scD.nd rfl (Or.inl rfl) (pe_op op_mod (pe_callTy call_int1 (by rfl) T.int (by decide +kernel) (pa_cons (pe_op op_powW (pe_op op_add (pv 3) (pe_op op_mul pe_int (pe_ix ix_list (pv 0) pe_int (fun _ _ => rfl)))) pe_int) pa_nil)) (pe_op op_add (pe_op op_pow pe_int pe_int) pe_int)))
      (pss_one (ps_ret (pe_op op_mod (pe_callTy call_int1 (by rfl) T.int (by decide +kernel) (pa_cons (pe_op op_fdivW (pv 3) pe_int) pa_nil)) (pv 1))))))), ?_⟩
    refine ⟨_, rfl, a, _, 0, _, rfl, rfl, SqL.of hj, rfl, _, _, rfl, rfl, _, rfl, ?_⟩
    by_cases hr0 : r > 0
    · refine ifT (decide_eq_true hr0) ?_
      refine ⟨_, rfl, a, _, 0, _, rfl, rfl, SqL.of hj, rfl, .inl ⟨_, rfl, _, rfl, _, _, rfl, rfl, w0, ?_⟩⟩
      refine ⟨_, rfl, a, _, 0, _, rfl, rfl, SqL.of hj, rfl, _, rfl, _, _, rfl, rfl, dv _, _, rfl, a, _, 0, 0, rfl, rfl, hj, rfl, ?_⟩
      refine ⟨_, rfl, ?_⟩
      exact q _ _ (Int.emod_nonneg _ (by omega)) (Int.emod_lt_of_pos _ w0) ⟨_, m, n, upd_same, m0, m1, n0, by omega⟩ (But.refl H a).upd
    · refine ifF (decide_eq_false hr0) ?_
      refine ⟨_, rfl, a, _, 2, _, rfl, rfl, SqL.of hj, rfl, _, _, rfl, rfl, _, rfl, a, _, 2, 2, rfl, rfl, hj, rfl, ?_⟩
      have hj2 : upd H a (.lst [.int r, .int m, .int (n + 1)]) a = some (.lst [.int r, .int m, .int (n + 1)]) := upd_same
      refine ⟨_, rfl, a, _, 1, _, rfl, rfl, SqL.of hj2, rfl, _, rfl, a, _, 2, _, rfl, rfl, SqL.of hj2, rfl, _, _, rfl, rfl, .inl ⟨by decide, by decide⟩, _, _, rfl, rfl, ?_⟩
      have e200 : (2 : Int) ^ 200 + 60000049 * 5001 < 2 ^ 250 := by decide +kernel
      refine ⟨_, _, rfl, rfl, cube_ok (by omega) (by omega), .inl ⟨_, rfl, _, _, rfl, rfl, ⟨by decide, by decide, by decide⟩, _, _, rfl, rfl, _, _, rfl, rfl, pos47, ?_⟩⟩
      generalize hx : ((m + 60000049 * (n + 1)) ^ Int.toNat 3) % (10 ^ Int.toNat 47 + 91) = x
      have x0 : 0 ≤ x := by
        rw [← hx]
        exact Int.emod_nonneg _ (by decide +kernel)
      have x1 : x < 10 ^ Int.toNat 47 + 91 := by
        rw [← hx]
        exact Int.emod_lt_of_pos _ (by decide +kernel)
      have e47 : (10 : Int) ^ Int.toNat 47 + 91 + 35000021 * 5001 < 2 ^ 250 := by decide +kernel
      refine ⟨_, rfl, _, rfl, a, _, 2, _, rfl, rfl, SqL.of hj2, rfl, _, _, rfl, rfl, .inl ⟨by decide, by decide⟩, _, _, rfl, rfl, _, _, rfl, rfl, cube_ok (by omega) (by omega), .inl ⟨_, rfl, _, _, rfl, rfl, ⟨by decide, by decide, by decide⟩, _, _, rfl, rfl, _, _, rfl, rfl, pos46, ?_⟩⟩
      refine ⟨_, rfl, _, _, rfl, rfl, wide_div (b := 31) (by decide) (by decide) (by decide) (by decide), .inl ⟨_, rfl, _, rfl, _, _, rfl, rfl, w0, ?_⟩⟩
      exact q _ _ (Int.emod_nonneg _ (by omega)) (Int.emod_lt_of_pos _ w0) ⟨r, m, n + 1, upd_same, m0, m1, by omega, by omega⟩ (But.refl H a).upd
end
end Cw
namespace Cw
open PySem L2
theorem at_of2 {α : Type} {xs : List α} {z : Int} {j : Nat} {v : α} (e : z = (j : Int)) (h : xs[j]? = some v) : atI xs z = some v := by
  rw [e]
  exact atI_nat h
theorem at_lt {α : Type} {xs : List α} {z : Int} (h0 : 0 ≤ z) (h1 : z < xs.length) : ∃ v, atI xs z = some v ∧ v ∈ xs := by
  have hz : z.toNat < xs.length := by omega
  have hj : z = ((z.toNat : Nat) : Int) := by omega
  exact ⟨xs[z.toNat], at_of2 hj (List.getElem?_eq_getElem hz), List.getElem_mem hz⟩
/-- one of three ints -/
theorem at3 {z x y u : Int} (h0 : 0 ≤ z) (h1 : z < 3) : ∃ v, atI [V.int x, V.int y, V.int u] z = some (V.int v) ∧ (v = x ∨ v = y ∨ v = u) := by
  obtain ⟨v, e, m⟩ := at_lt (xs := [V.int x, V.int y, V.int u]) h0 (by simpa using h1)
  simp only [List.mem_cons, List.not_mem_nil, or_false] at m
  rcases m with rfl | rfl | rfl
  · exact ⟨x, e, .inl rfl⟩
  · exact ⟨y, e, .inr (.inl rfl)⟩
  · exact ⟨u, e, .inr (.inr rfl)⟩
def spThree : Sp := fun vs H Q _ => ∃ (a : Addr) (k : Nat) (w : Int), vs = [.ref a, .int w] ∧ JarAt H a (k + 7) ∧ 0 < w ∧ w < 2 ^ 120 ∧
  ∀ (p : Addr) (H' : Hp) (l n g : Int), 1 ≤ l → l ≤ w → l ≤ n → n ≤ 2 * w + 3 → n ≤ g → g ≤ 3 * w + 6 → JarAt H' a k → But H H' a → H' p = some (.tup [.int l, .int n, .int g]) → H p = none → Q (.ref p) H'
theorem pos43 : (0 : Int) < 10 ^ Int.toNat 43 + 57 := by decide +kernel
section
variable {P : Program} {w : World} {K : PySem.W.Frag} {mg : Str → Option Value} {base : Heap}
theorem scJ : FnScope ["script", "k", "cell_here"] ["script", "k"] (defScope sJar) := ⟨rfl, rfl, rfl, by decide +kernel, rfl, by decide +kernel, by decide +kernel⟩
theorem ok_jar {f : Addr} {fd : FuncData} (F : Fun K "_law_jar" "_law_jar" sJar f fd) (T : Bl mg) : FnOk P w K mg base CX0 1 f fd ["script", "k"] (spJar K) := by
  refine F.ok scJ (fun vs H Q E h => ?_) (fun cdv A outer s H vs Q E hr h => ?_)
  · obtain ⟨a, ns, i, rfl, _⟩ := h
    rfl
  · obtain ⟨a, ns, i, rfl, hS, hi, hl, q⟩ := h
    refine ⟨_, pss_cons (ps_set (i := 2) scJ.nd rfl (Or.inl rfl) (pe_ifExp (pt_cmpR op_lt (pv 1) (pe_callB call_len_seq (by rfl) T.len PySem.boot_len (pa_cons (pv 0) pa_nil)) (nomark _))
        (pe_callB call_abs (by rfl) T.abs (by decide +kernel) (pa_cons (pe_ix ix_list (pv 0) (pv 1) (fun _ _ => rfl)) pa_nil)) pe_int))
      (pss_one (ps_ret (pe_lst (pa_cons (pe_callB (call_max2 rfl) (by rfl) T.max (by decide +kernel) (pa_cons pe_int (pa_cons (pe_op op_sub (pv 2) (pe_op op_pow pe_int pe_int)) pa_nil)))
        (pa_cons (pe_op op_add (pe_op op_mul (pe_op op_mod (pe_callTy call_int1 (by rfl) T.int (by decide +kernel) (pa_cons (pv 2) pa_nil)) (pe_op op_add (pe_op op_pow pe_int pe_int) pe_int)) pe_int) (pe_op op_mul pe_int (pv 1)))
        (pa_cons pe_int pa_nil)))))), ?_⟩
    have main : ∀ c : Int, 0 ≤ (c % (10 ^ Int.toNat 43 + 57)) * 101 + 70001 * (i : Int) ∧ (c % (10 ^ Int.toNat 43 + 57)) * 101 + 70001 * (i : Int) < 2 ^ 200 := fun c => by
      have x0 := Int.emod_nonneg c (b := 10 ^ Int.toNat 43 + 57) (by decide +kernel)
      have x1 := Int.emod_lt_of_pos c pos43
      have e : ((10 : Int) ^ Int.toNat 43 + 57) * 101 + 70001 * 64 < 2 ^ 200 := by decide +kernel
      omega
    refine ⟨_, rfl, _, rfl, a, _, rfl, .inl hS, _, _, rfl, rfl, _, rfl, ?_⟩
    by_cases hi2 : i < ns.length
    · refine ifT (decide_eq_true (by rw [List.length_map]; omega)) ?_
      have e1 : (ns.map V.int)[i]? = some (V.int ns[i]) := by
        rw [List.getElem?_map, List.getElem?_eq_getElem hi2]
        rfl
      refine ⟨_, rfl, _, rfl, a, _, _, _, rfl, rfl, hS, at_of2 (j := i) rfl e1, _, rfl, ?_⟩
      generalize (if ns[i] < 0 then -ns[i] else ns[i]) = c
      refine ⟨_, rfl, _, _, rfl, rfl, ⟨by decide, by decide, by decide⟩, _, _, rfl, rfl, _, _, rfl, ?_⟩
      refine ⟨_, rfl, .inl ⟨_, rfl, _, _, rfl, rfl, ⟨by decide, by decide, by decide⟩, _, _, rfl, rfl, _, _, rfl, rfl, pos43, _, _, rfl, rfl, .inr ⟨by decide, by decide⟩, _, rfl, _, _, rfl, rfl, .inl ⟨by decide, by decide⟩, _, _, rfl, rfl, ?_⟩⟩
      refine ⟨(by show 3 ≤ sizeLine; decide), fun p hp => ?_⟩
      exact q p _ (same_new (Same.refl H) hp) hp ⟨_, _, 0, upd_same, (main c).1, (main c).2, by decide, by decide⟩
    · refine ifF (decide_eq_false (by rw [List.length_map]; omega)) ?_
      refine ⟨_, rfl, _, _, rfl, rfl, ⟨by decide, by decide, by decide⟩, _, _, rfl, rfl, _, _, rfl, ?_⟩
      refine ⟨_, rfl, .inl ⟨_, rfl, _, _, rfl, rfl, ⟨by decide, by decide, by decide⟩, _, _, rfl, rfl, _, _, rfl, rfl, pos43, _, _, rfl, rfl, .inr ⟨by decide, by decide⟩, _, rfl, _, _, rfl, rfl, .inl ⟨by decide, by decide⟩, _, _, rfl, rfl, ?_⟩⟩
      refine ⟨(by show 3 ≤ sizeLine; decide), fun p hp => ?_⟩
      exact q p _ (same_new (Same.refl H) hp) hp ⟨_, _, 0, upd_same, (main 0).1, (main 0).2, by decide, by decide⟩
theorem scT : FnScope ["jar", "wide", "least", "normal"] ["jar", "wide"] (defScope sThree) := ⟨rfl, rfl, rfl, by decide +kernel, rfl, by decide +kernel, by decide +kernel⟩
theorem ok_three {f fD : Addr} {fd fdD : FuncData} (F : Fun K "_law_three" "_law_three" sThree f fd) (gD : mg "_law_dip" = some (.ref fD)) (kD : PySem.W.keepIn K (.ref fD) = true) (bD : Binds K fdD ["jar", "many"] []) (GD : FnOk P w K mg base CX0 1 fD fdD ["jar", "many"] spDip) :
    FnOk P w K mg base CX0 2 f fd ["jar", "wide"] spThree := by
  refine F.ok scT (fun vs H Q E h => ?_) (fun cdv A outer s H vs Q E hr h => ?_)
  · obtain ⟨a, k, w, rfl, _⟩ := h
    rfl
  · obtain ⟨a, k, w, rfl, J, w0, w1, q⟩ := h
    refine ⟨_, pss_cons (ps_set (i := 2) scT.nd rfl (Or.inl rfl) (pe_op op_add pe_int (pe_call GD hr rfl gD kD bD .nil pass0 (pa_cons (pv 0) (pa_cons (pv 1) pa_nil)))))
      (pss_cons (ps_set (i := 3) scT.nd rfl (Or.inl rfl) (pe_op op_add (pv 2) (pe_ix ix_list (pe_lst (pa_cons pe_int (pa_cons (pe_call GD hr rfl gD kD bD .nil pass0 (pa_cons (pv 0) (pa_cons (pv 1) pa_nil))) (pa_cons (pe_call GD hr rfl gD kD bD .nil pass0 (pa_cons (pv 0) (pa_cons pe_int pa_nil))) pa_nil))))
        (pe_call GD hr rfl gD kD bD .nil pass0 (pa_cons (pv 0) (pa_cons pe_int pa_nil))) (fun _ _ => rfl))))
      (pss_one (ps_ret (pe_tup (pa_cons (pv 2) (pa_cons (pv 3) (pa_cons (pe_op op_add (pv 3) (pe_ix ix_list (pe_lst (pa_cons pe_int (pa_cons (pe_call GD hr rfl gD kD bD .nil pass0 (pa_cons (pv 0) (pa_cons (pv 1) pa_nil))) (pa_cons (pe_op op_add pe_int (pe_call GD hr rfl gD kD bD .nil pass0 (pa_cons (pv 0) (pa_cons pe_int pa_nil)))) pa_nil))))
        (pe_call GD hr rfl gD kD bD .nil pass0 (pa_cons (pv 0) (pa_cons pe_int pa_nil))) (fun _ _ => rfl))) pa_nil))))))), ?_⟩
    have t3 : (0 : Int) < 3 ∧ (3 : Int) < 2 ^ 120 := ⟨by decide, by decide⟩
    refine ⟨_, rfl, _, rfl, a, k + 6, w, rfl, J, w0, w1, fun v1 H1 a1 b1 J1 B1 => ⟨_, _, rfl, rfl, ?_⟩⟩
    refine ⟨_, rfl, _, rfl, _, rfl, a, k + 5, w, rfl, J1, w0, w1, fun v2 H2 a2 b2 J2 B2 => ?_⟩
    refine ⟨_, rfl, a, k + 4, 3, rfl, J2, t3.1, t3.2, fun v3 H3 a3 b3 J3 B3 => ⟨(by show 3 ≤ sizeLine; decide), fun p hp => ?_⟩⟩
    have np : a ≠ p := J3.ne hp
    have Bp := ((B1.trans B2).trans B3).new (o := .lst [.int 0, .int v2, .int v3]) hp
    refine ⟨_, rfl, a, k + 3, 3, rfl, J3.put np, t3.1, t3.2, fun v4 H4 a4 b4 J4 B4 => ?_⟩
    obtain ⟨i1, e1, c1⟩ := at3 (x := 0) (y := v2) (u := v3) a4 b4
    refine ⟨p, _, _, _, rfl, rfl, SqL.of (B4 _ _ upd_same np.symm), e1, _, _, rfl, rfl, ?_⟩
    refine ⟨_, rfl, _, rfl, _, rfl, _, rfl, _, rfl, a, k + 2, w, rfl, J4, w0, w1, fun v5 H5 a5 b5 J5 B5 => ?_⟩
    refine ⟨_, rfl, a, k + 1, 3, rfl, J5, t3.1, t3.2, fun v6 H6 a6 b6 J6 B6 => ⟨_, _, rfl, rfl, (by show 3 ≤ sizeLine; decide), fun p2 hp2 => ?_⟩⟩
    have np2 : a ≠ p2 := J6.ne hp2
    have Bq := (((Bp.trans B4).trans B5).trans B6).new (o := .lst [.int 0, .int v5, .int (1 + v6)]) hp2
    refine ⟨_, rfl, a, k, 3, rfl, J6.put np2, t3.1, t3.2, fun v7 H7 a7 b7 J7 B7 => ?_⟩
    obtain ⟨i2, e2, c2⟩ := at3 (x := 0) (y := v5) (u := 1 + v6) a7 b7
    refine ⟨p2, _, _, _, rfl, rfl, SqL.of (B7 _ _ upd_same np2.symm), e2, _, _, rfl, rfl, (by show 3 ≤ sizeLine; decide), fun p3 hp3 => ?_⟩
    have Bz := (Bq.trans B7).new (o := .tup [.int (1 + v1), .int (1 + v1 + i1), .int (1 + v1 + i1 + i2)]) hp3
    have hH : H p3 = none := by
      cases e : H p3 with
      | none => rfl
      | some o =>
        have n : p3 ≠ a := fun x => by
          have z := J7.ne hp3
          exact z x.symm
        have z := (Bq.trans B7) _ _ e n
        rw [hp3] at z
        cases z
    refine q p3 _ (1 + v1) (1 + v1 + i1) (1 + v1 + i1 + i2) (by omega) (by omega) (by omega) (by omega) (by omega) (by omega) (J7.put (J7.ne hp3)) Bz upd_same hH
end
end Cw
namespace Cw
open PySem L2
abbrev sHeap : Stmt := top 35
/-! ## raw rows: a length, pairs of a place and a kind, three numbers -/
abbrev PrAt (H : Hp) : List Addr → List (Int × Int) → Prop := Paired (fun t (p : Int × Int) => H t = some (.tup [.int p.1, .int p.2]))
theorem PrAt.imp {H H' : Hp} : ∀ {ts : List Addr} {ps : List (Int × Int)}, PrAt H ts ps → (∀ t (p : Int × Int), H t = some (.tup [.int p.1, .int p.2]) → H' t = some (.tup [.int p.1, .int p.2])) → PrAt H' ts ps
  | _, _, .nil, _ => .nil
  | _, _, .cons h r, k => .cons (k _ _ h) (PrAt.imp r k)
theorem PrAt.app {H : Hp} : ∀ {ts us : List Addr} {ps qs : List (Int × Int)}, PrAt H ts ps → PrAt H us qs → PrAt H (ts ++ us) (ps ++ qs)
  | _, _, _, _, .nil, h => h
  | _, _, _, _, .cons a r, h => .cons a (PrAt.app r h)
theorem PrAt.len {H : Hp} : ∀ {ts : List Addr} {ps : List (Int × Int)}, PrAt H ts ps → ts.length = ps.length
  | _, _, .nil => rfl
  | _, _, .cons _ r => by rw [List.length_cons, List.length_cons, PrAt.len r]
theorem PrAt.get {H : Hp} : ∀ {ts : List Addr} {ps : List (Int × Int)} {i : Nat} {v : V}, PrAt H ts ps → (ts.map V.ref)[i]? = some v → ∃ t p, v = .ref t ∧ ps[i]? = some p ∧ H t = some (.tup [.int p.1, .int p.2])
  | _, _, 0, v, .cons (a := t) (b := p) a _, e => ⟨t, p, (Option.some.inj e).symm, rfl, a⟩
  | _, _, i + 1, v, .cons _ r, e => by
    obtain ⟨t, p, h1, h2, h3⟩ := PrAt.get (i := i) r e
    exact ⟨t, p, h1, h2, h3⟩
  | _, _, _, _, .nil, e => by simp at e
def RawAt (H : Hp) (p : Addr) (n : Int) (prs : List (Int × Int)) : Prop := ∃ l t ts, H p = some (.tup [.int n, .ref l, .ref t]) ∧ H l = some (.lst (ts.map V.ref)) ∧ PrAt H ts prs
theorem RawAt.imp {H H' : Hp} {p : Addr} {n : Int} {prs : List (Int × Int)} (r : RawAt H p n prs) (k : ∀ c o, H c = some o → (∀ r m n : Int, o ≠ .lst [.int r, .int m, .int n]) → H' c = some o) : RawAt H' p n prs := by
  obtain ⟨l, t, ts, h1, h2, h3⟩ := r
  refine ⟨l, t, ts, k _ _ h1 (fun _ _ _ z => nomatch z), k _ _ h2 (fun r m n z => ?_), h3.imp fun t p h => k _ _ h (fun _ _ _ z => nomatch z)⟩
  injection z with z
  cases ts with
  | nil => cases z
  | cons t ts => cases z
theorem RawAt.same {H H' : Hp} {p : Addr} {n : Int} {prs : List (Int × Int)} (r : RawAt H p n prs) (s : Same H H') : RawAt H' p n prs := r.imp fun c o e _ => s c o e
theorem RawAt.but {H H' : Hp} {p a : Addr} {k : Nat} {n : Int} {prs : List (Int × Int)} (r : RawAt H p n prs) (J : JarAt H a k) (s : But H H' a) : RawAt H' p n prs := r.imp fun c o e z => s c o e (J.no e z)
structure GoodP (n : Int) (prs : List (Int × Int)) : Prop where
  pos : 1 ≤ n
  len : prs.length ≤ 100
  rng : ∀ q ∈ prs, 1 ≤ q.1 ∧ q.1 ≤ n - 1 ∧ (q.2 = 1 ∨ q.2 = 2)
  asc : Asc (prs.map (·.1))
abbrev marksOf (prs : List (Int × Int)) : List Int := prs.map (·.1)
abbrev strictOf (prs : List (Int × Int)) : List Int := (prs.filter fun q => decide (q.2 = 2)).map (·.1)
theorem GoodP.good {n : Int} {prs : List (Int × Int)} (g : GoodP n prs) : Good n (marksOf prs) (strictOf prs) := by
  refine ⟨g.pos, by rw [List.length_map]; have := g.len; omega, fun x hx => ?_, g.asc, ?_, fun x hx => ?_⟩
  · obtain ⟨q, hq, rfl⟩ := List.mem_map.mp hx
    have := g.rng q hq
    exact ⟨this.1, this.2.1⟩
  · have z : List.Sublist (strictOf prs) (marksOf prs) := (List.filter_sublist).map _
    exact g.asc.sublist z
  · obtain ⟨q, hq, rfl⟩ := List.mem_map.mp hx
    exact List.mem_map.mpr ⟨q, (List.mem_filter.mp hq).1, rfl⟩
def spHeap (C : Addr) : Sp := fun vs H Q _ => ∃ (p : Addr) (n : Int) (prs : List (Int × Int)), vs = [.ref p] ∧ RawAt H p n prs ∧ GoodP n prs ∧ ∀ q H', Same H H' → RowNew C H H' q n (marksOf prs) (strictOf prs) → Q (.ref q) H'
theorem ref_at {ts : List Addr} {i : Nat} {x : V} (h : (ts.map V.ref)[i]? = some x) : i < ts.length := by
  have := (List.getElem?_eq_some_iff.mp h).1
  rwa [List.length_map] at this
theorem take_map2 {ps : List (Int × Int)} {i : Nat} {z : Int × Int} (h : ps[i]? = some z) : marksOf (ps.take (i + 1)) = marksOf (ps.take i) ++ [z.1] := by
  rw [List.take_add_one, h, marksOf, List.map_append]
  rfl
theorem take_fil2 {ps : List (Int × Int)} {i : Nat} {z : Int × Int} (h : ps[i]? = some z) : strictOf (ps.take (i + 1)) = strictOf (ps.take i) ++ (if z.2 = 2 then [z.1] else []) := by
  rw [List.take_add_one, h, strictOf, List.filter_append, List.map_append]
  congr 1
  show List.map _ (List.filter _ [z]) = _
  rw [List.filter_cons]
  by_cases c : z.2 = 2 <;> simp [c]
section
variable {P : Program} {w : World} {K : PySem.W.Frag} {mg : Str → Option Value} {base : Heap}
abbrev NH : List Str := ["raw", "spot", "kind"]
theorem scH : FnScope NH ["raw"] (defScope sHeap) := ⟨rfl, rfl, rfl, by decide +kernel, rfl, by decide +kernel, by decide +kernel⟩
theorem ok_heap {f C fI : Addr} {fd fdI : FuncData} (F : Fun K "_law_heap" "_law_heap" sHeap f fd) (R : Cl K mg C) (M : Mk K C fI) (bI : Binds K fdI NI []) (GI : FnOk P w K mg base CX0 5 fI fdI NI (spInit C)) :
    FnOk P w K mg base CX0 7 f fd ["raw"] (spHeap C) := by
  refine F.ok scH (fun vs H Q E h => ?_) (fun cdv A outer s H vs Q E hr h => ?_)
  · obtain ⟨p, n, prs, rfl, _⟩ := h
    rfl
  · obtain ⟨p, n, prs, rfl, ⟨l, t, ts, h1, h2, h3⟩, G, q⟩ := h
    refine ⟨_, pss_one (ps_ret (pe_make M GI hr rfl R.mgR bI .nil pass0 (pa_cons (pe_ix ix_tup (pv 0) pe_int (fun _ _ => rfl))
      (pa_cons (pe_lc (own := [("spot", 1), ("kind", 2)]) (g := gTup K 2 (gCons (gName 1) (gCons (gName 2) gNil))) (tt := tYes) rfl scH.nd (pi_list (pe_ix ix_tup (pv 0) pe_int (fun _ _ => rfl))) (blkOk_by (own := [("spot", 1), ("kind", 2)]) (N := NH) (sc := defScope sHeap) (by decide +kernel))
          (fun _ _ _ _ _ => pg_tup rfl (pgs_cons (pg_name (i := 1) scH.nd rfl (Or.inl rfl)) (pgs_cons (pg_name (i := 2) scH.nd rfl (Or.inl rfl)) pgs_nil))) (fun _ _ _ _ _ => pts_nil) (fun _ _ _ _ _ => pv 1))
      (pa_cons (pe_lc (own := [("spot", 1), ("kind", 2)]) (g := gTup K 2 (gCons (gName 1) (gCons (gName 2) gNil))) rfl scH.nd (pi_list (pe_ix ix_tup (pv 0) pe_int (fun _ _ => rfl))) (blkOk_by (own := [("spot", 1), ("kind", 2)]) (N := NH) (sc := defScope sHeap) (by decide +kernel))
          (fun _ _ _ _ _ => pg_tup rfl (pgs_cons (pg_name (i := 1) scH.nd rfl (Or.inl rfl)) (pgs_cons (pg_name (i := 2) scH.nd rfl (Or.inl rfl)) pgs_nil))) (fun _ _ _ _ _ => pts_one (pt_cmpR op_eq (pv 2) pe_int (nomark _))) (fun _ _ _ _ _ => pv 1)) pa_nil))))), ?_⟩
    have hl := G.len
    have lt := h3.len
    refine ⟨_, rfl, p, _, _, _, rfl, rfl, SqT.of h1, at_of2 (j := 0) rfl rfl, ?_⟩
    refine ⟨_, rfl, p, _, _, _, rfl, rfl, SqT.of h1, at_of2 (j := 1) rfl rfl, l, rfl, ⟨_, SqL.of h2⟩, fun D hD => ?_⟩
    refine lc_list (K := K) (a := l) (xs := ts.map V.ref) (fun i H' => Same H H' ∧ IL H' D (marksOf (prs.take i))) ⟨same_new (Same.refl H) hD, upd_same⟩ (fun i H' _ z => SqL.of (z.1 _ _ h2)) ?_ ?_
    · rintro i x H' hx ⟨s1, hD'⟩
      obtain ⟨u, z, rfl, hz, hu⟩ := h3.get hx
      have hil := ref_at hx
      refine ⟨u, _, rfl, SqT.of (s1 _ _ hu), rfl, _, _, rfl, _, _, rfl, rfl, rfl, ?_⟩
      unfold tYes
      refine iteT ?_
      refine ⟨_, rfl, _, hD', by rw [List.length_map, List.length_map, List.length_take]; exact small1000 (by omega), same_put s1 hD, ?_⟩
      show upd _ _ _ D = _
      rw [upd_same, ints_app, take_map2 hz]
    · rintro H1 ⟨s1, hD'⟩
      rw [List.length_map, lt, List.take_length] at hD'
      refine ⟨_, rfl, p, _, _, _, rfl, rfl, SqT.of (s1 _ _ h1), at_of2 (j := 1) rfl rfl, l, rfl, ⟨_, SqL.of (s1 _ _ h2)⟩, fun D2 hD2 => ?_⟩
      have nDD : D ≠ D2 := ne_of_none hD' hD2
      refine lc_list (K := K) (a := l) (xs := ts.map V.ref) (fun i H' => Same H1 H' ∧ IL H' D2 (strictOf (prs.take i))) ⟨same_new (Same.refl H1) hD2, upd_same⟩ (fun i H' _ z => SqL.of (z.1 _ _ (s1 _ _ h2))) ?_ ?_
      · rintro i x H' hx ⟨s2, hE⟩
        obtain ⟨u, z, rfl, hz, hu⟩ := h3.get hx
        have hil := ref_at hx
        have tf := take_fil2 hz
        refine ⟨u, _, rfl, SqT.of (s2 _ _ (s1 _ _ hu)), rfl, _, _, rfl, _, _, rfl, rfl, rfl, ?_⟩
        refine ⟨_, rfl, rfl, _, rfl, ?_⟩
        by_cases c : z.2 = 2
        · refine ifT (by simp [c]) ?_
          refine ⟨_, rfl, _, hE, ?_, same_put s2 hD2, ?_⟩
          · have z1 := List.length_filter_le (fun q : Int × Int => decide (q.2 = 2)) (prs.take i)
            rw [List.length_take] at z1
            rw [List.length_map, List.length_map]
            exact small1000 (by omega)
          · show upd _ _ _ D2 = _
            rw [upd_same, ints_app, tf, if_pos c]
        · refine ifF (by simp [c]) ?_
          refine ⟨s2, ?_⟩
          show H' D2 = _
          rw [hE, tf, if_neg c, List.append_nil]
      · rintro H2 ⟨s2, hE⟩
        rw [List.length_map, lt, List.take_length] at hE
        refine fun x dx nx nd ne => ?_
        have s3 : Same H2 (upd (upd H2 dx (.own x)) x (.ins C dx [])) := same_new (same_new (Same.refl H2) nd) (by rw [upd_ne (Ne.symm ne)]; exact nx)
        refine ⟨x, dx, D, D2, n, _, _, rfl, upd_same, s3 _ _ (s2 _ _ hD'), s3 _ _ hE, G.good, fun H5 row kp => ⟨rfl, ?_⟩⟩
        exact q x H5 (same_ins (s1.trans s2) nx nd kp) (row.mono fun c o e => ⟨o, s3 _ _ (s2 _ _ (s1 _ _ e))⟩)
end
end Cw
namespace Cw
open PySem L2
/-! ## min of four whole numbers -/
theorem min4_args (vs : List Value) (h : vs.length = 4) : argsOk "min" ⟨vs, []⟩ := by
  match vs, h with
  | [p, q, r, s], _ => unfold argsOk; kernel_rfl
section
variable {P : Program} {w : World} {A : Around} {E : Value → Shared → Prop} {s : Shared}
/-- min of four values whose tuple is walked -/
theorem min4_walked {vs : List Value} (h4 : vs.length = 4) {Q : Value → Shared → Prop}
    (go : wpAny (model P w) A.in1 (pyIter (.ref s.heap.objs.size)) (fun it s1 => ∃ J fs ws k Pv Sv less, it = .ref J ∧ Walks P w A.in1 J fs ws k Pv Sv ∧ Sv 0 s1.heap ∧ (∀ d ∈ fs, d < s1.heap.objs.size) ∧ 0 < k ∧ CmpOf P w A.in1 .Lt Pv less ∧
      ∀ v h1 t1, Pv (argBest less (k - 1)) v → (∀ d o, d ∉ ws → s1.heap.get? d = some o → h1.get? d = some o) → Q v { s1 with heap := h1, toks := t1 }) E
      { s with heap := s.heap.push { cls := .type "tuple", data := .seq vs.toArray } }) :
    wpAny (model P w) A (call (.builtin "min") vs) Q E s := by
  match vs, h4 with
  | [p, q, r, u], _ =>
    refine call_function_tree F.kind_min F.plain_min F.entry_min (min4_args [p, q, r, u] rfl) (wpAny_bind (wpAny_of_eq (a := [none, none]) rfl (wpAny_bind (wpAny_newObj_type (wpAny_bind (wpAny_mono go (fun it s1 g => ?_) fun _ _ e => e))))))
    obtain ⟨J, fs, ws, k, Pv, Sv, less, e, wk, st, fr, k0, cmp, out⟩ := g
    subst e
    have new : s1.heap.objs.size ∉ fs := fun m => absurd (fr _ m) (Nat.lt_irrefl _)
    have nm : (toString "min" ++ toString ".loop" : String) = "min.loop" := by decide
    refine wpAny_bind (wpAny_newObj_type ?_)
    rw [nm]
    refine wpAny_pure ⟨plainId_quiet F.plain_min_loop _, codeAny_min_loop_first wk less cmp s1.heap.objs.size new k0 (wk.frame _ _ _ st fun d _ o e => Heap.get?_push_of_some _ e) (Heap.get?_push_size _ rfl) fun v h1 t1 pv keep =>
      out v h1 t1 pv fun d o nd e => keep d o nd (Nat.ne_of_lt (Heap.lt_size e)) (Heap.get?_push_of_some _ e)⟩
theorem min4_ints {a b c d : Int} {t u x y : Tok} {Q : Value → Shared → Prop} (nh : A.handled = none)
    (out : ∀ m r h1 t1, (∀ z o, s.heap.get? z = some o → h1.get? z = some o) → (m = a ∨ m = b ∨ m = c ∨ m = d) → m ≤ a → m ≤ b → m ≤ c → m ≤ d → Q (.int m r) { s with heap := h1, toks := t1 }) :
    wpAny (model P w) A (call (.builtin "min") [.int a t, .int b u, .int c x, .int d y]) Q E s := by
  obtain ⟨xs, hxs⟩ : ∃ xs : Array (Int × Tok), xs = #[(a, t), (b, u), (c, x), (d, y)] := ⟨_, rfl⟩
  have items : intItems xs = #[.int a t, .int b u, .int c x, .int d y] := by rw [hxs]; simp [intItems]
  have tup : (s.heap.push { cls := .type "tuple", data := .seq #[.int a t, .int b u, .int c x, .int d y] }).IsTuple s.heap.objs.size (intItems xs) := ⟨_, Heap.get?_push_size _ rfl, rfl, 0, by rw [items]⟩
  have size1 : (s.heap.push { cls := .type "tuple", data := .seq #[.int a t, .int b u, .int c x, .int d y] }).objs.size = s.heap.objs.size + 1 := Heap.size_push ..
  have four : (intItems xs).size = 4 := by rw [items]; rfl
  have lt0 : s.heap.objs.size < s.heap.objs.size + 1 := Nat.lt_succ_self _
  refine min4_walked (vs := [.int a t, .int b u, .int c x, .int d y]) rfl (wpAny_pyIter_tuple tup ⟨_, [_, s.heap.objs.size], [_], _, _, _, _, rfl, Walks.tuple (A := A.in1) nh _ s.heap.objs.size (by rw [size1]; exact Nat.ne_of_lt lt0) (intItems xs),
    ⟨⟨_, Heap.get?_push_size _ rfl, rfl, rfl⟩, tup.push _⟩, fun z hz => ?_, by rw [four]; decide, CmpOf.ints_lt (numAt xs) (fun _ _ => intItems_at), fun v h1 t1 pv keep => ?_⟩)
  · show z < ((s.heap.push _).push _).objs.size
    rw [Heap.size_push, size1]
    simp only [List.mem_cons, List.not_mem_nil, or_false] at hz
    rcases hz with rfl | rfl
    · rw [size1]; exact Nat.lt_succ_self _
    · exact Nat.lt_succ_of_lt lt0
  have kept : ∀ z o, s.heap.get? z = some o → h1.get? z = some o := fun z o e => keep z o (fun m => by
    have l := Heap.lt_size e
    rw [List.mem_singleton.mp m, size1] at l
    exact Nat.lt_irrefl _ (Nat.lt_of_succ_lt l)) (Heap.get?_push_of_some _ (Heap.get?_push_of_some _ e))
  have pv3 : (intItems xs)[argBest (fun i j => decide (numAt xs i < numAt xs j)) 3]? = some v := by
    have e3 : (intItems xs).size - 1 = 3 := by rw [four]
    rw [← e3]
    exact pv
  obtain ⟨j3, least⟩ := argBest_lt (numAt xs) 3
  obtain ⟨r, rfl⟩ := intItems_at pv3
  have at0 : numAt xs 0 = a := by rw [hxs]; rfl
  have at1 : numAt xs 1 = b := by rw [hxs]; rfl
  have at2 : numAt xs 2 = c := by rw [hxs]; rfl
  have at3 : numAt xs 3 = d := by rw [hxs]; rfl
  refine out _ r h1 t1 kept ?_ (at0 ▸ least 0 (by decide)) (at1 ▸ least 1 (by decide)) (at2 ▸ least 2 (by decide)) (at3 ▸ least 3 (by decide))
  generalize argBest (fun i j => decide (numAt xs i < numAt xs j)) 3 = j at j3 ⊢
  match j, j3 with
  | 0, _ => exact .inl at0
  | 1, _ => exact .inr (.inl at1)
  | 2, _ => exact .inr (.inr (.inl at2))
  | 3, _ => exact .inr (.inr (.inr at3))
  | j + 4, h => omega
end
theorem vals4 {x y z u : V} {us : List Value} (r : Vals [x, y, z, u] us) : ∃ a b c d, us = [a, b, c, d] ∧ RelV x a ∧ RelV y b ∧ RelV z c ∧ RelV u d := by
  cases r with
  | cons r1 r2 =>
    obtain ⟨b, c, d, rfl, r3, r4, r5⟩ := vals3 r2
    exact ⟨_, b, c, d, rfl, r1, r3, r4, r5⟩
theorem call_min4 {X : Cx} (hc : X.calm = true) : CallR X (.builtin "min") (fun xs H Q => ∃ a b c d, xs = [.int a, .int b, .int c, .int d] ∧ ∀ m, (m = a ∨ m = b ∨ m = c ∨ m = d) → m ≤ a → m ≤ b → m ≤ c → m ≤ d → Q (.int m) H) := by
  intro pins s σ H xs us Q I r h
  obtain ⟨a, b, c, d, rfl, q⟩ := h
  obtain ⟨u1, u2, u3, u4, rfl, ⟨t, rfl⟩, ⟨t2, rfl⟩, ⟨t3, rfl⟩, ⟨t4, rfl⟩⟩ := vals4 r
  exact min4_ints (I.ok.hd hc) fun m r h2 tk k e1 l1 l2 l3 l4 => ⟨.int m, H, I.kept k, ⟨_, rfl⟩, q m e1 l1 l2 l3 l4⟩
end Cw
namespace Cw
open PySem L2
abbrev sCSet : Stmt := top 15
abbrev sCPl : Stmt := top 16
abbrev sCSz : Stmt := top 17
abbrev sCLen : Stmt := top 18
abbrev sNext : Stmt := top 20
abbrev sWalk : Stmt := top 21
abbrev sWithin : Stmt := top 0
abbrev sCWk : Stmt := top 22
abbrev sStep : Stmt := top 23
abbrev sCuts : Stmt := top 24
abbrev sFM : Stmt := top 25
abbrev sCB : Stmt := top 26
abbrev sMeet : Stmt := top 0
/-! ## how many are before -/
def cb (ns : List Int) (z : Int) : Nat := (ns.filter fun x => decide (x < z)).length
def fm (ns : List Int) (z e : Int) : Int := (ns[cb ns z]?).getD e
theorem cb_le {ns : List Int} {z : Int} : cb ns z ≤ ns.length := List.length_filter_le _ _
theorem cb_at {ns : List Int} {z : Int} {k : Nat} (hk : k ≤ ns.length) (h1 : ∀ i, i < k → ∀ x, ns[i]? = some x → x < z) (h2 : ∀ i, k ≤ i → ∀ x, ns[i]? = some x → z ≤ x) : cb ns z = k := by
  have e : ns = ns.take k ++ ns.drop k := (List.take_append_drop k ns).symm
  unfold cb
  rw [e, List.filter_append, List.length_append]
  have a1 : (ns.take k).filter (fun x => decide (x < z)) = ns.take k := List.filter_eq_self.mpr fun x hx => by
    obtain ⟨i, hi, rfl⟩ := List.mem_iff_getElem.mp hx
    rw [List.length_take] at hi
    refine decide_eq_true (h1 i (by omega) _ ?_)
    rw [List.getElem_take]
    exact List.getElem?_eq_getElem (by omega)
  have a2 : (ns.drop k).filter (fun x => decide (x < z)) = [] := List.filter_eq_nil_iff.mpr fun x hx => by
    obtain ⟨i, hi, rfl⟩ := List.mem_iff_getElem.mp hx
    rw [List.length_drop] at hi
    have := h2 (k + i) (by omega) (ns.drop k)[i] (by rw [List.getElem_drop]; exact List.getElem?_eq_getElem (by omega))
    simp only [decide_eq_true_eq]
    omega
  rw [a1, a2, List.length_take]
  simp
  omega
theorem asc_ix {ns : List Int} (h : Asc ns) {i j : Nat} {x y : Int} (hij : i < j) (hx : ns[i]? = some x) (hy : ns[j]? = some y) : x < y := by
  obtain ⟨li, rfl⟩ := List.getElem?_eq_some_iff.mp hx
  obtain ⟨lj, rfl⟩ := List.getElem?_eq_some_iff.mp hy
  exact List.pairwise_iff_getElem.mp h i j li lj hij
/-- what stands on both sides of the number of those before -/
theorem cb_split {ns : List Int} (h : Asc ns) (z : Int) : (∀ i, i < cb ns z → ∀ x, ns[i]? = some x → x < z) ∧ (∀ i, cb ns z ≤ i → ∀ x, ns[i]? = some x → z ≤ x) := by
  induction ns with
  | nil => exact ⟨fun i _ x e => by simp at e, fun i _ x e => by simp at e⟩
  | cons a r ih =>
    obtain ⟨ha, hr⟩ := List.pairwise_cons.mp h
    obtain ⟨i1, i2⟩ := ih hr
    by_cases c : a < z
    · have e : cb (a :: r) z = cb r z + 1 := by
        unfold cb
        rw [List.filter_cons, if_pos (decide_eq_true c)]
        rfl
      rw [e]
      refine ⟨fun i hi x hx => ?_, fun i hi x hx => ?_⟩
      · cases i with
        | zero => cases hx; exact c
        | succ i => exact i1 i (by omega) x hx
      · cases i with
        | zero => omega
        | succ i => exact i2 i (by omega) x hx
    · have e : cb (a :: r) z = 0 := by
        unfold cb
        rw [List.filter_eq_nil_iff.mpr fun x hx => ?_]
        · rfl
        · rcases List.mem_cons.mp hx with rfl | hx
          · simpa using c
          · have := ha x hx
            simp only [decide_eq_true_eq]
            omega
      rw [e]
      refine ⟨fun i hi => by omega, fun i _ x hx => ?_⟩
      cases i with
      | zero => cases hx; omega
      | succ i =>
        have := ha x (List.mem_of_getElem? hx)
        omega
theorem fm_or {ns : List Int} (h : Asc ns) (z e : Int) : (fm ns z e ∈ ns ∧ z ≤ fm ns z e) ∨ (fm ns z e = e ∧ ∀ x ∈ ns, x < z) := by
  obtain ⟨h1, h2⟩ := cb_split h z
  unfold fm
  by_cases c : cb ns z < ns.length
  · have hg := List.getElem?_eq_getElem c
    rw [hg]
    exact .inl ⟨List.getElem_mem c, h2 _ (Nat.le_refl _) _ hg⟩
  · rw [List.getElem?_eq_none (by omega)]
    refine .inr ⟨rfl, fun x hx => ?_⟩
    obtain ⟨i, hi, rfl⟩ := List.mem_iff_getElem.mp hx
    exact h1 i (by omega) _ (List.getElem?_eq_getElem hi)
theorem fm_le {ns : List Int} (h : Asc ns) {z e x : Int} (hx : x ∈ ns) (hz : z ≤ x) : fm ns z e ≤ x := by
  obtain ⟨h1, h2⟩ := cb_split h z
  obtain ⟨i, hi, rfl⟩ := List.mem_iff_getElem.mp hx
  have hg := List.getElem?_eq_getElem hi
  have c : cb ns z ≤ i := by
    by_cases c : i < cb ns z
    · have := h1 i c _ hg
      omega
    · omega
  unfold fm
  by_cases d : cb ns z = i
  · rw [d, hg]
    exact Int.le_refl _
  · have l : cb ns z < ns.length := by omega
    rw [List.getElem?_eq_getElem l]
    have := asc_ix h (by omega : cb ns z < i) (List.getElem?_eq_getElem l) hg
    show ns[cb ns z] ≤ ns[i]
    omega
theorem fm_top {ns : List Int} (h : Asc ns) {z e : Int} (k : ∀ x ∈ ns, x ≤ e) : fm ns z e ≤ e := by
  rcases fm_or h z e with ⟨m, _⟩ | ⟨m, _⟩
  · exact k _ m
  · omega
theorem fm_mono {ns : List Int} (h : Asc ns) {z y e : Int} (k : ∀ x ∈ ns, x ≤ e) (hz : z ≤ y) : fm ns z e ≤ fm ns y e := by
  rcases fm_or h y e with ⟨m, l⟩ | ⟨m, _⟩
  · exact fm_le h m (by omega)
  · rw [m]
    exact fm_top h k
def spCB : Sp := fun vs H Q _ => ∃ (a : Addr) (ns : List Int) (z : Int), vs = [.ref a, .int z] ∧ IL H a ns ∧ ns.length ≤ 1000 ∧ Asc ns ∧ Q (.int (cb ns z)) H
def spFM : Sp := fun vs H Q _ => ∃ (a : Addr) (ns : List Int) (z e : Int), vs = [.ref a, .int z, .int e] ∧ IL H a ns ∧ ns.length ≤ 1000 ∧ Asc ns ∧ Q (.int (fm ns z e)) H
def muCB : St → Hp → Nat := fun σ _ => match σ with | [_, _, some (.int lo), some (.int hi), _] => (hi - lo).toNat | _ => 0
section
variable {P : Program} {w : World} {K : PySem.W.Frag} {mg : Str → Option Value} {base : Heap}
abbrev NCB : List Str := ["places", "place", "low", "high", "middle"]
theorem scCB : FnScope NCB ["places", "place"] (defScope sCB) := ⟨rfl, rfl, rfl, by decide +kernel, rfl, by decide +kernel, by decide +kernel⟩
theorem ok_cb {f : Addr} {fd : FuncData} (F : Fun K "count_before" "count_before" sCB f fd) (T : Bl mg) : FnOk P w K mg base CX0 1 f fd ["places", "place"] spCB := by
  refine F.ok scCB (fun vs H Q E h => ?_) (fun cdv A outer s H vs Q E hr h => ?_)
  · obtain ⟨a, ns, z, rfl, _⟩ := h
    rfl
  · obtain ⟨a, ns, z, rfl, hS, hl, ha, q⟩ := h
    refine ⟨_, pss_cons (ps_set (i := 2) scCB.nd rfl (Or.inl rfl) pe_int)
      (pss_cons (ps_set (i := 3) scCB.nd rfl (Or.inl rfl) (pe_callB call_len_seq (by rfl) T.len PySem.boot_len (pa_cons (pv 0) pa_nil)))
      (pss_cons (ps_while PassesOwn.never (pt_cmpR op_lt (pv 2) (pv 3) (nomark _))
        (pss_cons (ps_set (i := 4) scCB.nd rfl (Or.inl rfl) (pe_op op_fdiv (pe_op op_add (pv 2) (pv 3)) pe_int))
        (pss_one (ps_if (pt_cmpR op_lt (pe_ix (r := rIxL K) ix_list (pv 0) (pv 4) (fun _ _ => rfl)) (pv 1) (nomark _))
          (pss_one (ps_set (i := 2) scCB.nd rfl (Or.inl rfl) (pe_op op_add (pv 4) pe_int)))
          (pss_one (ps_set (i := 3) scCB.nd rfl (Or.inl rfl) (pv 4)))))))
      (pss_one (ps_ret (pv 2))))), ?_⟩
    refine ⟨_, rfl, a, _, rfl, .inl (SqL.of hS), ?_⟩
    rw [List.length_map]
    refine while_by (fun σ H' => ∃ (lo hi : Nat) (v : Option V), σ = [some (.ref a), some (.int z), some (.int lo), some (.int hi), v] ∧ H' = H ∧ lo ≤ hi ∧ hi ≤ ns.length ∧ (∀ i, i < lo → ∀ x, ns[i]? = some x → x < z) ∧ (∀ i, hi ≤ i → ∀ x, ns[i]? = some x → z ≤ x))
      muCB ⟨0, ns.length, none, rfl, rfl, Nat.zero_le _, Nat.le_refl _, fun i hi => absurd hi (Nat.not_lt_zero _), fun i hi x e => by rw [List.getElem?_eq_none hi] at e; cases e⟩ ?_
      (fun σ H Q Q' hQ h => by obtain ⟨x, e1, y, e2, i, j, e3, e4, k, e5, q⟩ := h; exact ⟨x, e1, y, e2, i, j, e3, e4, k, e5, hQ _ _ q⟩)
    rintro σ H' ⟨lo, hi, v, rfl, rfl, l1, l2, h1, h2⟩
    refine ⟨_, rfl, _, rfl, _, _, rfl, rfl, _, rfl, ?_⟩
    by_cases c : (lo : Int) < hi
    · refine ifT (decide_eq_true c) ?_
      refine ⟨_, rfl, _, rfl, _, _, rfl, rfl, _, _, rfl, rfl, ⟨by decide, by decide⟩, ?_⟩
      dsimp only
      obtain ⟨m, hm⟩ : ∃ m : Nat, ((lo : Int) + hi) / 2 = m := ⟨(lo + hi) / 2, by omega⟩
      have m1 : lo ≤ m := by omega
      have m2 : m < hi := by omega
      rw [hm]
      have ml : m < ns.length := by omega
      have hg := List.getElem?_eq_getElem ml
      refine ⟨_, rfl, _, rfl, a, _, _, V.int ns[m], rfl, rfl, SqL.of hS, at_of2 (j := m) rfl (by rw [List.getElem?_map, hg]; rfl), _, rfl, _, _, rfl, rfl, _, rfl, ?_⟩
      by_cases d : ns[m] < z
      · refine ifT (decide_eq_true d) ?_
        refine ⟨_, rfl, _, _, rfl, rfl, ⟨m + 1, hi, _, rfl, rfl, by omega, l2, fun i hi' x hx => ?_, h2⟩, ?_⟩
        · by_cases e : i = m
          · subst e
            rw [hg] at hx
            cases hx
            exact d
          · have := asc_ix ha (by omega : i < m) hx hg
            omega
        · show ((hi : Int) - ((m : Int) + 1)).toNat < ((hi : Int) - lo).toNat
          omega
      · refine ifF (decide_eq_false d) ?_
        refine ⟨_, rfl, ⟨lo, m, _, rfl, rfl, by omega, by omega, h1, fun i hi' x hx => ?_⟩, ?_⟩
        · by_cases e : i = m
          · subst e
            rw [hg] at hx
            cases hx
            omega
          · have := asc_ix ha (by omega : m < i) hg hx
            omega
        · show ((m : Int) - lo).toNat < ((hi : Int) - lo).toNat
          omega
    · refine ifF (decide_eq_false c) ?_
      refine ⟨_, rfl, ?_⟩
      have e : lo = hi := by omega
      subst e
      rw [← cb_at l2 h1 h2] at *
      exact q
abbrev NFM : List Str := ["marks", "place", "end", "at"]
theorem scFM : FnScope NFM ["marks", "place", "end"] (defScope sFM) := ⟨rfl, rfl, rfl, by decide +kernel, rfl, by decide +kernel, by decide +kernel⟩
theorem ok_fm {f fB : Addr} {fd fdB : FuncData} (F : Fun K "first_mark" "first_mark" sFM f fd) (T : Bl mg) (gB : mg "count_before" = some (.ref fB)) (kB : PySem.W.keepIn K (.ref fB) = true) (bB : Binds K fdB ["places", "place"] []) (GB : FnOk P w K mg base CX0 1 fB fdB ["places", "place"] spCB) :
    FnOk P w K mg base CX0 2 f fd ["marks", "place", "end"] spFM := by
  refine F.ok scFM (fun vs H Q E h => ?_) (fun cdv A outer s H vs Q E hr h => ?_)
  · obtain ⟨a, ns, z, e, rfl, _⟩ := h
    rfl
  · obtain ⟨a, ns, z, e, rfl, hS, hl, ha, q⟩ := h
    refine ⟨_, pss_cons (ps_set (i := 3) scFM.nd rfl (Or.inl rfl) (pe_call GB hr rfl gB kB bB .nil pass0 (pa_cons (pv 0) (pa_cons (pv 1) pa_nil))))
      (pss_one (ps_ret (pe_ifExp (pt_cmpR op_lt (pv 3) (pe_callB call_len_seq (by rfl) T.len PySem.boot_len (pa_cons (pv 0) pa_nil)) (nomark _)) (pe_ix (r := rIxL K) ix_list (pv 0) (pv 3) (fun _ _ => rfl)) (pv 2)))), ?_⟩
    refine ⟨_, rfl, _, rfl, a, ns, z, rfl, hS, hl, ha, ?_⟩
    refine ⟨_, rfl, _, rfl, a, _, rfl, .inl (SqL.of hS), _, _, rfl, rfl, _, rfl, ?_⟩
    rw [List.length_map]
    unfold fm at q
    by_cases c : cb ns z < ns.length
    · have hg := List.getElem?_eq_getElem c
      refine ifT (decide_eq_true (by omega)) ?_
      rw [hg] at q
      exact ⟨_, rfl, _, rfl, a, _, _, _, rfl, rfl, SqL.of hS, at_of2 (j := cb ns z) rfl (by rw [List.getElem?_map, hg]; rfl), q⟩
    · refine ifF (decide_eq_false (by omega)) ?_
      rw [List.getElem?_eq_none (by omega)] at q
      exact ⟨_, rfl, q⟩
end
end Cw
namespace Cw
open PySem L2
abbrev sGetL : Stmt := inClass sRow 1
abbrev sGetS : Stmt := inClass sRow 3
def spGetL (C : Addr) : Sp := fun vs H Q _ => ∃ (a : Addr) (n : Int) (ms ss : List Int), vs = [.ref a] ∧ RowAt C H a n ms ss ∧ Q (.int n) H
def spGetS (C : Addr) : Sp := fun vs H Q _ => ∃ (a : Addr) (n : Int) (ms ss : List Int), vs = [.ref a] ∧ RowAt C H a n ms ss ∧ ∀ p H', Same H H' → H p = none → IL H' p ss → Q (.ref p) H'
/-! ## the next cut -/
def nx (n : Int) (ms ss : List Int) (l m g p : Int) : Int := min (min (fm ss (p + l) n) (fm ms (p + m) n)) (min (p + g) n)
/-- settings -/
structure SetOk (l m g : Int) : Prop where
  l1 : 1 ≤ l
  lm : l ≤ m
  mg : m ≤ g
/-- what a step does -/
structure Stp (F : Int → Int) (n l : Int) : Prop where
  l1 : 1 ≤ l
  le : ∀ p, F p ≤ n
  ge : ∀ p, p + l ≤ F p ∨ F p = n
  mono : ∀ p q, p ≤ q → F p ≤ F q
theorem Stp.gt {F : Int → Int} {n l p : Int} (S : Stp F n l) (h : p < n) : p < F p := by
  have := S.ge p
  have := S.l1
  omega
theorem nx_stp {n l m g : Int} {ms ss : List Int} (G : Good n ms ss) (S : SetOk l m g) : Stp (nx n ms ss l m g) n l := by
  have k1 : ∀ x ∈ ms, x ≤ n := fun x hx => by have := G.rng x hx; omega
  have k2 : ∀ x ∈ ss, x ≤ n := fun x hx => k1 x (G.sub x hx)
  have s1 := S.l1
  have s2 := S.lm
  have s3 := S.mg
  refine ⟨s1, fun p => ?_, fun p => ?_, fun p q h => ?_⟩
  · unfold nx
    omega
  · have a := fm_or G.asc2 (p + l) n
    have b := fm_or G.asc (p + m) n
    unfold nx
    omega
  · have a := fm_mono G.asc2 k2 (z := p + l) (y := q + l) (by omega)
    have b := fm_mono G.asc k1 (z := p + m) (y := q + m) (by omega)
    unfold nx
    omega
/-! ## walks -/
def kc (F : Int → Int) (n s : Int) : Nat → Int
  | 0 => s
  | k + 1 => if kc F n s k < n then F (kc F n s k) else kc F n s k
def wl (F : Int → Int) (n s : Int) (m : Nat) : List Int := (List.range (m + 1)).map (kc F n s)
theorem wl_succ {F : Int → Int} {n s : Int} {m : Nat} : wl F n s (m + 1) = wl F n s m ++ [kc F n s (m + 1)] := by
  unfold wl
  rw [List.range_succ, List.map_append]
  rfl
theorem wl_len {F : Int → Int} {n s : Int} {m : Nat} : (wl F n s m).length = m + 1 := by
  unfold wl
  rw [List.length_map, List.length_range]
theorem kc_le {F : Int → Int} {n l s : Int} (S : Stp F n l) (h : s ≤ n) : ∀ k, kc F n s k ≤ n
  | 0 => h
  | k + 1 => by
    have i := kc_le S h k
    unfold kc
    by_cases c : kc F n s k < n
    · rw [if_pos c]
      exact S.le _
    · rw [if_neg c]
      exact i
theorem kc_ge {F : Int → Int} {n l s : Int} (S : Stp F n l) : ∀ k : Nat, kc F n s k < n → s + k * l ≤ kc F n s k
  | 0, _ => by
    show s + ((0 : Nat) : Int) * l ≤ s
    simp
  | k + 1, h => by
    by_cases c : kc F n s k < n
    · have e : kc F n s (k + 1) = F (kc F n s k) := if_pos c
      have i := kc_ge S k c
      have z := S.ge (kc F n s k)
      rw [e] at h ⊢
      have w : ((k + 1 : Nat) : Int) * l = k * l + l := by
        rw [Int.natCast_add, Int.add_mul]
        simp
      rw [w]
      omega
    · have e : kc F n s (k + 1) = kc F n s k := if_neg c
      omega
theorem kc_few {F : Int → Int} {n l s : Int} (S : Stp F n l) (h0 : 0 ≤ s) (b : n ≤ 200 * l) {k : Nat} (h : kc F n s k < n) : k < 200 := by
  have z := kc_ge S k h
  have l1 := S.l1
  by_cases c : k < 200
  · exact c
  · have w : (200 : Int) * l ≤ k * l := Int.mul_le_mul_of_nonneg_right (by omega) (by omega)
    omega
theorem kc_at {F : Int → Int} {n s : Int} {k : Nat} (h : kc F n s k < n) : kc F n s (k + 1) = F (kc F n s k) := if_pos h
theorem kc_end {F : Int → Int} {n s : Int} {m : Nat} (h : ¬ kc F n s m < n) : ∀ j, kc F n s (m + j) = kc F n s m
  | 0 => rfl
  | j + 1 => by
    have i := kc_end h j
    show (if kc F n s (m + j) < n then F (kc F n s (m + j)) else kc F n s (m + j)) = _
    rw [i, if_neg h]
/-- how many cuts a walk has -/
structure WkOk (F : Int → Int) (n s : Int) (m : Nat) : Prop where
  few : m ≤ 200
  fin : kc F n s m = n
  bef : ∀ i, i < m → kc F n s i < n
def spStep (C : Addr) : Sp := fun vs H Q _ => ∃ (r t : Addr) (n l m g p : Int) (ms ss : List Int), vs = [.ref r, .ref t, .int p] ∧ RowAt C H r n ms ss ∧ H t = some (.tup [.int l, .int m, .int g]) ∧ Good n ms ss ∧ ∀ H', Same H H' → Q (.int (nx n ms ss l m g p)) H'
def spCuts (C : Addr) : Sp := fun vs H Q _ => ∃ (r t : Addr) (n l m g p : Int) (ms ss : List Int), vs = [.ref r, .ref t, .int p] ∧ RowAt C H r n ms ss ∧ H t = some (.tup [.int l, .int m, .int g]) ∧ Good n ms ss ∧ SetOk l m g ∧ n ≤ 200 * l ∧ 0 ≤ p ∧ p ≤ n ∧
  ∀ q H' k, Same H H' → H q = none → WkOk (nx n ms ss l m g) n p k → IL H' q (wl (nx n ms ss l m g) n p k) → Q (.ref q) H'
/-- the getters -/
structure Gets (P : Program) (w : World) (K : PySem.W.Frag) (mg : Str → Option Value) (base : Heap) (C pL fL pM fM pS fS : Addr) (dL dM dS : FuncData) : Prop where
  hL : PropOf K C "length" pL fL
  bL : Binds K dL ["self"] []
  GL : FnOk P w K mg base CX0 1 fL dL ["self"] (spGetL C)
  hM : PropOf K C "marks" pM fM
  bM : Binds K dM ["self"] []
  GM : FnOk P w K mg base CX0 1 fM dM ["self"] (spGetM C)
  hS : PropOf K C "strict" pS fS
  bS : Binds K dS ["self"] []
  GS : FnOk P w K mg base CX0 1 fS dS ["self"] (spGetS C)
section
variable {P : Program} {w : World} {K : PySem.W.Frag} {mg : Str → Option Value} {base : Heap}
theorem scGL : FnScope ["self"] ["self"] (defScope sGetL) := ⟨rfl, rfl, rfl, by decide +kernel, rfl, by decide +kernel, by decide +kernel⟩
theorem ok_getL {f C : Addr} {fd : FuncData} (F : Fun K "length" "Row.length" sGetL f fd) (R : Cl K mg C) : FnOk P w K mg base CX0 1 f fd ["self"] (spGetL C) := by
  refine F.ok scGL (fun vs H Q E h => ?_) (fun cdv A outer s H vs Q E hr h => ?_)
  · obtain ⟨a, n, ms, ss, rfl, _⟩ := h
    rfl
  · obtain ⟨a, n, ms, ss, rfl, ⟨dx, l1, l2, ho, h1, h2⟩, k⟩ := h
    refine ⟨_, pss_one (ps_ret (pe_fld (pv 0) rfl)), ?_⟩
    exact ⟨_, rfl, a, C, dx, _, _, rfl, ho, R.cl, R.nL, fl_L _ _ _, k⟩
theorem scGS : FnScope ["self"] ["self"] (defScope sGetS) := ⟨rfl, rfl, rfl, by decide +kernel, rfl, by decide +kernel, by decide +kernel⟩
theorem ok_getS {f C : Addr} {fd : FuncData} (F : Fun K "strict" "Row.strict" sGetS f fd) (T : Bl mg) (R : Cl K mg C) : FnOk P w K mg base CX0 1 f fd ["self"] (spGetS C) := by
  refine F.ok scGS (fun vs H Q E h => ?_) (fun cdv A outer s H vs Q E hr h => ?_)
  · obtain ⟨a, n, ms, ss, rfl, _⟩ := h
    rfl
  · obtain ⟨a, n, ms, ss, rfl, ⟨dx, l1, l2, ho, h1, h2⟩, k⟩ := h
    refine ⟨_, pss_one (ps_ret (pe_callTy call_list_of (by rfl) T.list (by decide +kernel) (pa_cons (pe_fld (pv 0) rfl) pa_nil))), ?_⟩
    refine ⟨_, rfl, a, C, dx, _, _, rfl, ho, R.cl, R.nS, fl_S _ _ _, l2, _, rfl, .inl (SqL.of h2), fun p hp => ?_⟩
    exact k p _ (same_new (Same.refl H) hp) hp upd_same
abbrev NSt : List Str := ["row", "settings", "place", "least", "normal", "greatest", "strict", "either"]
theorem scSt : FnScope NSt ["row", "settings", "place"] (defScope sStep) := ⟨rfl, rfl, rfl, by decide +kernel, rfl, by decide +kernel, by decide +kernel⟩
theorem ok_step {f C fF pL fL pM fM pS fS : Addr} {fd fdF dL dM dS : FuncData} (F : Fun K "step" "step" sStep f fd) (T : Bl mg) (R : Cl K mg C) (Gs : Gets P w K mg base C pL fL pM fM pS fS dL dM dS)
    (gF : mg "first_mark" = some (.ref fF)) (kF : PySem.W.keepIn K (.ref fF) = true) (bF : Binds K fdF ["marks", "place", "end"] []) (GF : FnOk P w K mg base CX0 2 fF fdF ["marks", "place", "end"] spFM) :
    FnOk P w K mg base CX0 3 f fd ["row", "settings", "place"] (spStep C) := by
  refine F.ok scSt (fun vs H Q E h => ?_) (fun cdv A outer s H vs Q E hr h => ?_)
  · obtain ⟨r, t, n, l, m, g, p, ms, ss, rfl, _⟩ := h
    rfl
  · obtain ⟨r, t, n, l, m, g, p, ms, ss, rfl, hR, hT, G, q⟩ := h
    refine ⟨_, pss_cons (ps_asg (pv 1) (pg_tup (by rfl) (pgs_cons (pg_name (i := 3) scSt.nd rfl (Or.inl rfl)) (pgs_cons (pg_name (i := 4) scSt.nd rfl (Or.inl rfl)) (pgs_cons (pg_name (i := 5) scSt.nd rfl (Or.inl rfl)) pgs_nil)))))
      (pss_cons (ps_set (i := 6) scSt.nd rfl (Or.inl rfl) (pe_call GF hr rfl gF kF bF .nil pass0 (pa_cons (pe_prop (pv 0) R.cl Gs.hS Gs.GS hr Gs.bS .nil pass0 rfl) (pa_cons (pe_op op_add (pv 2) (pv 3)) (pa_cons (pe_prop (pv 0) R.cl Gs.hL Gs.GL hr Gs.bL .nil pass0 rfl) pa_nil)))))
      (pss_cons (ps_set (i := 7) scSt.nd rfl (Or.inl rfl) (pe_call GF hr rfl gF kF bF .nil pass0 (pa_cons (pe_prop (pv 0) R.cl Gs.hM Gs.GM hr Gs.bM .nil pass0 rfl) (pa_cons (pe_op op_add (pv 2) (pv 4)) (pa_cons (pe_prop (pv 0) R.cl Gs.hL Gs.GL hr Gs.bL .nil pass0 rfl) pa_nil)))))
      (pss_one (ps_ret (pe_callB (call_min4 rfl) (by rfl) T.min (by decide +kernel) (pa_cons (pv 6) (pa_cons (pv 7) (pa_cons (pe_op op_add (pv 2) (pv 5)) (pa_cons (pe_prop (pv 0) R.cl Gs.hL Gs.GL hr Gs.bL .nil pass0 rfl) pa_nil))))))))), ?_⟩
    have lm := G.len
    have ls := G.len2
    obtain ⟨dx, l1, l2, ho, h1, h2⟩ := id hR
    refine ⟨_, rfl, t, _, rfl, SqT.of hT, rfl, _, _, rfl, _, _, rfl, _, _, rfl, rfl, ?_⟩
    refine ⟨_, rfl, r, dx, _, rfl, ho, r, n, ms, ss, rfl, hR, fun p1 H1 s1 n1 i1 => ?_⟩
    have R1 := hR.same s1
    have o1 := s1 _ _ ho
    refine ⟨_, rfl, _, rfl, _, _, rfl, rfl, _, rfl, r, dx, _, rfl, o1, r, n, ms, ss, rfl, R1, ?_⟩
    refine ⟨p1, ss, p + l, n, rfl, i1, by omega, G.asc2, ?_⟩
    refine ⟨_, rfl, r, dx, _, rfl, o1, r, n, ms, ss, rfl, R1, fun p2 H2 s2 n2 i2 => ?_⟩
    have R2 := R1.same s2
    have o2 := s2 _ _ o1
    refine ⟨_, rfl, _, rfl, _, _, rfl, rfl, _, rfl, r, dx, _, rfl, o2, r, n, ms, ss, rfl, R2, ?_⟩
    refine ⟨p2, ms, p + m, n, rfl, i2, by omega, G.asc, ?_⟩
    refine ⟨_, rfl, _, rfl, _, rfl, _, rfl, _, _, rfl, rfl, _, rfl, r, dx, _, rfl, o2, r, n, ms, ss, rfl, R2, ?_⟩
    refine ⟨_, _, _, _, rfl, fun v e a b c d => ?_⟩
    have z : v = nx n ms ss l m g p := by
      unfold nx
      omega
    rw [z]
    exact q H2 (s1.trans s2)
end
end Cw
namespace Cw
open PySem L2
def spCSet : Sp := fun vs H Q _ => ∃ (t : Addr) (l m g : Int), vs = [.ref t] ∧ H t = some (.tup [.int l, .int m, .int g]) ∧ SetOk l m g ∧ ∀ H', Same H H' → Q .non H'
def spPl : Sp := fun vs H Q _ => ∃ p lo hi : Int, vs = [.int p, .int lo, .int hi] ∧ lo ≤ p ∧ p ≤ hi ∧ Q .non H
def spSz (C : Addr) : Sp := fun vs H Q _ => ∃ (r t : Addr) (n l m g : Int) (ms ss : List Int), vs = [.ref r, .ref t] ∧ RowAt C H r n ms ss ∧ H t = some (.tup [.int l, .int m, .int g]) ∧ n ≤ 200 * l ∧ Q .non H
def spLen : Sp := fun vs H Q _ => ∃ (t : Addr) (n l m g : Int), vs = [.int n, .ref t] ∧ H t = some (.tup [.int l, .int m, .int g]) ∧ n ≤ 200 * l ∧ Q .non H
def lastZ : List V → Int
  | [.int z] => z
  | _ :: x :: r => lastZ (x :: r)
  | _ => 0
theorem lastZ_app (z : Int) : ∀ xs : List V, lastZ (xs ++ [.int z]) = z
  | [] => rfl
  | [x] => by cases x <;> rfl
  | x :: y :: r => by
    have i := lastZ_app z (y :: r)
    show lastZ (x :: y :: (r ++ [V.int z])) = z
    cases x <;> exact i
def muCu (n : Int) (D : Addr) : St → Hp → Nat := fun _ H => (n - (match H D with | some (.lst xs) => lastZ xs | _ => 0)).toNat
theorem muCu_at {n z : Int} {D : Addr} {H : Hp} {σ : St} {xs : List V} (h : H D = some (.lst (xs ++ [.int z]))) : muCu n D σ H = (n - z).toNat := by
  unfold muCu
  rw [h]
  show (n - lastZ (xs ++ [V.int z])).toNat = _
  rw [lastZ_app]
section
variable {P : Program} {w : World} {K : PySem.W.Frag} {mg : Str → Option Value} {base : Heap}
abbrev NCS : List Str := ["settings", "least", "normal", "greatest", "number"]
theorem scCS : FnScope NCS ["settings"] (defScope sCSet) := ⟨rfl, rfl, rfl, by decide +kernel, rfl, by decide +kernel, by decide +kernel⟩
theorem ok_cset {f fI : Addr} {fd fdI : FuncData} (F : Fun K "check_settings" "check_settings" sCSet f fd) (T : Bl mg) (gI : mg "is_integer" = some (.ref fI)) (kI : PySem.W.keepIn K (.ref fI) = true) (bI : Binds K fdI ["thing"] []) (GI : FnOk P w K mg base CX0 1 fI fdI ["thing"] spOne) :
    FnOk P w K mg base CX0 2 f fd ["settings"] spCSet := by
  refine F.ok scCS (fun vs H Q E h => ?_) (fun cdv A outer s H vs Q E hr h => ?_)
  · obtain ⟨t, l, m, g, rfl, _⟩ := h
    rfl
  · obtain ⟨t, l, m, g, rfl, ht, S, k⟩ := h
    refine ⟨_, pss_cons (ps_if (PW.pt (pw_or (pt_not (pt_val (pe_callB call_isi (by rfl) T.isi (by decide +kernel) (pa_cons (pv 0) (pa_cons (pe_bltn (by rfl) T.tuple (by decide +kernel) (v := V.ty "tuple") rfl) pa_nil)))))
        (pw_or1 (pt_cmpR op_ne (pe_callB call_len_seq (by rfl) T.len PySem.boot_len (pa_cons (pv 0) pa_nil)) pe_int (nomark _))))) pss_never pss_nil)
      (pss_cons (ps_if (pt_not (pt_val (pe_callB (cr_all rfl) (by rfl) T.all (by decide +kernel) (pa_cons (pe_lc (own := [("number", 4)]) (g := gName 4) (tt := tYes) rfl scCS.nd
        (pi_tup (pv 0)) (blkOk_by (own := [("number", 4)]) (N := NCS) (sc := defScope sCSet) (by decide +kernel)) (fun _ _ _ _ _ => pg_name (i := 4) scCS.nd rfl (Or.inl rfl)) (fun _ _ _ _ _ => pts_nil)
        (fun _ _ _ _ _ => pe_call GI hr rfl gI kI bI .nil pass0 (pa_cons (pv 4) pa_nil))) pa_nil)))) pss_never pss_nil)
      (pss_cons (ps_asg (pv 0) (pg_tup (by rfl) (pgs_cons (pg_name (i := 1) scCS.nd rfl (Or.inl rfl)) (pgs_cons (pg_name (i := 2) scCS.nd rfl (Or.inl rfl)) (pgs_cons (pg_name (i := 3) scCS.nd rfl (Or.inl rfl)) pgs_nil)))))
      (pss_one (ps_if (pt_not (pt_chain3 op_le op_le op_le pe_int (pv 1) (pv 2) (pv 3))) pss_never pss_nil)))), ?_⟩
    refine ⟨_, rfl, _, _, _, _, true, rfl, ClsV.ty _, .base (.tup ht), kit_ty (by decide +kernel), _, rfl, ?_⟩
    refine ifF rfl ?_
    refine ⟨_, rfl, t, _, rfl, .inr (SqT.of ht), rfl, _, rfl, ?_⟩
    refine ifF (by simp) ?_
    refine ⟨_, rfl, t, rfl, ⟨_, SqT.of ht⟩, fun D hD => ?_⟩
    have nt : t ≠ D := ne_of_none ht hD
    refine lc_tup (K := K) (a := t) (xs := [.int l, .int m, .int g]) (fun i H' => Same H H' ∧ H' D = some (.lst (List.replicate i (V.bl true))))
      ⟨same_new (Same.refl H) hD, upd_same⟩ (fun i H' _ q => SqT.of (q.1 _ _ ht)) ?_ ?_
    · rintro i x H' hx ⟨s2, h3⟩
      have hi : i < 3 := (List.getElem?_eq_some_iff.mp hx).1
      obtain ⟨z, rfl⟩ : ∃ z, x = V.int z := by
        have m := List.mem_of_getElem? hx
        simp only [List.mem_cons, List.not_mem_nil, or_false] at m
        rcases m with rfl | rfl | rfl <;> exact ⟨_, rfl⟩
      refine ⟨rfl, ?_⟩
      unfold tYes
      refine iteT ?_
      refine ⟨_, rfl, _, rfl, ?_⟩
      refine ⟨_, h3, by rw [List.length_replicate]; exact small1000 (by omega), same_put s2 hD, ?_⟩
      rw [upd_same, List.replicate_succ']
    · rintro H' ⟨s2, h3⟩
      refine ⟨D, List.replicate 3 true, rfl, SqL.of (by rw [h3, List.map_replicate]; rfl), _, rfl, ?_⟩
      rw [all_true]
      refine ifF rfl ?_
      refine ⟨_, rfl, t, _, rfl, SqT.of (s2 _ _ ht), rfl, _, _, rfl, _, _, rfl, _, _, rfl, rfl, ?_⟩
      have l1 := S.l1
      have lm := S.lm
      have mg' := S.mg
      refine ⟨_, rfl, _, _, rfl, rfl, _, rfl, ?_⟩
      refine ifT (by simp [l1]) ?_
      refine ⟨_, rfl, _, _, rfl, rfl, _, rfl, ?_⟩
      refine ifT (by simp [lm]) ?_
      refine ⟨_, rfl, _, _, rfl, rfl, _, rfl, ?_⟩
      refine ifF (by simp [mg']) ?_
      exact k _ s2
theorem scPl : FnScope ["place", "low", "high"] ["place", "low", "high"] (defScope sCPl) := ⟨rfl, rfl, rfl, by decide +kernel, rfl, by decide +kernel, by decide +kernel⟩
theorem ok_pl {f fI : Addr} {fd fdI : FuncData} (F : Fun K "check_place" "check_place" sCPl f fd) (gI : mg "is_integer" = some (.ref fI)) (kI : PySem.W.keepIn K (.ref fI) = true) (bI : Binds K fdI ["thing"] []) (GI : FnOk P w K mg base CX0 1 fI fdI ["thing"] spOne) :
    FnOk P w K mg base CX0 2 f fd ["place", "low", "high"] spPl := by
  refine F.ok scPl (fun vs H Q E h => ?_) (fun cdv A outer s H vs Q E hr h => ?_)
  · obtain ⟨p, lo, hi, rfl, _⟩ := h
    rfl
  · obtain ⟨p, lo, hi, rfl, h1, h2, q⟩ := h
    refine ⟨_, pss_one (ps_if (PW.pt (pw_or (pt_not (pt_val (pe_call GI hr rfl gI kI bI .nil pass0 (pa_cons (pv 0) pa_nil)))) (pw_or1 (pt_not (pt_chain op_le op_le (pv 1) (pv 0) (pv 2)))))) pss_never pss_nil), ?_⟩
    refine ⟨_, rfl, _, rfl, _, rfl, ?_⟩
    refine ifF rfl ?_
    refine ⟨_, rfl, _, rfl, _, _, rfl, rfl, _, rfl, ?_⟩
    refine ifT (decide_eq_true h1) ?_
    refine ⟨_, rfl, _, _, rfl, rfl, _, rfl, ?_⟩
    refine ifF (by simp [h2]) ?_
    exact q
theorem scLn : FnScope ["length", "settings"] ["length", "settings"] (defScope sCLen) := ⟨rfl, rfl, rfl, by decide +kernel, rfl, by decide +kernel, by decide +kernel⟩
theorem ok_len {f : Addr} {fd : FuncData} {tok : Tok} (F : Fun K "check_length" "check_length" sCLen f fd) (gN : mg "MOST_PIECES" = some (.int 200 tok)) :
    FnOk P w K mg base CX0 1 f fd ["length", "settings"] spLen := by
  refine F.ok scLn (fun vs H Q E h => ?_) (fun cdv A outer s H vs Q E hr h => ?_)
  · obtain ⟨t, n, l, m, g, rfl, _⟩ := h
    rfl
  · obtain ⟨t, n, l, m, g, rfl, ht, hn, q⟩ := h
    refine ⟨_, pss_one (ps_if (pt_cmpR op_gt (pv 0) (pe_op op_mul (pe_glob (by rfl) gN (v := V.int 200) ⟨_, rfl⟩) (pe_ix ix_tup (pv 1) pe_int (fun _ _ => rfl))) (nomark _)) pss_never pss_nil), ?_⟩
    refine ⟨_, rfl, _, rfl, t, _, _, _, rfl, rfl, SqT.of ht, at_of2 (j := 0) rfl rfl, _, _, rfl, rfl, .inl ⟨by decide, by decide⟩, _, _, rfl, rfl, _, rfl, ?_⟩
    refine ifF (decide_eq_false (by omega)) ?_
    exact q
theorem scSz : FnScope ["row", "settings"] ["row", "settings"] (defScope sCSz) := ⟨rfl, rfl, rfl, by decide +kernel, rfl, by decide +kernel, by decide +kernel⟩
theorem ok_sz {f C fN pL fL pM fM pS fS : Addr} {fd fdN dL dM dS : FuncData} (F : Fun K "check_size" "check_size" sCSz f fd) (R : Cl K mg C) (Gs : Gets P w K mg base C pL fL pM fM pS fS dL dM dS)
    (gN : mg "check_length" = some (.ref fN)) (kN : PySem.W.keepIn K (.ref fN) = true) (bN : Binds K fdN ["length", "settings"] []) (GN : FnOk P w K mg base CX0 1 fN fdN ["length", "settings"] spLen) :
    FnOk P w K mg base CX0 3 f fd ["row", "settings"] (spSz C) := by
  refine F.ok scSz (fun vs H Q E h => ?_) (fun cdv A outer s H vs Q E hr h => ?_)
  · obtain ⟨r, t, n, l, m, g, ms, ss, rfl, _⟩ := h
    rfl
  · obtain ⟨r, t, n, l, m, g, ms, ss, rfl, hR, ht, hn, q⟩ := h
    have hr1 : Room 1 (A.deeper (PyProof.Rows.envOfC "check_size" (defScope sCSz) s.heap.objs.size f cdv)) := hr.mono (by decide)
    refine ⟨_, pss_one (ps_expr (pe_call GN hr1 rfl gN kN bN .nil pass0 (pa_cons (pe_prop (pv 0) R.cl Gs.hL Gs.GL hr Gs.bL .nil pass0 rfl) (pa_cons (pv 1) pa_nil)))), ?_⟩
    obtain ⟨dx, l1, l2, ho, _, _⟩ := id hR
    refine ⟨_, rfl, r, dx, _, rfl, ho, r, n, ms, ss, rfl, hR, ?_⟩
    exact ⟨_, rfl, t, n, l, m, g, rfl, ht, hn, q⟩
abbrev NCu : List Str := ["row", "settings", "start", "cuts"]
theorem scCu : FnScope NCu ["row", "settings", "start"] (defScope sCuts) := ⟨rfl, rfl, rfl, by decide +kernel, rfl, by decide +kernel, by decide +kernel⟩
theorem ok_cuts {f C fS pL fL pM fM pS fSs : Addr} {fd fdS dL dM dS : FuncData} (F : Fun K "cuts_from" "cuts_from" sCuts f fd) (R : Cl K mg C) (Gs : Gets P w K mg base C pL fL pM fM pS fSs dL dM dS)
    (gS : mg "step" = some (.ref fS)) (kS : PySem.W.keepIn K (.ref fS) = true) (bS : Binds K fdS ["row", "settings", "place"] []) (GS : FnOk P w K mg base CX0 3 fS fdS ["row", "settings", "place"] (spStep C)) :
    FnOk P w K mg base CX0 4 f fd ["row", "settings", "start"] (spCuts C) := by
  refine F.ok scCu (fun vs H Q E h => ?_) (fun cdv A outer s H vs Q E hr h => ?_)
  · obtain ⟨r, t, n, l, m, g, p, ms, ss, rfl, _⟩ := h
    rfl
  · obtain ⟨r, t, n, l, m, g, p, ms, ss, rfl, hR, ht, G, S, big, p0, pn, q⟩ := h
    have hr2 : Room 2 (A.deeper (PyProof.Rows.envOfC "cuts_from" (defScope sCuts) s.heap.objs.size f cdv)) := hr.mono (by decide)
    refine ⟨_, pss_cons (ps_set (i := 3) scCu.nd rfl (Or.inl rfl) (pe_lst (pa_cons (pv 2) pa_nil)))
      (pss_cons (ps_while PassesOwn.never (pt_cmpR op_lt (pe_ix (r := rIxL K) ix_list (pv 3) (pe_un un_neg pe_int) (fun _ _ => rfl)) (pe_prop (pv 0) R.cl Gs.hL Gs.GL hr2 Gs.bL .nil pass0 rfl) (nomark _))
        (pss_one (ps_expr (pe_bm PySem.F.plainAttrs_list PySem.F.slot_list_append PySem.F.type_list_append mt_append (pv 3) (pa_cons (pe_call GS hr rfl gS kS bS .nil pass0 (pa_cons (pv 0) (pa_cons (pv 1) (pa_cons (pe_ix (r := rIxL K) ix_list (pv 3) (pe_un un_neg pe_int) (fun _ _ => rfl)) pa_nil)))) pa_nil)))))
      (pss_one (ps_ret (pv 3)))), ?_⟩
    have ST := nx_stp G S
    refine ⟨_, rfl, (by show 1 ≤ sizeLine; decide), fun D hD => ?_⟩
    refine while_by (fun σ H' => ∃ k, σ = [some (.ref r), some (.ref t), some (.int p), some (.ref D)] ∧ Same H H' ∧ IL H' D (wl (nx n ms ss l m g) n p k) ∧ (∀ i, i < k → kc (nx n ms ss l m g) n p i < n))
      (muCu n D) ⟨0, rfl, same_new (Same.refl H) hD, upd_same, fun i hi => absurd hi (Nat.not_lt_zero _)⟩ ?_
      (fun σ H Q Q' hQ h => by repeat' (first | exact hQ _ _ h | (obtain ⟨x, h⟩ := h; refine ⟨x, ?_⟩)))
    rintro σ H' ⟨k, rfl, s1, hI, hb⟩
    have R1 := hR.same s1
    obtain ⟨dx, l1, l2, ho, _, _⟩ := id R1
    have kle := kc_le ST pn k
    have few : k ≤ 200 := by
      by_cases c : k = 0
      · omega
      · have := kc_few ST p0 big (hb (k - 1) (by omega))
        omega
    obtain ⟨xs, hxs⟩ : ∃ xs, (wl (nx n ms ss l m g) n p k).map V.int = xs ++ [V.int (kc (nx n ms ss l m g) n p k)] := by
      unfold wl
      rw [List.range_succ, List.map_append, List.map_append]
      exact ⟨_, rfl⟩
    have at1 : atI ((wl (nx n ms ss l m g) n p k).map V.int) (-1) = some (V.int (kc (nx n ms ss l m g) n p k)) := by
      rw [hxs]
      exact atI_last _ _
    refine ⟨_, rfl, _, rfl, D, _, _, _, rfl, rfl, SqL.of hI, at1, ?_⟩
    refine ⟨_, rfl, r, dx, _, rfl, ho, r, n, ms, ss, rfl, R1, _, _, rfl, rfl, _, rfl, ?_⟩
    by_cases c : kc (nx n ms ss l m g) n p k < n
    · refine ifT (decide_eq_true c) ?_
      have few2 : k < 200 := kc_few ST p0 big c
      refine ⟨_, rfl, .inl ⟨rfl, _, SqL.of hI⟩, ?_⟩
      refine ⟨_, rfl, _, rfl, _, rfl, _, rfl, D, _, _, _, rfl, rfl, SqL.of hI, at1, ?_⟩
      refine ⟨r, t, n, l, m, g, _, ms, ss, rfl, R1, s1 _ _ ht, G, fun H2 s2 => ?_⟩
      have hI2 := s2 _ _ hI
      have mu1 : muCu n D [some (.ref r), some (.ref t), some (.int p), some (.ref D)] H' = (n - kc (nx n ms ss l m g) n p k).toNat := muCu_at (hI.trans (by rw [hxs]))
      refine ⟨D, _, _, rfl, rfl, hI2, by rw [List.length_map, wl_len]; exact small1000 (by omega), ⟨k + 1, rfl, same_put (s1.trans s2) hD, ?_, fun i hi => ?_⟩, ?_⟩
      · show upd _ _ _ D = _
        rw [upd_same, wl_succ, kc_at c, List.map_append]
        rfl
      · by_cases e : i = k
        · rw [e]
          exact c
        · exact hb i (by omega)
      · rw [mu1, muCu_at upd_same]
        have := ST.gt c
        omega
    · refine ifF (decide_eq_false c) ?_
      exact ⟨_, rfl, q D H' k s1 hD ⟨few, by omega, hb⟩ hI⟩
end
end Cw
namespace Cw
open PySem L2
theorem kc_lt {F : Int → Int} {n l s : Int} {m : Nat} (S : Stp F n l) (w : WkOk F n s m) {i j : Nat} (hij : i < j) (hj : j ≤ m) : kc F n s i < kc F n s j := by
  induction j with
  | zero => omega
  | succ j ih =>
    have c := w.bef j (by omega)
    have e := S.gt c
    rw [kc_at c]
    by_cases d : i = j
    · rw [d]
      exact e
    · have := ih (by omega) (by omega)
      omega
theorem wl_asc {F : Int → Int} {n l s : Int} {m : Nat} (S : Stp F n l) (w : WkOk F n s m) : Asc (wl F n s m) := by
  unfold wl
  refine List.pairwise_map.mpr ?_
  refine (List.pairwise_lt_range (n := m + 1)).imp_of_mem fun {i j} hi hj hij => ?_
  rw [List.mem_range] at hj
  exact kc_lt S w hij (by omega)
theorem kc_mem {F : Int → Int} {n s : Int} {m : Nat} {x : Int} : x ∈ wl F n s m ↔ ∃ i, i ≤ m ∧ kc F n s i = x := by
  unfold wl
  rw [List.mem_map]
  constructor
  · rintro ⟨i, hi, rfl⟩
    exact ⟨i, by rw [List.mem_range] at hi; omega, rfl⟩
  · rintro ⟨i, hi, rfl⟩
    exact ⟨i, by rw [List.mem_range]; omega, rfl⟩
/-- all that the calls of a row with settings want -/
structure RwS (C : Addr) (H : Hp) (r t : Addr) (n l m g : Int) (ms ss : List Int) : Prop where
  row : RowAt C H r n ms ss
  tup : H t = some (.tup [.int l, .int m, .int g])
  good : Good n ms ss
  set : SetOk l m g
  big : n ≤ 200 * l
theorem RwS.same {C : Addr} {H H' : Hp} {r t : Addr} {n l m g : Int} {ms ss : List Int} (R : RwS C H r t n l m g ms ss) (s : Same H H') : RwS C H' r t n l m g ms ss := ⟨R.row.same s, s _ _ R.tup, R.good, R.set, R.big⟩
def spCW (C : Addr) : Sp := fun vs H Q _ => ∃ (r t c : Addr) (n l m g : Int) (ms ss ps : List Int), vs = [.ref r, .ref t, .ref c] ∧ RwS C H r t n l m g ms ss ∧ IL H c ps ∧ ps.length ≤ 1000 ∧ (∀ i, i < ps.length → (0 :: ps).getD i 0 ≤ ps.getD i 0 ∧ ps.getD i 0 ≤ n) ∧ ∀ H', Same H H' → Q .non H'
def spNext (C : Addr) : Sp := fun vs H Q _ => ∃ (r t : Addr) (n l m g p : Int) (ms ss : List Int), vs = [.ref r, .ref t, .int p] ∧ RwS C H r t n l m g ms ss ∧ 0 ≤ p ∧ p < n ∧ ∀ H', Same H H' → Q (.int (nx n ms ss l m g p)) H'
def spWalk (C : Addr) : Sp := fun vs H Q _ => ∃ (r t : Addr) (n l m g p : Int) (ms ss : List Int), vs = [.ref r, .ref t, .int p] ∧ RwS C H r t n l m g ms ss ∧ 0 ≤ p ∧ p ≤ n ∧
  ∀ q H' k, Same H H' → H q = none → WkOk (nx n ms ss l m g) n p k → IL H' q (wl (nx n ms ss l m g) n p k) → Q (.ref q) H'
def spWithin (C : Addr) : Sp := fun vs H Q _ => ∃ (r t : Addr) (n l m g p lo hi : Int) (ms ss : List Int), vs = [.ref r, .ref t, .int p, .int lo, .int hi] ∧ RwS C H r t n l m g ms ss ∧ 0 ≤ p ∧ p ≤ lo ∧ lo ≤ hi ∧ hi ≤ n ∧
  ∀ H' k, Same H H' → WkOk (nx n ms ss l m g) n p k → Q (.int ((cb (wl (nx n ms ss l m g) n p k) hi : Nat) - (cb (wl (nx n ms ss l m g) n p k) lo : Nat) : Int)) H'
section
variable {P : Program} {w : World} {K : PySem.W.Frag} {mg : Str → Option Value} {base : Heap}
abbrev NCW : List Str := ["row", "settings", "places", "low", "place"]
theorem scCW : FnScope NCW ["row", "settings", "places"] (defScope sCWk) := ⟨rfl, rfl, rfl, by decide +kernel, rfl, by decide +kernel, by decide +kernel⟩
theorem ok_cw {f C fA fB fZ pL fL pM fM pS fSs : Addr} {fd fdA fdB fdZ dL dM dS : FuncData} (F : Fun K "check_walk" "check_walk" sCWk f fd) (R : Cl K mg C) (Gs : Gets P w K mg base C pL fL pM fM pS fSs dL dM dS)
    (gA : mg "check_settings" = some (.ref fA)) (kA : PySem.W.keepIn K (.ref fA) = true) (bA : Binds K fdA ["settings"] []) (GA : FnOk P w K mg base CX0 2 fA fdA ["settings"] spCSet)
    (gB : mg "check_place" = some (.ref fB)) (kB : PySem.W.keepIn K (.ref fB) = true) (bB : Binds K fdB ["place", "low", "high"] []) (GB : FnOk P w K mg base CX0 2 fB fdB ["place", "low", "high"] spPl)
    (gZ : mg "check_size" = some (.ref fZ)) (kZ : PySem.W.keepIn K (.ref fZ) = true) (bZ : Binds K fdZ ["row", "settings"] []) (GZ : FnOk P w K mg base CX0 3 fZ fdZ ["row", "settings"] (spSz C)) :
    FnOk P w K mg base CX0 4 f fd ["row", "settings", "places"] (spCW C) := by
  refine F.ok scCW (fun vs H Q E h => ?_) (fun cdv A outer s H vs Q E hr h => ?_)
  · obtain ⟨r, t, c, n, l, m, g, ms, ss, ps, rfl, _⟩ := h
    rfl
  · obtain ⟨r, t, c, n, l, m, g, ms, ss, ps, rfl, hR, hI, hl, hp, q⟩ := h
    have hr2 : Room 2 (A.deeper (PyProof.Rows.envOfC "check_walk" (defScope sCWk) s.heap.objs.size f cdv)) := hr.mono (by decide)
    refine ⟨_, pss_cons (ps_expr (pe_call GA hr2 rfl gA kA bA .nil pass0 (pa_cons (pv 1) pa_nil)))
      (pss_cons (ps_set (i := 3) scCW.nd rfl (Or.inl rfl) pe_int)
      (pss_cons (ps_for PassesOwn.never rfl (pi_list (pv 2)) (pg_name (i := 4) scCW.nd rfl (Or.inl rfl))
        (pss_cons (ps_expr (pe_call GB hr2 rfl gB kB bB .nil pass0 (pa_cons (pv 4) (pa_cons (pv 3) (pa_cons (pe_prop (pv 0) R.cl Gs.hL Gs.GL hr2 Gs.bL .nil pass0 rfl) pa_nil)))))
        (pss_one (ps_set (i := 3) scCW.nd rfl (Or.inl rfl) (pv 4)))))
      (pss_one (ps_expr (pe_call GZ hr rfl gZ kZ bZ .nil pass0 (pa_cons (pv 0) (pa_cons (pv 1) pa_nil))))))), ?_⟩
    refine ⟨_, rfl, t, l, m, g, rfl, hR.tup, hR.set, fun H1 s1 => ?_⟩
    have R1 := hR.same s1
    obtain ⟨dx, l1, l2, ho, _, _⟩ := id R1.row
    have hI1 := s1 _ _ hI
    refine ⟨_, rfl, c, rfl, ⟨_, SqL.of hI1⟩, for_list (xs := ps.map V.int) (fun i σ H' => ∃ v, σ = [some (.ref r), some (.ref t), some (.ref c), some (.int ((0 :: ps).getD i 0)), v] ∧ H' = H1)
      ⟨none, rfl, rfl⟩ (fun i σ H' _ ⟨v, _, e⟩ => by rw [e]; exact SqL.of hI1) ?_ ?_⟩
    · rintro i x σ H' hx ⟨v, rfl, rfl⟩
      obtain ⟨z, rfl, hz⟩ := il_at hx
      have il : i < ps.length := (List.getElem?_eq_some_iff.mp hz).1
      have e : ps.getD i 0 = z := by rw [List.getD_eq_getElem?_getD, hz]; rfl
      obtain ⟨p1, p2⟩ := hp i il
      rw [e] at p1 p2
      refine ⟨_, rfl, _, rfl, _, rfl, r, dx, _, rfl, ho, r, n, ms, ss, rfl, R1.row, z, _, n, rfl, p1, p2, ?_⟩
      refine ⟨_, rfl, some (.int z), ?_, rfl⟩
      have e2 : (0 :: ps).getD (i + 1) 0 = z := e
      rw [e2]
      rfl
    · rintro σ H' ⟨v, rfl, rfl⟩
      exact ⟨_, rfl, _, rfl, r, t, n, l, m, g, ms, ss, rfl, R1.row, R1.tup, R1.big, q _ s1⟩
theorem scNx : FnScope ["row", "settings", "place"] ["row", "settings", "place"] (defScope sNext) := ⟨rfl, rfl, rfl, by decide +kernel, rfl, by decide +kernel, by decide +kernel⟩
theorem ok_next {f C fA fB fZ fS pL fL pM fM pS fSs : Addr} {fd fdA fdB fdZ fdS dL dM dS : FuncData} (F : Fun K "next_cut" "next_cut" sNext f fd) (R : Cl K mg C) (Gs : Gets P w K mg base C pL fL pM fM pS fSs dL dM dS)
    (gA : mg "check_settings" = some (.ref fA)) (kA : PySem.W.keepIn K (.ref fA) = true) (bA : Binds K fdA ["settings"] []) (GA : FnOk P w K mg base CX0 2 fA fdA ["settings"] spCSet)
    (gB : mg "check_place" = some (.ref fB)) (kB : PySem.W.keepIn K (.ref fB) = true) (bB : Binds K fdB ["place", "low", "high"] []) (GB : FnOk P w K mg base CX0 2 fB fdB ["place", "low", "high"] spPl)
    (gZ : mg "check_size" = some (.ref fZ)) (kZ : PySem.W.keepIn K (.ref fZ) = true) (bZ : Binds K fdZ ["row", "settings"] []) (GZ : FnOk P w K mg base CX0 3 fZ fdZ ["row", "settings"] (spSz C))
    (gS : mg "step" = some (.ref fS)) (kS : PySem.W.keepIn K (.ref fS) = true) (bS : Binds K fdS ["row", "settings", "place"] []) (GS : FnOk P w K mg base CX0 3 fS fdS ["row", "settings", "place"] (spStep C)) :
    FnOk P w K mg base CX0 4 f fd ["row", "settings", "place"] (spNext C) := by
  refine F.ok scNx (fun vs H Q E h => ?_) (fun cdv A outer s H vs Q E hr h => ?_)
  · obtain ⟨r, t, n, l, m, g, p, ms, ss, rfl, _⟩ := h
    rfl
  · obtain ⟨r, t, n, l, m, g, p, ms, ss, rfl, hR, p0, pn, q⟩ := h
    have hr2 : Room 2 (A.deeper (PyProof.Rows.envOfC "next_cut" (defScope sNext) s.heap.objs.size f cdv)) := hr.mono (by decide)
    refine ⟨_, pss_cons (ps_expr (pe_call GA hr2 rfl gA kA bA .nil pass0 (pa_cons (pv 1) pa_nil)))
      (pss_cons (ps_expr (pe_call GB hr2 rfl gB kB bB .nil pass0 (pa_cons (pv 2) (pa_cons pe_int (pa_cons (pe_op op_sub (pe_prop (pv 0) R.cl Gs.hL Gs.GL hr2 Gs.bL .nil pass0 rfl) pe_int) pa_nil)))))
      (pss_cons (ps_expr (pe_call GZ hr rfl gZ kZ bZ .nil pass0 (pa_cons (pv 0) (pa_cons (pv 1) pa_nil))))
      (pss_one (ps_ret (pe_call GS hr rfl gS kS bS .nil pass0 (pa_cons (pv 0) (pa_cons (pv 1) (pa_cons (pv 2) pa_nil)))))))), ?_⟩
    refine ⟨_, rfl, t, l, m, g, rfl, hR.tup, hR.set, fun H1 s1 => ?_⟩
    have R1 := hR.same s1
    obtain ⟨dx, l1, l2, ho, _, _⟩ := id R1.row
    refine ⟨_, rfl, _, rfl, r, dx, _, rfl, ho, r, n, ms, ss, rfl, R1.row, _, _, rfl, rfl, p, 0, n - 1, rfl, p0, by omega, ?_⟩
    refine ⟨_, rfl, _, rfl, r, t, n, l, m, g, ms, ss, rfl, R1.row, R1.tup, R1.big, ?_⟩
    exact ⟨_, rfl, _, rfl, _, rfl, r, t, n, l, m, g, p, ms, ss, rfl, R1.row, R1.tup, R1.good, fun H2 s2 => q _ (s1.trans s2)⟩
theorem scWk : FnScope ["row", "settings", "start"] ["row", "settings", "start"] (defScope sWalk) := ⟨rfl, rfl, rfl, by decide +kernel, rfl, by decide +kernel, by decide +kernel⟩
theorem ok_walk {f C fA fB : Addr} {fd fdA fdB : FuncData} (F : Fun K "walk" "walk" sWalk f fd)
    (gA : mg "check_walk" = some (.ref fA)) (kA : PySem.W.keepIn K (.ref fA) = true) (bA : Binds K fdA ["row", "settings", "places"] []) (GA : FnOk P w K mg base CX0 4 fA fdA ["row", "settings", "places"] (spCW C))
    (gB : mg "cuts_from" = some (.ref fB)) (kB : PySem.W.keepIn K (.ref fB) = true) (bB : Binds K fdB ["row", "settings", "start"] []) (GB : FnOk P w K mg base CX0 4 fB fdB ["row", "settings", "start"] (spCuts C)) :
    FnOk P w K mg base CX0 5 f fd ["row", "settings", "start"] (spWalk C) := by
  refine F.ok scWk (fun vs H Q E h => ?_) (fun cdv A outer s H vs Q E hr h => ?_)
  · obtain ⟨r, t, n, l, m, g, p, ms, ss, rfl, _⟩ := h
    rfl
  · obtain ⟨r, t, n, l, m, g, p, ms, ss, rfl, hR, p0, pn, q⟩ := h
    refine ⟨_, pss_cons (ps_expr (pe_call GA hr rfl gA kA bA .nil pass0 (pa_cons (pv 0) (pa_cons (pv 1) (pa_cons (pe_lst (pa_cons (pv 2) pa_nil)) pa_nil)))))
      (pss_one (ps_ret (pe_call GB hr rfl gB kB bB .nil pass0 (pa_cons (pv 0) (pa_cons (pv 1) (pa_cons (pv 2) pa_nil)))))), ?_⟩
    refine ⟨_, rfl, _, rfl, _, rfl, (by show 1 ≤ sizeLine; decide), fun c hc => ?_⟩
    have s1 := same_new (o := .lst [.int p]) (Same.refl H) hc
    refine ⟨r, t, c, n, l, m, g, ms, ss, [p], rfl, hR.same s1, upd_same, (by show 1 ≤ 1000; decide), fun i hi => ?_, fun H2 s2 => ?_⟩
    · cases i with
      | zero => exact ⟨p0, pn⟩
      | succ i =>
        exfalso
        have : i + 1 < 1 := hi
        omega
    have s12 := s1.trans s2
    have R2 := hR.same s12
    refine ⟨_, rfl, _, rfl, _, rfl, r, t, n, l, m, g, p, ms, ss, rfl, R2.row, R2.tup, R2.good, R2.set, R2.big, p0, pn, fun y H3 k s3 ny wk hy => ?_⟩
    exact q y H3 k (s12.trans s3) (s12.free ny) wk hy
end
end Cw
namespace Cw
open PySem L2
theorem take_fil {ns : List Int} {i : Nat} {z : Int} (h : ns[i]? = some z) (p : Int → Bool) : (ns.take (i + 1)).filter p = (ns.take i).filter p ++ (if p z = true then [z] else []) := by
  rw [List.take_add_one, h, List.filter_append]
  congr 1
  show List.filter p [z] = _
  rw [List.filter_cons]
  rfl
/-- a raw row with its three numbers -/
def RawS (H : Hp) (p : Addr) (n : Int) (prs : List (Int × Int)) (l m g : Int) : Prop := ∃ lp t ts, H p = some (.tup [.int n, .ref lp, .ref t]) ∧ H lp = some (.lst (ts.map V.ref)) ∧ PrAt H ts prs ∧ H t = some (.tup [.int l, .int m, .int g])
theorem RawS.raw {H : Hp} {p : Addr} {n : Int} {prs : List (Int × Int)} {l m g : Int} (r : RawS H p n prs l m g) : RawAt H p n prs := by
  obtain ⟨lp, t, ts, h1, h2, h3, _⟩ := r
  exact ⟨lp, t, ts, h1, h2, h3⟩
theorem RawS.but {H H' : Hp} {p a : Addr} {k : Nat} {n : Int} {prs : List (Int × Int)} {l m g : Int} (r : RawS H p n prs l m g) (J : JarAt H a k) (s : But H H' a) : RawS H' p n prs l m g := by
  obtain ⟨lp, t, ts, h1, h2, h3, h4⟩ := r
  refine ⟨lp, t, ts, s _ _ h1 (J.no h1 fun _ _ _ z => nomatch z), s _ _ h2 (J.no h2 fun r m n z => ?_), h3.imp fun t p h => s _ _ h (J.no h fun _ _ _ z => nomatch z), s _ _ h4 (J.no h4 fun _ _ _ z => nomatch z)⟩
  injection z with z
  cases ts with
  | nil => cases z
  | cons t ts => cases z
def spSmall : Sp := fun vs H Q _ => ∃ (a : Addr) (k : Nat) (mo : Int), vs = [.ref a, .int mo] ∧ 1 ≤ mo ∧ mo ≤ 40 ∧ JarAt H a (k + 60) ∧ ∀ (p : Addr) (H' : Hp) (n l m g : Int) (prs : List (Int × Int)), n ≤ mo → GoodP n prs → prs.length ≤ 39 → RawS H' p n prs l m g → SetOk l m g → n ≤ 40 * l → g ≤ 10000000000000000000000000000 → JarAt H' a k → But H H' a → Q (.ref p) H'
theorem asc_snoc {ms : List Int} {z : Int} (h : Asc ms) (k : ∀ x ∈ ms, x < z) : Asc (ms ++ [z]) := by
  rw [Asc, List.pairwise_append]
  refine ⟨h, List.pairwise_singleton _ _, fun x hx y hy => ?_⟩
  rw [List.mem_singleton.mp hy]
  exact k x hx
/-- what the loop has found: the pairs, all below the place i -/
structure Found (i : Int) (prs : List (Int × Int)) : Prop where
  rng : ∀ q ∈ prs, 1 ≤ q.1 ∧ q.1 < i ∧ (q.2 = 1 ∨ q.2 = 2)
  asc : Asc (prs.map (·.1))
theorem Found.nil (i : Int) : Found i [] := ⟨fun _ h => (nomatch h), List.Pairwise.nil⟩
theorem Found.up {i : Int} {prs : List (Int × Int)} (h : Found i prs) : Found (i + 1) prs := by
  refine ⟨fun q hq => ?_, h.asc⟩
  have := h.rng q hq
  omega
theorem Found.snoc {i : Int} {prs : List (Int × Int)} {z : Int} (h : Found i prs) (h0 : 1 ≤ i) (hz : z = 1 ∨ z = 2) : Found (i + 1) (prs ++ [(i, z)]) := by
  refine ⟨fun q hq => ?_, ?_⟩
  · rcases List.mem_append.mp hq with hq | hq
    · have := h.rng q hq
      omega
    · rw [List.mem_singleton.mp hq]
      refine ⟨h0, ?_, hz⟩
      show i < i + 1
      omega
  · rw [List.map_append]
    refine asc_snoc h.asc fun x hx => ?_
    obtain ⟨q, hq, rfl⟩ := List.mem_map.mp hx
    exact (h.rng q hq).2.1
section
variable {P : Program} {w : World} {K : PySem.W.Frag} {mg : Str → Option Value} {base : Heap}
abbrev NSm : List Str := ["jar", "most", "length", "way", "found", "spot", "kind"]
theorem scSm : FnScope NSm ["jar", "most"] (defScope sSmall) := ⟨rfl, rfl, rfl, by decide +kernel, rfl, by decide +kernel, by decide +kernel⟩
theorem ok_small {f fD fT : Addr} {fd fdD fdT : FuncData} (F : Fun K "_law_small" "_law_small" sSmall f fd) (T : Bl mg)
    (gD : mg "_law_dip" = some (.ref fD)) (kD : PySem.W.keepIn K (.ref fD) = true) (bD : Binds K fdD ["jar", "many"] []) (GD : FnOk P w K mg base CX0 1 fD fdD ["jar", "many"] spDip)
    (gT : mg "_law_three" = some (.ref fT)) (kT : PySem.W.keepIn K (.ref fT) = true) (bT : Binds K fdT ["jar", "wide"] []) (GT : FnOk P w K mg base CX0 2 fT fdT ["jar", "wide"] spThree) :
    FnOk P w K mg base CX0 3 f fd ["jar", "most"] spSmall := by
  refine F.ok scSm (fun vs H Q E h => ?_) (fun cdv A outer s H vs Q E hr h => ?_)
  · obtain ⟨a, k, mo, rfl, _⟩ := h
    rfl
  · obtain ⟨a, k, mo, rfl, mo1, mo2, J, q⟩ := h
    have hr1 : Room 1 (A.deeper (PyProof.Rows.envOfC "_law_small" (defScope sSmall) s.heap.objs.size f cdv)) := hr.mono (by decide)
    refine ⟨_, pss_cons (ps_par3 (i := 2) (j := 3) (l := 4) rfl scSm.nd rfl rfl rfl (by decide) (by decide) (by decide) rfl rfl rfl (pa_cons (pe_op op_add pe_int (pe_call GD hr1 rfl gD kD bD .nil pass0 (pa_cons (pv 0) (pa_cons (pv 1) pa_nil)))) (pa_cons (pe_call GD hr1 rfl gD kD bD .nil pass0 (pa_cons (pv 0) (pa_cons pe_int pa_nil))) (pa_cons (pe_lst pa_nil) pa_nil))) (by rfl))
      (pss_cons (ps_for PassesOwn.never rfl (pi_range2 (by rfl) T.range (pa_cons pe_int (pa_cons (pv 2) pa_nil))) (pg_name (i := 5) scSm.nd rfl (Or.inl rfl))
        (pss_cons (ps_set (i := 6) scSm.nd rfl (Or.inl rfl) (pe_ifExp (pt_cmpR op_eq (pv 3) pe_int (nomark _)) (pe_op op_add pe_int (pe_call GD hr1 rfl gD kD bD .nil pass0 (pa_cons (pv 0) (pa_cons pe_int pa_nil))))
            (pe_callB (call_max2 rfl) (by rfl) T.max (by decide +kernel) (pa_cons pe_int (pa_cons (pe_op op_sub (pe_call GD hr1 rfl gD kD bD .nil pass0 (pa_cons (pv 0) (pa_cons pe_int pa_nil))) pe_int) pa_nil)))))
        (pss_one (ps_if (PW.pt (pw_and (pt_cmpR op_gt (pv 6) pe_int (nomark _)) (pw_and1 (pt_cmpR op_ne (pv 3) pe_int (nomark _)))))
          (pss_one (ps_expr (pe_bm PySem.F.plainAttrs_list PySem.F.slot_list_append PySem.F.type_list_append mt_append (pv 4) (pa_cons (pe_tup (pa_cons (pv 5) (pa_cons (pv 6) pa_nil))) pa_nil)))) pss_nil))))
      (pss_one (ps_ret (pe_tup (pa_cons (pv 2) (pa_cons (pv 4) (pa_cons (pe_call GT hr rfl gT kT bT .nil pass0 (pa_cons (pv 0) (pa_cons pe_int pa_nil))) pa_nil))))))), ?_⟩
    refine ⟨_, rfl, _, rfl, a, k + 59, mo, rfl, J, by omega, by omega, fun v1 H1 a1 b1 J1 B1 => ⟨_, _, rfl, rfl, ?_⟩⟩
    refine ⟨_, rfl, a, k + 58, 5, rfl, J1, by decide, by decide, fun v2 H2 a2 b2 J2 B2 => ⟨Nat.zero_le _, fun l hl => ⟨_, _, _, rfl, ?_⟩⟩⟩
    have nla : a ≠ l := J2.ne hl
    have nl : H l = none := none_of (fun c o e => by
      by_cases z : c = a
      · obtain ⟨r, m, n, e', _⟩ := J2
        exact ⟨_, by rw [z]; exact e'⟩
      · exact ⟨o, (B1.trans B2) _ _ e z⟩) hl
    refine ⟨_, rfl, _, _, rfl, ⟨by decide, by decide, by omega, by omega⟩, for_range (lo := 1) (n := (1 + v1 - 1).toNat) (fun i σ H' => ∃ (v5 v6 : Option V) (ts : List Addr) (prs : List (Int × Int)),
        σ = [some (.ref a), some (.int mo), some (.int (1 + v1)), some (.int v2), some (.ref l), v5, v6] ∧ JarAt H' a (k + 7 + (50 - i)) ∧ But H H' a ∧ H' l = some (.lst (ts.map V.ref)) ∧ PrAt H' ts prs ∧ Found (1 + i) prs ∧ prs.length ≤ i)
      ⟨none, none, [], [], rfl, (J2.put nla).mono (by omega), (B1.trans B2).new hl, upd_same, .nil, Found.nil _, Nat.le_refl _⟩ ?_ ?_⟩
    · rintro i σ H' hi ⟨v5, v6, ts, prs, rfl, J', B', hL, hP, hF, hlen⟩
      have Jd : JarAt H' a (k + 7 + (50 - (i + 1)) + 1) := J'.mono (by omega)
      refine ⟨_, rfl, rfl, _, rfl, ?_⟩
      refine ite2 (fun hv => ?ga) (fun hv => ?gb)
      case' ga =>
        refine ⟨_, rfl, a, _, 2, rfl, Jd, by decide, by decide, fun v3 H3 a3 b3 J3 B3 => ⟨_, _, rfl, rfl, ?_⟩⟩
        have z0 : 0 ≤ 1 + v3 := by omega
        have z2 : 1 + v3 ≤ 2 := by omega
        dsimp only
        generalize 1 + v3 = z at z0 z2 ⊢
      case' gb =>
        refine ⟨_, rfl, a, _, 5, rfl, Jd, by decide, by decide, fun v3 H3 a3 b3 J3 B3 => ⟨_, _, rfl, rfl, _, _, rfl, ?_⟩⟩
        have z0 : 0 ≤ (if v3 - 2 > 0 then v3 - 2 else 0) := by split <;> omega
        have z2 : (if v3 - 2 > 0 then v3 - 2 else 0) ≤ 2 := by split <;> omega
        dsimp only
        generalize (if v3 - 2 > 0 then v3 - 2 else 0) = z at z0 z2 ⊢
      all_goals
        have hL3 : H3 l = some (.lst (ts.map V.ref)) := B3 _ _ hL nla.symm
        have hP3 : PrAt H3 ts prs := hP.imp fun t p h => B3 _ _ h (J'.no h (fun _ _ _ y => nomatch y))
        have stay : ∃ (v5 v6 : Option V) (ts : List Addr) (prs : List (Int × Int)), [some (V.ref a), some (V.int mo), some (V.int (1 + v1)), some (V.int v2), some (V.ref l), some (V.int (1 + (i : Int))), some (V.int z)] = [some (V.ref a), some (V.int mo), some (V.int (1 + v1)), some (V.int v2), some (V.ref l), v5, v6] ∧ JarAt H3 a (k + 7 + (50 - (i + 1))) ∧ But H H3 a ∧ H3 l = some (.lst (ts.map V.ref)) ∧ PrAt H3 ts prs ∧ Found (1 + ((i + 1 : Nat) : Int)) prs ∧ prs.length ≤ i + 1 :=
          ⟨_, _, ts, prs, rfl, J3, B'.trans B3, hL3, hP3, by have := hF.up; rwa [show (1 : Int) + ((i + 1 : Nat) : Int) = 1 + i + 1 by omega], by omega⟩
        refine ⟨_, rfl, _, _, rfl, rfl, _, rfl, ?_⟩
        by_cases c1 : z > 0
        · refine ifT (decide_eq_true c1) ?_
          refine ⟨_, rfl, rfl, _, rfl, ?_⟩
          by_cases c2 : v2 = 1
          · refine ifF (by simp [c2]) ?_
            exact stay
          · refine ifT (by simp [c2]) ?_
            refine ⟨_, rfl, .inl ⟨rfl, _, SqL.of hL3⟩, _, rfl, _, rfl, (by show 2 ≤ sizeLine; decide), fun t ht => ?_⟩
            have nlt : l ≠ t := ne_of_none hL3 ht
            have hts := hP3.len
            refine ⟨l, _, _, rfl, rfl, by rw [upd_ne nlt]; exact hL3, by rw [List.length_map]; exact small1000 (by omega), ?_⟩
            refine ⟨_, _, ts ++ [t], prs ++ [(1 + (i : Int), z)], rfl, ((J3.put (J3.ne ht)).put nla), ?_, ?_, ?_, ?_, ?_⟩
            · exact ((B'.trans B3).new ht).put nl
            · rw [upd_same, List.map_append]
              rfl
            · refine PrAt.app (hP3.imp fun u p h => ?_) (.cons ?_ .nil)
              · rw [upd_ne (ne_of h hL3 (by intro y; cases y)), upd_ne (ne_of_none h ht)]
                exact h
              · rw [upd_ne (Ne.symm nlt)]
                exact upd_same
            · have := hF.snoc (z := z) (by omega) (by omega)
              rwa [show (1 : Int) + ((i + 1 : Nat) : Int) = 1 + i + 1 by omega]
            · rw [List.length_append]
              exact Nat.succ_le_succ hlen
        · refine ifF (decide_eq_false c1) ?_
          refine ifF rfl ?_
          exact stay
    · rintro σ H' ⟨v5, v6, ts, prs, rfl, J', B', hL, hP, hF, hlen⟩
      have hlen' : prs.length ≤ 39 := by omega
      refine ⟨_, rfl, _, rfl, _, rfl, a, k, 4, rfl, J'.mono (by omega), by decide, by decide, fun p H3 x y g x1 x2 y1 y2 g1 g2 J3 B3 hp _ => ⟨(by show 3 ≤ sizeLine; decide), fun r hr' => ?_⟩⟩
      have s3 : Same H3 (upd H3 r (.tup [.int (1 + v1), .ref l, .ref p])) := same_new (Same.refl H3) hr'
      refine q r _ (1 + v1) x y g prs (by omega) ⟨by omega, by omega, fun w hw => ?_, hF.asc⟩ hlen' ⟨l, p, ts, upd_same, s3 _ _ (B3 _ _ hL nla.symm), hP.imp fun t w h => s3 _ _ (B3 _ _ h (J'.no h (fun _ _ _ y => nomatch y))), s3 _ _ hp⟩ ⟨x1, y1, g1⟩ (by omega) (by omega) (J3.put (J3.ne hr')) ((B'.trans B3).new hr')
      have z := hF.rng w hw
      exact ⟨z.1, by omega, z.2.2⟩
end
end Cw
namespace Cw
open PySem L2
def spGreat : Sp := fun vs H Q _ => ∃ (a : Addr) (k : Nat) (mo : Int), vs = [.ref a, .int mo] ∧ 1 ≤ mo ∧ mo ≤ 40 ∧ JarAt H a (k + 120) ∧ ∀ (p : Addr) (H' : Hp) (n l m g : Int) (prs : List (Int × Int)), GoodP n prs → prs.length ≤ 16 → RawS H' p n prs l m g → SetOk l m g → n ≤ 40 * l → g ≤ 10000000000000000000000000000 → JarAt H' a k → But H H' a → Q (.ref p) H'
theorem none_but {H H' : Hp} {a l : Addr} {k : Nat} (J : JarAt H' a k) (B : But H H' a) (h : H' l = none) : H l = none := none_of (fun c o e => by
  by_cases z : c = a
  · obtain ⟨r, m, n, e', _⟩ := J
    exact ⟨_, by rw [z]; exact e'⟩
  · exact ⟨o, B _ _ e z⟩) h
theorem at4 {z x y u v : Int} (h0 : 0 ≤ z) (h1 : z < 4) : ∃ r, atI [V.int x, V.int y, V.int u, V.int v] z = some (V.int r) := by
  obtain ⟨r, e, m⟩ := at_lt (xs := [V.int x, V.int y, V.int u, V.int v]) h0 (by simpa using h1)
  simp only [List.mem_cons, List.not_mem_nil, or_false] at m
  rcases m with rfl | rfl | rfl | rfl <;> exact ⟨_, e⟩
theorem at2b {x y : Int} (c : Bool) : ∃ r, atI [V.int x, V.int y] (if c = true then 1 else 0) = some (V.int r) := by
  cases c
  · exact ⟨x, rfl⟩
  · exact ⟨y, rfl⟩
section
variable {P : Program} {w : World} {K : PySem.W.Frag} {mg : Str → Option Value} {base : Heap}
abbrev NG : List Str := ["jar", "most", "three", "length", "spots", "spot", "turn", "gap", "inner", "one"]
theorem scGr : FnScope NG ["jar", "most"] (defScope sGreat) := ⟨rfl, rfl, rfl, by decide +kernel, rfl, by decide +kernel, by decide +kernel⟩
theorem ok_great {f fD fT : Addr} {fd fdD fdT : FuncData} (F : Fun K "_law_great" "_law_great" sGreat f fd) (T : Bl mg)
    (gD : mg "_law_dip" = some (.ref fD)) (kD : PySem.W.keepIn K (.ref fD) = true) (bD : Binds K fdD ["jar", "many"] []) (GD : FnOk P w K mg base CX0 1 fD fdD ["jar", "many"] spDip)
    (gT : mg "_law_three" = some (.ref fT)) (kT : PySem.W.keepIn K (.ref fT) = true) (bT : Binds K fdT ["jar", "wide"] []) (GT : FnOk P w K mg base CX0 2 fT fdT ["jar", "wide"] spThree) :
    FnOk P w K mg base CX0 3 f fd ["jar", "most"] spGreat := by
  refine F.ok scGr (fun vs H Q E h => ?_) (fun cdv A outer s H vs Q E hr h => ?_)
  · obtain ⟨a, k, mo, rfl, _⟩ := h
    rfl
  · obtain ⟨a, k, mo, rfl, mo1, mo2, J, q⟩ := h
    have hr1 : Room 1 (A.deeper (PyProof.Rows.envOfC "_law_great" (defScope sGreat) s.heap.objs.size f cdv)) := hr.mono (by decide)
    refine ⟨_, pss_cons (ps_set (i := 2) scGr.nd rfl (Or.inl rfl) (pe_call GT hr rfl gT kT bT .nil pass0 (pa_cons (pv 0) (pa_cons (pe_ix ix_list (pe_lst (pa_cons (pe_op op_pow pe_int pe_int) (pa_cons (pe_op op_pow pe_int pe_int) (pa_cons (pe_op op_pow pe_int pe_int) pa_nil))))
          (pe_call GD hr1 rfl gD kD bD .nil pass0 (pa_cons (pv 0) (pa_cons pe_int pa_nil))) (fun _ _ => rfl)) pa_nil))))
      (pss_cons (ps_set (i := 3) scGr.nd rfl (Or.inr rfl) (pe_op op_add pe_int (pe_call GD hr1 rfl gD kD bD .nil pass0 (pa_cons (pv 0) (pa_cons (pe_op op_mul (pe_op op_add pe_int (pe_call GD hr1 rfl gD kD bD .nil pass0 (pa_cons (pv 0) (pa_cons (pv 1) pa_nil)))) (pe_ix ix_tup (pv 2) pe_int (fun _ _ => rfl))) pa_nil)))))
      (pss_cons (ps_par (i := 4) (j := 5) rfl scGr.nd rfl rfl (by decide) rfl rfl (pa_cons (pe_lst pa_nil) (pa_cons pe_int pa_nil)) (by rfl))
      (pss_cons (ps_for PassesOwn.never rfl (pi_range1 (by rfl) T.range (pa_cons (pe_call GD hr1 rfl gD kD bD .nil pass0 (pa_cons (pv 0) (pa_cons pe_int pa_nil))) pa_nil)) (pg_name (i := 6) scGr.nd rfl (Or.inl rfl))
        (pss_cons (ps_set (i := 7) scGr.nd rfl (Or.inl rfl) (pe_ix ix_list (pe_lst (pa_cons (pe_ix ix_tup (pv 2) pe_int (fun _ _ => rfl)) (pa_cons (pe_ix ix_tup (pv 2) pe_int (fun _ _ => rfl)) (pa_cons (pe_ix ix_tup (pv 2) pe_int (fun _ _ => rfl))
            (pa_cons (pe_op op_add pe_int (pe_call GD hr1 rfl gD kD bD .nil pass0 (pa_cons (pv 0) (pa_cons (pe_op op_mul pe_int (pe_ix ix_tup (pv 2) pe_int (fun _ _ => rfl))) pa_nil)))) pa_nil)))))
            (pe_call GD hr1 rfl gD kD bD .nil pass0 (pa_cons (pv 0) (pa_cons pe_int pa_nil))) (fun _ _ => rfl)))
        (pss_cons (ps_set (i := 5) scGr.nd rfl (Or.inl rfl) (pe_op op_add (pe_ix ix_list (pe_lst (pa_cons (pv 5) (pa_cons (pe_call GD hr1 rfl gD kD bD .nil pass0 (pa_cons (pv 0) (pa_cons (pv 3) pa_nil))) pa_nil)))
            (pe_callTy call_int1 (by rfl) T.int (by decide +kernel) (pa_cons (pe_cmpR op_eq (pe_call GD hr1 rfl gD kD bD .nil pass0 (pa_cons (pv 0) (pa_cons pe_int pa_nil))) pe_int (nomark _)) pa_nil)) (fun _ _ => rfl))
            (pe_callB (call_max2 rfl) (by rfl) T.max (by decide +kernel) (pa_cons pe_int (pa_cons (pe_op op_sub (pe_op op_add (pv 7) (pe_call GD hr1 rfl gD kD bD .nil pass0 (pa_cons (pv 0) (pa_cons pe_int pa_nil)))) pe_int) pa_nil)))))
        (pss_one (ps_expr (pe_bm PySem.F.plainAttrs_list PySem.F.slot_list_append PySem.F.type_list_append mt_append (pv 4) (pa_cons (pv 5) pa_nil)))))))
      (pss_cons (ps_setLc (i := 8) (own := [("one", 9)]) (g := gName 9) rfl scGr.nd rfl rfl (sw_true rfl rfl rfl (by decide +kernel)) (pi_list (pe_callB (cr_sortedSet rfl) (by rfl) T.sorted (by decide +kernel) (pa_cons (pe_callTy (cr_setOf rfl) (by rfl) T.set (by decide +kernel) (pa_cons (pv 4) pa_nil)) pa_nil)))
          (blkOk_by (own := [("one", 9)]) (N := NG) (sc := defScope sGreat) (by decide +kernel)) (fun _ _ _ _ _ => pg_name (i := 9) scGr.nd rfl (Or.inl rfl)) (fun _ _ _ _ _ => pts_one (pt_chain op_lt op_lt pe_int (pv 9) (pv 3))) (fun _ _ _ _ _ => pv 9))
      (pss_one (ps_ret (pe_tup (pa_cons (pv 3) (pa_cons (pe_lc (own := [("one", 9)]) (g := gName 9) (tt := tYes) rfl scGr.nd (pi_list (pv 8)) (blkOk_by (own := [("one", 9)]) (N := NG) (sc := defScope sGreat) (by decide +kernel)) (fun _ _ _ _ _ => pg_name (i := 9) scGr.nd rfl (Or.inl rfl)) (fun _ _ _ _ _ => pts_nil)
          (fun _ _ _ _ _ => pe_tup (pa_cons (pv 9) (pa_cons (pe_op op_add pe_int (pe_call GD hr1 rfl gD kD bD .nil pass0 (pa_cons (pv 0) (pa_cons pe_int pa_nil)))) pa_nil)))) (pa_cons (pv 2) pa_nil)))))))))), ?_⟩
    have t3 : (0 : Int) < 3 ∧ (3 : Int) < 2 ^ 120 := ⟨by decide, by decide⟩
    refine ⟨_, rfl, _, _, rfl, rfl, ⟨by decide, by decide, by decide⟩, _, _, rfl, rfl, ⟨by decide, by decide, by decide⟩, _, _, rfl, rfl, ⟨by decide, by decide, by decide⟩, (by show 3 ≤ sizeLine; decide), fun p hp => ?_⟩
    have np : a ≠ p := J.ne hp
    refine ⟨_, rfl, a, k + 119, 3, rfl, J.put np, t3.1, t3.2, fun v1 H1 a1 b1 J1 B1 => ?_⟩
    obtain ⟨W, e1, c1⟩ := at3 (x := 10 ^ Int.toNat 3) (y := 10 ^ Int.toNat 15) (u := 10 ^ Int.toNat 27) a1 b1
    refine ⟨p, _, _, _, rfl, rfl, SqL.of (B1 _ _ upd_same np.symm), e1, ?_⟩
    have w0 : 1000 ≤ W ∧ W ≤ 10 ^ 27 := by
      have z1 : (10 : Int) ^ Int.toNat 3 = 1000 := by decide +kernel
      have z2 : (10 : Int) ^ Int.toNat 15 = 1000000000000000 := by decide +kernel
      have z3 : (10 : Int) ^ Int.toNat 27 = 1000000000000000000000000000 := by decide +kernel
      have z4 : (10 : Int) ^ 27 = 1000000000000000000000000000 := by decide +kernel
      omega
    have z4 : (10 : Int) ^ 27 = 1000000000000000000000000000 := by decide +kernel
    have z5 : (2 : Int) ^ 120 = 1329227995784915872903807060280344576 := by decide +kernel
    refine ⟨a, k + 112, W, rfl, J1, by omega, by omega, fun p3 H2 x y g hx1 hx2 hy1 hy2 hg1 hg2 J2 B2 hp3 _ => ?_⟩
    have B02 := ((But.refl H a).new hp).trans (B1.trans B2)
    have npa : p3 ≠ a := J2.no hp3 (fun _ _ _ z => nomatch z)
    refine ⟨_, rfl, _, rfl, _, rfl, a, k + 111, mo, rfl, J2, by omega, by omega, fun v2 H3 a2 b2 J3 B3 => ⟨_, _, rfl, rfl, ?_⟩⟩
    have hp3' : H3 p3 = some (.tup [.int x, .int y, .int g]) := B3 _ _ hp3 npa
    have mp : 0 < (1 + v2) * x := Int.mul_pos (by omega) (by omega)
    have mu : (1 + v2) * x ≤ 40 * x := Int.mul_le_mul_of_nonneg_right (by omega) (by omega)
    refine ⟨_, rfl, p3, _, _, _, rfl, rfl, SqT.of hp3', at_of2 (j := 0) rfl rfl, _, _, rfl, rfl, .inl ⟨by omega, by omega⟩, ?_⟩
    refine ⟨a, k + 110, (1 + v2) * x, rfl, J3, mp, by omega, fun v3 H4 a3 b3 J4 B4 => ⟨_, _, rfl, rfl, ?_⟩⟩
    have B04 := (B02.trans B3).trans B4
    have hp4 := B4 _ _ hp3' npa
    refine ⟨Nat.zero_le _, fun l hl => ⟨_, _, rfl, ?_⟩⟩
    have nla : a ≠ l := J4.ne hl
    have npl : p3 ≠ l := ne_of_none hp4 hl
    have nl : H l = none := none_but J4 B04 hl
    refine ⟨_, rfl, a, k + 109, 17, rfl, J4.put nla, by decide, by decide, fun v4 H5 a4 b4 J5 B5 => ⟨_, rfl, by omega, by omega, ?_⟩⟩
    have B05 := (B04.new (o := .lst []) hl).trans B5
    refine for_range (lo := 0) (n := v4.toNat) (fun i σ H' => ∃ (sp : Int) (v6 v7 v8 v9 : Option V) (sps : List Int),
        σ = [some (.ref a), some (.int mo), some (.ref p3), some (.int (1 + v3)), some (.ref l), some (.int sp), v6, v7, v8, v9] ∧ JarAt H' a (k + 20 + 5 * (17 - i)) ∧ But H H' a ∧ H' p3 = some (.tup [.int x, .int y, .int g]) ∧ IL H' l sps ∧ sps.length = i)
      ⟨0, none, none, none, none, [], rfl, J5.mono (by omega), B05, B5 _ _ (by rw [upd_ne npl]; exact hp4) npa, B5 _ _ upd_same nla.symm, rfl⟩ ?_ ?_
    · rintro i σ H' hi ⟨sp, v6, v7, v8, v9, sps, rfl, J', B', h3, hL, hlen⟩
      have hi16 : i < 16 := by omega
      have Jd : JarAt H' a (k + 20 + 5 * (17 - (i + 1)) + 5) := J'.mono (by omega)
      generalize k + 20 + 5 * (17 - (i + 1)) = kk at Jd ⊢
      refine ⟨_, rfl, p3, _, _, _, rfl, rfl, SqT.of h3, at_of2 (j := 0) rfl rfl, _, rfl, p3, _, _, _, rfl, rfl, SqT.of h3, at_of2 (j := 1) rfl rfl, _, rfl, p3, _, _, _, rfl, rfl, SqT.of h3, at_of2 (j := 2) rfl rfl, ?_⟩
      refine ⟨_, rfl, _, rfl, p3, _, _, _, rfl, rfl, SqT.of h3, at_of2 (j := 2) rfl rfl, _, _, rfl, rfl, .inl ⟨by decide, by decide⟩, ?_⟩
      refine ⟨a, kk + 4, 2 * g, rfl, Jd, by omega, by omega, fun u1 G1 _ _ K1 C1 => ⟨_, _, rfl, rfl, (by show 4 ≤ sizeLine; decide), fun q1 hq1 => ?_⟩⟩
      have nq1 : a ≠ q1 := K1.ne hq1
      refine ⟨_, rfl, a, kk + 3, 4, rfl, K1.put nq1, by decide, by decide, fun u2 G2 d0 d1 K2 C2 => ?_⟩
      obtain ⟨gap, e2⟩ := at4 (x := x) (y := y) (u := g) (v := 1 + u1) d0 d1
      refine ⟨q1, _, _, _, rfl, rfl, SqL.of (C2 _ _ upd_same nq1.symm), e2, ?_⟩
      have D2 := (C1.new (o := .lst [.int x, .int y, .int g, .int (1 + u1)]) hq1).trans C2
      refine ⟨_, rfl, _, rfl, _, rfl, a, kk + 2, 1 + v3, rfl, K2, by omega, by omega, fun u3 G3 _ _ K3 C3 => ⟨(by show 2 ≤ sizeLine; decide), fun q2 hq2 => ?_⟩⟩
      have nq2 : a ≠ q2 := K3.ne hq2
      refine ⟨_, rfl, a, kk + 1, 3, rfl, K3.put nq2, t3.1, t3.2, fun u4 G4 _ _ K4 C4 => ⟨rfl, .inr ⟨_, rfl, ?_⟩⟩⟩
      obtain ⟨s1, e3⟩ := at2b (x := sp) (y := u3) (decide (V.int u4 = V.int 0))
      refine ⟨q2, _, _, _, rfl, rfl, SqL.of (C4 _ _ upd_same nq2.symm), e3, ?_⟩
      refine ⟨_, rfl, _, rfl, a, kk, 3, rfl, K4, t3.1, t3.2, fun u5 G5 _ _ K5 C5 => ⟨_, _, rfl, rfl, _, _, rfl, rfl, _, _, rfl, _, _, rfl, rfl, ?_⟩⟩
      have D5 := (((D2.trans C3).new (o := .lst [.int sp, .int u3]) hq2).trans C4).trans C5
      have hL5 : IL G5 l sps := D5 _ _ hL nla.symm
      have hp5 := D5 _ _ h3 npa
      refine ⟨_, rfl, .inl ⟨rfl, _, SqL.of hL5⟩, _, rfl, l, _, _, rfl, rfl, hL5, by rw [List.length_map]; exact small1000 (by omega), ?_⟩
      refine ⟨_, _, _, _, _, sps ++ [s1 + (if gap + u5 - 1 > 0 then gap + u5 - 1 else 0)], rfl, K5.put nla, (B'.trans D5).put nl, by rw [upd_ne npl]; exact hp5, ?_, by rw [List.length_append, hlen]; rfl⟩
      show upd _ _ _ l = _
      rw [upd_same, ints_app]
    · rintro σ H' ⟨sp, v6, v7, v8, v9, sps, rfl, J', B', h3, hL, hlen⟩
      have hl16 : sps.length ≤ 16 := by omega
      refine ⟨_, rfl, l, sps, rfl, SqL.of hL, by omega, fun ps c hc hps => ⟨ps, _, _, rfl, upd_same, by omega, fun ns2 ps2 asc mem len hps2 => ⟨ps2, rfl, ⟨_, SqL.of upd_same⟩, fun D hD => ?_⟩⟩⟩
      have S2 := same_new (o := .lst (ns2.map V.int)) (same_new (o := SetO w ps (fun j => decide (j ∈ sps)) c) (Same.refl H') hps) hps2
      have hN2 : IL (upd (upd H' ps (SetO w ps (fun j => decide (j ∈ sps)) c)) ps2 (.lst (ns2.map V.int))) ps2 ns2 := upd_same
      have n2D : ps2 ≠ D := ne_of_none hN2 hD
      have nD' : H' D = none := S2.free hD
      refine lc_list (K := K) (a := ps2) (xs := ns2.map V.int) (fun i H2 => Same H' H2 ∧ IL H2 ps2 ns2 ∧ IL H2 D ((ns2.take i).filter (fun x => decide (0 < x) && decide (x < 1 + v3)))) ⟨same_new S2 hD, by show upd _ _ _ ps2 = _; rw [upd_ne n2D]; exact hN2, upd_same⟩ (fun i H2 _ z => SqL.of z.2.1) ?_ ?_
      · rintro i x' H2 hx ⟨s1, hP, hE⟩
        obtain ⟨z, rfl, hz⟩ := il_at hx
        have hil : i < ns2.length := (List.getElem?_eq_some_iff.mp hz).1
        have tf := take_fil hz (fun x => decide (0 < x) && decide (x < 1 + v3))
        have sm : (List.map V.int ((ns2.take i).filter (fun x => decide (0 < x) && decide (x < 1 + v3)))).length < sizeLine := by
          rw [List.length_map]
          have z1 := List.length_filter_le (fun x => decide (0 < x) && decide (x < 1 + v3)) (ns2.take i)
          rw [List.length_take] at z1
          exact small1000 (by omega)
        refine ⟨rfl, ?_⟩
        refine ⟨_, rfl, _, _, rfl, rfl, _, rfl, ?_⟩
        by_cases c1 : 0 < z
        · refine ifT (decide_eq_true c1) ?_
          refine ⟨_, rfl, _, _, rfl, rfl, _, rfl, ?_⟩
          by_cases c2 : z < 1 + v3
          · refine ifT (decide_eq_true c2) ?_
            refine ⟨_, rfl, _, hE, sm, same_put s1 nD', by show upd _ _ _ ps2 = _; rw [upd_ne n2D]; exact hP, ?_⟩
            show upd _ _ _ D = _
            rw [upd_same, ints_app, tf]
            simp [c1, c2]
          · refine ifF (decide_eq_false c2) ?_
            refine ⟨s1, hP, ?_⟩
            show H2 D = _
            rw [hE, tf]
            simp [c2]
        · refine ifF (decide_eq_false c1) ?_
          refine ⟨_, rfl, ?_⟩
          refine ifF rfl ?_
          refine ⟨s1, hP, ?_⟩
          show H2 D = _
          rw [hE, tf]
          simp [c1]
      · rintro H2 ⟨s1, hP, hE⟩
        rw [List.length_map, List.take_length] at hE
        generalize hins : ns2.filter (fun x => decide (0 < x) && decide (x < 1 + v3)) = ins at hE
        have iasc : Asc ins := by
          rw [← hins]
          exact asc.filter _
        have ilen : ins.length ≤ 16 := by
          have z1 := List.length_filter_le (fun x => decide (0 < x) && decide (x < 1 + v3)) ns2
          rw [hins] at z1
          omega
        have irng : ∀ x ∈ ins, 0 < x ∧ x < 1 + v3 := fun x hx => by
          rw [← hins] at hx
          have z1 := (List.mem_filter.mp hx).2
          simpa using z1
        have JD : JarAt H2 a (k + 20) := (J'.same s1).mono (by omega)
        have BD : But H H2 a := B'.trans (But.of s1)
        have nDa : D ≠ a := fun e => (J'.ne nD') e.symm
        refine ⟨_, rfl, _, rfl, D, rfl, ⟨_, SqL.of hE⟩, fun D2 hD2 => ?_⟩
        have nDD : D ≠ D2 := ne_of_none hE hD2
        have naD2 : a ≠ D2 := JD.ne hD2
        have nD2 : H D2 = none := none_but JD BD hD2
        refine lc_list (K := K) (a := D) (xs := ins.map V.int) (fun i H3 => ∃ (ts : List Addr) (prs : List (Int × Int)), JarAt H3 a (k + (20 - i)) ∧ But H2 H3 a ∧ IL H3 D ins ∧ H3 D2 = some (.lst (ts.map V.ref)) ∧ PrAt H3 ts prs ∧ prs.map (·.1) = ins.take i ∧ ∀ q ∈ prs, q.2 = 1 ∨ q.2 = 2)
          ⟨[], [], JD.put naD2, (But.refl H2 a).new hD2, by show upd _ _ _ D = _; rw [upd_ne nDD]; exact hE, upd_same, .nil, rfl, fun _ h => (nomatch h)⟩ (fun i H3 _ ⟨ts, prs, z⟩ => SqL.of z.2.2.1) ?_ ?_
        · rintro i x' H3 hx ⟨ts, prs, K1, C1, hF, hG, hPr, hfst, hk⟩
          obtain ⟨z, rfl, hz⟩ := il_at hx
          have hil : i < ins.length := (List.getElem?_eq_some_iff.mp hz).1
          have Kd : JarAt H3 a (k + (20 - (i + 1)) + 1) := K1.mono (by omega)
          refine ⟨rfl, ?_⟩
          unfold tYes
          refine iteT ?_
          refine ⟨_, rfl, _, rfl, a, _, 2, rfl, Kd, by decide, by decide, fun u G u0 u1 K2 C2 => ⟨_, _, rfl, rfl, (by show 2 ≤ sizeLine; decide), fun t ht => ?_⟩⟩
          have hG2 := C2 _ _ hG naD2.symm
          have hF2 := C2 _ _ hF nDa
          have hP2 : PrAt G ts prs := hPr.imp fun t p h => C2 _ _ h (K1.no h (fun _ _ _ y => nomatch y))
          have ntD2 : D2 ≠ t := ne_of_none hG2 ht
          have hts : ts.length = i := by
            rw [hPr.len, ← List.length_map (f := (·.1)), hfst, List.length_take]
            omega
          refine ⟨_, (by rw [upd_ne ntD2]; exact hG2), by rw [List.length_map]; exact small1000 (by omega), ts ++ [t], prs ++ [(z, 1 + u)], (K2.put (K2.ne ht)).put naD2, ((C1.trans C2).new ht).put hD2, ?_, ?_, ?_, ?_, ?_⟩
          · show upd _ _ _ D = _
            rw [upd_ne nDD, upd_ne (ne_of_none hF2 ht)]
            exact hF2
          · rw [upd_same, List.map_append]
            rfl
          · refine PrAt.app (hP2.imp fun v p h => ?_) (.cons ?_ .nil)
            · rw [upd_ne (ne_of h hG2 (by intro y; cases y)), upd_ne (ne_of_none h ht)]
              exact h
            · rw [upd_ne (Ne.symm ntD2)]
              exact upd_same
          · rw [List.map_append, hfst, List.take_add_one, hz]
            rfl
          · intro q hq
            rcases List.mem_append.mp hq with hq | hq
            · exact hk q hq
            · rw [List.mem_singleton.mp hq]
              show 1 + u = 1 ∨ 1 + u = 2
              omega
        · rintro H3 ⟨ts, prs, K1, C1, hF, hG, hPr, hfst, hk⟩
          rw [List.length_map, List.take_length] at hfst
          have pl : prs.length = ins.length := by rw [← hfst, List.length_map]
          refine ⟨_, rfl, (by show 3 ≤ sizeLine; decide), fun r hr' => ?_⟩
          have s3 : Same H3 (upd H3 r (.tup [.int (1 + v3), .ref D2, .ref p3])) := same_new (Same.refl H3) hr'
          have hp6 := C1 _ _ (s1 _ _ h3) npa
          refine q r _ (1 + v3) x y g prs ⟨by omega, by omega, fun y hy => ?_, by rw [hfst]; exact iasc⟩ (by omega) ⟨D2, p3, ts, upd_same, s3 _ _ hG, hPr.imp fun t y h => s3 _ _ h, s3 _ _ hp6⟩ ⟨hx1, hy1, hg1⟩ (by omega) (by omega) ((K1.mono (by omega)).put (K1.ne hr')) ((BD.trans C1).new hr')
          have z1 := irng y.1 (by rw [← hfst]; exact List.mem_map.mpr ⟨y, hy, rfl⟩)
          exact ⟨by omega, by omega, hk y hy⟩
end
end Cw
namespace Cw
open PySem L2
/-! ## walks beside one another -/
theorem kc_up {F : Int → Int} {n l s : Int} (S : Stp F n l) {i : Nat} : ∀ j : Nat, kc F n s i ≤ kc F n s (i + j)
  | 0 => Int.le_refl _
  | j + 1 => by
    have h := kc_up S (i := i) (s := s) j
    by_cases c : kc F n s (i + j) < n
    · have e := S.gt c
      have k : kc F n s (i + (j + 1)) = F (kc F n s (i + j)) := kc_at c
      omega
    · have k : kc F n s (i + (j + 1)) = kc F n s (i + j) := if_neg c
      omega
theorem kc_wk {F : Int → Int} {n l s : Int} (S : Stp F n l) {i j : Nat} (h : i ≤ j) : kc F n s i ≤ kc F n s j := by
  have := kc_up S (s := s) (i := i) (j - i)
  rw [Nat.add_sub_cancel' h] at this
  exact this
theorem kc_add {F : Int → Int} {n s : Int} {i : Nat} : ∀ k : Nat, kc F n s (i + k) = kc F n (kc F n s i) k
  | 0 => rfl
  | k + 1 => by
    have h := kc_add (F := F) (n := n) (s := s) (i := i) k
    show (if kc F n s (i + k) < n then F (kc F n s (i + k)) else kc F n s (i + k)) = (if kc F n (kc F n s i) k < n then F (kc F n (kc F n s i) k) else kc F n (kc F n s i) k)
    rw [h]
theorem WkOk.from {F : Int → Int} {n s : Int} {m i : Nat} (w : WkOk F n s m) (h : i ≤ m) : WkOk F n (kc F n s i) (m - i) := by
  refine ⟨by have := w.few; omega, ?_, fun k hk => ?_⟩
  · rw [← kc_add, Nat.add_sub_cancel' h]
    exact w.fin
  · rw [← kc_add]
    exact w.bef _ (by omega)
theorem WkOk.one {F : Int → Int} {n s : Int} {m k : Nat} (w : WkOk F n s m) (u : WkOk F n s k) : m = k := by
  rcases Nat.lt_trichotomy m k with h | h | h
  · have := u.bef _ h
    have := w.fin
    omega
  · exact h
  · have := w.bef _ h
    have := u.fin
    omega
theorem WkOk.later {F : Int → Int} {n s : Int} {m k : Nat} (w : WkOk F n s m) (h : m ≤ k) : kc F n s k = n := by
  have z := kc_end (F := F) (n := n) (s := s) (m := m) (by rw [w.fin]; omega) (k - m)
  rw [Nat.add_sub_cancel' h, w.fin] at z
  exact z
theorem turns {F : Int → Int} {n l a b : Int} (S : Stp F n l) (ab : a ≤ b) (bn : b ≤ n) (bF : b ≤ kc F n a 1) : ∀ k, kc F n a k ≤ kc F n b k ∧ kc F n b k ≤ kc F n a (k + 1)
  | 0 => ⟨ab, bF⟩
  | k + 1 => by
    obtain ⟨h1, h2⟩ := turns S ab bn bF k
    have st : ∀ p q, p ≤ q → q ≤ n → (if p < n then F p else p) ≤ (if q < n then F q else q) := fun p q h hq => by
      by_cases c : q < n
      · rw [if_pos c, if_pos (by omega)]
        exact S.mono _ _ h
      · rw [if_neg c]
        by_cases d : p < n
        · rw [if_pos d]
          have := S.le p
          omega
        · rw [if_neg d]
          exact h
    exact ⟨st _ _ h1 (kc_le S bn k), st _ _ h2 (kc_le S (by omega) (k + 1))⟩
/-- the number of cuts before z is the first index that is not -/
theorem cb_wl {F : Int → Int} {n l s z : Int} {m : Nat} (S : Stp F n l) (w : WkOk F n s m) (hz : z ≤ n) : z ≤ kc F n s (cb (wl F n s m) z) ∧ (∀ i, i < cb (wl F n s m) z → kc F n s i < z) ∧ cb (wl F n s m) z ≤ m := by
  obtain ⟨h1, h2⟩ := cb_split (wl_asc S w) z
  have g : ∀ i, i ≤ m → (wl F n s m)[i]? = some (kc F n s i) := fun i hi => by
    unfold wl
    rw [List.getElem?_map, List.getElem?_range (by omega)]
    rfl
  have c : cb (wl F n s m) z ≤ m := by
    by_cases c : cb (wl F n s m) z ≤ m
    · exact c
    · have := h1 m (by omega) _ (g m (Nat.le_refl _))
      have := w.fin
      omega
  exact ⟨h2 _ (Nat.le_refl _) _ (g _ c), fun i hi => h1 i hi _ (g i (by omega)), c⟩
end Cw
namespace Cw
open PySem L2
def RowOff (C : Addr) (H : Hp) (a p : Addr) (n : Int) (ms ss : List Int) : Prop := ∃ dx l1 l2, H p = some (.ins C dx (flds n l1 l2)) ∧ IL H l1 ms ∧ IL H l2 ss ∧ l1 ≠ a ∧ l2 ≠ a
theorem RowNew.off {C : Addr} {H H' : Hp} {p a : Addr} {k : Nat} {n : Int} {ms ss : List Int} (r : RowNew C H H' p n ms ss) (J : JarAt H a k) : RowOff C H' a p n ms ss := by
  obtain ⟨dx, l1, l2, h1, h2, h3, n1, n2⟩ := r
  exact ⟨dx, l1, l2, h1, h2, h3, (J.ne n1).symm, (J.ne n2).symm⟩
theorem RowOff.at {C : Addr} {H : Hp} {p a : Addr} {n : Int} {ms ss : List Int} (r : RowOff C H a p n ms ss) : RowAt C H p n ms ss := by
  obtain ⟨dx, l1, l2, h1, h2, h3, _⟩ := r
  exact ⟨dx, l1, l2, h1, h2, h3⟩
theorem RowOff.but {C : Addr} {H H' : Hp} {p a : Addr} {k : Nat} {n : Int} {ms ss : List Int} (r : RowOff C H a p n ms ss) (J : JarAt H a k) (B : But H H' a) : RowOff C H' a p n ms ss := by
  obtain ⟨dx, l1, l2, h1, h2, h3, n1, n2⟩ := r
  exact ⟨dx, l1, l2, B _ _ h1 (J.no h1 fun _ _ _ z => nomatch z), B _ _ h2 n1, B _ _ h3 n2, n1, n2⟩
/-- a row and settings that stay while the jar is drawn from -/
structure RwO (C : Addr) (H : Hp) (a r t : Addr) (n l m g : Int) (ms ss : List Int) : Prop where
  row : RowOff C H a r n ms ss
  tup : H t = some (.tup [.int l, .int m, .int g])
  good : Good n ms ss
  set : SetOk l m g
  big : n ≤ 200 * l
theorem RwO.rws {C : Addr} {H : Hp} {a r t : Addr} {n l m g : Int} {ms ss : List Int} (R : RwO C H a r t n l m g ms ss) : RwS C H r t n l m g ms ss := ⟨R.row.at, R.tup, R.good, R.set, R.big⟩
theorem RwO.but {C : Addr} {H H' : Hp} {a r t : Addr} {k : Nat} {n l m g : Int} {ms ss : List Int} (R : RwO C H a r t n l m g ms ss) (J : JarAt H a k) (B : But H H' a) : RwO C H' a r t n l m g ms ss :=
  ⟨R.row.but J B, B _ _ R.tup (J.no R.tup fun _ _ _ z => nomatch z), R.good, R.set, R.big⟩
theorem inV_il {z : Int} {ns : List Int} : inV (.int z) (ns.map V.int) = decide (z ∈ ns) := by
  unfold inV
  induction ns with
  | nil => rfl
  | cons a r ih =>
    rw [List.map_cons, List.any_cons, ih]
    have e : eqV (.int a) (.int z) = decide (a = z) := by
      by_cases c : a = z
      · subst c; simp [eqV]
      · simp [eqV, c]
    rw [e]
    by_cases c : a = z
    · subst c; simp
    · have c' : ¬ z = a := fun h => c h.symm
      simp [c, c']
theorem flat_il {ns : List Int} : (ns.map V.int).all flatV = true := by
  rw [List.all_map]
  exact List.all_eq_true.mpr fun _ _ => rfl
theorem nx_reach {n l m g p : Int} {ms ss : List Int} : nx n ms ss l m g p ≤ p + g := by
  unfold nx
  omega
/-- a comprehension that takes some whole numbers of a list -/
theorem lc_fil {K : PySem.W.Frag} {a D : Addr} {ns : List Int} {g : TG} {tt : TT} {te : TE} {vs : List Nat} {σ : St} {H1 : Hp} {Qd : Hp → Prop} (f : Int → Bool)
    (ha : IL H1 a ns) (hD : H1 D = none) (few : ns.length ≤ 999)
    (step : ∀ (z : Int) (H : Hp) (A : V → Hp → Prop) (B : Hp → Prop), Same H1 H → (f z = true → A (.int z) H) → (f z = false → B H) →
      g (.int z) (wipe σ vs) H fun σ2 H2 => wipe σ2 vs = wipe σ vs ∧ tt σ2 H2 fun b H3 => if b = true then te σ2 H3 fun y H4 => A y H4 else B H3)
    (fin : ∀ (H : Hp), Same H1 H → IL H D (ns.filter f) → Qd H) :
    ∃ W : Nat → Nat → Hp → Prop, (∃ m, W 0 m (upd H1 D (HO.lst []))) ∧ ∀ (i m : Nat) (H : Hp), W i m H → (Itl K a).stop i H ∧ Qd H ∨ (Itl K a).go i H ∧ ∃ Nx : Hp → Prop, (∀ H', Nx H' → ∃ m', m' < m ∧ W (i + 1) m' H') ∧
      ∀ (x : V) (H' : Hp), (Itl K a).yld i H x H' → g x (wipe σ vs) H' fun σ2 H2 => wipe σ2 vs = wipe σ vs ∧ tt σ2 H2 fun b H3 => if b = true then te σ2 H3 fun y H4 => ∃ acc, H4 D = some (HO.lst acc) ∧ acc.length < sizeLine ∧ Nx (upd H4 D (HO.lst (acc ++ [y]))) else Nx H3 := by
  refine lc_list (K := K) (a := a) (xs := ns.map V.int) (fun i H' => Same H1 H' ∧ IL H' D ((ns.take i).filter f)) ⟨same_new (Same.refl H1) hD, upd_same⟩ (fun i H' _ z => SqL.of (z.1 _ _ ha)) ?_ ?_
  · rintro i x H' hx ⟨s1, hE⟩
    obtain ⟨z, rfl, hz⟩ := il_at hx
    have hil := (List.getElem?_eq_some_iff.mp hz).1
    have tk := take_fil hz f
    have ln : ((ns.take i).filter f).length ≤ 999 := by
      have z1 := List.length_filter_le f (ns.take i)
      rw [List.length_take] at z1
      omega
    refine step z H' _ _ s1 (fun c => ?_) (fun c => ?_)
    · refine ⟨_, hE, by rw [List.length_map]; exact small1000 (by omega), same_put s1 hD, ?_⟩
      show upd _ _ _ D = _
      rw [upd_same, ints_app, tk, if_pos c]
    · refine ⟨s1, ?_⟩
      show H' D = _
      rw [hE, tk, if_neg (by rw [c]; exact Bool.false_ne_true), List.append_nil]
  · rintro H ⟨s1, hE⟩
    rw [List.length_map, List.take_length] at hE
    exact fin H s1 hE
theorem near_at {ks : List Int} {z : Int} (h0 : 0 ≤ z) (h1 : z < (ks.map V.int).length) : ∃ v, atI (ks.map V.int) z = some (V.int v) ∧ v ∈ ks := by
  obtain ⟨v, e, m⟩ := at_lt h0 h1
  obtain ⟨y, hy, rfl⟩ := List.mem_map.mp m
  exact ⟨y, e, hy⟩
theorem refs_no {ts : List Addr} : ∀ r m n : Int, HO.lst (ts.map V.ref) ≠ .lst [.int r, .int m, .int n] := fun r m n z => by
  injection z with z
  cases ts with
  | nil => cases z
  | cons t ts => cases z
theorem same_but {H0 H1 H' : Hp} {p : Addr} (s : Same H0 H1) (n : H0 p = none) (b : But H1 H' p) : Same H0 H' := fun c o e => b c o (s c o e) (ne_of_none e n)
end Cw
namespace Cw
open PySem PySem.Spec PyProof.Rows L2
/-! ## x -> 5 x + 1 meets all numbers below a power of two -/
def ff : Nat → Nat → Nat
  | 0, i => i
  | n + 1, i => 5 * ff n i + 1
theorem ff_add (a i : Nat) : ∀ b, ff (a + b) i = ff b (ff a i)
  | 0 => rfl
  | b + 1 => by
    show 5 * ff (a + b) i + 1 = 5 * ff b (ff a i) + 1
    rw [ff_add a i b]
theorem ff_two (k : Nat) : ∃ u v : Nat, ∀ i, ff (2 ^ k) i = (1 + 4 * 2 ^ k * u) * i + 2 ^ k * (1 + 2 * v) := by
  induction k with
  | zero => exact ⟨1, 0, fun i => by show 5 * i + 1 = _; omega⟩
  | succ k ih =>
    obtain ⟨u, v, h⟩ := ih
    generalize hK : 2 ^ k = K at h
    refine ⟨u + 2 * K * u * u, v + K * u * (1 + 2 * v), fun i => ?_⟩
    have e : 2 ^ (k + 1) = K + K := by rw [Nat.pow_succ, hK]; omega
    rw [e, ff_add, h, h]
    grind
theorem ff_half (k i : Nat) : ∃ c, ff (2 ^ k) i = i + 2 ^ k + 2 ^ (k + 1) * c := by
  obtain ⟨u, v, h⟩ := ff_two k
  refine ⟨2 * u * i + v, ?_⟩
  rw [h, Nat.pow_succ]
  generalize 2 ^ k = K
  grind
/-- each residue comes -/
theorem ff_all : ∀ (k i j : Nat), j < 2 ^ k → ∃ n, n < 2 ^ k ∧ ff n i % 2 ^ k = j
  | 0, i, j, h => ⟨0, by decide, by
    have : j < 1 := h
    show i % 1 = j
    omega⟩
  | k + 1, i, j, h => by
    obtain ⟨n, hn, e⟩ := ff_all k i (j % 2 ^ k) (Nat.mod_lt _ (Nat.pow_pos (by decide)))
    obtain ⟨c, hc⟩ := ff_half k (ff n i)
    have e1 : 2 ^ (k + 1) = 2 * 2 ^ k := by rw [Nat.pow_succ]; omega
    rw [e1] at h hc ⊢
    have pos : 0 < 2 ^ k := Nat.pow_pos (by decide)
    generalize 2 ^ k = K at *
    generalize hx : ff n i = x at *
    have d1 := Nat.div_add_mod x (2 * K)
    have m1 := Nat.mod_lt x (show 0 < 2 * K by omega)
    have key : x % (2 * K) % K = j % K := by rw [Nat.mod_mul_left_mod]; exact e
    by_cases q : x % (2 * K) = j
    · exact ⟨n, by omega, by rw [hx]; exact q⟩
    · refine ⟨n + K, by omega, ?_⟩
      rw [ff_add, hx, hc]
      have z : x + K + 2 * K * c = (x % (2 * K) + K) + 2 * K * (x / (2 * K) + c) := by
        rw [Nat.mul_add]
        omega
      rw [z, Nat.add_mul_mod_self_left]
      generalize x % (2 * K) = y at *
      have dy : y % K = if y < K then y else y - K := by
        split
        · exact Nat.mod_eq_of_lt (by assumption)
        · rw [Nat.mod_eq_sub_mod (by omega), Nat.mod_eq_of_lt (by omega)]
      have dj : j % K = if j < K then j else j - K := by
        split
        · exact Nat.mod_eq_of_lt (by assumption)
        · rw [Nat.mod_eq_sub_mod (by omega), Nat.mod_eq_of_lt (by omega)]
      rw [dy, dj] at key
      by_cases a : y < K
      · rw [if_pos a] at key
        have b : ¬ j < K := fun b => by rw [if_pos b] at key; exact q key
        rw [if_neg b] at key
        rw [Nat.mod_eq_of_lt (by omega)]
        omega
      · rw [if_neg a] at key
        have b : j < K := by
          by_cases b : j < K
          · exact b
          · rw [if_neg b] at key
            omega
        rw [if_pos b] at key
        rw [Nat.mod_eq_sub_mod (by omega), Nat.mod_eq_of_lt (by omega)]
        omega
/-- a mask of a set's table -/
def MaskG (m : Nat) : Prop := ∃ k, m + 1 = 2 ^ k
theorem lcgI_ff (m i : Nat) : ∀ n, 0 < n → lcgI m i n = ff n i % (m + 1)
  | 0, h => absurd h (Nat.lt_irrefl _)
  | 1, _ => by
    show (i * 5 + 1) % (m + 1) = (5 * i + 1) % (m + 1)
    rw [Nat.mul_comm]
  | n + 2, _ => by
    have ih := lcgI_ff m i (n + 1) (Nat.succ_pos _)
    show (lcgI m i (n + 1) * 5 + 1) % (m + 1) = (5 * ff (n + 1) i + 1) % (m + 1)
    rw [ih, Nat.mul_comm, Nat.add_mod, Nat.mul_mod, Nat.mod_mod, ← Nat.mul_mod, ← Nat.add_mod]
theorem lcgI_any {m i j : Nat} (G : MaskG m) (hi : i ≤ m) (hj : j ≤ m) : ∃ n, n ≤ m ∧ lcgI m i n = j := by
  obtain ⟨k, e⟩ := G
  obtain ⟨n, hn, h⟩ := ff_all k i j (by omega)
  refine ⟨n, by omega, ?_⟩
  cases n with
  | zero =>
    have : i % 2 ^ k = j := h
    rw [Nat.mod_eq_of_lt (by omega)] at this
    exact this
  | succ n => rw [lcgI_ff m i _ (Nat.succ_pos _), e, h]
end Cw
namespace Cw
open PySem PySem.Spec PyProof.Rows L2
/-! ## a table is laid for any mask -/
theorem runs_meet {m j : Nat} (G : MaskG m) (h : Int) (hj : j ≤ m) : ∃ n, n ≤ m + 12 ∧ runI m (SetTable.bits h) n = j := by
  obtain ⟨k, hk, e⟩ := lcgI_any G (runI_le m (SetTable.bits h) 12) hj
  refine ⟨12 + k, by omega, ?_⟩
  rw [runI_tail (bits_lt h) k, e]
/-- one more hash finds its slot -/
theorem free_got {m j : Nat} (G : MaskG m) (owner : Array (Option Nat)) (h : Int) (hj : j ≤ m) (hf : oAt owner j = none) :
    ∃ i, i ≤ m ∧ oAt owner i = none ∧ SetTable.layClean.free m owner (SetTable.turns m) (SetTable.bits h % (m + 1)) (SetTable.bits h) = some i := by
  obtain ⟨n, hn, e⟩ := runs_meet G h hj
  let P : Nat → Prop := fun k => oAt owner (nth m (runAt m (SetTable.bits h % (m + 1)) (SetTable.bits h)) k).j = none
  have at_n : P (off m (SetTable.bits h % (m + 1)) (SetTable.bits h) n) := by
    show oAt owner (nth m (runAt m _ _) (off m _ _ n)).j = none
    rw [nth_off, itL_run]
    show oAt owner (runI m (SetTable.bits h) n) = none
    rw [e]
    exact hf
  obtain ⟨k, h1, h2, h3⟩ := st_least (p := P) _ at_n
  refine ⟨_, ?_, h2, free_spec m owner (SetTable.turns m) n _ _ k (by unfold SetTable.turns; omega) h1 (fun i hi => ?_) ?_⟩
  · have i0 : SetTable.bits h % (m + 1) ≤ m := Nat.le_of_lt_succ (Nat.mod_lt _ (Nat.succ_pos _))
    have r0 := runEnd_bd i0
    have z := nth_in (m := m) k (runAt m (SetTable.bits h % (m + 1)) (SetTable.bits h)) (show SetTable.bits h % (m + 1) + (SetTable.runEnd m (SetTable.bits h % (m + 1)) - SetTable.bits h % (m + 1)) ≤ m by omega)
    omega
  · have q := h3 i hi
    cases z : oAt owner (nth m (runAt m (SetTable.bits h % (m + 1)) (SetTable.bits h)) i).j with
    | none => exact absurd z q
    | some _ => rfl
  · have q : oAt owner (nth m (runAt m (SetTable.bits h % (m + 1)) (SetTable.bits h)) k).j = none := h2
    rw [q]
    rfl
/-- the first c hashes have their slots -/
structure Ow (m c : Nat) (u : Array (Option Nat)) : Prop where
  sz : u.size = m + 1
  has : ∀ k, k < c → ∃ j, j ≤ m ∧ oAt u j = some k
  occ : ∃ ps : List Nat, ps.length = c ∧ ∀ j, j ≤ m → oAt u j ≠ none → j ∈ ps
theorem ow_one {m c : Nat} {u : Array (Option Nat)} (G : MaskG m) (O : Ow m c u) (few : c ≤ m) (h : Int) :
    ∃ i, SetTable.layClean.free m u (SetTable.turns m) (SetTable.bits h % (m + 1)) (SetTable.bits h) = some i ∧ Ow m (c + 1) (u.setIfInBounds i (some c)) := by
  obtain ⟨ps, pl, pm⟩ := O.occ
  obtain ⟨j, j1, j2⟩ := st_missing ps (m + 1) (by omega)
  have fj : oAt u j = none := by
    cases z : oAt u j with
    | none => rfl
    | some k => exact absurd (pm j (by omega) (by rw [z]; exact Option.some_ne_none k)) j2
  obtain ⟨i, im, fi, e⟩ := free_got G u h (by omega) fj
  have ib : i < u.size := by rw [O.sz]; omega
  have other : ∀ {x : Nat}, x ≠ i → oAt (u.setIfInBounds i (some c)) x = oAt u x := fun {x} hx => oAt_set_ne _ hx
  refine ⟨i, e, by rw [Array.size_setIfInBounds]; exact O.sz, fun k hk => ?_, i :: ps, by rw [List.length_cons, pl], fun x hx hne => ?_⟩
  · rcases Nat.lt_or_ge k c with q | q
    · obtain ⟨x, x1, x2⟩ := O.has k q
      refine ⟨x, x1, (other fun z => ?_).trans x2⟩
      rw [z, fi] at x2
      cases x2
    · have : k = c := by omega
      exact ⟨i, im, by rw [this]; exact oAt_set_self _ ib⟩
  · by_cases q : x = i
    · rw [q]
      exact List.mem_cons_self ..
    · rw [other q] at hne
      exact List.mem_cons_of_mem _ (pm x hx hne)
theorem ow_fold {m : Nat} (G : MaskG m) : ∀ (rest : List Int) (c : Nat) (u : Array (Option Nat)), Ow m c u → c + rest.length ≤ m + 1 →
    ∃ v, rest.foldl (stepF m) (some (u, c)) = some (v, c + rest.length) ∧ Ow m (c + rest.length) v
  | [], c, u, O, _ => ⟨u, rfl, O⟩
  | h :: rest, c, u, O, few => by
    rw [List.length_cons] at few
    obtain ⟨i, e, O2⟩ := ow_one G O (by omega) h
    obtain ⟨v, f, O3⟩ := ow_fold G rest (c + 1) _ O2 (by omega)
    have z : c + 1 + rest.length = c + (h :: rest).length := by rw [List.length_cons]; omega
    rw [z] at f O3
    exact ⟨v, by rw [List.foldl_cons, stepF_some e]; exact f, O3⟩
theorem clean_got {m : Nat} (G : MaskG m) {hs : Array Int} (few : hs.size ≤ m + 1) : ∃ u, SetTable.layClean m hs = some u ∧ Ow m hs.size u := by
  have O0 : Ow m 0 (Array.replicate (m + 1) none) := ⟨by simp, fun k hk => absurd hk (Nat.not_lt_zero _), [], rfl, fun j hj e => absurd (oAt_init hj) e⟩
  have hl : hs.toList.length = hs.size := Array.length_toList
  obtain ⟨u, f, O⟩ := ow_fold G hs.toList 0 _ O0 (by omega)
  rw [Nat.zero_add, hl] at O
  refine ⟨u, ?_, O⟩
  rw [layClean_eq, f]
  rfl
theorem laid_got {m : Nat} (G : MaskG m) (fi mo : Nat) (ld pl : Bool) {hs : Array Int} (few : hs.size ≤ m) :
    ∃ t order, SetTable.laid m fi mo ld pl hs = some (t, order) ∧ order.toList.Perm (List.range hs.size) ∧ t.fits hs.size = true ∧ Ris t.place.toList ∧ t.led = ld ∧ t.plain = pl := by
  obtain ⟨u, e, O⟩ := clean_got G (hs := hs) (by omega)
  have rl := ris_live (fun j => u.getD j none) (List.range (m + 1)) (by unfold Ris; exact List.pairwise_lt_range)
  have r1 : Ris ((liveOf m u).map (·.1)) := rl.1
  have nd : ((liveOf m u).map (·.1)).Nodup := List.Pairwise.imp (fun h => Nat.ne_of_lt h) r1
  have inn : ∀ k, k < hs.size → k ∈ (liveOf m u).map (·.2) := fun k hk => by
    obtain ⟨j, j1, j2⟩ := O.has k hk
    exact List.mem_map.mpr ⟨(j, k), (mem_live O.sz).mpr ⟨j1, j2⟩, rfl⟩
  have up : (liveOf m u).length ≤ hs.size := by
    obtain ⟨ps, p1, p2⟩ := O.occ
    have z := nat_nodup_len _ ps nd fun x hx => by
      obtain ⟨⟨a, b⟩, hab, rfl⟩ := List.mem_map.mp hx
      obtain ⟨h1, h2⟩ := (mem_live O.sz).mp hab
      exact p2 a h1 (by rw [h2]; exact Option.some_ne_none b)
    rw [List.length_map, p1] at z
    exact z
  have dn : hs.size ≤ (liveOf m u).length := by
    have z := nat_nodup_len (List.range hs.size) _ List.nodup_range fun x hx => inn x (List.mem_range.mp hx)
    rw [List.length_range, List.length_map] at z
    exact z
  refine ⟨{ mask := m, place := ((liveOf m u).map (·.1)).toArray, dummies := #[], finger := fi, led := ld, moves := mo, plain := pl }, ((liveOf m u).map (·.2)).toArray, ?_, ?_, ?_, ?_, rfl, rfl⟩
  · show (SetTable.layClean m hs).bind _ = _
    rw [e]
    rfl
  · rw [List.toList_toArray]
    exact perm_range _ _ (by rw [List.length_map]; omega) inn
  · unfold SetTable.fits SetTable.fill
    dsimp only
    rw [List.size_toArray, List.length_map]
    simp only [Bool.and_eq_true, beq_iff_eq, decide_eq_true_eq]
    exact ⟨by omega, by show (liveOf m u).length + 0 ≤ m; omega⟩
  · exact r1
theorem pick_range {α : Type} : ∀ l : List α, (List.range l.length).filterMap (fun i => l[i]?) = l
  | [] => rfl
  | x :: r => by
    rw [List.length_cons, List.range_succ_eq_map, List.filterMap_cons_some (f := fun i => (x :: r)[i]?) (a := 0) (b := x) rfl, List.filterMap_map]
    show x :: (List.range r.length).filterMap (fun i => r[i]?) = _
    rw [pick_range r]
theorem order_perm {α : Type} (es : Array α) {order : Array Nat} (h : order.toList.Perm (List.range es.size)) : (order.filterMap (es[·]?)).toList.Perm es.toList := by
  rw [Array.toList_filterMap]
  have e : (fun i => es[i]?) = fun i : Nat => es.toList[i]? := funext fun i => Array.getElem?_toList.symm
  rw [e]
  refine (h.filterMap _).trans ?_
  rw [← Array.length_toList, pick_range]
theorem above_go : ∀ (f size n : Nat), (∃ k, size = 2 ^ k) → n < size * 2 ^ f → (∃ k, SetTable.sizeAbove.go n f size = 2 ^ k) ∧ n < SetTable.sizeAbove.go n f size ∧ (SetTable.sizeAbove.go n f size ≤ size ∨ SetTable.sizeAbove.go n f size ≤ 2 * n)
  | 0, size, n, h, l => ⟨h, by rw [Nat.pow_zero, Nat.mul_one] at l; exact l, .inl (Nat.le_refl _)⟩
  | f + 1, size, n, h, l => by
    obtain ⟨k, rfl⟩ := h
    show (∃ k', (if 2 ^ k ≤ n then SetTable.sizeAbove.go n f (2 ^ k * 2) else 2 ^ k) = 2 ^ k') ∧ n < (if 2 ^ k ≤ n then SetTable.sizeAbove.go n f (2 ^ k * 2) else 2 ^ k) ∧ ((if 2 ^ k ≤ n then SetTable.sizeAbove.go n f (2 ^ k * 2) else 2 ^ k) ≤ 2 ^ k ∨ (if 2 ^ k ≤ n then SetTable.sizeAbove.go n f (2 ^ k * 2) else 2 ^ k) ≤ 2 * n)
    by_cases c : 2 ^ k ≤ n
    · rw [if_pos c]
      obtain ⟨h1, h2, h3⟩ := above_go f (2 ^ k * 2) n ⟨k + 1, by rw [Nat.pow_succ]⟩ (by rw [Nat.pow_succ] at l; rw [Nat.mul_assoc, Nat.mul_comm 2]; exact l)
      exact ⟨h1, h2, .inr (by omega)⟩
    · rw [if_neg c]
      exact ⟨⟨k, rfl⟩, by omega, .inl (Nat.le_refl _)⟩
/-- the new size is a power of two, above what is wanted, and not far above -/
theorem above_ok {n : Nat} (h : n < 100000) : MaskG (SetTable.sizeAbove n - 1) ∧ n < SetTable.sizeAbove n ∧ SetTable.sizeAbove n ≤ 8 + 2 * n := by
  obtain ⟨⟨k, e⟩, h2, h3⟩ := above_go 64 8 n ⟨3, rfl⟩ (Nat.lt_of_lt_of_le h (by decide))
  have e0 : SetTable.sizeAbove n = SetTable.sizeAbove.go n 64 8 := rfl
  rw [e0]
  refine ⟨⟨k, by omega⟩, h2, by omega⟩
end Cw
namespace Cw
open PySem PySem.Spec PyProof.Rows L2
section
variable {P : Program} {w : World} {A : Around} {E : Value → Shared → Prop} {s : Shared} {a b : Addr} {S T : Int → Bool} {n m : Nat}
/-- more of a laid table -/
theorem laid_more {m : Nat} {fi mo : Nat} {ld pl : Bool} {hs : Array Int} {t : SetTable} {order : Array Nat} (e : SetTable.laid m fi mo ld pl hs = some (t, order)) : t.mask = m ∧ t.dummies = #[] := by
  have e2 : (SetTable.layClean m hs).bind (fun u => some (({ mask := m, place := ((liveOf m u).map (·.1)).toArray, dummies := #[], finger := fi, led := ld, moves := mo, plain := pl } : SetTable), ((liveOf m u).map (·.2)).toArray)) = some (t, order) := e
  cases z : SetTable.layClean m hs with
  | none => rw [z] at e2; cases e2
  | some u =>
    rw [z] at e2
    injection e2 with e3
    injection e3 with e4 e5
    rw [← e4]
    exact ⟨rfl, rfl⟩
/-- laid anew with more room -/
theorem relay_got {wanted : Nat} (R : SetR w s.heap a S n) (hw : wanted < 100000) (few : n < SetTable.sizeAbove wanted) {Q : Unit → Shared → Prop}
    (q : ∀ h' o es ep t, Heap.SameBut a s.heap h' → SetR w h' a S n → h'.get? a = some o → o.data = .set es ep t → MaskG t.mask → t.mask = SetTable.sizeAbove wanted - 1 → t.dummies = #[] → Q () { s with heap := h' }) : wpAny (model P w) A (setRelay a wanted) Q E s := by
  obtain ⟨o, es, ep, t, ho, hx, hd, g, nd, hm, hb, hf, hn, hr, hl⟩ := R
  obtain ⟨G, h1, h2⟩ := above_ok hw
  have hs0 : (es.map (·.1)).size = es.size := Array.size_map ..
  obtain ⟨t', order, e, p, f, r, l1, l2⟩ := laid_got G t.finger (t.movedTo (SetTable.sizeAbove wanted - 1)) t.led t.plain (hs := es.map (·.1)) (by omega)
  obtain ⟨m1, m2⟩ := laid_more e
  rw [hs0] at p f
  have pm := order_perm es p
  have sz : (order.filterMap (es[·]?)).size = es.size := by rw [← Array.length_toList, pm.length_eq, Array.length_toList]
  have er : t.relaid (es.map (·.1)) wanted = some (t', order) := e
  rw [setRelay_eq]
  refine wpAny_bind (wpAny_setState_of ho hd hf ?_)
  dsimp only
  refine wp_if_neg (by rw [sizeLine_eq]; omega) ?_
  try refine wpAny_bind (wpAny_pure ?_)
  rw [er]
  dsimp only
  refine wpAny_bind ?_
  refine wp_if_neg (by rw [sz]; simp) ?_
  try refine wpAny_bind (wpAny_pure ?_)
  refine wpAny_pure ?_
  dsimp only
  refine wpAny_storeSet_of ho hd ?_ (fits_of_scanBound (by rw [sz]; exact hb))
  refine q _ _ _ _ _ (Heap.SameBut.update ..) ⟨_, _, _, _, store_at ho hd, ⟨hx.1, hx.2.1, hx.2.2⟩, rfl, fun e he => g e (pm.mem_iff.mp he), (pm.map keyOf).nodup_iff.mpr nd, fun k => (hm k).trans (pm.map keyOf).mem_iff.symm, by rw [sz]; exact hb, by rw [sz]; exact f, by rw [sz]; exact hn, r, hl.imp id fun z => by rw [l1]; exact z⟩ (store_at ho hd) rfl (by rw [m1]; exact G) m1 m2
/-- all of the set's members are walked -/
def MemAll (xs : Array (Int × Value)) (S : Int → Bool) (n : Nat) : Prop := (∀ e ∈ xs.toList, GoodE e) ∧ (∀ k, S k = true ↔ k ∈ xs.toList.map keyOf) ∧ xs.size = n
theorem walk_all {o : Obj} {es : Array (Int × Value)} {ep : Nat} {t : SetTable} (ho : s.heap.get? a = some o) (hd : o.data = .set es ep t) (hf : t.fits es.size = true) (hl : w.params.followText "set-order" = true ∨ t.led = true) (hp : w.params.followText "set-order" = true ∨ (!t.plain && decide (es.size > 1)) = false)
    {Q : Array (Int × Value) → Shared → Prop} (q : ∀ xs : Array (Int × Value), xs.toList.Perm es.toList → Q xs s) : wpAny (model P w) A (setWalk a) Q E s := by
  unfold setWalk
  refine wpAny_bind (wpAny_setState_of ho hd hf ?_)
  dsimp only
  refine wpAny_bind (wpAny_byText ?_)
  by_cases c : w.params.followText "set-order" = true
  · refine wp_if_pos c ?_
    exact wpAny_bind (wpAny_askSetting (wpAny_pure (q _ (pick_perm _ es))))
  · have p1 := hp.resolve_left c
    have p2 := hl.resolve_left c
    refine wp_if_neg c ?_
    try refine wpAny_bind (wpAny_pure ?_)
    refine wp_if_neg (by show ¬ ((!t.plain && decide (es.size > 1)) = true); rw [p1]; exact Bool.false_ne_true) ?_
    try refine wpAny_bind (wpAny_pure ?_)
    refine wpAny_bind (wpAny_of_eq (a := ()) ?_ (wpAny_pure (q es (List.Perm.refl _))))
    show (if (!t.led && decide (es.size > 1)) = true then unsupported "set:maker-not-led" else pure ()) = pure ()
    rw [p2]
    rfl
/-- the set at a walked while the set at r is filled -/
theorem unseen_all {r : Addr} {U : Int → Bool} {c : Nat} (R : SetR w s.heap a S n) (Rr : SetR w s.heap r U c) {l : List Addr} (hall : ∀ c ∈ a :: l, ∃ S n, SetR w s.heap c S n) {Q : Array (Int × Value) → Shared → Prop}
    (q : ∀ xs h', MemAll xs S n → Heap.SameBut r s.heap h' → SetR w h' r U c → Q xs { s with heap := h' }) : wpAny (model P w) A (setWalkUnseen a l (some r)) Q E s := by
  obtain ⟨o, es, ep, t, ho, hx, hd, g, nd, hm, hb, hf, hn, hr, hl⟩ := R
  have mem : ∀ xs : Array (Int × Value), xs.toList.Perm es.toList → MemAll xs S n := fun xs h => ⟨fun e he => g e (h.mem_iff.mp he), fun k => (hm k).trans (h.map keyOf).mem_iff.symm, by rw [← Array.length_toList, h.length_eq, Array.length_toList, hn]⟩
  unfold setWalkUnseen
  refine wpAny_bind (wpAny_setState_of ho hd hf ?_)
  dsimp only
  refine wpAny_bind (wpAny_byText ?_)
  by_cases c : (w.params.followText "set-order" || t.led && t.plain || decide (es.size ≤ 1)) = true
  · refine wp_if_pos c ?_
    refine walk_all ho hd hf hl ?_ fun xs h => q xs s.heap (mem xs h) (Heap.SameBut.refl _ _) Rr
    simp only [Bool.or_eq_true, Bool.and_eq_true, decide_eq_true_eq] at c
    rcases c with (c | c) | c
    · exact .inl c
    · exact .inr (by rw [c.2]; rfl)
    · exact .inr (by rw [decide_eq_false (by omega), Bool.and_false])
  · refine wp_if_neg c ?_
    try refine wpAny_bind (wpAny_pure ?_)
    refine wpAny_bind (quiet_at (a :: l) hall ?_)
    refine wp_if_neg (by decide) ?_
    try refine wpAny_bind (wpAny_pure ?_)
    refine wpAny_bind (wpAny_rule ?_)
    obtain ⟨o2, es2, ep2, t2, ho2, hx2, hd2, g2, nd2, hm2, hb2, hf2, hn2, hr2, hl2⟩ := Rr
    try dsimp only
    refine wpAny_bind (wpAny_setState_of ho2 hd2 hf2 ?_)
    dsimp only
    have nb : w.params.followText "set-order" = false := by
      cases z : w.params.followText "set-order" with
      | false => rfl
      | true => rw [z] at c; simp at c
    have l1 : t.led = true := hl.resolve_left (by rw [nb]; exact Bool.false_ne_true)
    have l2 : t2.led = true := hl2.resolve_left (by rw [nb]; exact Bool.false_ne_true)
    by_cases c2 : (t2.led && !t.led || t2.plain && !t.plain) = true
    · refine wp_if_pos c2 ?_
      refine wpAny_bind (wpAny_storeSet_of ho2 hd2 ?_ (fits_of_scanBound hb2))
      refine wpAny_pure (q es _ (mem es (List.Perm.refl _)) (Heap.SameBut.update ..) ?_)
      exact ⟨_, es2, _, _, store_at ho2 hd2, ⟨hx2.1, hx2.2.1, hx2.2.2⟩, rfl, g2, nd2, hm2, hb2, by exact hf2, hn2, hr2, .inr (by rw [l1, l2]; rfl)⟩
    · refine wp_if_neg c2 ?_
      try refine wpAny_bind (wpAny_pure ?_)
      exact wpAny_pure (q es s.heap (mem es (List.Perm.refl _)) (Heap.SameBut.refl _ _) ⟨o2, es2, ep2, t2, ho2, hx2, hd2, g2, nd2, hm2, hb2, hf2, hn2, hr2, hl2⟩)
end
end Cw
namespace Cw
open PySem PySem.Spec PyProof.Rows L2
theorem merge_eq (s o : Addr) (each : Sem Unit) : setMerge s o each = (do
    if s == o then return
    let (eo, epoch, to) ← setState o
    if eo.isEmpty then return
    (do if let some wanted := (← setState s).2.2.roomFor eo.size then setRelay s wanted)
    let (_, _, ts) ← setState s
    match ts.road to with
    | .slotForSlot => storeSet s eo { to with finger := ts.finger, led := ts.led && to.led, moves := ts.moves, plain := ts.plain && to.plain }
    | .clean =>
      let (es, t) ← (do
        let some (t, order) := SetTable.laid ts.mask ts.finger ts.moves (ts.led && to.led) (ts.plain && to.plain) (eo.map (·.1)) | unsupported "internal:set-table-without-room"
        let es' := order.filterMap (eo[·]?)
        if es'.size != eo.size then unsupported "internal:set-table-lost-an-element"
        pure (es', t) : Sem (Array (Int × Value) × SetTable))
      storeSet s es t
    | .oneByOne =>
      for (h, x) in ← setWalkUnseen o [s] (some s) do
        let _ ← holding [x] (setAddHashed s x h)
        each
        if (← setState o).2.1 != epoch then unsupported "set.changed-during-merge") := by rfl
section
variable {P : Program} {w : World} {A : Around} {E : Value → Shared → Prop} {s : Shared} {a b : Addr} {S T : Int → Bool} {n m : Nat}
/-- the empty new set -/
def Fresh (w : World) (h : Heap) (r : Addr) : Prop := ∃ o ep ld, h.get? r = some o ∧ o.ExactSet ∧ o.data = .set #[] ep (.fresh 0 0 ld) ∧ (w.params.followText "set-order" = true ∨ ld = true)
theorem Fresh.setR {h : Heap} {r : Addr} (f : Fresh w h r) : SetR w h r (fun _ => false) 0 := by
  obtain ⟨o, ep, ld, ho, hx, hd, hl⟩ := f
  exact ⟨o, #[], ep, _, ho, hx, hd, (fun e he => by simp at he), (by simp), (fun k => by simp), (by decide), rfl, rfl, List.Pairwise.nil, hl⟩
/-- all of b's members into a new set -/
theorem merge_fresh {r : Addr} {each : Sem Unit} (f : Fresh w s.heap r) (R : SetR w s.heap b T m) (ne : r ≠ b) {Q : Unit → Shared → Prop}
    (q : ∀ h', Heap.SameBut r s.heap h' → SetR w h' r T m → (m = 0 → Fresh w h' r) → Q () { s with heap := h' }) : wpAny (model P w) A (setMerge r b each) Q E s := by
  have Rr := f.setR
  obtain ⟨o, es, ep, t, ho, hx, hd, g, nd, hm, hb, hf, hn, hr, hl⟩ := id R
  rw [merge_eq]
  refine wp_if_neg (by simp [ne]) ?_
  try refine wpAny_bind (wpAny_pure ?_)
  refine wpAny_bind (wpAny_setState_of ho hd hf ?_)
  dsimp only
  by_cases c0 : es = #[]
  · have m0 : m = 0 := by rw [← hn, c0]; rfl
    refine wp_if_pos (by rw [c0]; rfl) (wpAny_pure ?_)
    refine q s.heap (Heap.SameBut.refl _ _) ?_ fun _ => f
    have e : T = fun _ => false := funext fun k => by
      cases z : T k with
      | false => rfl
      | true =>
        have := (hm k).mp z
        rw [c0] at this
        simp at this
    rw [e, m0]
    exact Rr
  · have pos : 0 < es.size := Array.size_pos_iff.mpr c0
    refine wp_if_neg (by simp [c0]) ?_
    try refine wpAny_bind (wpAny_pure ?_)
    obtain ⟨o1, ep1, ld, ho1, hx1, hd1, hl1⟩ := f
    have hb' : es.size < 4096 := hb
    -- the last part, for any table without members
    have last : ∀ (h1 : Heap) (o2 : Obj) (e2 : Nat) (t2 : SetTable), Heap.SameBut r s.heap h1 → h1.get? r = some o2 → o2.ExactSet → o2.data = .set #[] e2 t2 → t2.dummies = #[] → t2.fits 0 = true → MaskG t2.mask → es.size ≤ t2.mask → (w.params.followText "set-order" = true ∨ t2.led = true) →
        wpAny (model P w) A (do
          let (_, _, ts) ← setState r
          match ts.road t with
          | .slotForSlot => storeSet r es { t with finger := ts.finger, led := ts.led && t.led, moves := ts.moves, plain := ts.plain && t.plain }
          | .clean =>
            let (es, t) ← (do
              let some (t, order) := SetTable.laid ts.mask ts.finger ts.moves (ts.led && t.led) (ts.plain && t.plain) (es.map (·.1)) | unsupported "internal:set-table-without-room"
              let es' := order.filterMap (es[·]?)
              if es'.size != es.size then unsupported "internal:set-table-lost-an-element"
              pure (es', t) : Sem (Array (Int × Value) × SetTable))
            storeSet r es t
          | .oneByOne =>
            for (h, x) in ← setWalkUnseen b [r] (some r) do
              let _ ← holding [x] (setAddHashed r x h)
              each
              if (← setState b).2.1 != ep then unsupported "set.changed-during-merge") Q E { s with heap := h1 } := by
      intro h1 o2 e2 t2 sb ho2 hx2 hd2 dm2 f2 G2 few2 l2
      refine wpAny_bind (wpAny_setState_of ho2 hd2 f2 ?_)
      dsimp only
      have p0 : t2.place.size = 0 := by
        unfold SetTable.fits at f2
        simp only [Bool.and_eq_true, beq_iff_eq] at f2
        exact f2.1
      have fill0 : t2.fill = 0 := by
        unfold SetTable.fill
        rw [p0, dm2]
        rfl
      have led2 : w.params.followText "set-order" = true ∨ (t2.led && t.led) = true := by
        rcases l2 with x | x
        · exact .inl x
        · rcases hl with y | y
          · exact .inl y
          · exact .inr (by rw [x, y]; rfl)
      have m0 : m ≠ 0 := by omega
      unfold SetTable.road
      rw [fill0, if_neg (by decide)]
      by_cases c1 : (t2.mask == t.mask && t.dummies.isEmpty) = true
      · rw [if_pos c1]
        dsimp only
        refine wpAny_storeSet_of ho2 hd2 ?_ (fits_of_scanBound hb)
        exact q _ (sb.trans (Heap.SameBut.update ..)) ⟨_, _, _, _, store_at ho2 hd2, ⟨hx2.1, hx2.2.1, hx2.2.2⟩, rfl, g, nd, hm, hb, hf, hn, hr, led2⟩ fun z => absurd z m0
      · rw [if_neg c1]
        dsimp only
        have hs0 : (es.map (·.1)).size = es.size := Array.size_map ..
        obtain ⟨t', order, e, p, f', r', k1, k2⟩ := laid_got G2 t2.finger t2.moves (t2.led && t.led) (t2.plain && t.plain) (hs := es.map (·.1)) (by omega)
        rw [hs0] at p f'
        have pm := order_perm es p
        have sz : (order.filterMap (es[·]?)).size = es.size := by rw [← Array.length_toList, pm.length_eq, Array.length_toList]
        rw [e]
        dsimp only
        refine wpAny_bind ?_
        refine wp_if_neg (by rw [sz]; simp) ?_
        try refine wpAny_bind (wpAny_pure ?_)
        refine wpAny_pure ?_
        dsimp only
        refine wpAny_storeSet_of ho2 hd2 ?_ (fits_of_scanBound (by rw [sz]; exact hb))
        exact q _ (sb.trans (Heap.SameBut.update ..)) ⟨_, _, _, _, store_at ho2 hd2, ⟨hx2.1, hx2.2.1, hx2.2.2⟩, rfl, fun e he => g e (pm.mem_iff.mp he), (pm.map keyOf).nodup_iff.mpr nd, fun k => (hm k).trans (pm.map keyOf).mem_iff.symm, by rw [sz]; exact hb, by rw [sz]; exact f', by rw [sz]; exact hn, r', by rw [k1]; exact led2⟩ fun z => absurd z m0
    refine wpAny_bind ?_
    refine wpAny_bind (wpAny_setState_of ho1 hd1 rfl ?_)
    dsimp only
    unfold SetTable.roomFor
    by_cases c2 : ((SetTable.fresh 0 0 ld).fill + es.size) * 5 ≥ (SetTable.fresh 0 0 ld).mask * 3
    · rw [if_pos c2]
      dsimp only
      have wn : ((SetTable.fresh 0 0 ld).place.size + es.size) * 2 = es.size * 2 := by
        show (0 + es.size) * 2 = _
        rw [Nat.zero_add]
      rw [wn]
      obtain ⟨G3, k3, k4⟩ := above_ok (n := es.size * 2) (by omega)
      refine relay_got Rr (by omega) (by omega) fun h' o2 es2 e2 t2 sb R2 ho2 hd2 G2 mk dm => ?_
      obtain ⟨o3, es3, ep3, t3, ho3, hx3, hd3, g3, nd3, hm3, hb3, hf3, hn3, hr3, hl3⟩ := R2
      rw [ho2] at ho3
      cases ho3
      rw [hd2] at hd3
      cases hd3
      have e0 : es2 = #[] := Array.size_eq_zero_iff.mp hn3
      subst e0
      exact last h' o2 e2 t2 sb ho2 hx3 hd2 dm hf3 G2 (by rw [mk]; omega) hl3
    · rw [if_neg c2]
      dsimp only
      refine wpAny_pure ?_
      have c3 : ¬ ((0 + es.size) * 5 ≥ 7 * 3) := c2
      exact last s.heap o1 ep1 _ (Heap.SameBut.refl _ _) ho1 hx1 hd1 rfl rfl ⟨3, rfl⟩ (by show es.size ≤ 7; omega) hl1
theorem forIn_upto {α β : Type} {M : Model} {f : α → β → Sem (ForInStep β)} {b : β} (I : List α → Shared → Prop) : ∀ (l done : List α) {s : Shared} {Q : β → Shared → Prop},
    (∀ (d : List α) (x : α) (r : List α), d ++ x :: r = done ++ l → ∀ (s : Shared) (Q' : ForInStep β → Shared → Prop), I d s → (∀ s', I (d ++ [x]) s' → Q' (.yield b) s') → wpAny M A (f x b) Q' E s) → I done s → (∀ s', I (done ++ l) s' → Q b s') → wpAny M A (forIn l b f) Q E s
  | [], done, s, Q, _, i, q => by
    rw [List.forIn_nil]
    rw [List.append_nil] at q
    exact wpAny_pure (q s i)
  | x :: l, done, s, Q, h, i, q => by
    rw [List.forIn_cons]
    have e : (done ++ [x]) ++ l = done ++ x :: l := by rw [List.append_assoc]; rfl
    refine wpAny_bind (h done x l rfl s _ i fun s' i' => ?_)
    refine forIn_upto I l (done ++ [x]) (fun d y r z => h d y r (z.trans e)) i' ?_
    rw [e]
    exact q
/-- all of b's members, one by one, into a set that isn't empty -/
theorem merge_more {each : Sem Unit} (R : SetR w s.heap a S n) (R2 : SetR w s.heap b T m) (ne : a ≠ b) (pos : 0 < n) (room : n + m + 1 < scanBound)
    (he : ∀ (h' : Heap) (Q' : Unit → Shared → Prop), (∀ o, s.heap.get? b = some o → h'.get? b = some o) → Q' () { s with heap := h' } → wpAny (model P w) A each Q' E { s with heap := h' }) {Q : Unit → Shared → Prop}
    (q : ∀ h' c, Heap.SameBut a s.heap h' → SetR w h' a (fun j => S j || T j) c → c ≤ n + m → Q () { s with heap := h' }) : wpAny (model P w) A (setMerge a b each) Q E s := by
  obtain ⟨o, es, ep, t, ho, hx, hd, g, nd, hm, hb, hf, hn, hr, hl⟩ := id R2
  rw [merge_eq]
  refine wp_if_neg (by simp [ne]) ?_
  try refine wpAny_bind (wpAny_pure ?_)
  refine wpAny_bind (wpAny_setState_of ho hd hf ?_)
  dsimp only
  by_cases c0 : es = #[]
  · refine wp_if_pos (by rw [c0]; rfl) (wpAny_pure ?_)
    refine q s.heap n (Heap.SameBut.refl _ _) (R.congr fun k => ?_) (Nat.le_add_right _ _)
    have z : T k = false := by
      cases z : T k with
      | false => rfl
      | true =>
        have := (hm k).mp z
        rw [c0] at this
        simp at this
    rw [z, Bool.or_false]
  · refine wp_if_neg (by simp [c0]) ?_
    try refine wpAny_bind (wpAny_pure ?_)
    have rm : n + m + 1 < 4096 := room
    have last : ∀ h1 : Heap, Heap.SameBut a s.heap h1 → SetR w h1 a S n →
        wpAny (model P w) A (do
          let (_, _, ts) ← setState a
          match ts.road t with
          | .slotForSlot => storeSet a es { t with finger := ts.finger, led := ts.led && t.led, moves := ts.moves, plain := ts.plain && t.plain }
          | .clean =>
            let (es, t) ← (do
              let some (t, order) := SetTable.laid ts.mask ts.finger ts.moves (ts.led && t.led) (ts.plain && t.plain) (es.map (·.1)) | unsupported "internal:set-table-without-room"
              let es' := order.filterMap (es[·]?)
              if es'.size != es.size then unsupported "internal:set-table-lost-an-element"
              pure (es', t) : Sem (Array (Int × Value) × SetTable))
            storeSet a es t
          | .oneByOne =>
            for (h, x) in ← setWalkUnseen b [a] (some a) do
              let _ ← holding [x] (setAddHashed a x h)
              each
              if (← setState b).2.1 != ep then unsupported "set.changed-during-merge") Q E { s with heap := h1 } := by
      intro h1 sb R1
      obtain ⟨o1, es1, ep1, t1, ho1, hx1, hd1, g1, nd1, hm1, hb1, hf1, hn1, hr1, hl1⟩ := id R1
      refine wpAny_bind (wpAny_setState_of ho1 hd1 hf1 ?_)
      dsimp only
      have fill1 : t1.fill ≠ 0 := by
        have z := hf1
        unfold SetTable.fits at z
        simp only [Bool.and_eq_true, beq_iff_eq] at z
        unfold SetTable.fill
        omega
      unfold SetTable.road
      rw [if_pos (by simp [fill1])]
      dsimp only
      have ob : ∀ {h : Heap}, Heap.SameBut a s.heap h → ∀ o, s.heap.get? b = some o → h.get? b = some o := fun {h} k o e => by rw [k.2 b (Ne.symm ne)]; exact e
      refine wpAny_bind (unseen_all (R2.at (ob sb)) R1 (fun c hc => ?_) fun xs h2 M sb2 R3 => ?_)
      · rcases List.mem_cons.mp hc with rfl | hc
        · exact ⟨_, _, R2.at (ob sb)⟩
        rcases List.mem_cons.mp hc with rfl | hc
        · exact ⟨_, _, R1⟩
        · cases hc
      · obtain ⟨M1, M2, M3⟩ := M
        rw [← Array.forIn_toList]
        have len : xs.toList.length = m := by rw [Array.length_toList]; exact M3
        refine wpAny_bind (forIn_upto (fun d s' => ∃ h' c, s' = { s with heap := h' } ∧ Heap.SameBut a s.heap h' ∧ SetR w h' a (fun j => S j || decide (j ∈ d.map keyOf)) c ∧ c ≤ n + d.length) xs.toList [] (fun d x r e s' Q' i k => ?_)
          ⟨h2, n, rfl, sb.trans sb2, R3.congr fun j => by simp, Nat.le_add_right _ _⟩ fun s' i => ?_)
        · obtain ⟨h', c, rfl, sb', Rc, cl⟩ := i
          have hxm : x ∈ xs.toList := by
            rw [List.nil_append] at e
            rw [← e]
            simp
          have dl : d.length + 1 ≤ m := by
            have := congrArg List.length e
            simp at this
            omega
          obtain ⟨i, tk, e1, e2⟩ := M1 x hxm
          obtain ⟨x1, x2⟩ := x
          dsimp only at e1 e2
          subst e1 e2
          have kk : keyOf (hashInt i, Value.int i tk) = i := rfl
          dsimp only
          refine wpAny_bind (wpAny_holding (setR_add_hashed Rc (by show c + 1 < 4096; omega) fun h3 sb3 R4 => ?_))
          have sb4 := sb'.trans sb3
          refine wpAny_bind (he h3 _ (ob sb4) ?_)
          refine wpAny_bind (wpAny_setState_of (ob sb4 _ ho) hd hf ?_)
          refine wp_if_neg (by simp) ?_
          try refine wpAny_bind (wpAny_pure ?_)
          refine wpAny_pure (k _ ⟨h3, _, rfl, sb4, R4.congr fun j => ?_, ?_⟩)
          · try dsimp only
            rw [Bool.or_assoc]
            congr 1
            rw [List.map_append, Bool.eq_iff_iff, Bool.or_eq_true, decide_eq_true_eq, decide_eq_true_eq, decide_eq_true_eq, List.mem_append, List.map_cons, kk]
            simp
          · try dsimp only
            rw [List.length_append]
            show _ ≤ n + (d.length + 1)
            split <;> omega
        · obtain ⟨h', c, rfl, sb', Rc, cl⟩ := i
          rw [List.nil_append] at Rc cl
          refine wpAny_pure (q h' c sb' (Rc.congr fun j => ?_) (by omega))
          congr 1
          rw [Bool.eq_iff_iff, decide_eq_true_eq]
          exact M2 j
    obtain ⟨o1, es1, ep1, t1, ho1, hx1, hd1, g1, nd1, hm1, hb1, hf1, hn1, hr1, hl1⟩ := id R
    refine wpAny_bind ?_
    refine wpAny_bind (wpAny_setState_of ho1 hd1 hf1 ?_)
    dsimp only
    unfold SetTable.roomFor
    have z : t1.place.size = n := by
      have z := hf1
      unfold SetTable.fits at z
      simp only [Bool.and_eq_true, beq_iff_eq] at z
      omega
    by_cases c2 : (t1.fill + es.size) * 5 ≥ t1.mask * 3
    · rw [if_pos c2]
      dsimp only
      rw [z]
      obtain ⟨G3, k3, k4⟩ := above_ok (n := (n + es.size) * 2) (by omega)
      exact relay_got R (by omega) (by omega) fun h' o2 es2 e2 t2 sb R4 _ _ _ _ _ => last h' sb R4
    · rw [if_neg c2]
      dsimp only
      exact wpAny_pure (last s.heap (Heap.SameBut.refl _ _) R)
end
end Cw
namespace Cw
open PySem PySem.Spec PyProof.Rows L2
section
variable {P : Program} {w : World} {A : Around} {E : Value → Shared → Prop} {s : Shared} {a b : Addr} {S T : Int → Bool} {n m : Nat}
theorem entry_or : entryFor table "set.__or__" = some Builtin.«frozenset.__or__» := entryFor_alias (id' := "frozenset.__or__") (by kernel_rfl) rfl (by decide +kernel) (by kernel_rfl)
theorem or_form (a b : Value) : Builtin.«frozenset.__or__» ⟨[a, b], []⟩ = (do
    let p ← Builtin.Frozenset.slot1 "__or__" ⟨[a, b], []⟩
    if !(← (Builtin.Frozenset.isAnySet p.1 <&&> Builtin.Frozenset.isAnySet p.2)) then
      rule "frozenset.__or__.declined"
      ret .notImplemented
    else do
      let la ← Builtin.Frozenset.addrOf p.1
      let v ← (do
        let result ← Builtin.Frozenset.copyOf la
        if p.2 != .ref la then holding [result] (Builtin.Frozenset.updateFrom "frozenset.__or__" (← Builtin.Frozenset.addrOf result) p.2)
        return result)
      ret v) := by
  rfl
/-- a | b: a new set -/
theorem or_new (R1 : SetR w s.heap a S n) (R2 : SetR w s.heap b T m) (ne : a ≠ b) (room : n + m + 1 < scanBound) {Q : Value → Shared → Prop}
    (q : ∀ h' c, (∀ x o, s.heap.get? x = some o → h'.get? x = some o) → SetR w h' s.heap.objs.size (fun j => S j || T j) c → c ≤ n + m → Q (.ref s.heap.objs.size) { s with heap := h' }) : wpAny (model P w) A (binaryOp .BitOr (.ref a) (.ref b)) Q E s := by
  have ta : s.TypeIs (.ref a) "set" := (R1.setOf (P := P)).typeIs
  have tb : s.TypeIs (.ref b) "set" := (R2.setOf (P := P)).typeIs
  refine wpAny_binaryOp_same (T := "set") ta tb F.fills_set_or F.slot_set_or ?_
  refine wpAny_call_entry F.slot_set_or ta entry_or ?_ (F.args_set_or_2 _ _)
  rw [or_form]
  unfold Builtin.Frozenset.slot1 slotArgs
  refine wpAny_bind (wpAny_bind (wpAny_of_eq (a := (Value.ref a, [Value.ref b])) rfl (wpAny_pure ?_)))
  dsimp only
  refine wpAny_bind (m := _ <&&> _) ?_
  unfold andM
  refine wpAny_bind (isSet_at ta ?_)
  show wpAny _ _ (Builtin.Frozenset.isAnySet (.ref b)) _ _ _
  refine isSet_at tb (wp_if_neg (by decide) ?_)
  try refine wpAny_bind (wpAny_pure ?_)
  refine wpAny_bind ?_
  unfold Builtin.Frozenset.copyOf Builtin.Frozenset.baseOf isInstance
  have z := sub_set_self
  obtain ⟨hp, gg, dr, tk, os⟩ := s
  dsimp only at q R1 R2
  have k1 : ∀ c o, hp.get? c = some o → (hp.push (newS w)).get? c = some o := fun c o e => Heap.get?_push_of_some _ e
  have fr : Fresh w (hp.push (newS w)) hp.objs.size := by
    refine ⟨newS w, 0, _, Heap.get?_push_size _ rfl, ⟨rfl, rfl, rfl⟩, rfl, ?_⟩
    cases w.params.followText "set-order"
    · exact .inr rfl
    · exact .inl rfl
  have na : hp.objs.size ≠ a := Nat.ne_of_gt R1.lt
  have nb : hp.objs.size ≠ b := Nat.ne_of_gt R2.lt
  wp_walk
  refine wpAny_askSetting (wpAny_pure ?_)
  simp only [newObj, if_true]
  refine wpAny_bind (wpAny_alloc (wpAny_pure ?_))
  dsimp only
  refine wpAny_bind (m := Builtin.Frozenset.addrOf (.ref hp.objs.size)) (wpAny_pure ?_)
  refine wpAny_bind (merge_fresh fr (R1.at fun o e => k1 _ _ e) na fun h1 sb1 Rr f1 => ?_)
  have k2 : ∀ c o, c ≠ hp.objs.size → hp.get? c = some o → h1.get? c = some o := fun c o hc e => by
    rw [sb1.2 c hc]
    exact k1 c o e
  have k3 : ∀ c o, hp.get? c = some o → h1.get? c = some o := fun c o e => k2 c o (Nat.ne_of_lt (Heap.lt_size e)) e
  have R3 : SetR w h1 b T m := R2.at fun o e => k3 _ _ e
  refine wpAny_pure ?_
  refine wp_if_pos (by simp [Ne.symm ne]) ?_
  refine wpAny_bind (m := Builtin.Frozenset.addrOf (.ref hp.objs.size)) (wpAny_pure ?_)
  refine wpAny_bind (wpAny_holding ?_)
  unfold Builtin.Frozenset.updateFrom
  refine wpAny_bind (isSet_at (R3.setOf (P := P)).typeIs ?_)
  refine wp_if_pos rfl ?_
  refine wpAny_bind (m := Builtin.Frozenset.addrOf (.ref b)) (wpAny_pure ?_)
  unfold Builtin.Frozenset.merge
  obtain ⟨o, es, ep, t, ho, hx, hd, g, nd, hm, hb, hf, hn, hr, hl⟩ := id R3
  refine wpAny_bind (wpAny_setEpoch_of ho hd hf ?_)
  have fin : ∀ h' c, Heap.SameBut hp.objs.size h1 h' → SetR w h' hp.objs.size (fun j => S j || T j) c → c ≤ n + m → Q (.ref hp.objs.size) ⟨h', gg, dr, tk, os⟩ := fun h' c sb R le =>
    q h' c (fun x o e => by rw [sb.2 x (Nat.ne_of_lt (Heap.lt_size e))]; exact k3 x o e) R le
  have done : ∀ h' c, Heap.SameBut hp.objs.size h1 h' → SetR w h' hp.objs.size (fun j => S j || T j) c → c ≤ n + m →
      wpAny (model P w) A.in1 (pure (Value.ref hp.objs.size)) (fun a s' => wpAny (model P w) A.in1 (ret a) (fun fin s' => ∃ v, fin = Fin.done (Flow.ret v) ∧ v ≠ Value.notImplemented ∧ Q v s') E s') E ⟨h', gg, dr, tk, os⟩ := fun h' c sb R le =>
    wpAny_pure (wpAny_pure ⟨_, rfl, (fun z => nomatch z), fin h' c sb R le⟩)
  by_cases n0 : n = 0
  · refine merge_fresh (f1 n0) R3 nb fun h2 sb2 R4 _ => ?_
    refine done h2 m sb2 (R4.congr fun k => ?_) (Nat.le_add_left _ _)
    obtain ⟨o5, es5, ep5, t5, ho5, hx5, hd5, g5, nd5, hm5, hb5, hf5, hn5, _⟩ := R1
    have e0 : es5 = #[] := Array.size_eq_zero_iff.mp (by omega)
    have z : S k = false := by
      cases z : S k with
      | false => rfl
      | true =>
        have := (hm5 k).mp z
        rw [e0] at this
        simp at this
    rw [z, Bool.false_or]
  · refine merge_more Rr R3 nb (Nat.pos_of_ne_zero n0) room (fun h' Q' kb qq => ?_) fun h2 c sb2 R4 le => done h2 c sb2 R4 le
    unfold Builtin.Frozenset.unchanged
    refine wpAny_bind (wpAny_setEpoch_of (kb _ ho) hd hf ?_)
    refine wp_if_neg (by simp) (wpAny_pure qq)
end
end Cw
namespace Cw
open PySem PySem.Spec PyProof.Rows L2
section
variable {X : Cx}
/-- a | b -/
def rOrN (w : World) : R2 := fun x y H Q => ∃ (a b : Addr) (S T : Int → Bool) (n m : Nat), x = .ref a ∧ y = .ref b ∧ a ≠ b ∧ H a = some (SetO w a S n) ∧ H b = some (SetO w b T m) ∧ n + m ≤ 4000 ∧ ∀ p c, c ≤ n + m → H p = none → Q (.ref p) (upd H p (SetO w p (fun j => S j || T j) c))
theorem op_orN : OpR X (binaryOp .BitOr) (rOrN X.w) := by
  intro pins s σ H x y v u Q I rx ry h
  obtain ⟨a, b, S, T, n, m, rfl, rfl, ne, ha, hb, le, q⟩ := h
  cases rx
  cases ry
  refine or_new (setO_get I ha) (setO_get I hb) ne (by show n + m + 1 < 4096; omega) fun h' c k R lc => ?_
  exact ⟨.ref s.heap.objs.size, _, I.laid (t' := s.toks) k (Nat.le_refl _) (setO_new R), rfl, q _ c lc (I.hok.fresh (Nat.le_refl _))⟩
end
end Cw
namespace Cw
open PySem PySem.Spec PyProof.Rows L2
section
variable {P : Program} {w : World} {A : Around} {E : Value → Shared → Prop} {s : Shared} {a : Addr}
/-- sorted of a set of ints, as many as there are -/
theorem sorted_all {S : Int → Bool} {n : Nat} {Q : Value → Shared → Prop} (R : SetR w s.heap a S n) (calm : A.handled = none)
    (q : ∀ (t : Shared) (p : Addr) (out : Array Value) (c : Nat) (ns : List Int), (∀ x o, s.heap.get? x = some o → t.heap.get? x = some o) → t.gens = s.gens → t.os = s.os → s.heap.objs.size ≤ p →
      t.heap.get? p = some (seqObj "list" out c) → IntsAre out.toList ns → List.Pairwise (· < ·) ns → (∀ k, k ∈ ns ↔ S k = true) → ns.length = n → Q (.ref p) t) :
    wpAny (model P w) A (call (.builtin "sorted") [.ref a]) Q E s := by
  obtain ⟨o, es, ep, t, ho, hx, hd, g, nd, hm, hb, hf, hn, hr, hl⟩ := R
  refine Calls.call_function_entry kind_sorted
    plain_sorted entry_sorted (args_sorted1 _) ?_
  unfold Builtin.«sorted»
  refine wpAny_bind (m := checkCount "sorted" 1 1 _)
    (wpAny_pure ?_)
  refine wpAny_bind (collect_set (A := A.in1) calm ⟨o, ho, hx.1, hd⟩ hf hb hr hl fun u vs old sz ge oss pm => ?_)
  have len : vs.length = n := by
    rw [pm.length_eq, List.length_map, Array.length_toList, hn]
  have iz : IntsAre vs (vs.map Builtin.Re.reRawOf) := ints_of vs fun v hv => by
    obtain ⟨e, he, z⟩ := List.mem_map.mp (pm.mem_iff.mp hv)
    obtain ⟨k, tk, e1, _⟩ := g e he
    exact ⟨k, tk, by rw [← z]; exact e1⟩
  have keys : (vs.map Builtin.Re.reRawOf).Perm (es.toList.map keyOf) := by
    have z := pm.map Builtin.Re.reRawOf
    rw [List.map_map] at z
    exact z
  have nb : n < 4096 := by rw [← hn]; exact hb
  refine wpAny_bind (wpAny_newList ?_ (by rw [len, sizeLine_eq]; omega))
  have at0 : (u.heap.push (seqObj "list" vs.toArray 0)).get? u.heap.objs.size = some (seqObj "list" vs.toArray 0) := Heap.get?_push_size _ rfl
  refine wpAny_bind (wpAny_holding (wpAny_call_entry slot_list_sort ⟨_, at0, rfl⟩ entry_list_sort
    (SrtO.list_sort_ord SrtO.swo_int at0 (by rw [len, sizeLine_eq]; omega) (fun h2 => SrtO.ints_sortable iz h2) fun out h1 h2 => ⟨.none, rfl, ?_⟩) (args_list_sort _)))
  obtain ⟨k1, k2, k3⟩ := SrtO.ints_out iz h1 h2
  obtain ⟨c, hc⟩ := sortedHeap_at (vs := vs) (out := out.toArray) at0
  have perm := k2.trans keys
  refine wpAny_pure ⟨_, rfl, q _ u.heap.objs.size out.toArray c (out.map SrtO.iv) (fun x v e => ?_) ge oss sz hc k1 (lt_of_le_nodup _ k3 (perm.nodup_iff.mpr nd)) (fun k => ?_) ?_⟩
  · have z := old x v e
    have lt := Heap.lt_size z
    show (sortedHeap (u.heap.push (seqObj "list" vs.toArray 0)) u.heap.objs.size vs out.toArray).get? x = some v
    rw [sortedHeap_old (Nat.ne_of_lt lt) (Nat.lt_of_lt_of_le lt (by rw [size_push']; exact Nat.le_succ _))]
    exact Heap.get?_push_of_some _ z
  · rw [perm.mem_iff]
    exact (hm k).symm
  · rw [perm.length_eq, List.length_map, Array.length_toList, hn]
end
section
variable {X : Cx}
/-- sorted(s), s a set of ints -/
def rSortSet (w : World) : List V → Hp → VK → Prop := fun vs H Q => ∃ (a : Addr) (S : Int → Bool) (n : Nat), vs = [V.ref a] ∧ H a = some (SetO w a S n) ∧
  ∀ (ns : List Int) (p : Addr), List.Pairwise (· < ·) ns → (∀ k, k ∈ ns ↔ S k = true) → H p = none → Q (.ref p) (upd H p (.lst (ns.map V.int)))
theorem cr_sortSet (hc : X.calm = true) : CallR X (.builtin "sorted") (rSortSet X.w) := by
  intro pins s σ H vs us Q I r h
  obtain ⟨a, S, n, rfl, ha, q⟩ := h
  have R := setO_get I ha
  rw [Vals.ref1 r]
  obtain ⟨o, es, ep, t, ho, hx, hd, g, nd, hm, hb, hf, hn, hr, hl⟩ := id R
  have nb : n < 4096 := by rw [← hn]; exact hb
  refine sorted_all R (I.ok.hd hc) fun t p out c ns k ge oss sz hg hi hs hm' hl' => ?_
  have few : (ns.map V.int).length ≤ sizeLine := by
    rw [List.length_map, hl', sizeLine_eq]
    omega
  have np : H p = none := I.hok.fresh sz
  obtain ⟨hp2, g2, d2, tk2, os2⟩ := t
  dsimp only at k ge oss hg
  subst ge oss
  refine ⟨.ref p, upd H p (.lst (ns.map V.int)), ?_, rfl, q ns p hs hm' np⟩
  exact I.call (ch := []) (Un.laid k sz np) (I.hok.laid k sz ⟨few, out.toList, c, vals_of_ints hi, hg⟩) I.bare (fun _ z => nomatch z)
end
end Cw
namespace Cw
open PySem L2
/-! ## marks put and taken -/
abbrev sCI : Stmt := inClass sRow 12
abbrev sWith : Stmt := inClass sRow 7
abbrev sWout : Stmt := inClass sRow 8
def spCI (C : Addr) : Sp := fun vs H Q _ => ∃ (x g : Addr) (n : Int) (ms ss gs : List Int), vs = [.ref x, .ref g] ∧ RowAt C H x n ms ss ∧ IL H g gs ∧ gs.length ≤ 1000 ∧ (∀ z ∈ gs, 1 ≤ z ∧ z ≤ n - 1) ∧ ∀ H', Same H H' → Q .non H'
def spWith (C : Addr) : Sp := fun vs H Q _ => ∃ (x g : Addr) (b : Bool) (n : Int) (ms ss gs : List Int), vs = [.ref x, .ref g, .bl b] ∧ RowAt C H x n ms ss ∧ Good n ms ss ∧ IL H g gs ∧ gs.length ≤ 1000 ∧ (∃ L : List Int, L.length ≤ 400 ∧ (∀ z ∈ ms, z ∈ L) ∧ ∀ z ∈ gs, z ∈ L) ∧ (∀ z ∈ gs, 1 ≤ z ∧ z ≤ n - 1) ∧
  ∀ p H' ms' ss', Same H H' → Good n ms' ss' → (∀ z, z ∈ ms' ↔ z ∈ ms ∨ z ∈ gs) → (∀ z, z ∈ ss' ↔ if b = true then z ∈ ss ∨ z ∈ gs else z ∈ ss ∧ z ∉ gs) → RowNew C H H' p n ms' ss' → Q (.ref p) H'
def offM (ms gs : List Int) : List Int := ms.filter fun z => !decide (z ∈ gs)
def spWout (C : Addr) : Sp := fun vs H Q _ => ∃ (x g : Addr) (n : Int) (ms ss gs : List Int), vs = [.ref x, .ref g] ∧ RowAt C H x n ms ss ∧ Good n ms ss ∧ IL H g gs ∧ gs.length ≤ 1000 ∧ (∀ z ∈ gs, 1 ≤ z ∧ z ≤ n - 1) ∧
  ∀ p H', Same H H' → RowNew C H H' p n (offM ms gs) (offM ss gs) → Q (.ref p) H'
/-- set(xs), told by its parts -/
def rSetOfW (K : PySem.W.Frag) (w : World) : List V → Hp → VK → Prop := fun xs H Q => ∃ (l : Addr) (ns : List Int), xs = [.ref l] ∧ SqL K H l (ns.map V.int) ∧ ns.length ≤ 4000 ∧ ∀ p c, c ≤ ns.length → H p = none → Q (.ref p) (upd H p (SetO w p (fun j => decide (j ∈ ns)) c))
theorem mem_off {ms gs : List Int} {z : Int} : z ∈ offM ms gs ↔ z ∈ ms ∧ z ∉ gs := by
  unfold offM
  rw [List.mem_filter]
  simp
theorem good_off {n : Int} {ms ss gs : List Int} (G : Good n ms ss) : Good n (offM ms gs) (offM ss gs) :=
  ⟨G.pos, Nat.le_trans (List.length_filter_le _ _) G.len, fun x hx => G.rng x (mem_off.mp hx).1, G.asc.filter _, G.asc2.filter _, fun x hx => mem_off.mpr ⟨G.sub x (mem_off.mp hx).1, (mem_off.mp hx).2⟩⟩
section
variable {P : Program} {w : World} {K : PySem.W.Frag} {mg : Str → Option Value} {base : Heap}
theorem scCI : FnScope ["self", "places"] ["self", "places"] (defScope sCI) := ⟨rfl, rfl, rfl, by decide +kernel, rfl, by decide +kernel, by decide +kernel⟩
theorem ok_ci {f C fP : Addr} {fd fdP : FuncData} (F : Fun K "_check_inner" "Row._check_inner" sCI f fd) (R : Cl K mg C)
    (gP : mg "are_places" = some (.ref fP)) (kP : PySem.W.keepIn K (.ref fP) = true) (bP : Binds K fdP ["thing", "low", "high"] []) (GP : FnOk P w K mg base CX0 2 fP fdP ["thing", "low", "high"] spPlaces) :
    FnOk P w K mg base CX0 3 f fd ["self", "places"] (spCI C) := by
  refine F.ok scCI (fun vs H Q E h => ?_) (fun cdv A outer s H vs Q E hr h => ?_)
  · obtain ⟨x, g, n, ms, ss, gs, rfl, _⟩ := h
    rfl
  · obtain ⟨x, g, n, ms, ss, gs, rfl, ⟨dx, l1, l2, ho, h1, h2⟩, hg, few, rg, q⟩ := h
    refine ⟨_, pss_one (ps_if (pt_not (pt_val (pe_call GP hr rfl gP kP bP .nil pass0 (pa_cons (pv 1) (pa_cons pe_int (pa_cons (pe_op op_sub (pe_fld (pv 0) rfl) pe_int) pa_nil)))))) pss_never pss_nil), ?_⟩
    refine ⟨_, rfl, _, rfl, x, C, dx, _, _, rfl, ho, R.cl, R.nL, fl_L _ _ _, _, _, rfl, rfl, ?_⟩
    refine ⟨g, gs, 1, n - 1, rfl, hg, few, rg, fun H1 s1 => ⟨_, rfl, ?_⟩⟩
    refine ifF rfl ?_
    exact q _ s1
abbrev NWt : List Str := ["self", "places", "is_strict", "given", "marks", "strict", "mark"]
theorem scWt : FnScope NWt ["self", "places", "is_strict"] (defScope sWith) := ⟨rfl, rfl, rfl, by decide +kernel, rfl, by decide +kernel, by decide +kernel⟩
theorem ok_with {f C fI fC : Addr} {fd fdI fdC : FuncData} (F : Fun K "with_marks" "Row.with_marks" sWith f fd) (T : Bl mg) (R : Cl K mg C) (M : Mk K C fI)
    (mC : Meth K C "_check_inner" fC) (bC : Binds K fdC ["self", "places"] []) (GC : FnOk P w K mg base CX0 3 fC fdC ["self", "places"] (spCI C))
    (bI : Binds K fdI NI []) (GI : FnOk P w K mg base CX0 5 fI fdI NI (spInit C)) :
    FnOk P w K mg base CX0 7 f fd ["self", "places", "is_strict"] (spWith C) := by
  refine F.ok scWt (fun vs H Q E h => ?_) (fun cdv A outer s H vs Q E hr h => ?_)
  · obtain ⟨x, g, b, n, ms, ss, gs, rfl, _⟩ := h
    rfl
  · obtain ⟨x, g, b, n, ms, ss, gs, rfl, hx, G, hg, lg, ⟨L, lL, mL, gL⟩, rg, q⟩ := h
    have lm := G.len
    have hr3 : Room 3 (A.deeper (PyProof.Rows.envOfC "Row.with_marks" (defScope sWith) s.heap.objs.size f cdv)) := hr.mono (by decide)
    refine ⟨_, pss_cons (ps_expr (pe_meth (pv 0) R.cl mC GC hr3 bC .nil pass0 (pa_cons (pv 1) pa_nil)))
      (pss_cons (ps_set (i := 3) scWt.nd rfl (Or.inr rfl) (pe_callTy (show CallR _ (.type "set") (rSetOfW K w) from cr_setOf rfl) (by rfl) T.set (by decide +kernel) (pa_cons (pv 1) pa_nil)))
      (pss_cons (ps_set (i := 4) scWt.nd rfl (Or.inl rfl) (pe_callB (show CallR _ (.builtin "sorted") (rSortSet w) from cr_sortSet rfl) (by rfl) T.sorted (by decide +kernel) (pa_cons (pe_op (show OpR _ (binaryOp .BitOr) (rOrN w) from op_orN) (pe_callTy (show CallR _ (.type "set") (rSetOfW K w) from cr_setOf rfl) (by rfl) T.set (by decide +kernel) (pa_cons (pe_fld (pv 0) rfl) pa_nil)) (pe_callTy (show CallR _ (.type "set") (rSetOfW K w) from cr_setOf rfl) (by rfl) T.set (by decide +kernel) (pa_cons (pv 1) pa_nil))) pa_nil)))
      (pss_cons (ps_setLc (i := 5) (own := [("mark", 6)]) (g := gName 6) rfl scWt.nd rfl rfl (sw_true rfl rfl rfl (by decide +kernel)) (pi_list (pe_fld (pv 0) rfl)) (blkOk_by (own := [("mark", 6)]) (N := NWt) (sc := defScope sWith) (by decide +kernel))
          (fun _ _ _ _ _ => pg_name (i := 6) scWt.nd rfl (Or.inl rfl)) (fun _ _ _ _ _ => pts_one (pt_cmpR (show OpR _ (compareOp .NotIn) (rSNotIn w) from or_snotin) (pv 6) (pv 3) (by rfl))) (fun _ _ _ _ _ => pv 6))
      (pss_cons (ps_if (pt_val (pv 2)) (pss_one (ps_set (i := 5) scWt.nd rfl (Or.inl rfl) (pe_callB (show CallR _ (.builtin "sorted") (rSortSet w) from cr_sortSet rfl) (by rfl) T.sorted (by decide +kernel) (pa_cons (pe_op (show OpR _ (binaryOp .BitOr) (rOrN w) from op_orN) (pe_callTy (show CallR _ (.type "set") (rSetOfW K w) from cr_setOf rfl) (by rfl) T.set (by decide +kernel) (pa_cons (pe_fld (pv 0) rfl) pa_nil)) (pe_callTy (show CallR _ (.type "set") (rSetOfW K w) from cr_setOf rfl) (by rfl) T.set (by decide +kernel) (pa_cons (pv 1) pa_nil))) pa_nil)))) pss_nil)
      (pss_one (ps_ret (pe_make M GI hr rfl R.mgR bI .nil pass0 (pa_cons (pe_fld (pv 0) rfl) (pa_cons (pv 4) (pa_cons (pv 5) pa_nil)))))))))), ?_⟩
    obtain ⟨dx, l1, l2, ho, h1, h2⟩ := id hx
    have ls := G.len2
    refine ⟨_, rfl, x, dx, _, rfl, ho, fl_no _ _ _ (by decide +kernel) (by decide +kernel) (by decide +kernel), ?_⟩
    refine ⟨_, rfl, x, g, n, ms, ss, gs, rfl, hx, hg, by omega, rg, fun H1 s1 => ?_⟩
    have hg1 := s1 _ _ hg
    refine ⟨_, rfl, g, gs, rfl, SqL.of hg1, by omega, fun p0 c0 hc0 hp0 => ?_⟩
    have s2 := same_new (o := SetO w p0 (fun j => decide (j ∈ gs)) c0) s1 hp0
    have k0 : upd H1 p0 (SetO w p0 (fun j => decide (j ∈ gs)) c0) p0 = some (SetO w p0 (fun j => decide (j ∈ gs)) c0) := upd_same
    generalize upd H1 p0 (SetO w p0 (fun j => decide (j ∈ gs)) c0) = H2 at s2 k0 ⊢
    -- the marks
    refine ⟨_, rfl, x, C, dx, _, _, rfl, s2 _ _ ho, R.cl, R.nM, fl_M _ _ _, l1, ms, rfl, SqL.of (s2 _ _ h1), by omega, fun p1 c1 hc1 hp1 => ?_⟩
    have s3 := same_new (o := SetO w p1 (fun j => decide (j ∈ ms)) c1) (Same.refl H2) hp1
    have k1 : upd H2 p1 (SetO w p1 (fun j => decide (j ∈ ms)) c1) p1 = some (SetO w p1 (fun j => decide (j ∈ ms)) c1) := upd_same
    generalize upd H2 p1 (SetO w p1 (fun j => decide (j ∈ ms)) c1) = H3 at s3 k1 ⊢
    refine ⟨_, rfl, g, gs, rfl, SqL.of (s3 _ _ (s2 _ _ hg)), by omega, fun p2 c2 hc2 hp2 => ?_⟩
    have n12 : p1 ≠ p2 := ne_of_none k1 hp2
    refine ⟨p1, p2, _, _, c1, c2, rfl, rfl, n12, by rw [upd_ne n12]; exact k1, upd_same, by omega, fun p3 c3 hc3 hp3 => ?_⟩
    refine ⟨p3, _, c3, rfl, upd_same, fun ns p4 nasc nmem hp4 => ?_⟩
    have s4 := same_new (o := .lst (ns.map V.int)) (same_new (o := SetO w p3 (fun j => decide (j ∈ ms) || decide (j ∈ gs)) c3) (same_new (o := SetO w p2 (fun j => decide (j ∈ gs)) c2) s3 hp2) hp3) hp4
    have k4 : IL (upd (upd (upd H3 p2 (SetO w p2 (fun j => decide (j ∈ gs)) c2)) p3 (SetO w p3 (fun j => decide (j ∈ ms) || decide (j ∈ gs)) c3)) p4 (.lst (ns.map V.int))) p4 ns := upd_same
    generalize upd (upd (upd H3 p2 (SetO w p2 (fun j => decide (j ∈ gs)) c2)) p3 (SetO w p3 (fun j => decide (j ∈ ms) || decide (j ∈ gs)) c3)) p4 (.lst (ns.map V.int)) = H4 at s4 k4 ⊢
    have mem1 : ∀ z, z ∈ ns ↔ z ∈ ms ∨ z ∈ gs := fun z => by
      rw [nmem z, Bool.or_eq_true, decide_eq_true_eq, decide_eq_true_eq]
    have lns : ns.length ≤ L.length := nodup_len (nasc.imp fun h e => by omega) fun z hz => by rcases (mem1 z).mp hz with h | h; exact mL z h; exact gL z h
    have s24 := s2.trans s4
    try dsimp only [L2.start, List.set, List.map, List.append, List.replicate, List.length]
    -- the strict ones that stay
    refine ⟨_, rfl, x, C, dx, _, _, rfl, s24 _ _ ho, R.cl, R.nS, fl_S _ _ _, l2, rfl, ⟨_, SqL.of (s24 _ _ h2)⟩, fun D hD => ?_⟩
    refine lc_fil (K := K) (fun z => !decide (z ∈ gs)) (s24 _ _ h2) hD (by omega) ?_ ?_
    · intro z H' A B sx ka kb
      refine ⟨rfl, ?_⟩
      refine ⟨_, rfl, _, rfl, z, p0, _, _, rfl, rfl, sx _ _ (s4 _ _ k0), _, rfl, ?_⟩
      by_cases c : z ∈ gs
      · exact ifF (by simp [c]) (kb (by simp [c]))
      · refine ifT (by simp [c]) ?_
        exact ⟨_, rfl, ka (by simp [c])⟩
    intro H5 s5 k5
    have s45 := s4.trans s5
    have s25 := s24.trans s5
    have k4' := s5 _ _ k4
    have rng : ∀ z ∈ ns, 1 ≤ z ∧ z ≤ n - 1 := fun z hz => by
      rcases (mem1 z).mp hz with h | h
      · exact G.rng z h
      · exact rg z h
    try dsimp only [L2.start, List.set, List.map, List.append, List.replicate, List.length]
    cases b with
    | false =>
      refine ⟨_, rfl, _, rfl, ?_⟩
      refine ifF rfl ?_
      have G' : Good n ns (offM ss gs) := ⟨G.pos, by omega, rng, nasc, G.asc2.filter _, fun z hz => (mem1 z).mpr (.inl (G.sub z (mem_off.mp hz).1))⟩
      refine ⟨_, rfl, x, C, dx, _, _, rfl, s25 _ _ ho, R.cl, R.nL, fl_L _ _ _, _, rfl, _, rfl, fun z dz nz nd ne => ?_⟩
      have s9 : Same H5 (upd (upd H5 dz (.own z)) z (.ins C dz [])) := same_new (same_new (Same.refl H5) nd) (by rw [upd_ne (Ne.symm ne)]; exact nz)
      refine ⟨z, dz, p4, D, _, _, _, rfl, upd_same, s9 _ _ k4', s9 _ _ k5, G', fun H9 row kp => ⟨rfl, ?_⟩⟩
      exact q z H9 ns (offM ss gs) (same_ins s25 nz nd kp) G' mem1 (fun y => by rw [if_neg Bool.false_ne_true]; exact mem_off) (row.mono fun c o e => ⟨o, s9 _ _ (s25 _ _ e)⟩)
    | true =>
      refine ⟨_, rfl, _, rfl, ?_⟩
      refine ifT rfl ?_
      refine ⟨_, rfl, x, C, dx, _, _, rfl, s25 _ _ ho, R.cl, R.nS, fl_S _ _ _, l2, ss, rfl, SqL.of (s25 _ _ h2), by omega, fun q1 d1 hd1 hq1 => ?_⟩
      have t3 := same_new (o := SetO w q1 (fun j => decide (j ∈ ss)) d1) (Same.refl H5) hq1
      have u1 : upd H5 q1 (SetO w q1 (fun j => decide (j ∈ ss)) d1) q1 = some (SetO w q1 (fun j => decide (j ∈ ss)) d1) := upd_same
      generalize upd H5 q1 (SetO w q1 (fun j => decide (j ∈ ss)) d1) = H6 at t3 u1 ⊢
      refine ⟨_, rfl, g, gs, rfl, SqL.of (t3 _ _ (s25 _ _ hg)), by omega, fun q2 d2 hd2 hq2 => ?_⟩
      have m12 : q1 ≠ q2 := ne_of_none u1 hq2
      refine ⟨q1, q2, _, _, d1, d2, rfl, rfl, m12, by rw [upd_ne m12]; exact u1, upd_same, by omega, fun q3 d3 hd3 hq3 => ?_⟩
      refine ⟨q3, _, d3, rfl, upd_same, fun us q4 uasc umem hq4 => ?_⟩
      have t4 := same_new (o := .lst (us.map V.int)) (same_new (o := SetO w q3 (fun j => decide (j ∈ ss) || decide (j ∈ gs)) d3) (same_new (o := SetO w q2 (fun j => decide (j ∈ gs)) d2) t3 hq2) hq3) hq4
      have u4 : IL (upd (upd (upd H6 q2 (SetO w q2 (fun j => decide (j ∈ gs)) d2)) q3 (SetO w q3 (fun j => decide (j ∈ ss) || decide (j ∈ gs)) d3)) q4 (.lst (us.map V.int))) q4 us := upd_same
      generalize upd (upd (upd H6 q2 (SetO w q2 (fun j => decide (j ∈ gs)) d2)) q3 (SetO w q3 (fun j => decide (j ∈ ss) || decide (j ∈ gs)) d3)) q4 (.lst (us.map V.int)) = H7 at t4 u4 ⊢
      have mem2 : ∀ z, z ∈ us ↔ z ∈ ss ∨ z ∈ gs := fun z => by
        rw [umem z, Bool.or_eq_true, decide_eq_true_eq, decide_eq_true_eq]
      have G' : Good n ns us := ⟨G.pos, by omega, rng, nasc, uasc, fun z hz => (mem1 z).mpr (by rcases (mem2 z).mp hz with h | h; exact .inl (G.sub z h); exact .inr h)⟩
      have s27 := s25.trans t4
      try dsimp only [L2.start, List.set, List.map, List.append, List.replicate, List.length]
      refine ⟨_, rfl, x, C, dx, _, _, rfl, s27 _ _ ho, R.cl, R.nL, fl_L _ _ _, _, rfl, _, rfl, fun z dz nz nd ne => ?_⟩
      have s9 : Same H7 (upd (upd H7 dz (.own z)) z (.ins C dz [])) := same_new (same_new (Same.refl H7) nd) (by rw [upd_ne (Ne.symm ne)]; exact nz)
      refine ⟨z, dz, p4, q4, _, _, _, rfl, upd_same, s9 _ _ (t4 _ _ k4'), s9 _ _ u4, G', fun H9 row kp => ⟨rfl, ?_⟩⟩
      exact q z H9 ns us (same_ins s27 nz nd kp) G' mem1 (fun y => by rw [if_pos rfl]; exact mem2 y) (row.mono fun c o e => ⟨o, s9 _ _ (s27 _ _ e)⟩)
abbrev NWo : List Str := ["self", "places", "gone", "marks", "strict", "mark"]
theorem scWo : FnScope NWo ["self", "places"] (defScope sWout) := ⟨rfl, rfl, rfl, by decide +kernel, rfl, by decide +kernel, by decide +kernel⟩
theorem ok_wout {f C fI fC : Addr} {fd fdI fdC : FuncData} (F : Fun K "without_marks" "Row.without_marks" sWout f fd) (T : Bl mg) (R : Cl K mg C) (M : Mk K C fI)
    (mC : Meth K C "_check_inner" fC) (bC : Binds K fdC ["self", "places"] []) (GC : FnOk P w K mg base CX0 3 fC fdC ["self", "places"] (spCI C))
    (bI : Binds K fdI NI []) (GI : FnOk P w K mg base CX0 5 fI fdI NI (spInit C)) :
    FnOk P w K mg base CX0 7 f fd ["self", "places"] (spWout C) := by
  refine F.ok scWo (fun vs H Q E h => ?_) (fun cdv A outer s H vs Q E hr h => ?_)
  · obtain ⟨x, g, n, ms, ss, gs, rfl, _⟩ := h
    rfl
  · obtain ⟨x, g, n, ms, ss, gs, rfl, hx, G, hg, few, rg, q⟩ := h
    have hr3 : Room 3 (A.deeper (PyProof.Rows.envOfC "Row.without_marks" (defScope sWout) s.heap.objs.size f cdv)) := hr.mono (by decide)
    refine ⟨_, pss_cons (ps_expr (pe_meth (pv 0) R.cl mC GC hr3 bC .nil pass0 (pa_cons (pv 1) pa_nil)))
      (pss_cons (ps_set (i := 2) scWo.nd rfl (Or.inr rfl) (pe_callTy (show CallR _ (.type "set") (rSetOfW K w) from cr_setOf rfl) (by rfl) T.set (by decide +kernel) (pa_cons (pv 1) pa_nil)))
      (pss_cons (ps_setLc (i := 3) (own := [("mark", 5)]) (g := gName 5) rfl scWo.nd rfl rfl (sw_true rfl rfl rfl (by decide +kernel)) (pi_list (pe_fld (pv 0) rfl)) (blkOk_by (own := [("mark", 5)]) (N := NWo) (sc := defScope sWout) (by decide +kernel))
          (fun _ _ _ _ _ => pg_name (i := 5) scWo.nd rfl (Or.inl rfl)) (fun _ _ _ _ _ => pts_one (pt_cmpR (show OpR _ (compareOp .NotIn) (rSNotIn w) from or_snotin) (pv 5) (pv 2) (by rfl))) (fun _ _ _ _ _ => pv 5))
      (pss_cons (ps_setLc (i := 4) (own := [("mark", 5)]) (g := gName 5) rfl scWo.nd rfl rfl (sw_true rfl rfl rfl (by decide +kernel)) (pi_list (pe_fld (pv 0) rfl)) (blkOk_by (own := [("mark", 5)]) (N := NWo) (sc := defScope sWout) (by decide +kernel))
          (fun _ _ _ _ _ => pg_name (i := 5) scWo.nd rfl (Or.inl rfl)) (fun _ _ _ _ _ => pts_one (pt_cmpR (show OpR _ (compareOp .NotIn) (rSNotIn w) from or_snotin) (pv 5) (pv 2) (by rfl))) (fun _ _ _ _ _ => pv 5))
      (pss_one (ps_ret (pe_make M GI hr rfl R.mgR bI .nil pass0 (pa_cons (pe_fld (pv 0) rfl) (pa_cons (pv 3) (pa_cons (pv 4) pa_nil))))))))), ?_⟩
    obtain ⟨dx, l1, l2, ho, h1, h2⟩ := id hx
    have lm := G.len
    have ls := G.len2
    refine ⟨_, rfl, x, dx, _, rfl, ho, fl_no _ _ _ (by decide +kernel) (by decide +kernel) (by decide +kernel), ?_⟩
    refine ⟨_, rfl, x, g, n, ms, ss, gs, rfl, hx, hg, few, rg, fun H1 s1 => ?_⟩
    refine ⟨_, rfl, g, gs, rfl, SqL.of (s1 _ _ hg), by omega, fun p0 c0 hc0 hp0 => ?_⟩
    have s2 := same_new (o := SetO w p0 (fun j => decide (j ∈ gs)) c0) s1 hp0
    have k0 : upd H1 p0 (SetO w p0 (fun j => decide (j ∈ gs)) c0) p0 = some (SetO w p0 (fun j => decide (j ∈ gs)) c0) := upd_same
    generalize upd H1 p0 (SetO w p0 (fun j => decide (j ∈ gs)) c0) = H2 at s2 k0 ⊢
    refine ⟨_, rfl, x, C, dx, _, _, rfl, s2 _ _ ho, R.cl, R.nM, fl_M _ _ _, l1, rfl, ⟨_, SqL.of (s2 _ _ h1)⟩, fun D hD => ?_⟩
    refine lc_fil (K := K) (fun z => !decide (z ∈ gs)) (s2 _ _ h1) hD (by omega) ?_ ?_
    · intro z H' A B sx ka kb
      refine ⟨rfl, ?_⟩
      refine ⟨_, rfl, _, rfl, z, p0, _, _, rfl, rfl, sx _ _ k0, _, rfl, ?_⟩
      by_cases c : z ∈ gs
      · exact ifF (by simp [c]) (kb (by simp [c]))
      · refine ifT (by simp [c]) ?_
        exact ⟨_, rfl, ka (by simp [c])⟩
    intro H3 s3 k3
    have s23 := s2.trans s3
    try dsimp only [L2.start, List.set, List.map, List.append, List.replicate, List.length]
    refine ⟨_, rfl, x, C, dx, _, _, rfl, s23 _ _ ho, R.cl, R.nS, fl_S _ _ _, l2, rfl, ⟨_, SqL.of (s23 _ _ h2)⟩, fun D2 hD2 => ?_⟩
    refine lc_fil (K := K) (fun z => !decide (z ∈ gs)) (s23 _ _ h2) hD2 (by omega) ?_ ?_
    · intro z H' A B sx ka kb
      refine ⟨rfl, ?_⟩
      refine ⟨_, rfl, _, rfl, z, p0, _, _, rfl, rfl, sx _ _ (s3 _ _ k0), _, rfl, ?_⟩
      by_cases c : z ∈ gs
      · exact ifF (by simp [c]) (kb (by simp [c]))
      · refine ifT (by simp [c]) ?_
        exact ⟨_, rfl, ka (by simp [c])⟩
    intro H4 s4 k4
    have s24 := s23.trans s4
    try dsimp only [L2.start, List.set, List.map, List.append, List.replicate, List.length]
    refine ⟨_, rfl, x, C, dx, _, _, rfl, s24 _ _ ho, R.cl, R.nL, fl_L _ _ _, _, rfl, _, rfl, fun z dz nz nd ne => ?_⟩
    have s9 : Same H4 (upd (upd H4 dz (.own z)) z (.ins C dz [])) := same_new (same_new (Same.refl H4) nd) (by rw [upd_ne (Ne.symm ne)]; exact nz)
    refine ⟨z, dz, D, D2, _, _, _, rfl, upd_same, s9 _ _ (s4 _ _ k3), s9 _ _ k4, good_off G, fun H9 row kp => ⟨rfl, ?_⟩⟩
    exact q z H9 (same_ins s24 nz nd kp) (row.mono fun c o e => ⟨o, s9 _ _ (s24 _ _ e)⟩)
end
end Cw
namespace Cw
open PySem L2
/-! ## marks that no walk sees -/
theorem nx_le_strict {n l m g p x : Int} {ms ss : List Int} (G : Good n ms ss) (h : x ∈ ss) (hp : p + l ≤ x) : nx n ms ss l m g p ≤ x := by
  have a := fm_le (e := n) G.asc2 h hp
  unfold nx
  omega
theorem nx_le_mark {n l m g p x : Int} {ms ss : List Int} (G : Good n ms ss) (h : x ∈ ms) (hp : p + m ≤ x) : nx n ms ss l m g p ≤ x := by
  have a := fm_le (e := n) G.asc h hp
  unfold nx
  omega
theorem nx_le_n {n l m g p : Int} {ms ss : List Int} : nx n ms ss l m g p ≤ n := by
  unfold nx
  omega
theorem nx_le_g {n l m g p : Int} {ms ss : List Int} : nx n ms ss l m g p ≤ p + g := by
  unfold nx
  omega
theorem nx_at {n l m g p : Int} {ms ss : List Int} (G : Good n ms ss) : nx n ms ss l m g p = p + g ∨ nx n ms ss l m g p = n ∨ (nx n ms ss l m g p ∈ ss ∧ p + l ≤ nx n ms ss l m g p) ∨ (nx n ms ss l m g p ∈ ms ∧ p + m ≤ nx n ms ss l m g p) := by
  have a := fm_or G.asc2 (p + l) n
  have b := fm_or G.asc (p + m) n
  have e : nx n ms ss l m g p = min (min (fm ss (p + l) n) (fm ms (p + m) n)) (min (p + g) n) := rfl
  rcases Int.le_total (fm ss (p + l) n) (fm ms (p + m) n) with h1 | h1
  · rcases Int.le_total (p + g) n with h2 | h2
    · rcases Int.le_total (fm ss (p + l) n) (p + g) with h3 | h3
      · have e2 : nx n ms ss l m g p = fm ss (p + l) n := by rw [e]; omega
        rcases a with ⟨a1, a2⟩ | ⟨a1, _⟩
        · rw [e2]; exact .inr (.inr (.inl ⟨a1, a2⟩))
        · rw [e2]; exact .inr (.inl a1)
      · exact .inl (by rw [e]; omega)
    · rcases Int.le_total (fm ss (p + l) n) n with h3 | h3
      · have e2 : nx n ms ss l m g p = fm ss (p + l) n := by rw [e]; omega
        rcases a with ⟨a1, a2⟩ | ⟨a1, _⟩
        · rw [e2]; exact .inr (.inr (.inl ⟨a1, a2⟩))
        · rw [e2]; exact .inr (.inl a1)
      · exact .inr (.inl (by rw [e]; omega))
  · rcases Int.le_total (p + g) n with h2 | h2
    · rcases Int.le_total (fm ms (p + m) n) (p + g) with h3 | h3
      · have e2 : nx n ms ss l m g p = fm ms (p + m) n := by rw [e]; omega
        rcases b with ⟨a1, a2⟩ | ⟨a1, _⟩
        · rw [e2]; exact .inr (.inr (.inr ⟨a1, a2⟩))
        · rw [e2]; exact .inr (.inl a1)
      · exact .inl (by rw [e]; omega)
    · rcases Int.le_total (fm ms (p + m) n) n with h3 | h3
      · have e2 : nx n ms ss l m g p = fm ms (p + m) n := by rw [e]; omega
        rcases b with ⟨a1, a2⟩ | ⟨a1, _⟩
        · rw [e2]; exact .inr (.inr (.inr ⟨a1, a2⟩))
        · rw [e2]; exact .inr (.inl a1)
      · exact .inr (.inl (by rw [e]; omega))
/-- two rows have the same next cut -/
theorem nx_same {n l m g p c : Int} {ms ss ms' ss' : List Int} (G : Good n ms ss) (G' : Good n ms' ss') (e : nx n ms ss l m g p = c)
    (hS : ∀ x ∈ ss', p + l ≤ x → c ≤ x) (hM : ∀ x ∈ ms', p + m ≤ x → c ≤ x) (kS : c ∈ ss → c ∈ ss') (kM : c ∈ ms → c ∈ ms') : nx n ms' ss' l m g p = c := by
  have g1 : nx n ms ss l m g p ≤ n := nx_le_n
  have g2 : nx n ms ss l m g p ≤ p + g := nx_le_g
  have up : c ≤ nx n ms' ss' l m g p := by
    rcases nx_at (l := l) (m := m) (g := g) (p := p) G' with h | h | ⟨h1, h2⟩ | ⟨h1, h2⟩
    · omega
    · omega
    · exact hS _ h1 h2
    · exact hM _ h1 h2
  have dn : nx n ms' ss' l m g p ≤ c := by
    have k1 : nx n ms' ss' l m g p ≤ n := nx_le_n
    have k2 : nx n ms' ss' l m g p ≤ p + g := nx_le_g
    rcases nx_at (l := l) (m := m) (g := g) (p := p) G with h | h | ⟨h1, h2⟩ | ⟨h1, h2⟩
    · omega
    · omega
    · rw [e] at h1 h2
      exact nx_le_strict G' (kS h1) h2
    · rw [e] at h1 h2
      exact nx_le_mark G' (kM h1) h2
  omega
theorem kc_alike {F F' : Int → Int} {n s : Int} {k : Nat} (w : WkOk F n s k) (h : ∀ i, i < k → F' (kc F n s i) = kc F n s (i + 1)) : ∀ i, i ≤ k → kc F' n s i = kc F n s i
  | 0, _ => rfl
  | i + 1, hi => by
    have ih := kc_alike w h i (by omega)
    have b := w.bef i (by omega)
    show (if kc F' n s i < n then F' (kc F' n s i) else kc F' n s i) = _
    rw [ih, if_pos b]
    exact h i (by omega)
theorem wk_alike {F F' : Int → Int} {n s : Int} {k : Nat} (w : WkOk F n s k) (h : ∀ i, i < k → F' (kc F n s i) = kc F n s (i + 1)) : WkOk F' n s k ∧ wl F' n s k = wl F n s k := by
  have a := kc_alike w h
  refine ⟨⟨w.few, by rw [a k (Nat.le_refl _)]; exact w.fin, fun i hi => by rw [a i (by omega)]; exact w.bef i hi⟩, ?_⟩
  unfold wl
  exact List.map_congr_left fun i hi => a i (by have := List.mem_range.mp hi; omega)
/-- a place strictly within a piece, nearer than d behind its begin -/
def Hid (F : Int → Int) (n s : Int) (k : Nat) (d x : Int) : Prop := ∃ j, j < k ∧ kc F n s j < x ∧ x < kc F n s (j + 1) ∧ x < kc F n s j + d
theorem Hid.rng {F : Int → Int} {n l s d x : Int} {k : Nat} (S : Stp F n l) (w : WkOk F n s k) (s0 : 0 ≤ s) (h : Hid F n s k d x) : 1 ≤ x ∧ x ≤ n - 1 := by
  obtain ⟨j, hj, h1, h2, _⟩ := h
  have a : kc F n s 0 ≤ kc F n s j := kc_wk S (Nat.zero_le _)
  have b : kc F n s (j + 1) ≤ n := by
    have z : kc F n s (j + 1) ≤ kc F n s k := kc_wk S (by omega)
    rw [w.fin] at z
    exact z
  have z : kc F n s 0 = s := rfl
  omega
theorem hid_ok {F : Int → Int} {n l s d x e : Int} {k i : Nat} (S : Stp F n l) (w : WkOk F n s k) (hi : i < k) (h : Hid F n s k d x ∨ x < s) (de : d ≤ e) (hx : kc F n s i + e ≤ x) (e0 : 0 < e) : kc F n s (i + 1) ≤ x := by
  have a : kc F n s 0 ≤ kc F n s i := kc_wk S (Nat.zero_le _)
  have z : kc F n s 0 = s := rfl
  rcases h with ⟨j, hj, h1, h2, h3⟩ | h
  · rcases Nat.lt_trichotomy j i with c | c | c
    · have : kc F n s (j + 1) ≤ kc F n s i := kc_wk S (by omega)
      omega
    · subst c
      omega
    · have : kc F n s (i + 1) ≤ kc F n s j := kc_wk S (by omega)
      omega
  · omega
theorem hid_not {F : Int → Int} {n l s d : Int} {k i : Nat} (S : Stp F n l) (w : WkOk F n s k) (hi : i < k) (h : Hid F n s k d (kc F n s (i + 1)) ∨ kc F n s (i + 1) < s) : False := by
  have a : kc F n s 0 ≤ kc F n s (i + 1) := kc_wk S (Nat.zero_le _)
  have z : kc F n s 0 = s := rfl
  rcases h with ⟨j, hj, h1, h2, h3⟩ | h
  · rcases Nat.lt_or_ge i j with c | c
    · have : kc F n s (i + 1) ≤ kc F n s j := kc_wk S (by omega)
      omega
    · have : kc F n s (j + 1) ≤ kc F n s (i + 1) := kc_wk S (by omega)
      omega
  · omega
/-- marks put in out of sight leave the walk -/
theorem put_same {n l m g s : Int} {ms ss m1 s1 m2 s2 ps qs : List Int} {k : Nat} {b : Bool} {F : Int → Int} (S : Stp F n l) (lm : l ≤ m) (l1 : 1 ≤ l) (w : WkOk F n s k) (G : Good n ms ss) (G2 : Good n m2 s2)
    (hF : ∀ i, i < k → nx n ms ss l m g (kc F n s i) = kc F n s (i + 1))
    (hp : ∀ x ∈ ps, Hid F n s k m x) (hq : ∀ x ∈ qs, Hid F n s k l x ∨ x < s)
    (e1 : ∀ z, z ∈ m1 ↔ z ∈ ms ∨ z ∈ ps) (f1 : ∀ z, z ∈ s1 ↔ if false = true then z ∈ ss ∨ z ∈ ps else z ∈ ss ∧ z ∉ ps)
    (e2 : ∀ z, z ∈ m2 ↔ z ∈ m1 ∨ z ∈ qs) (f2 : ∀ z, z ∈ s2 ↔ if b = true then z ∈ s1 ∨ z ∈ qs else z ∈ s1 ∧ z ∉ qs) :
    ∀ i, i < k → nx n m2 s2 l m g (kc F n s i) = kc F n s (i + 1) := fun i hi => by
  have f1' : ∀ z, z ∈ s1 ↔ z ∈ ss ∧ z ∉ ps := fun z => by
    have := f1 z
    rw [if_neg Bool.false_ne_true] at this
    exact this
  have nP : kc F n s (i + 1) ∉ ps := fun h => hid_not S w hi (.inl (hp _ h))
  have nQ : kc F n s (i + 1) ∉ qs := fun h => hid_not S w hi (hq _ h)
  have sS : ∀ x ∈ s2, x ∈ ss ∨ x ∈ qs := fun x hx => by
    have z := (f2 x).mp hx
    cases b with
    | false =>
      rw [if_neg Bool.false_ne_true] at z
      exact .inl ((f1' x).mp z.1).1
    | true =>
      rw [if_pos rfl] at z
      rcases z with z | z
      · exact .inl ((f1' x).mp z).1
      · exact .inr z
  refine nx_same G G2 (hF i hi) (fun x hx hl => ?_) (fun x hx hl => ?_) (fun h => ?_) (fun h => ?_)
  · rcases sS x hx with h | h
    · rw [← hF i hi]
      exact nx_le_strict G h hl
    · exact hid_ok S w hi (hq x h) (Int.le_refl _) hl (by omega)
  · rcases (e2 x).mp hx with h | h
    · rcases (e1 x).mp h with h | h
      · rw [← hF i hi]
        exact nx_le_mark G h hl
      · exact hid_ok S w hi (.inl (hp x h)) (Int.le_refl _) hl (by omega)
    · exact hid_ok S w hi (hq x h) lm hl (by omega)
  · have z : kc F n s (i + 1) ∈ s1 := (f1' _).mpr ⟨h, nP⟩
    refine (f2 _).mpr ?_
    cases b with
    | false => rw [if_neg Bool.false_ne_true]; exact ⟨z, nQ⟩
    | true => rw [if_pos rfl]; exact .inl z
  · exact (e2 _).mpr (.inl ((e1 _).mpr (.inl h)))
/-- a strict mark put in ahead of the next cut is the next cut -/
theorem put_one {n l m g p c x : Int} {ms ss m1 s1 : List Int} (G : Good n ms ss) (G1 : Good n m1 s1) (e : nx n ms ss l m g p = c) (hx : p + l ≤ x) (xc : x < c)
    (e1 : ∀ z, z ∈ m1 ↔ z ∈ ms ∨ z ∈ [x]) (f1 : ∀ z, z ∈ s1 ↔ if true = true then z ∈ ss ∨ z ∈ [x] else z ∈ ss ∧ z ∉ [x]) : nx n m1 s1 l m g p = x := by
  have g1 : nx n ms ss l m g p ≤ n := nx_le_n
  have g2 : nx n ms ss l m g p ≤ p + g := nx_le_g
  have f1' : ∀ z, z ∈ s1 ↔ z ∈ ss ∨ z ∈ [x] := fun z => by
    have := f1 z
    rw [if_pos rfl] at this
    exact this
  have dn : nx n m1 s1 l m g p ≤ x := nx_le_strict G1 ((f1' x).mpr (.inr (List.mem_singleton.mpr rfl))) hx
  have up : x ≤ nx n m1 s1 l m g p := by
    rcases nx_at (l := l) (m := m) (g := g) (p := p) G1 with h | h | ⟨h1, h2⟩ | ⟨h1, h2⟩
    · omega
    · omega
    · rcases (f1' _).mp h1 with h | h
      · have := nx_le_strict (m := m) (g := g) G h h2
        omega
      · rw [List.mem_singleton.mp h]; exact Int.le_refl _
    · rcases (e1 _).mp h1 with h | h
      · have := nx_le_mark (l := l) (g := g) G h h2
        omega
      · rw [List.mem_singleton.mp h]; exact Int.le_refl _
  omega
/-- the marks that are no cuts taken out -/
theorem out_same {n l m g s : Int} {ms ss gs : List Int} {k : Nat} (G : Good n ms ss) (G' : Good n (offM ms gs) (offM ss gs)) (w : WkOk (nx n ms ss l m g) n s k) (hg : ∀ z ∈ gs, z ∉ wl (nx n ms ss l m g) n s k) :
    ∀ i, i < k → nx n (offM ms gs) (offM ss gs) l m g (kc (nx n ms ss l m g) n s i) = kc (nx n ms ss l m g) n s (i + 1) := fun i hi => by
  have e : nx n ms ss l m g (kc (nx n ms ss l m g) n s i) = kc (nx n ms ss l m g) n s (i + 1) := (kc_at (w.bef i hi)).symm
  have nG : kc (nx n ms ss l m g) n s (i + 1) ∉ gs := fun h => hg _ h (kc_mem.mpr ⟨i + 1, hi, rfl⟩)
  refine nx_same G G' e (fun x hx hl => ?_) (fun x hx hl => ?_) (fun h => mem_off.mpr ⟨h, nG⟩) (fun h => mem_off.mpr ⟨h, nG⟩)
  · rw [← e]
    exact nx_le_strict G (mem_off.mp hx).1 hl
  · rw [← e]
    exact nx_le_mark G (mem_off.mp hx).1 hl
theorem kc_few40 {F : Int → Int} {n l s : Int} {k : Nat} (S : Stp F n l) (s0 : 0 ≤ s) (b : n ≤ 40 * l) (w : WkOk F n s k) : k ≤ 40 := by
  by_cases c : k = 0
  · omega
  · have h := kc_ge S (k - 1) (w.bef (k - 1) (by omega))
    have h2 := w.bef (k - 1) (by omega)
    have l1 := S.l1
    by_cases d : k ≤ 40
    · exact d
    · exfalso
      have z : (40 : Int) * l ≤ ((k - 1 : Nat) : Int) * l := Int.mul_le_mul_of_nonneg_right (by omega) (by omega)
      omega
end Cw
namespace Cw
open PySem L2
abbrev sHid : Stmt := top 36
theorem rest_c {C R : Hp → Prop} {G : Prop} (a : (∀ H7, C H7 → R H7) → G) (b : ∀ H7, C H7 → R H7) : G := a b
/-- the two lists that are filled -/
structure HiN (H : Hp) (a x y e : Addr) : Prop where
  xa : x ≠ a
  ya : y ≠ a
  ea : e ≠ a
  xy : x ≠ y
  xe : x ≠ e
  ye : y ≠ e
  hx : H x = none
  hy : H y = none
structure HiS (F : Int → Int) (n s : Int) (k : Nat) (l m : Int) (H H' : Hp) (a x y e : Addr) (es : List V) (ca cp : Nat) : Prop where
  b : But H H' a
  ex : ∃ as ps : List Int, IL H' x as ∧ IL H' y ps ∧ as.length ≤ ca ∧ ps.length ≤ cp ∧ (∀ z ∈ as, Hid F n s k l z) ∧ ∀ z ∈ ps, Hid F n s k m z
  ee : H' e = some (.lst es)
section
variable {F : Int → Int} {n s : Int} {k : Nat} {l m : Int} {H H' H2 : Hp} {a x y e : Addr} {es : List V} {ca cp : Nat}
theorem HiS.but (h : HiS F n s k l m H H' a x y e es ca cp) (N : HiN H a x y e) (b : But H' H2 a) : HiS F n s k l m H H2 a x y e es ca cp := by
  obtain ⟨as, ps, h1, h2, h3⟩ := h.ex
  exact ⟨h.b.trans b, ⟨as, ps, b _ _ h1 N.xa, b _ _ h2 N.ya, h3⟩, b _ _ h.ee N.ea⟩
theorem HiS.mono {ca' cp' : Nat} (h : HiS F n s k l m H H' a x y e es ca cp) (h1 : ca ≤ ca') (h2 : cp ≤ cp') : HiS F n s k l m H H' a x y e es ca' cp' := by
  obtain ⟨as, ps, i1, i2, i3, i4, i5⟩ := h.ex
  exact ⟨h.b, ⟨as, ps, i1, i2, by omega, by omega, i5⟩, h.ee⟩
theorem HiS.addA {z : Int} {as : List Int} (h : HiS F n s k l m H H' a x y e es ca cp) (N : HiN H a x y e) (hz : Hid F n s k l z) (ha : IL H' x as) : HiS F n s k l m H (upd H' x (.lst (as.map V.int ++ [V.int z]))) a x y e es (ca + 1) cp := by
  obtain ⟨as', ps, i1, i2, i3, i4, i5, i6⟩ := h.ex
  have ea : as' = as := by
    have q := Option.some.inj (i1.symm.trans ha)
    injection q with q
    exact List.map_inj_right (f := V.int) (fun u v w => by injection w) |>.mp q
  subst ea
  refine ⟨h.b.put N.hx, ⟨as' ++ [z], ps, ?_, ?_, by rw [List.length_append]; exact Nat.succ_le_succ i3, i4, fun u hu => ?_, i6⟩, ?_⟩
  · show upd _ _ _ x = _
    rw [upd_same, ints_app]
  · show upd _ _ _ y = _
    rw [upd_ne (Ne.symm N.xy)]
    exact i2
  · rcases List.mem_append.mp hu with hu | hu
    · exact i5 u hu
    · rw [List.mem_singleton.mp hu]; exact hz
  · rw [upd_ne (Ne.symm N.xe)]
    exact h.ee
theorem HiS.addP {z : Int} {ps : List Int} (h : HiS F n s k l m H H' a x y e es ca cp) (N : HiN H a x y e) (hz : Hid F n s k m z) (ha : IL H' y ps) : HiS F n s k l m H (upd H' y (.lst (ps.map V.int ++ [V.int z]))) a x y e es ca (cp + 1) := by
  obtain ⟨as, ps', i1, i2, i3, i4, i5, i6⟩ := h.ex
  have ea : ps' = ps := by
    have q := Option.some.inj (i2.symm.trans ha)
    injection q with q
    exact List.map_inj_right (f := V.int) (fun u v w => by injection w) |>.mp q
  subst ea
  refine ⟨h.b.put N.hy, ⟨as, ps' ++ [z], ?_, ?_, i3, by rw [List.length_append]; exact Nat.succ_le_succ i4, i5, fun u hu => ?_⟩, ?_⟩
  · show upd _ _ _ x = _
    rw [upd_ne N.xy]
    exact i1
  · show upd _ _ _ y = _
    rw [upd_same, ints_app]
  · rcases List.mem_append.mp hu with hu | hu
    · exact i6 u hu
    · rw [List.mem_singleton.mp hu]; exact hz
  · rw [upd_ne (Ne.symm N.ye)]
    exact h.ee
end
def spHid : Sp := fun vs H Q _ => ∃ (a p c lp t : Addr) (kk k : Nat) (F : Int → Int) (n s l m g : Int), vs = [.ref a, .ref p, .ref c] ∧ JarAt H a (kk + 3 * k) ∧ H p = some (.tup [.int n, .ref lp, .ref t]) ∧ H t = some (.tup [.int l, .int m, .int g]) ∧ IL H c (wl F n s k) ∧ c ≠ a ∧ WkOk F n s k ∧ Stp F n l ∧ SetOk l m g ∧ g ≤ 10000000000000000000000000000 ∧
  ∀ (u x y : Addr) (H' : Hp) (as ps : List Int), H' u = some (.tup [.ref x, .ref y]) → IL H' x as → IL H' y ps → x ≠ a → y ≠ a → as.length ≤ k → ps.length ≤ k → (∀ z ∈ as, Hid F n s k l z) → (∀ z ∈ ps, Hid F n s k m z) → JarAt H' a kk → But H H' a → Q (.ref u) H'
section
variable {P : Program} {w : World} {K : PySem.W.Frag} {mg : Str → Option Value} {base : Heap}
abbrev NHi : List Str := ["jar", "raw", "cuts_here", "any_kind", "plain", "begin", "end", "near", "far"]
theorem scHi : FnScope NHi ["jar", "raw", "cuts_here"] (defScope sHid) := ⟨rfl, rfl, rfl, by decide +kernel, rfl, by decide +kernel, by decide +kernel⟩
theorem ok_hid {f fD : Addr} {fd fdD : FuncData} (F : Fun K "_law_hidden" "_law_hidden" sHid f fd) (T : Bl mg)
    (gD : mg "_law_dip" = some (.ref fD)) (kD : PySem.W.keepIn K (.ref fD) = true) (bD : Binds K fdD ["jar", "many"] []) (GD : FnOk P w K mg base CX0 1 fD fdD ["jar", "many"] spDip) :
    FnOk P w K mg base CX0 2 f fd ["jar", "raw", "cuts_here"] spHid := by
  refine F.ok scHi (fun vs H Q E h => ?_) (fun cdv A outer s H vs Q E hr h => ?_)
  · obtain ⟨a, p, c, lp, t, kk, k, F', n, st, l, m, g, rfl, _⟩ := h
    rfl
  · obtain ⟨a, p, c, lp, t, kk, k, F', n, st, l, m, g, rfl, J, hp, ht, hc, nca, wk, ST, S, gb, q⟩ := h
    refine ⟨_, pss_cons (ps_par (i := 3) (j := 4) rfl scHi.nd rfl rfl (by decide) rfl rfl (pa_cons (pe_lst pa_nil) (pa_cons (pe_lst pa_nil) pa_nil)) (by rfl))
      (pss_cons (ps_for PassesOwn.never rfl (pi_zip (by rfl) T.zip (pa_cons (pv 2) (pa_cons (pe_slice sl_list (pv 2) (po_some pe_int) po_none) pa_nil))) (pg_tup rfl (pgs_cons (pg_name (i := 5) scHi.nd rfl (Or.inl rfl)) (pgs_cons (pg_name (i := 6) scHi.nd rfl (Or.inl rfl)) pgs_nil)))
        (pss_one (ps_if (pt_cmpR op_eq (pe_call GD hr rfl gD kD bD .nil pass0 (pa_cons (pv 0) (pa_cons pe_int pa_nil))) pe_int (nomark _))
          (pss_cons (ps_par (i := 7) (j := 8) rfl scHi.nd rfl rfl (by decide) rfl rfl (pa_cons (pe_callB (call_min2 rfl) (by rfl) T.min (by decide +kernel) (pa_cons (pe_ix ix_tup (pe_ix ix_tup (pv 1) pe_int (fun _ _ => rfl)) pe_int (fun _ _ => rfl)) (pa_cons (pe_op op_sub (pv 6) (pv 5)) pa_nil)))
              (pa_cons (pe_callB (call_min2 rfl) (by rfl) T.min (by decide +kernel) (pa_cons (pe_ix ix_tup (pe_ix ix_tup (pv 1) pe_int (fun _ _ => rfl)) pe_int (fun _ _ => rfl)) (pa_cons (pe_op op_sub (pv 6) (pv 5)) pa_nil))) pa_nil)) (by rfl))
          (pss_cons (ps_if (pt_cmpR op_gt (pv 7) pe_int (nomark _)) (pss_one (ps_expr (pe_bm PySem.F.plainAttrs_list PySem.F.slot_list_append PySem.F.type_list_append mt_append (pv 3) (pa_cons (pe_op op_add (pe_op op_add (pv 5) pe_int) (pe_call GD hr rfl gD kD bD .nil pass0 (pa_cons (pv 0) (pa_cons (pe_op op_sub (pv 7) pe_int) pa_nil)))) pa_nil)))) pss_nil)
          (pss_one (ps_if (pt_cmpR op_gt (pv 8) pe_int (nomark _)) (pss_one (ps_expr (pe_bm PySem.F.plainAttrs_list PySem.F.slot_list_append PySem.F.type_list_append mt_append (pv 4) (pa_cons (pe_op op_add (pe_op op_add (pv 5) pe_int) (pe_call GD hr rfl gD kD bD .nil pass0 (pa_cons (pv 0) (pa_cons (pe_op op_sub (pv 8) pe_int) pa_nil)))) pa_nil)))) pss_nil)))) pss_nil)))
      (pss_one (ps_ret (pe_tup (pa_cons (pv 3) (pa_cons (pv 4) pa_nil)))))), ?_⟩
    have z5 : (2 : Int) ^ 120 = 1329227995784915872903807060280344576 := by decide +kernel
    have l1 := S.l1
    have lm := S.lm
    have mg' := S.mg
    have few := wk.few
    refine ⟨Nat.zero_le _, fun x hx => ⟨Nat.zero_le _, fun y hy => ⟨_, _, rfl, ?_⟩⟩⟩
    have nxy : x ≠ y := ne_of_none upd_same hy
    have s1 := same_new (o := .lst []) (same_new (o := .lst []) (Same.refl H) hx) hy
    have hy0 : H y = none := (same_new (o := .lst []) (Same.refl H) hx).free hy
    have ux : IL (upd (upd H x (.lst [])) y (.lst [])) x [] := by
      show upd _ _ _ x = _
      rw [upd_ne nxy]
      exact upd_same
    have uy : IL (upd (upd H x (.lst [])) y (.lst [])) y [] := upd_same
    generalize upd (upd H x (.lst [])) y (.lst []) = H1 at s1 ux uy ⊢
    try dsimp only [L2.start, List.set, List.map, List.append, List.replicate, List.length]
    refine ⟨_, rfl, _, rfl, _, rfl, c, _, rfl, SqL.of (s1 _ _ hc), fun e he => ?_⟩
    rw [cut_one]
    have s2 := same_new (o := .lst (((wl F' n st k).map V.int).drop 1)) s1 he
    have ue : upd H1 e (.lst (((wl F' n st k).map V.int).drop 1)) e = some (.lst (((wl F' n st k).map V.int).drop 1)) := upd_same
    have nxe : x ≠ e := ne_of_none ux he
    have nye : y ≠ e := ne_of_none uy he
    have N : HiN H a x y e := ⟨(J.ne hx).symm, (J.ne hy0).symm, ((J.same s1).ne he).symm, nxy, nxe, nye, hx, hy0⟩
    have ux2 := same_new (o := .lst (((wl F' n st k).map V.int).drop 1)) (Same.refl H1) he _ _ ux
    have uy2 := same_new (o := .lst (((wl F' n st k).map V.int).drop 1)) (Same.refl H1) he _ _ uy
    generalize upd H1 e (.lst (((wl F' n st k).map V.int).drop 1)) = H2 at s2 ue ux2 uy2 ⊢
    have I0 : HiS F' n st k l m H H2 a x y e (((wl F' n st k).map V.int).drop 1) 0 0 := ⟨But.of s2, ⟨[], [], ux2, uy2, Nat.le_refl _, Nat.le_refl _, fun _ h => (nomatch h), fun _ h => (nomatch h)⟩, ue⟩
    have hn : k = min ((wl F' n st k).map V.int).length (((wl F' n st k).map V.int).drop 1).length := by
      rw [List.length_drop, List.length_map, wl_len]
      omega
    have J2 := J.same s2
    refine ⟨c, e, _, _, rfl, SqL.of (s2 _ _ hc), SqL.of ue, for_it (walk_zip hn) (fun i σ H' => ∃ v5 v6 v7 v8, σ = [some (.ref a), some (.ref p), some (.ref c), some (.ref x), some (.ref y), v5, v6, v7, v8] ∧ JarAt H' a (kk + 3 * (k - i)) ∧ HiS F' n st k l m H H' a x y e (((wl F' n st k).map V.int).drop 1) i i)
      ⟨none, none, none, none, rfl, J2, I0⟩ (fun i σ H' _ z => ?_) ?_ ?_⟩
    · obtain ⟨_, _, _, _, _, _, I⟩ := z
      exact ⟨SqL.of (I.b _ _ hc nca), SqL.of I.ee⟩
    · rintro i x' σ H' H'' hi ⟨v5, v6, v7, v8, rfl, J3, I3⟩ ⟨tt, x1, x2, rfl, nt, rfl, e1, e2⟩
      have g1 : x1 = .int (kc F' n st i) := by
        dsimp only at e1
        unfold wl at e1
        rw [List.getElem?_map, List.getElem?_map, List.getElem?_range (by omega)] at e1
        exact (Option.some.inj e1).symm
      have g2 : x2 = .int (kc F' n st (i + 1)) := by
        dsimp only at e2
        unfold wl at e2
        rw [List.getElem?_drop, List.getElem?_map, List.getElem?_map, Nat.add_comm 1 i, List.getElem?_range (by omega)] at e2
        exact (Option.some.inj e2).symm
      subst g1 g2
      have lt1 := kc_lt ST wk (show i < i + 1 by omega) (by omega)
      refine ⟨tt, _, rfl, SqT.of upd_same, rfl, _, _, rfl, _, _, rfl, rfl, ?_⟩
      have Bt : But H' (upd H' tt (.tup [.int (kc F' n st i), .int (kc F' n st (i + 1))])) a := But.of (same_new (Same.refl H') nt)
      have J4 := J3.put (o := .tup [.int (kc F' n st i), .int (kc F' n st (i + 1))]) (J3.ne nt)
      have I4 := I3.but N Bt
      generalize upd H' tt (.tup [.int (kc F' n st i), .int (kc F' n st (i + 1))]) = H4 at J4 I4 ⊢
      clear Bt nt J3 I3
      have Jd : JarAt H4 a (kk + 3 * (k - (i + 1)) + 2 + 1) := J4.mono (by omega)
      generalize hkj : kk + 3 * (k - (i + 1)) = kj at Jd ⊢
      try dsimp only [L2.start, List.set, List.map, List.append, List.replicate, List.length]
      refine ⟨_, rfl, a, kj + 2, 2, rfl, Jd, by decide, by decide, fun v H5 v0 v1 J5 B5 => ⟨rfl, _, rfl, ?_⟩⟩
      have I5 := I4.but N B5
      by_cases cv : v = 0
      · refine ifT (by simp [cv]) ?_
        have p5 := I5.b _ _ hp (J.no hp fun _ _ _ z => nomatch z)
        have t5 := I5.b _ _ ht (J.no ht fun _ _ _ z => nomatch z)
        refine ⟨_, rfl, p, _, _, _, rfl, rfl, SqT.of p5, at_of2 (j := 2) rfl rfl, t, _, _, _, rfl, rfl, SqT.of t5, at_of2 (j := 0) rfl rfl, _, rfl, _, rfl, _, _, rfl, rfl, _, _, rfl, ?_⟩
        refine ⟨_, rfl, p, _, _, _, rfl, rfl, SqT.of p5, at_of2 (j := 2) rfl rfl, t, _, _, _, rfl, rfl, SqT.of t5, at_of2 (j := 1) rfl rfl, _, rfl, _, rfl, _, _, rfl, rfl, _, _, rfl, _, _, rfl, ?_⟩
        generalize hb : kc F' n st i = bg at lt1 ⊢
        generalize hen : kc F' n st (i + 1) = en at lt1 ⊢
        have hnear : (if en - bg < l then en - bg else l) ≤ en - bg ∧ (if en - bg < l then en - bg else l) ≤ l := by split <;> omega
        have hfar : (if en - bg < m then en - bg else m) ≤ en - bg ∧ (if en - bg < m then en - bg else m) ≤ m := by split <;> omega
        generalize (if en - bg < l then en - bg else l) = near at hnear ⊢
        generalize (if en - bg < m then en - bg else m) = far at hfar ⊢
        try dsimp only [L2.start, List.set, List.map, List.append, List.replicate, List.length]
        apply rest_c (C := fun H6 => JarAt H6 a (kj + 1) ∧ HiS F' n st k l m H H6 a x y e (((wl F' n st k).map V.int).drop 1) (i + 1) i)
        · intro rest
          refine ⟨_, rfl, _, _, rfl, rfl, _, rfl, ?_⟩
          by_cases c1 : near > 1
          · refine ifT (decide_eq_true c1) ?_
            obtain ⟨as, ps, i1, i2, i3, i4, i5⟩ := I5.ex
            refine ⟨_, rfl, .inl ⟨rfl, _, SqL.of i1⟩, ?_⟩
            refine ⟨_, rfl, _, _, rfl, rfl, _, rfl, _, rfl, _, _, rfl, rfl, a, kj + 1, near - 1, rfl, J5, by omega, by omega, fun u H6 u0 u1 J6 B6 => ⟨_, _, rfl, rfl, ?_⟩⟩
            have j1 := B6 _ _ i1 N.xa
            refine ⟨x, _, _, rfl, rfl, j1, by rw [List.length_map]; exact small1000 (by omega), ?_⟩
            exact rest _ ⟨J6.put N.xa.symm, ((I5.but N B6).addA N ⟨i, hi, by rw [hb]; omega, by rw [hen]; omega, by rw [hb]; omega⟩ j1)⟩
          · refine ifF (decide_eq_false c1) ?_
            exact rest _ ⟨J5.mono (by omega), I5.mono (by omega) (Nat.le_refl _)⟩
        intro H6 ⟨J6, I6⟩
        refine ⟨_, rfl, _, _, rfl, rfl, _, rfl, ?_⟩
        by_cases c2 : far > 1
        · refine ifT (decide_eq_true c2) ?_
          obtain ⟨as, ps, i1, i2, i3, i4, i5⟩ := I6.ex
          refine ⟨_, rfl, .inl ⟨rfl, _, SqL.of i2⟩, ?_⟩
          refine ⟨_, rfl, _, _, rfl, rfl, _, rfl, _, rfl, _, _, rfl, rfl, a, kj, far - 1, rfl, J6, by omega, by omega, fun u H7 u0 u1 J7 B7 => ⟨_, _, rfl, rfl, ?_⟩⟩
          have j2 := B7 _ _ i2 N.ya
          refine ⟨y, _, _, rfl, rfl, j2, by rw [List.length_map]; exact small1000 (by omega), ?_⟩
          exact ⟨_, _, _, _, rfl, J7.put N.ya.symm, ((I6.but N B7).addP N ⟨i, hi, by rw [hb]; omega, by rw [hen]; omega, by rw [hb]; omega⟩ j2)⟩
        · refine ifF (decide_eq_false c2) ?_
          exact ⟨_, _, _, _, rfl, J6.mono (by omega), I6.mono (Nat.le_refl _) (by omega)⟩
      · refine ifF (by simp [cv]) ?_
        exact ⟨_, _, _, _, rfl, J5.mono (by omega), I5.mono (by omega) (by omega)⟩
    · rintro σ H' ⟨v5, v6, v7, v8, rfl, J3, I3⟩
      obtain ⟨as, ps, i1, i2, i3, i4, i5, i6⟩ := I3.ex
      refine ⟨_, rfl, _, rfl, (by show 2 ≤ sizeLine; decide), fun u hu => ?_⟩
      have su := same_new (o := .tup [.ref x, .ref y]) (Same.refl H') hu
      exact q u x y _ as ps upd_same (su _ _ i1) (su _ _ i2) N.xa N.ya i3 i4 i5 i6 ((J3.mono (by omega)).same su) (I3.b.trans (But.of su))
end
end Cw
namespace Cw
open PySem L2
abbrev sRight : Stmt := top 37
abbrev sLaw : Stmt := top 38
theorem RowOff.same {C : Addr} {H H' : Hp} {a p : Addr} {n : Int} {ms ss : List Int} (r : RowOff C H a p n ms ss) (s : Same H H') : RowOff C H' a p n ms ss := by
  obtain ⟨dx, l1, l2, h1, h2, h3, n1, n2⟩ := r
  exact ⟨dx, l1, l2, s _ _ h1, s _ _ h2, s _ _ h3, n1, n2⟩
section
variable {P : Program} {w : World} {K : PySem.W.Frag} {mg : Str → Option Value} {base : Heap}
abbrev NRi : List Str := ["jar", "raw", "start", "made", "three", "due", "lone", "any_kind", "plain", "before", "one", "more", "spot", "place", "kind", "turn"]
theorem scRi : FnScope NRi ["jar", "raw", "start"] (defScope sRight) := ⟨rfl, rfl, rfl, by decide +kernel, rfl, by decide +kernel, by decide +kernel⟩
abbrev riCx (P : Program) (w : World) (K : PySem.W.Frag) (mg : Str → Option Value) (base : Heap) (f : Addr) (cdv : Value) (A : Around) (outer : List Env) (s : Shared) (H0 : Hp) (E : XK) : Cx := (cxOf CX0 P w K mg base NRi "_law_right" (defScope sRight) f cdv A outer s H0 E).nox
theorem ri_tail {f C fD fN fW fX pL fL pM fM pS fSs : Addr} {fdD fdN fdW fdX dL dM dS : FuncData} (T : Bl mg) (R : Cl K mg C) (Gs : Gets P w K mg base C pL fL pM fM pS fSs dL dM dS)
    (gD : mg "_law_dip" = some (.ref fD)) (kD : PySem.W.keepIn K (.ref fD) = true) (bD : Binds K fdD ["jar", "many"] []) (GD : FnOk P w K mg base CX0 1 fD fdD ["jar", "many"] spDip)
    (gN : mg "next_cut" = some (.ref fN)) (kN : PySem.W.keepIn K (.ref fN) = true) (bN : Binds K fdN ["row", "settings", "place"] []) (GN : FnOk P w K mg base CX0 4 fN fdN ["row", "settings", "place"] (spNext C))
    (gW : mg "walk" = some (.ref fW)) (kW : PySem.W.keepIn K (.ref fW) = true) (bW : Binds K fdW ["row", "settings", "start"] []) (GW : FnOk P w K mg base CX0 5 fW fdW ["row", "settings", "start"] (spWalk C))
    (mX : Meth K C "with_marks" fX) (bX : Binds K fdX ["self", "places", "is_strict"] []) (GX : FnOk P w K mg base CX0 7 fX fdX ["self", "places", "is_strict"] (spWith C))
    {cdv : Value} {A : Around} {outer : List Env} {s : Shared} {H0 : Hp} {E : XK} (hr : Room 7 (A.deeper (PyProof.Rows.envOfC "_law_right" (defScope sRight) s.heap.objs.size f cdv))) :
    ∃ tl, PSs (riCx P w K mg base f cdv A outer s H0 E) ((defBody sRight).drop 7) tl ∧
      ∀ (Q : VK) (H : Hp) (a p mp t c lo x y D : Addr) (k0 k : Nat) (n l m g st : Int) (ms ss ms' ss' as ps bs : List Int), JarAt H a (k0 + 4) → RowOff C H a mp n ms ss → RowOff C H a lo n ms' ss' → H t = some (.tup [.int l, .int m, .int g]) →
        Good n ms ss → Good n ms' ss' → ms.length ≤ 100 → ms'.length ≤ 100 → SetOk l m g → n ≤ 40 * l → g ≤ 10000000000000000000000000000 → 0 ≤ st → st ≤ n →
        WkOk (nx n ms ss l m g) n st k → (∀ i, i < k → nx n ms' ss' l m g (kc (nx n ms ss l m g) n st i) = kc (nx n ms ss l m g) n st (i + 1)) →
        IL H c (wl (nx n ms ss l m g) n st k) → c ≠ a → IL H x as → x ≠ a → IL H y ps → y ≠ a → IL H D bs → D ≠ a → as.length ≤ 40 → ps.length ≤ 40 → bs.length ≤ 3 →
        (∀ z ∈ as, Hid (nx n ms ss l m g) n st k l z) → (∀ z ∈ ps, Hid (nx n ms ss l m g) n st k m z) → (∀ z ∈ bs, 1 ≤ z ∧ z < st) →
        (∀ H', JarAt H' a k0 → But H H' a → Q (.bl true) H') →
        tl { nx := fun x H' => Q V.non H', rt := Q } [some (.ref a), some (.ref p), some (.int st), some (.ref mp), some (.ref t), some (.ref c), some (.ref lo), some (.ref x), some (.ref y), some (.ref D), none, none, none, none, none, none] H := by
  have hr1 : Room 1 (A.deeper (PyProof.Rows.envOfC "_law_right" (defScope sRight) s.heap.objs.size f cdv)) := hr.mono (by decide)
  have hr4 : Room 4 (A.deeper (PyProof.Rows.envOfC "_law_right" (defScope sRight) s.heap.objs.size f cdv)) := hr.mono (by decide)
  have hr5 : Room 5 (A.deeper (PyProof.Rows.envOfC "_law_right" (defScope sRight) s.heap.objs.size f cdv)) := hr.mono (by decide)
  refine ⟨_, pss_cons (ps_for PassesOwn.never rfl (pi_tup (pe_tup (pa_cons (pv 3) (pa_cons (pv 6) pa_nil)))) (pg_name (i := 10) scRi.nd rfl (Or.inl rfl))
        (pss_cons (ps_set (i := 11) scRi.nd rfl (Or.inl rfl) (pe_meth (pe_meth (pv 10) R.cl mX GX hr bX .nil pass0 (pa_cons (pv 8) (pa_cons pe_bl pa_nil))) R.cl mX GX hr bX .nil pass0
            (pa_cons (pe_op op_cat (pv 7) (pv 9)) (pa_cons (pe_cmpR op_eq (pe_call GD hr1 rfl gD kD bD .nil pass0 (pa_cons (pv 0) (pa_cons pe_int pa_nil))) pe_int (nomark _)) pa_nil))))
        (pss_one (ps_if (pt_cmpR (op_neD hr.units) (pe_call GW hr5 rfl gW kW bW .nil pass0 (pa_cons (pv 11) (pa_cons (pv 4) (pa_cons (pv 2) pa_nil)))) (pv 5) (nomark _)) (pss_one (ps_ret pe_bl)) pss_nil))))
      (pss_cons (ps_set (i := 12) scRi.nd rfl (Or.inl rfl) (pe_call GD hr1 rfl gD kD bD .nil pass0 (pa_cons (pv 0) (pa_cons (pe_callB call_len_seq (by rfl) T.len PySem.boot_len (pa_cons (pv 5) pa_nil)) pa_nil))))
      (pss_cons (ps_if (PW.pt (pw_and (pt_cmpR op_lt (pe_op op_add (pv 12) pe_int) (pe_callB call_len_seq (by rfl) T.len PySem.boot_len (pa_cons (pv 5) pa_nil)) (nomark _))
            (pw_and1 (pt_cmpR op_gt (pe_op op_sub (pe_ix ix_list (pv 5) (pe_op op_add (pv 12) pe_int) (fun _ _ => rfl)) (pe_ix ix_list (pv 5) (pv 12) (fun _ _ => rfl))) (pe_ix ix_tup (pv 4) pe_int (fun _ _ => rfl)) (nomark _)))))
          (pss_cons (ps_set (i := 13) scRi.nd rfl (Or.inl rfl) (pe_op op_add (pe_op op_add (pe_ix ix_list (pv 5) (pv 12) (fun _ _ => rfl)) (pe_ix ix_tup (pv 4) pe_int (fun _ _ => rfl)))
              (pe_call GD hr1 rfl gD kD bD .nil pass0 (pa_cons (pv 0) (pa_cons (pe_op op_sub (pe_op op_sub (pe_ix ix_list (pv 5) (pe_op op_add (pv 12) pe_int) (fun _ _ => rfl)) (pe_ix ix_list (pv 5) (pv 12) (fun _ _ => rfl))) (pe_ix ix_tup (pv 4) pe_int (fun _ _ => rfl))) pa_nil)))))
          (pss_one (ps_ret (pe_cmpR op_eq (pe_call GN hr4 rfl gN kN bN .nil pass0 (pa_cons (pe_meth (pv 6) R.cl mX GX hr bX .nil pass0 (pa_cons (pe_lst (pa_cons (pv 13) pa_nil)) (pa_cons pe_bl pa_nil))) (pa_cons (pv 4) (pa_cons (pe_ix ix_list (pv 5) (pv 12) (fun _ _ => rfl)) pa_nil)))) (pv 13) (nomark _))))) pss_nil)
      (pss_one (ps_ret pe_bl)))), ?_⟩
  intro Q H a p mp t c lo x y D k0 k n l m g st ms ss ms' ss' as ps bs J O1 O2 ht GG GG' lms lms' S big gb st0 stn wk hF' hc nca hx nxa hy nya hD nDa las lps lbs hA hP hB q
  have z5 : (2 : Int) ^ 120 = 1329227995784915872903807060280344576 := by decide +kernel
  have n1 := GG.pos
  have l1 := S.l1
  have lm := S.lm
  have mg' := S.mg
  have few := wk.few
  have ST := nx_stp (g := g) GG S
  have hF : ∀ i, i < k → nx n ms ss l m g (kc (nx n ms ss l m g) n st i) = kc (nx n ms ss l m g) n st (i + 1) := fun i hi => (kc_at (wk.bef i hi)).symm
  have big2 : n ≤ 200 * l := by omega
  have rA : ∀ z ∈ as, 1 ≤ z ∧ z ≤ n - 1 := fun z hz => (hA z hz).rng ST wk st0
  have rP : ∀ z ∈ ps, 1 ≤ z ∧ z ≤ n - 1 := fun z hz => (hP z hz).rng ST wk st0
  have rB : ∀ z ∈ bs, 1 ≤ z ∧ z ≤ n - 1 := fun z hz => by have := hB z hz; omega
  have nta := J.no ht fun _ _ _ z => nomatch z
  generalize hFF : nx n ms ss l m g = FF at wk hF' hc hA hP ST hF
  refine ⟨_, rfl, _, rfl, (by show 2 ≤ sizeLine; decide), fun tp htp => ?_⟩
  have utp : upd H tp (.tup [.ref mp, .ref lo]) tp = some (.tup [.ref mp, .ref lo]) := upd_same
  have tta : tp ≠ a := (J.ne htp).symm
  have s1 := same_new (o := .tup [.ref mp, .ref lo]) (Same.refl H) htp
  have J1 := J.same s1
  generalize upd H tp (.tup [.ref mp, .ref lo]) = H1 at utp s1 J1 ⊢
  refine ⟨tp, rfl, ⟨_, SqT.of utp⟩, for_tup (xs := [.ref mp, .ref lo]) (fun i σ H' => ∃ v10 v11, σ = [some (.ref a), some (.ref p), some (.int st), some (.ref mp), some (.ref t), some (.ref c), some (.ref lo), some (.ref x), some (.ref y), some (.ref D), v10, v11, none, none, none, none] ∧ JarAt H' a (k0 + 2 + (2 - i)) ∧ But H H' a ∧ H' tp = some (.tup [.ref mp, .ref lo]))
    ⟨_, _, rfl, J1, But.of s1, utp⟩ (fun i σ H' _ z => by obtain ⟨_, _, _, _, _, z⟩ := z; exact SqT.of z) ?_ ?_⟩
  · rintro i x' σ H2 hx' ⟨v10, v11, rfl, J2, B2, u2⟩
    have i2 : i < 2 := (List.getElem?_eq_some_iff.mp hx').1
    obtain ⟨r, M, S', rfl, Or, Gr, lM, hFr⟩ : ∃ r M S', x' = V.ref r ∧ RowOff C H a r n M S' ∧ Good n M S' ∧ M.length ≤ 100 ∧ ∀ i, i < k → nx n M S' l m g (kc FF n st i) = kc FF n st (i + 1) := by
      have mm := List.mem_of_getElem? hx'
      simp only [List.mem_cons, List.not_mem_nil, or_false] at mm
      rcases mm with rfl | rfl
      · exact ⟨mp, ms, ss, rfl, O1, GG, lms, by rw [hFF]; exact hF⟩
      · exact ⟨lo, ms', ss', rfl, O2, GG', lms', hF'⟩
    have Jd : JarAt H2 a (k0 + 2 + (2 - (i + 1)) + 1) := J2.mono (by omega)
    generalize k0 + 2 + (2 - (i + 1)) = kk at Jd ⊢
    have Or2 := Or.but J B2
    obtain ⟨dx, r1, r2, ho, _, _, _, _⟩ := id Or2
    refine ⟨_, rfl, r, dx, _, rfl, ho, fl_no _ _ _ (by decide +kernel) (by decide +kernel) (by decide +kernel), ?_⟩
    refine ⟨_, rfl, r, y, false, n, M, S', ps, rfl, Or2.at, Gr, B2 _ _ hy nya, by omega, ⟨M ++ ps, by rw [List.length_append]; omega, fun z h => List.mem_append.mpr (.inl h), fun z h => List.mem_append.mpr (.inr h)⟩, rP, fun x1 H3 m1 b1 s3 g1 e1 f1 row1 => ?_⟩
    have lm1 : m1.length ≤ 140 := by
      have z := nodup_len (l := m1) (m := M ++ ps) (g1.asc.imp fun h e => by omega) fun z hz => List.mem_append.mpr ((e1 z).mp hz)
      rw [List.length_append] at z
      omega
    have Ox := row1.off Jd
    obtain ⟨dx1, _, _, ho1, _, _, _, _⟩ := id Ox
    refine ⟨x1, dx1, _, rfl, ho1, fl_no _ _ _ (by decide +kernel) (by decide +kernel) (by decide +kernel), ?_⟩
    refine ⟨_, rfl, _, rfl, x, D, _, _, rfl, rfl, s3 _ _ (B2 _ _ hx nxa), s3 _ _ (B2 _ _ hD nDa), by rw [List.length_map, List.length_map]; exact Nat.le_of_lt (small1000 (by omega)), fun c1 hc1 => ?_⟩
    have t3 := same_new (o := .lst (as.map V.int ++ bs.map V.int)) s3 hc1
    have w3 : IL (upd H3 c1 (.lst (as.map V.int ++ bs.map V.int))) c1 (as ++ bs) := by
      show upd _ _ _ c1 = _
      rw [upd_same, List.map_append]
    have Ox3 := Ox.same (same_new (o := .lst (as.map V.int ++ bs.map V.int)) (Same.refl H3) hc1)
    have nc1 : c1 ≠ a := ((Jd.same s3).ne hc1).symm
    generalize upd H3 c1 (.lst (as.map V.int ++ bs.map V.int)) = H4 at t3 w3 Ox3 ⊢
    have J4 := Jd.same t3
    refine ⟨_, rfl, a, kk, 2, rfl, J4, by decide, by decide, fun v H5 v0 v1 J5 B5 => ⟨rfl, ?_⟩⟩
    have B25 : But H2 H5 a := (But.of t3).trans B5
    refine ⟨x1, c1, decide (V.int v = V.int 0), n, m1, b1, as ++ bs, rfl, (Ox3.but J4 B5).at, g1, B5 _ _ w3 nc1, by rw [List.length_append]; omega,
      ⟨m1 ++ (as ++ bs), by rw [List.length_append, List.length_append]; omega, fun z h => List.mem_append.mpr (.inl h), fun z h => List.mem_append.mpr (.inr h)⟩, (fun z hz => by rcases List.mem_append.mp hz with h | h; exact rA z h; exact rB z h), fun x2 H6 m2 b2 s6 g2 e2 f2 row2 => ?_⟩
    have B6 : But H H6 a := (B2.trans B25).trans (But.of s6)
    have hF2 := put_same ST lm l1 wk Gr g2 hFr hP (fun z hz => by
      rcases List.mem_append.mp hz with h | h
      · exact .inl (hA z h)
      · exact .inr (hB z h).2) e1 f1 e2 f2
    obtain ⟨wk2, wl2⟩ := wk_alike wk hF2
    have J6 := J5.same s6
    try dsimp only [L2.start, List.set, List.map, List.append, List.replicate, List.length]
    refine ⟨_, rfl, _, rfl, _, rfl, x2, t, n, l, m, g, st, _, _, rfl, ⟨row2.at, B6 _ _ ht nta, g2, S, big2⟩, st0, stn, fun w7 H7 k7 s7 n7 wk7 i7 => ?_⟩
    rw [wk7.one wk2, wl2] at i7
    have B7 := B6.trans (But.of s7)
    refine ⟨_, rfl, _, _, dp_il i7, dp_il (B7 _ _ hc nca), shape_il _, shape_il _, _, rfl, ?_⟩
    refine ifF (by rw [eqv_il]; rfl) ?_
    exact ⟨_, _, rfl, J6.same s7, B7, s7 _ _ (s6 _ _ (B25 _ _ u2 tta))⟩
  rintro σ H2 ⟨v10, v11, rfl, J2, B2, u2⟩
  have J2' : JarAt H2 a (k0 + 1 + 1) := J2
  have wlen : (((wl FF n st k).map V.int).length : Int) = k + 1 := by rw [List.length_map, wl_len]; omega
  have at_w : ∀ i : Nat, i ≤ k → ∀ z : Int, z = (i : Int) → atI ((wl FF n st k).map V.int) z = some (V.int (kc FF n st i)) := fun i hi z hz => at_of2 (j := i) hz (by
    unfold wl
    rw [List.getElem?_map, List.getElem?_map, List.getElem?_range (by omega)]
    rfl)
  have hc2 := B2 _ _ hc nca
  refine ⟨_, rfl, _, rfl, c, _, rfl, .inl (SqL.of hc2), a, k0 + 1, _, rfl, J2', by rw [wlen]; omega, by rw [wlen]; omega, fun v H3 v0 v1 J3 B3 => ?_⟩
  rw [wlen] at v1
  have B23 := B2.trans B3
  have hc3 := B3 _ _ hc2 nca
  have ht3 := B23 _ _ ht nta
  obtain ⟨iv, rfl⟩ : ∃ iv : Nat, v = (iv : Int) := ⟨v.toNat, by omega⟩
  have ik : iv ≤ k := by omega
  try dsimp only [L2.start, List.set, List.map, List.append, List.replicate, List.length]
  refine ⟨_, rfl, _, _, rfl, rfl, _, rfl, c, _, rfl, .inl (SqL.of hc3), _, _, rfl, rfl, _, rfl, ?_⟩
  by_cases ci : iv < k
  · refine ifT (decide_eq_true (by rw [wlen]; omega)) ?_
    refine ⟨_, rfl, _, rfl, _, _, rfl, rfl, c, _, _, _, rfl, rfl, SqL.of hc3, at_w (iv + 1) (by omega) _ (by omega), ?_⟩
    refine ⟨_, rfl, _, rfl, c, _, _, _, rfl, rfl, SqL.of hc3, at_w iv (by omega) _ rfl, _, _, rfl, rfl, ?_⟩
    refine ⟨_, rfl, t, _, _, _, rfl, rfl, SqT.of ht3, at_of2 (j := 0) rfl rfl, _, _, rfl, rfl, _, rfl, ?_⟩
    have pn := wk.bef iv ci
    have eF := hF' iv ci
    have p0 : 0 ≤ kc FF n st iv := by
      have a0 : kc FF n st 0 ≤ kc FF n st iv := kc_wk ST (Nat.zero_le _)
      have z : kc FF n st 0 = st := rfl
      omega
    have cn : kc FF n st (iv + 1) ≤ n := kc_le ST stn _
    have at1 := at_w (iv + 1) (by omega) ((iv : Int) + 1) (by omega)
    have at0 := at_w iv (by omega) (iv : Int) rfl
    generalize kc FF n st (iv + 1) = cc at eF cn at1 ⊢
    generalize kc FF n st iv = pp at eF pn p0 at0 ⊢
    by_cases cl : cc - pp > l
    · refine ifT (decide_eq_true cl) ?_
      try dsimp only [L2.start, List.set, List.map, List.append, List.replicate, List.length]
      refine ⟨_, rfl, _, rfl, c, _, _, _, rfl, rfl, SqL.of hc3, at0, ?_⟩
      refine ⟨_, rfl, t, _, _, _, rfl, rfl, SqT.of ht3, at_of2 (j := 0) rfl rfl, _, _, rfl, rfl, ?_⟩
      refine ⟨_, rfl, _, rfl, _, rfl, _, _, rfl, rfl, c, _, _, _, rfl, rfl, SqL.of hc3, at1, ?_⟩
      refine ⟨_, rfl, _, rfl, c, _, _, _, rfl, rfl, SqL.of hc3, at0, _, _, rfl, rfl, ?_⟩
      refine ⟨_, rfl, t, _, _, _, rfl, rfl, SqT.of ht3, at_of2 (j := 0) rfl rfl, _, _, rfl, rfl, ?_⟩
      refine ⟨a, k0, cc - pp - l, rfl, J3, by omega, by omega, fun v H4 v0 v1 J4 B4 => ⟨_, _, rfl, rfl, ?_⟩⟩
      have B24 := B23.trans B4
      have rg : pp + l ≤ pp + l + v ∧ pp + l + v < cc := by omega
      dsimp only
      generalize pp + l + v = pl at rg ⊢
      try dsimp only [L2.start, List.set, List.map, List.append, List.replicate, List.length]
      have O4 := O2.but J B24
      obtain ⟨dx, _, _, ho, _, _, _, _⟩ := id O4
      refine ⟨_, rfl, lo, dx, _, rfl, ho, fl_no _ _ _ (by decide +kernel) (by decide +kernel) (by decide +kernel), ?_⟩
      refine ⟨_, rfl, (by show 1 ≤ sizeLine; decide), fun e1 he1 => ?_⟩
      have t5 := same_new (o := .lst [.int pl]) (Same.refl H4) he1
      refine ⟨lo, e1, true, n, ms', ss', [pl], rfl, O4.at.same t5, GG', upd_same, by show 1 ≤ 1000; decide, ⟨ms' ++ [pl], by rw [List.length_append]; show ms'.length + 1 ≤ 400; omega, fun z h => List.mem_append.mpr (.inl h), fun z h => List.mem_append.mpr (.inr h)⟩, (fun z hz => by rw [List.mem_singleton.mp hz]; omega), fun x3 H5 m3 b3 s5 g3 e3 f3 row3 => ?_⟩
      have nxt := put_one GG' g3 eF rg.1 rg.2 e3 f3
      have s45 := t5.trans s5
      refine ⟨_, rfl, _, rfl, _, rfl, c, _, _, _, rfl, rfl, SqL.of (s45 _ _ (B4 _ _ hc3 nca)), at0, ?_⟩
      refine ⟨x3, t, n, l, m, g, pp, _, _, rfl, ⟨row3.at, s45 _ _ (B4 _ _ ht3 nta), g3, S, big2⟩, p0, pn, fun H6 s6 => ?_⟩
      rw [nxt]
      refine ⟨_, rfl, rfl, ?_⟩
      have fin := q H6 ((J4.same s45).same s6) (B24.trans (But.of (s45.trans s6)))
      have ee : decide (V.int pl = V.int pl) = true := decide_eq_true rfl
      rw [ee]
      exact fin
    · refine ifF (decide_eq_false cl) ?_
      exact q H3 (J3.mono (by omega)) B23
  · refine ifF (decide_eq_false (by rw [wlen]; omega)) ?_
    refine ifF rfl ?_
    exact q H3 (J3.mono (by omega)) B23
end
end Cw
namespace Cw
open PySem L2
/-- a comprehension that takes the places of some pairs -/
theorem lc_selI {K : PySem.W.Frag} {a D : Addr} {ts : List Addr} {prs : List (Int × Int)} {g : TG} {tt : TT} {te : TE} {vs : List Nat} {σ : St} {H1 : Hp} {Qd : Hp → Prop} (f : Int × Int → Bool)
    (ha : H1 a = some (.lst (ts.map V.ref))) (hp : PrAt H1 ts prs) (hD : H1 D = none) (few : prs.length ≤ 999)
    (step : ∀ (u : Addr) (z : Int × Int) (H : Hp) (A : V → Hp → Prop) (B : Hp → Prop), Same H1 H → H u = some (.tup [.int z.1, .int z.2]) → (f z = true → A (.int z.1) H) → (f z = false → B H) →
      g (.ref u) (wipe σ vs) H fun σ2 H2 => wipe σ2 vs = wipe σ vs ∧ tt σ2 H2 fun b H3 => if b = true then te σ2 H3 fun y H4 => A y H4 else B H3)
    (fin : ∀ (H : Hp), Same H1 H → IL H D ((prs.filter f).map (·.1)) → Qd H) :
    ∃ W : Nat → Nat → Hp → Prop, (∃ m, W 0 m (upd H1 D (HO.lst []))) ∧ ∀ (i m : Nat) (H : Hp), W i m H → (Itl K a).stop i H ∧ Qd H ∨ (Itl K a).go i H ∧ ∃ Nx : Hp → Prop, (∀ H', Nx H' → ∃ m', m' < m ∧ W (i + 1) m' H') ∧
      ∀ (x : V) (H' : Hp), (Itl K a).yld i H x H' → g x (wipe σ vs) H' fun σ2 H2 => wipe σ2 vs = wipe σ vs ∧ tt σ2 H2 fun b H3 => if b = true then te σ2 H3 fun y H4 => ∃ acc, H4 D = some (HO.lst acc) ∧ acc.length < sizeLine ∧ Nx (upd H4 D (HO.lst (acc ++ [y]))) else Nx H3 := by
  have lt := hp.len
  refine lc_list (K := K) (a := a) (xs := ts.map V.ref) (fun i H' => Same H1 H' ∧ IL H' D (((prs.take i).filter f).map (·.1))) ⟨same_new (Same.refl H1) hD, upd_same⟩ (fun i H' _ z => SqL.of (z.1 _ _ ha)) ?_ ?_
  · rintro i x H' hx ⟨s1, hE⟩
    obtain ⟨u, z, rfl, hz, hu⟩ := hp.get hx
    have hil := ref_at hx
    have tk : ((prs.take (i + 1)).filter f).map (·.1) = ((prs.take i).filter f).map (·.1) ++ (if f z = true then [z.1] else []) := by
      rw [List.take_add_one, hz, List.filter_append, List.map_append]
      congr 1
      show (List.filter f [z]).map _ = _
      rw [List.filter_cons]
      split <;> rfl
    have ln : ((prs.take i).filter f).length ≤ 999 := by
      have z1 := List.length_filter_le f (prs.take i)
      rw [List.length_take] at z1
      omega
    refine step u z H' _ _ s1 (s1 _ _ hu) (fun c => ?_) (fun c => ?_)
    · refine ⟨_, hE, by rw [List.length_map, List.length_map]; exact small1000 (by omega), same_put s1 hD, ?_⟩
      show upd _ _ _ D = _
      rw [upd_same, ints_app, tk, if_pos c]
    · refine ⟨s1, ?_⟩
      show H' D = _
      rw [hE, tk, if_neg (by rw [c]; exact Bool.false_ne_true), List.append_nil]
  · rintro H ⟨s1, hE⟩
    rw [List.length_map, lt, List.take_length] at hE
    exact fin H s1 hE
theorem rest_a {C R : Addr → Hp → Prop} {G : Prop} (a : (∀ D H7, C D H7 → R D H7) → G) (b : ∀ D H7, C D H7 → R D H7) : G := a b
def spRi : Sp := fun vs H Q _ => ∃ (a p : Addr) (k : Nat) (n l m g st : Int) (prs : List (Int × Int)), vs = [.ref a, .ref p, .int st] ∧ JarAt H a (k + 127) ∧ RawS H p n prs l m g ∧ GoodP n prs ∧ SetOk l m g ∧ n ≤ 40 * l ∧ g ≤ 10000000000000000000000000000 ∧ 0 ≤ st ∧ st ≤ n ∧ ∀ H', JarAt H' a k → But H H' a → Q (.bl true) H'
section
variable {P : Program} {w : World} {K : PySem.W.Frag} {mg : Str → Option Value} {base : Heap}
theorem ok_right {f C fD fH fO fN fW fX fY pL fL pM fM pS fSs : Addr} {fd fdD fdH fdO fdN fdW fdX fdY dL dM dS : FuncData} (F : Fun K "_law_right" "_law_right" sRight f fd) (T : Bl mg) (R : Cl K mg C) (Gs : Gets P w K mg base C pL fL pM fM pS fSs dL dM dS)
    (gD : mg "_law_dip" = some (.ref fD)) (kD : PySem.W.keepIn K (.ref fD) = true) (bD : Binds K fdD ["jar", "many"] []) (GD : FnOk P w K mg base CX0 1 fD fdD ["jar", "many"] spDip)
    (gH : mg "_law_heap" = some (.ref fH)) (kH : PySem.W.keepIn K (.ref fH) = true) (bH : Binds K fdH ["raw"] []) (GH : FnOk P w K mg base CX0 7 fH fdH ["raw"] (spHeap C))
    (gO : mg "_law_hidden" = some (.ref fO)) (kO : PySem.W.keepIn K (.ref fO) = true) (bO : Binds K fdO ["jar", "raw", "cuts_here"] []) (GO : FnOk P w K mg base CX0 2 fO fdO ["jar", "raw", "cuts_here"] spHid)
    (gN : mg "next_cut" = some (.ref fN)) (kN : PySem.W.keepIn K (.ref fN) = true) (bN : Binds K fdN ["row", "settings", "place"] []) (GN : FnOk P w K mg base CX0 4 fN fdN ["row", "settings", "place"] (spNext C))
    (gW : mg "walk" = some (.ref fW)) (kW : PySem.W.keepIn K (.ref fW) = true) (bW : Binds K fdW ["row", "settings", "start"] []) (GW : FnOk P w K mg base CX0 5 fW fdW ["row", "settings", "start"] (spWalk C))
    (mX : Meth K C "with_marks" fX) (bX : Binds K fdX ["self", "places", "is_strict"] []) (GX : FnOk P w K mg base CX0 7 fX fdX ["self", "places", "is_strict"] (spWith C))
    (mY : Meth K C "without_marks" fY) (bY : Binds K fdY ["self", "places"] []) (GY : FnOk P w K mg base CX0 7 fY fdY ["self", "places"] (spWout C)) :
    FnOk P w K mg base CX0 8 f fd ["jar", "raw", "start"] spRi := by
  refine F.ok scRi (fun vs H Q E h => ?_) (fun cdv A outer s H vs Q E hr h => ?_)
  · obtain ⟨a, p, k, n, l, m, g, st, prs, rfl, _⟩ := h
    rfl
  · obtain ⟨a, p, k0, n, l, m, g, st, prs, rfl, J, ⟨lp, t, ts, hp, hl, hpr, ht⟩, G, S, big, gb, st0, stn, q⟩ := h
    have hr1 : Room 1 (A.deeper (PyProof.Rows.envOfC "_law_right" (defScope sRight) s.heap.objs.size f cdv)) := hr.mono (by decide)
    have hr2 : Room 2 (A.deeper (PyProof.Rows.envOfC "_law_right" (defScope sRight) s.heap.objs.size f cdv)) := hr.mono (by decide)
    have hr5 : Room 5 (A.deeper (PyProof.Rows.envOfC "_law_right" (defScope sRight) s.heap.objs.size f cdv)) := hr.mono (by decide)
    obtain ⟨tl, hTL, hQ⟩ := ri_tail (f := f) (cdv := cdv) (A := A) (outer := outer) (s := s) (H0 := H) (E := E) T R Gs gD kD bD GD gN kN bN GN gW kW bW GW mX bX GX hr
    refine ⟨_, pss_cons (ps_par (i := 3) (j := 4) rfl scRi.nd rfl rfl (by decide) rfl rfl (pa_cons (pe_call GH hr rfl gH kH bH .nil pass0 (pa_cons (pv 1) pa_nil)) (pa_cons (pe_ix ix_tup (pv 1) pe_int (fun _ _ => rfl)) pa_nil)) (by rfl))
      (pss_cons (ps_set (i := 5) scRi.nd rfl (Or.inr rfl) (pe_call GW hr5 rfl gW kW bW .nil pass0 (pa_cons (pv 3) (pa_cons (pv 4) (pa_cons (pv 2) pa_nil)))))
      (pss_cons (ps_set (i := 6) scRi.nd rfl (Or.inl rfl) (pe_meth (pv 3) R.cl mY GY hr bY .nil pass0 (pa_cons
          (pe_lc (own := [("spot", 12), ("kind", 14)]) (g := gTup K 2 (gCons (gName 12) (gCons (gName 14) gNil))) rfl scRi.nd (pi_list (pe_ix ix_tup (pv 1) pe_int (fun _ _ => rfl))) (blkOk_by (own := [("spot", 12), ("kind", 14)]) (N := NRi) (sc := defScope sRight) (by decide +kernel))
            (fun _ _ _ _ _ => pg_tup rfl (pgs_cons (pg_name (i := 12) scRi.nd rfl (Or.inl rfl)) (pgs_cons (pg_name (i := 14) scRi.nd rfl (Or.inl rfl)) pgs_nil)))
            (fun _ _ _ _ _ => pts_one (pt_cmpR (show OpR _ (compareOp .NotIn) (rIn K true) from op_notIn_seq) (pv 12) (pv 5) (by rfl))) (fun _ _ _ _ _ => pv 12)) pa_nil)))
      (pss_cons (ps_if (pt_cmpR (op_neD hr.units) (pe_call GW hr5 rfl gW kW bW .nil pass0 (pa_cons (pv 6) (pa_cons (pv 4) (pa_cons (pv 2) pa_nil)))) (pv 5) (nomark _)) (pss_one (ps_ret pe_bl)) pss_nil)
      (pss_cons (ps_asg (pe_call GO hr2 rfl gO kO bO .nil pass0 (pa_cons (pv 0) (pa_cons (pv 1) (pa_cons (pv 5) pa_nil)))) (pg_tup (by rfl) (pgs_cons (pg_name (i := 7) scRi.nd rfl (Or.inl rfl)) (pgs_cons (pg_name (i := 8) scRi.nd rfl (Or.inl rfl)) pgs_nil))))
      (pss_cons (ps_set (i := 9) scRi.nd rfl (Or.inl rfl) (pe_ifExp (pt_cmpR op_gt (pv 2) pe_int (nomark _))
          (pe_lc (own := [("turn", 15)]) (g := gName 15) (tt := tYes) rfl scRi.nd (pi_range1 (by rfl) T.range (pa_cons pe_int pa_nil)) (blkOk_by (own := [("turn", 15)]) (N := NRi) (sc := defScope sRight) (by decide +kernel))
            (fun _ _ _ _ _ => pg_name (i := 15) scRi.nd rfl (Or.inl rfl)) (fun _ _ _ _ _ => pts_nil) (fun _ _ _ _ _ => pe_op op_add pe_int (pe_call GD hr1 rfl gD kD bD .nil pass0 (pa_cons (pv 0) (pa_cons (pv 2) pa_nil)))))
          (pe_lst pa_nil)))
      (pss_cons (ps_setLc (i := 9) (own := [("spot", 12)]) (g := gName 12) rfl scRi.nd rfl rfl (sw_true rfl rfl rfl (by decide +kernel)) (pi_list (pv 9)) (blkOk_by (own := [("spot", 12)]) (N := NRi) (sc := defScope sRight) (by decide +kernel))
            (fun _ _ _ _ _ => pg_name (i := 12) scRi.nd rfl (Or.inl rfl)) (fun _ _ _ _ _ => pts_one (pt_cmpR op_lt (pv 12) (pv 2) (nomark _))) (fun _ _ _ _ _ => pv 12))
      hTL)))))), ?_⟩
    have z5 : (2 : Int) ^ 120 = 1329227995784915872903807060280344576 := by decide +kernel
    have n1 := G.pos
    have l1 := S.l1
    have lm := S.lm
    have mg' := S.mg
    have lt := hpr.len
    have gl := G.len
    have GG := G.good
    have big2 : n ≤ 200 * l := by omega
    have lms : (marksOf prs).length = prs.length := List.length_map ..
    refine ⟨_, rfl, p, n, prs, rfl, ⟨lp, t, ts, hp, hl, hpr⟩, G, fun mp H1 s1 row => ?_⟩
    refine ⟨_, rfl, p, _, _, _, rfl, rfl, SqT.of (s1 _ _ hp), at_of2 (j := 2) rfl rfl, _, _, rfl, ?_⟩
    have J1 := J.same s1
    have O1 := row.off J
    have ht1 := s1 _ _ ht
    have ST := nx_stp (g := g) GG S
    try dsimp only [L2.start, List.set, List.map, List.append, List.replicate, List.length]
    refine ⟨_, rfl, _, rfl, _, rfl, mp, t, n, l, m, g, st, _, _, rfl, ⟨O1.at, ht1, GG, S, big2⟩, st0, stn, fun c H2 k s2 n2 wk i2 => ?_⟩
    have nca : c ≠ a := (J1.ne n2).symm
    have k40 := kc_few40 ST st0 big wk
    have s12 := s1.trans s2
    try dsimp only [L2.start, List.set, List.map, List.append, List.replicate, List.length]
    -- the marks that are no cuts are taken out
    obtain ⟨dx, _, _, ho, _, _, _, _⟩ := O1.same s2
    refine ⟨_, rfl, mp, dx, _, rfl, ho, fl_no _ _ _ (by decide +kernel) (by decide +kernel) (by decide +kernel), ?_⟩
    refine ⟨_, rfl, p, _, _, _, rfl, rfl, SqT.of (s12 _ _ hp), at_of2 (j := 1) rfl rfl, lp, rfl, ⟨_, SqL.of (s12 _ _ hl)⟩, fun D hD => ?_⟩
    refine lc_selI (fun q => !decide (q.1 ∈ wl (nx n (marksOf prs) (strictOf prs) l m g) n st k)) (s12 _ _ hl) (hpr.imp fun _ _ h => s12 _ _ h) hD (by omega) ?_ ?_
    · intro v z H' A B sx hu ka kb
      refine ⟨v, _, rfl, SqT.of hu, rfl, _, _, rfl, _, _, rfl, rfl, rfl, ?_⟩
      refine ⟨_, rfl, _, rfl, c, _, rfl, .inl (SqL.of (sx _ _ i2)), rfl, flat_il, _, rfl, ?_⟩
      have e : inV (.int z.1) ((wl (nx n (marksOf prs) (strictOf prs) l m g) n st k).map V.int) = decide (z.1 ∈ wl (nx n (marksOf prs) (strictOf prs) l m g) n st k) := inV_il
      by_cases d : z.1 ∈ wl (nx n (marksOf prs) (strictOf prs) l m g) n st k
      · refine ifF (by show (!inV (.int z.1) _) = false; rw [e, decide_eq_true d]; rfl) ?_
        exact kb (by simp [d])
      · refine ifT (by show (!inV (.int z.1) _) = true; rw [e, decide_eq_false d]; rfl) ?_
        exact ⟨_, rfl, ka (by simp [d])⟩
    intro H3 s3 k3
    generalize hgs : (prs.filter fun q => !decide (q.1 ∈ wl (nx n (marksOf prs) (strictOf prs) l m g) n st k)).map (·.1) = gs at k3
    have gsl : gs.length ≤ 1000 := by
      rw [← hgs, List.length_map]
      have z := List.length_filter_le (fun q : Int × Int => !decide (q.1 ∈ wl (nx n (marksOf prs) (strictOf prs) l m g) n st k)) prs
      omega
    have gsr : ∀ z ∈ gs, 1 ≤ z ∧ z ≤ n - 1 := fun z hz => by
      rw [← hgs] at hz
      obtain ⟨u, hu, rfl⟩ := List.mem_map.mp hz
      have := G.rng u (List.mem_filter.mp hu).1
      exact ⟨this.1, this.2.1⟩
    have gsn : ∀ z ∈ gs, z ∉ wl (nx n (marksOf prs) (strictOf prs) l m g) n st k := fun z hz h => by
      rw [← hgs] at hz
      obtain ⟨u, hu, rfl⟩ := List.mem_map.mp hz
      have z := (List.mem_filter.mp hu).2
      rw [decide_eq_true h] at z
      cases z
    have s13 := s12.trans s3
    refine ⟨mp, D, n, _, _, gs, rfl, ((O1.same s2).same s3).at, GG, k3, gsl, gsr, fun lo H4 s4 row4 => ?_⟩
    have GL := good_off (gs := gs) GG
    have O4 := row4.off (J.same s13)
    have s14 := s13.trans s4
    have eL := out_same GG GL wk gsn
    obtain ⟨wkL, wlL⟩ := wk_alike wk eL
    try dsimp only [L2.start, List.set, List.map, List.append, List.replicate, List.length]
    refine ⟨_, rfl, _, rfl, _, rfl, lo, t, n, l, m, g, st, _, _, rfl, ⟨row4.at, s14 _ _ ht, GL, S, big2⟩, st0, stn, fun w5 H5 k5 s5 n5 wk5 i5 => ?_⟩
    rw [wk5.one wkL, wlL] at i5
    have i25 := s5 _ _ (s4 _ _ (s3 _ _ i2))
    refine ⟨_, rfl, _, _, dp_il i5, dp_il i25, shape_il _, shape_il _, _, rfl, ?_⟩
    refine ifF (by rw [eqv_il]; rfl) ?_
    have s15 := s14.trans s5
    have J5 : JarAt H5 a (k0 + 7 + 3 * k) := (J.same s15).mono (by omega)
    have O1' := (((O1.same s2).same s3).same s4).same s5
    have O4' := O4.same s5
    have ht5 := s15 _ _ ht
    have hp5 := s15 _ _ hp
    have lO : (offM (marksOf prs) gs).length ≤ 100 := by
      have z := List.length_filter_le (fun z => !decide (z ∈ gs)) (marksOf prs)
      have y : (offM (marksOf prs) gs).length = ((marksOf prs).filter fun z => !decide (z ∈ gs)).length := rfl
      omega
    clear hgs k3 hD i5 n5 wk5 row4 O4 O1 row s2 s3 s4 s5 s12 s13 s14 J1 ht1 i2 n2
    try dsimp only [L2.start, List.set, List.map, List.append, List.replicate, List.length]
    -- hidden marks
    refine ⟨_, rfl, _, rfl, _, rfl, a, p, c, lp, t, k0 + 7, k, _, n, st, l, m, g, rfl, J5, hp5, ht5, i25, nca, wk, ST, S, gb, fun u x y H6 as ps hu hx hy nxa nya las lps hA hP J6 B6 => ?_⟩
    refine ⟨u, _, rfl, SqT.of hu, rfl, _, _, rfl, _, _, rfl, rfl, ?_⟩
    have B06 : But H H6 a := (But.of s15).trans B6
    try dsimp only [L2.start, List.set, List.map, List.append, List.replicate, List.length]
    apply rest_a (C := fun D H7 => ∃ fs : List Int, IL H7 D fs ∧ D ≠ a ∧ fs.length ≤ 3 ∧ (∀ z ∈ fs, 1 ≤ z) ∧ JarAt H7 a (k0 + 4) ∧ But H6 H7 a)
    · intro rest
      refine ⟨_, rfl, _, _, rfl, rfl, _, rfl, ?_⟩
      by_cases c0 : st > 0
      · refine ifT (decide_eq_true c0) ?_
        refine ⟨_, rfl, by decide, by decide, fun D1 hD1 => ?_⟩
        have nD1 : D1 ≠ a := (J6.ne hD1).symm
        refine lc_range (lo := 0) (n := 3) (fun j H' => ∃ fs : List Int, JarAt H' a (k0 + 4 + (3 - j)) ∧ But H6 H' a ∧ IL H' D1 fs ∧ fs.length = j ∧ ∀ x ∈ fs, 1 ≤ x) ⟨[], J6.put nD1.symm, (But.refl H6 a).new hD1, upd_same, rfl, fun _ h => (nomatch h)⟩ ?_ ?_
        · rintro j H' hj ⟨fs, K1, C1, hf, hfl, hrg⟩
          have Kd : JarAt H' a (k0 + 4 + (3 - (j + 1)) + 1) := K1.mono (by omega)
          refine ⟨rfl, ?_⟩
          unfold tYes
          refine iteT ?_
          refine ⟨_, rfl, _, rfl, a, _, st, rfl, Kd, by omega, by omega, fun v G1 v0 v1 K2 C2 => ⟨_, _, rfl, rfl, ?_⟩⟩
          refine ⟨_, C2 _ _ hf nD1, by rw [List.length_map]; exact small1000 (by omega), fs ++ [1 + v], K2.put nD1.symm, (C1.trans C2).put hD1, ?_, by rw [List.length_append, hfl]; rfl, fun x hx => ?_⟩
          · show upd _ _ _ D1 = _
            rw [upd_same, ints_app]
          · rcases List.mem_append.mp hx with hx | hx
            · exact hrg x hx
            · rw [List.mem_singleton.mp hx]
              omega
        rintro H7 ⟨fs, K1, C1, hf, hfl, hrg⟩
        exact rest D1 H7 ⟨fs, hf, nD1, by omega, hrg, K1, C1⟩
      · refine ifF (decide_eq_false c0) ?_
        refine ⟨Nat.zero_le _, fun D1 hD1 => ?_⟩
        have nD1 : D1 ≠ a := (J6.ne hD1).symm
        exact rest D1 _ ⟨[], upd_same, nD1, Nat.zero_le _, (fun _ h => (nomatch h)), (J6.put nD1.symm).mono (by omega), (But.refl H6 a).new hD1⟩
    intro D1 H7 ⟨fs, hf, nD1, lfs, fr, J7, B7⟩
    try dsimp only [L2.start, List.set, List.map, List.append, List.replicate, List.length]
    refine ⟨_, rfl, D1, rfl, ⟨_, SqL.of hf⟩, fun D2 hD2 => ?_⟩
    have nD2 : D2 ≠ a := (J7.ne hD2).symm
    refine lc_fil (K := K) (fun z => decide (z < st)) hf hD2 (by omega) ?_ ?_
    · intro z H' A B sx ka kb
      refine ⟨rfl, ?_⟩
      refine ⟨_, rfl, _, rfl, _, _, rfl, rfl, _, rfl, ?_⟩
      by_cases c0 : z < st
      · refine ifT (decide_eq_true c0) ?_
        exact ⟨_, rfl, ka (decide_eq_true c0)⟩
      · exact ifF (decide_eq_false c0) (kb (decide_eq_false c0))
    intro H8 s8 k8
    have B78 : But H6 H8 a := B7.trans (But.of s8)
    have J8 := J7.same s8
    have B58 : But H5 H8 a := B6.trans B78
    have lb : (fs.filter fun z => decide (z < st)).length ≤ 3 := Nat.le_trans (List.length_filter_le _ _) lfs
    try dsimp only [L2.start, List.set, List.map, List.append, List.replicate, List.length]
    refine hQ Q H8 a p mp t c lo x y D2 k0 k n l m g st _ _ _ _ as ps _ J8 (O1'.but J5 B58) (O4'.but J5 B58) (B58 _ _ ht5 (J5.no ht5 fun _ _ _ z => nomatch z)) GG GL (by omega) lO S big gb st0 stn wk eL (B58 _ _ i25 nca) nca
      (B78 _ _ hx nxa) nxa (B78 _ _ hy nya) nya k8 nD2 (by omega) (by omega) lb hA hP (fun z hz => ?_) fun H' J9 B9 => q H' J9 ((But.of s15).trans (B58.trans B9))
    obtain ⟨h1, h2⟩ := List.mem_filter.mp hz
    exact ⟨fr z h1, of_decide_eq_true h2⟩
end
end Cw
namespace Cw
open PySem L2
abbrev NL : List Str := ["script", "k", "jar", "turn", "raw"]
def spLaw (K : PySem.W.Frag) : Sp := fun vs H Q _ => ∃ (a : Addr) (ns : List Int), vs = [.ref a] ∧ SqL K H a (ns.map V.int) ∧ ns.length ≤ 63 ∧ ∀ H', Q (.bl true) H'
/-- all that is known of a raw row -/
structure RawG (H : Hp) (r : Addr) : Prop where
  ex : ∃ (n l m g : Int) (prs : List (Int × Int)), RawS H r n prs l m g ∧ GoodP n prs ∧ SetOk l m g ∧ n ≤ 40 * l ∧ g ≤ 10000000000000000000000000000
theorem RawG.but {H H' : Hp} {r a : Addr} {k : Nat} (G : RawG H r) (J : JarAt H a k) (B : But H H' a) : RawG H' r := by
  obtain ⟨n, l, m, g, prs, h, x⟩ := G.ex
  exact ⟨n, l, m, g, prs, h.but J B, x⟩
section
variable {P : Program} {w : World} {K : PySem.W.Frag} {mg : Str → Option Value} {base : Heap}
theorem scL : FnScope NL ["script"] (defScope sLaw) := ⟨rfl, rfl, rfl, by decide +kernel, rfl, by decide +kernel, by decide +kernel⟩
theorem ok_law {f fJ fD fS fT fA : Addr} {fd fdJ fdD fdS fdT fdA : FuncData} (F : Fun K "law" "law" sLaw f fd) (T : Bl mg)
    (gJ : mg "_law_jar" = some (.ref fJ)) (kJ : PySem.W.keepIn K (.ref fJ) = true) (bJ : Binds K fdJ ["script", "k"] []) (GJ : FnOk P w K mg base CX0 1 fJ fdJ ["script", "k"] (spJar K))
    (gD : mg "_law_dip" = some (.ref fD)) (kD : PySem.W.keepIn K (.ref fD) = true) (bD : Binds K fdD ["jar", "many"] []) (GD : FnOk P w K mg base CX0 1 fD fdD ["jar", "many"] spDip)
    (gS : mg "_law_small" = some (.ref fS)) (kS : PySem.W.keepIn K (.ref fS) = true) (bS : Binds K fdS ["jar", "most"] []) (GS : FnOk P w K mg base CX0 3 fS fdS ["jar", "most"] spSmall)
    (gT : mg "_law_great" = some (.ref fT)) (kT : PySem.W.keepIn K (.ref fT) = true) (bT : Binds K fdT ["jar", "most"] []) (GT : FnOk P w K mg base CX0 3 fT fdT ["jar", "most"] spGreat)
    (gA : mg "_law_right" = some (.ref fA)) (kA : PySem.W.keepIn K (.ref fA) = true) (bA : Binds K fdA ["jar", "raw", "start"] []) (GA : FnOk P w K mg base CX0 8 fA fdA ["jar", "raw", "start"] spRi) :
    FnOk P w K mg base CX0 9 f fd ["script"] (spLaw K) := by
  refine F.ok scL (fun vs H Q E h => ?_) (fun cdv A outer s H vs Q E hr h => ?_)
  · obtain ⟨a, ns, rfl, _⟩ := h
    rfl
  · obtain ⟨a, ns, rfl, hS, hl, q⟩ := h
    have hr1 : Room 1 (A.deeper (PyProof.Rows.envOfC "law" (defScope sLaw) s.heap.objs.size f cdv)) := hr.mono (by decide)
    have hr3 : Room 3 (A.deeper (PyProof.Rows.envOfC "law" (defScope sLaw) s.heap.objs.size f cdv)) := hr.mono (by decide)
    refine ⟨_, pss_cons (ps_for PassesOwn.never rfl (pi_range1 (by rfl) T.range (pa_cons (pe_callB (call_max2 rfl) (by rfl) T.max (by decide +kernel) (pa_cons pe_int (pa_cons (pe_callB (call_min2 rfl) (by rfl) T.min (by decide +kernel) (pa_cons pe_int (pa_cons (pe_callB call_len_seq (by rfl) T.len PySem.boot_len (pa_cons (pv 0) pa_nil)) pa_nil))) pa_nil))) pa_nil)) (pg_name (i := 1) scL.nd rfl (Or.inl rfl))
        (pss_cons (ps_set (i := 2) scL.nd rfl (Or.inl rfl) (pe_call GJ hr1 rfl gJ kJ bJ .nil pass0 (pa_cons (pv 0) (pa_cons (pv 1) pa_nil))))
        (pss_one (ps_for PassesOwn.never rfl (pi_range1 (by rfl) T.range (pa_cons pe_int pa_nil)) (pg_name (i := 3) scL.nd rfl (Or.inl rfl))
          (pss_one (ps_for PassesOwn.never rfl (pi_list (pe_lst (pa_cons (pe_call GS hr3 rfl gS kS bS .nil pass0 (pa_cons (pv 2) (pa_cons pe_int pa_nil))) (pa_cons (pe_call GT hr3 rfl gT kT bT .nil pass0 (pa_cons (pv 2) (pa_cons pe_int pa_nil))) pa_nil)))) (pg_name (i := 4) scL.nd rfl (Or.inl rfl))
            (pss_one (ps_if (PW.pt (pw_or (pt_not (pt_val (pe_call GA hr rfl gA kA bA .nil pass0 (pa_cons (pv 2) (pa_cons (pv 4) (pa_cons pe_int pa_nil))))))
                (pw_or1 (pt_not (pt_val (pe_call GA hr rfl gA kA bA .nil pass0 (pa_cons (pv 2) (pa_cons (pv 4) (pa_cons (pe_call GD hr1 rfl gD kD bD .nil pass0 (pa_cons (pv 2) (pa_cons (pe_op op_add (pe_ix ix_tup (pv 4) pe_int (fun _ _ => rfl)) pe_int) pa_nil))) pa_nil))))))))) (pss_one (ps_ret pe_bl)) pss_nil))))))))
      (pss_one (ps_ret pe_bl)), ?_⟩
    have z5 : (2 : Int) ^ 120 = 1329227995784915872903807060280344576 := by decide +kernel
    refine ⟨_, rfl, a, _, rfl, .inl hS, _, _, rfl, _, _, rfl, _, rfl, ?_, ?_, for_range (lo := 0) (n := Int.toNat _) (fun _ σ H' => ∃ v1 v2 v3 v4, σ = [some (.ref a), v1, v2, v3, v4] ∧ Same H H') ⟨_, _, _, _, rfl, Same.refl H⟩ ?_ ?_⟩
    · rw [List.length_map]
      split <;> split <;> omega
    · rw [List.length_map]
      split <;> split <;> omega
    · rintro i σ H1 hi ⟨v1, v2, v3, v4, rfl, s1⟩
      have hil : i ≤ ns.length := by
        rw [List.length_map] at hi
        split at hi <;> split at hi <;> omega
      refine ⟨_, rfl, _, rfl, a, ns, i, by rw [Int.zero_add]; rfl, hS.ext s1, hil, hl, fun p H2 s2 np J2 => ?_⟩
      have p0 : H p = none := s1.free np
      have s12 := s1.trans s2
      refine ⟨_, rfl, by decide, by decide, for_range (lo := 0) (n := 3) (fun t σ H' => ∃ v1 v3 v4, σ = [some (.ref a), v1, some (.ref p), v3, v4] ∧ JarAt H' p (690 * (3 - t)) ∧ Same H H') ⟨_, _, _, rfl, J2.mono (by omega), s12⟩ ?_ ?_⟩
      · rintro t σ H3 ht ⟨v1, v3, v4, rfl, J3, s3⟩
        have Jd : JarAt H3 p (690 * (3 - (t + 1)) + 690) := J3.mono (by omega)
        generalize 690 * (3 - (t + 1)) = kk at Jd ⊢
        refine ⟨_, rfl, p, kk + 630, 40, rfl, by decide, by decide, Jd, fun r1 H4 n l m g prs n40 G l39 hR S big gb J4 B4 => ?_⟩
        refine ⟨_, rfl, p, kk + 510, 40, rfl, by decide, by decide, J4, fun r2 H5 n2 l2 m2 g2 prs2 G2 l16 hR2 S2 big2 gb2 J5 B5 => ?_⟩
        have X1 : RawG H5 r1 := ⟨n, l, m, g, prs, hR.but J4 B5, G, S, big, gb⟩
        have X2 : RawG H5 r2 := ⟨n2, l2, m2, g2, prs2, hR2, G2, S2, big2, gb2⟩
        have s5 := same_but s3 p0 (B4.trans B5)
        refine ⟨(by show 2 ≤ sizeLine; decide), fun L hL => ?_⟩
        have J6 := J5.put (o := .lst [.ref r1, .ref r2]) (J5.ne hL)
        have B6 := (But.refl H5 p).new (o := .lst [.ref r1, .ref r2]) hL
        have Y1 := X1.but J5 B6
        have Y2 := X2.but J5 B6
        have u6 : upd H5 L (.lst [.ref r1, .ref r2]) L = some (.lst [.ref r1, .ref r2]) := upd_same
        have s6 := same_but s5 p0 B6
        generalize upd H5 L (.lst [.ref r1, .ref r2]) = H6 at J6 Y1 Y2 u6 s6 ⊢
        refine ⟨L, rfl, ⟨_, SqL.of u6⟩, for_list (xs := [.ref r1, .ref r2]) (fun i σ H' => ∃ v1 v3 v4, σ = [some (.ref a), v1, some (.ref p), v3, v4] ∧ JarAt H' p (kk + 255 * (2 - i)) ∧ Same H H' ∧ RawG H' r1 ∧ RawG H' r2 ∧ H' L = some (.lst [.ref r1, .ref r2])) ⟨_, _, _, rfl, J6, s6, Y1, Y2, u6⟩ (fun i σ H' _ z => by obtain ⟨_, _, _, _, _, _, _, _, z⟩ := z; exact SqL.of z) ?_ ?_⟩
        · rintro i x σ H7 hx ⟨v1, v3, v4, rfl, J7, s7, Z1, Z2, u7⟩
          have ix : i < 2 := (List.getElem?_eq_some_iff.mp hx).1
          obtain ⟨r, rfl, ZR⟩ : ∃ r, x = V.ref r ∧ RawG H7 r := by
            have mm := List.mem_of_getElem? hx
            simp only [List.mem_cons, List.not_mem_nil, or_false] at mm
            rcases mm with rfl | rfl
            · exact ⟨_, rfl, Z1⟩
            · exact ⟨_, rfl, Z2⟩
          have Jx : JarAt H7 p (kk + 255 * (2 - (i + 1)) + 128 + 127) := J7.mono (by omega)
          generalize kk + 255 * (2 - (i + 1)) = kj at Jx ⊢
          have L7 : L ≠ p := J7.no u7 fun _ _ _ z => by cases z
          obtain ⟨n, l, m, g, prs, hR, G, S, big, gb⟩ := ZR.ex
          have n1 := G.pos
          have mg' := S.mg
          have lm := S.lm
          refine ⟨_, rfl, _, rfl, p, r, kj + 128, n, l, m, g, 0, prs, rfl, Jx, hR, G, S, big, gb, by omega, by omega, fun H8 J8 B8 => ⟨_, rfl, ?_⟩⟩
          refine ifF rfl ?_
          have hR8 := hR.but Jx B8
          obtain ⟨lp, t9, ts, hp, hlp, hpr, ht9⟩ := id hR8
          refine ⟨_, rfl, _, rfl, _, rfl, _, rfl, r, _, _, _, rfl, rfl, SqT.of hp, at_of2 (j := 0) rfl rfl, _, _, rfl, rfl, p, kj + 127, n + 1, rfl, J8, by omega, by omega, fun v H9 v0 v1' J9 B9 => ?_⟩
          refine ⟨p, r, kj, n, l, m, g, v, prs, rfl, J9, hR8.but J8 B9, G, S, big, gb, v0, by omega, fun Ha Ja Ba => ⟨_, rfl, ?_⟩⟩
          refine ifF rfl ?_
          have BB := (B8.trans B9).trans Ba
          exact ⟨_, _, _, rfl, Ja, same_but s7 p0 BB, Z1.but J7 BB, Z2.but J7 BB, BB _ _ u7 L7⟩
        · rintro σ H7 ⟨v1, v3, v4, rfl, J7, s7, _, _, _⟩
          exact ⟨_, _, _, rfl, J7.mono (by omega), s7⟩
      · rintro σ H3 ⟨v1, v3, v4, rfl, J3, s3⟩
        exact ⟨_, _, _, _, rfl, s3⟩
    · rintro σ H1 ⟨v1, v2, v3, v4, rfl, s1⟩
      exact q H1
end
end Cw
namespace Cw
open PySem L2
/-! ## what the top has written -/
theorem all_mk {l : PySem.W.OpenLaw} {w : World} {K : PySem.W.Frag} {h : Heap} {mg : Str → Option Value} {fa : Addr} (X : K.In h) (G : h.Ns mainGlobals mg) (hfa : mg "law" = some (.ref fa))
    {C pL pM pS fII fAP fAA fAM fAS fCS fCP fCN fCZ fNX fWK fCW fST fCF fFM fCB fJR fDP fTH fSM fGT fHP fHI fRI fLW fIn fGl fGm fGs fCI fWM fWO : Addr} {tN tN2 : Tok} {restpL restpM restpS : List Value}
    {ocII kVII dcII pmII cdII ctII : Value} {odII anII : Option Addr} {slII : Array (Option Value)}
    {ocAP kVAP dcAP pmAP cdAP ctAP : Value} {odAP anAP : Option Addr} {slAP : Array (Option Value)}
    {ocAA kVAA dcAA pmAA cdAA ctAA : Value} {odAA anAA : Option Addr} {slAA : Array (Option Value)}
    {ocAM kVAM dcAM pmAM cdAM ctAM : Value} {odAM anAM : Option Addr} {slAM : Array (Option Value)}
    {ocAS kVAS dcAS pmAS cdAS ctAS : Value} {odAS anAS : Option Addr} {slAS : Array (Option Value)}
    {ocCS kVCS dcCS pmCS cdCS ctCS : Value} {odCS anCS : Option Addr} {slCS : Array (Option Value)}
    {ocCP kVCP dcCP pmCP cdCP ctCP : Value} {odCP anCP : Option Addr} {slCP : Array (Option Value)}
    {ocCN kVCN dcCN pmCN cdCN ctCN : Value} {odCN anCN : Option Addr} {slCN : Array (Option Value)}
    {ocCZ kVCZ dcCZ pmCZ cdCZ ctCZ : Value} {odCZ anCZ : Option Addr} {slCZ : Array (Option Value)}
    {ocNX kVNX dcNX pmNX cdNX ctNX : Value} {odNX anNX : Option Addr} {slNX : Array (Option Value)}
    {ocWK kVWK dcWK pmWK cdWK ctWK : Value} {odWK anWK : Option Addr} {slWK : Array (Option Value)}
    {ocCW kVCW dcCW pmCW cdCW ctCW : Value} {odCW anCW : Option Addr} {slCW : Array (Option Value)}
    {ocST kVST dcST pmST cdST ctST : Value} {odST anST : Option Addr} {slST : Array (Option Value)}
    {ocCF kVCF dcCF pmCF cdCF ctCF : Value} {odCF anCF : Option Addr} {slCF : Array (Option Value)}
    {ocFM kVFM dcFM pmFM cdFM ctFM : Value} {odFM anFM : Option Addr} {slFM : Array (Option Value)}
    {ocCB kVCB dcCB pmCB cdCB ctCB : Value} {odCB anCB : Option Addr} {slCB : Array (Option Value)}
    {ocJR kVJR dcJR pmJR cdJR ctJR : Value} {odJR anJR : Option Addr} {slJR : Array (Option Value)}
    {ocDP kVDP dcDP pmDP cdDP ctDP : Value} {odDP anDP : Option Addr} {slDP : Array (Option Value)}
    {ocTH kVTH dcTH pmTH cdTH ctTH : Value} {odTH anTH : Option Addr} {slTH : Array (Option Value)}
    {ocSM kVSM dcSM pmSM cdSM ctSM : Value} {odSM anSM : Option Addr} {slSM : Array (Option Value)}
    {ocGT kVGT dcGT pmGT cdGT ctGT : Value} {odGT anGT : Option Addr} {slGT : Array (Option Value)}
    {ocHP kVHP dcHP pmHP cdHP ctHP : Value} {odHP anHP : Option Addr} {slHP : Array (Option Value)}
    {ocHI kVHI dcHI pmHI cdHI ctHI : Value} {odHI anHI : Option Addr} {slHI : Array (Option Value)}
    {ocRI kVRI dcRI pmRI cdRI ctRI : Value} {odRI anRI : Option Addr} {slRI : Array (Option Value)}
    {ocLW kVLW dcLW pmLW cdLW ctLW : Value} {odLW anLW : Option Addr} {slLW : Array (Option Value)}
    {ocIn kVIn dcIn pmIn cdIn ctIn : Value} {odIn anIn : Option Addr} {slIn : Array (Option Value)}
    {ocGl kVGl dcGl pmGl cdGl ctGl : Value} {odGl anGl : Option Addr} {slGl : Array (Option Value)}
    {ocGm kVGm dcGm pmGm cdGm ctGm : Value} {odGm anGm : Option Addr} {slGm : Array (Option Value)}
    {ocGs kVGs dcGs pmGs cdGs ctGs : Value} {odGs anGs : Option Addr} {slGs : Array (Option Value)}
    {ocCI kVCI dcCI pmCI cdCI ctCI : Value} {odCI anCI : Option Addr} {slCI : Array (Option Value)}
    {ocWM kVWM dcWM pmWM cdWM ctWM : Value} {odWM anWM : Option Addr} {slWM : Array (Option Value)}
    {ocWO kVWO dcWO pmWO cdWO ctWO : Value} {odWO anWO : Option Addr} {slWO : Array (Option Value)}
    (aC : PySem.W.nsIn K mainGlobals "Row" = some (some (.ref C)))
    (aN : PySem.W.nsIn K mainGlobals "MOST_MARKS" = some (some (.int 400 tN)))
    (aN2 : PySem.W.nsIn K mainGlobals "MOST_PIECES" = some (some (.int 200 tN2)))
    (n_int : PySem.W.nsIn K mainGlobals "int" = some none)
    (n_bool : PySem.W.nsIn K mainGlobals "bool" = some none)
    (n_list : PySem.W.nsIn K mainGlobals "list" = some none)
    (n_tuple : PySem.W.nsIn K mainGlobals "tuple" = some none)
    (n_range : PySem.W.nsIn K mainGlobals "range" = some none)
    (n_len : PySem.W.nsIn K mainGlobals "len" = some none)
    (n_abs : PySem.W.nsIn K mainGlobals "abs" = some none)
    (n_all : PySem.W.nsIn K mainGlobals "all" = some none)
    (n_isi : PySem.W.nsIn K mainGlobals "isinstance" = some none)
    (n_zip : PySem.W.nsIn K mainGlobals "zip" = some none)
    (n_max : PySem.W.nsIn K mainGlobals "max" = some none)
    (n_min : PySem.W.nsIn K mainGlobals "min" = some none)
    (n_set : PySem.W.nsIn K mainGlobals "set" = some none)
    (n_sorted : PySem.W.nsIn K mainGlobals "sorted" = some none)
    (n_dict : PySem.W.nsIn K mainGlobals "dict" = some none)
    (aII : PySem.W.nsIn K mainGlobals "is_integer" = some (some (.ref fII)))
    (lII : K.lookup fII = some ⟨ocII, odII, .func (PySem.W.fnOf "is_integer" "is_integer" (defArgs sIsInt) (defBody sIsInt) (defScope sIsInt) .none kVII dcII pmII anII cdII ctII), slII⟩)
    (coII : PySem.W.codeIn K cdII "is_integer" = true)
    (kII : PySem.W.keepIn K (.ref fII) = true)
    (aAP : PySem.W.nsIn K mainGlobals "are_places" = some (some (.ref fAP)))
    (lAP : K.lookup fAP = some ⟨ocAP, odAP, .func (PySem.W.fnOf "are_places" "are_places" (defArgs sPlaces) (defBody sPlaces) (defScope sPlaces) .none kVAP dcAP pmAP anAP cdAP ctAP), slAP⟩)
    (coAP : PySem.W.codeIn K cdAP "are_places" = true)
    (kAP : PySem.W.keepIn K (.ref fAP) = true)
    (aAA : PySem.W.nsIn K mainGlobals "are_ascending" = some (some (.ref fAA)))
    (lAA : K.lookup fAA = some ⟨ocAA, odAA, .func (PySem.W.fnOf "are_ascending" "are_ascending" (defArgs sAsc) (defBody sAsc) (defScope sAsc) .none kVAA dcAA pmAA anAA cdAA ctAA), slAA⟩)
    (coAA : PySem.W.codeIn K cdAA "are_ascending" = true)
    (kAA : PySem.W.keepIn K (.ref fAA) = true)
    (aAM : PySem.W.nsIn K mainGlobals "are_marks" = some (some (.ref fAM)))
    (lAM : K.lookup fAM = some ⟨ocAM, odAM, .func (PySem.W.fnOf "are_marks" "are_marks" (defArgs sMarks) (defBody sMarks) (defScope sMarks) .none kVAM dcAM pmAM anAM cdAM ctAM), slAM⟩)
    (coAM : PySem.W.codeIn K cdAM "are_marks" = true)
    (kAM : PySem.W.keepIn K (.ref fAM) = true)
    (aAS : PySem.W.nsIn K mainGlobals "are_some_of" = some (some (.ref fAS)))
    (lAS : K.lookup fAS = some ⟨ocAS, odAS, .func (PySem.W.fnOf "are_some_of" "are_some_of" (defArgs sSome) (defBody sSome) (defScope sSome) .none kVAS dcAS pmAS anAS cdAS ctAS), slAS⟩)
    (coAS : PySem.W.codeIn K cdAS "are_some_of" = true)
    (kAS : PySem.W.keepIn K (.ref fAS) = true)
    (aCS : PySem.W.nsIn K mainGlobals "check_settings" = some (some (.ref fCS)))
    (lCS : K.lookup fCS = some ⟨ocCS, odCS, .func (PySem.W.fnOf "check_settings" "check_settings" (defArgs sCSet) (defBody sCSet) (defScope sCSet) .none kVCS dcCS pmCS anCS cdCS ctCS), slCS⟩)
    (coCS : PySem.W.codeIn K cdCS "check_settings" = true)
    (kCS : PySem.W.keepIn K (.ref fCS) = true)
    (aCP : PySem.W.nsIn K mainGlobals "check_place" = some (some (.ref fCP)))
    (lCP : K.lookup fCP = some ⟨ocCP, odCP, .func (PySem.W.fnOf "check_place" "check_place" (defArgs sCPl) (defBody sCPl) (defScope sCPl) .none kVCP dcCP pmCP anCP cdCP ctCP), slCP⟩)
    (coCP : PySem.W.codeIn K cdCP "check_place" = true)
    (kCP : PySem.W.keepIn K (.ref fCP) = true)
    (aCN : PySem.W.nsIn K mainGlobals "check_length" = some (some (.ref fCN)))
    (lCN : K.lookup fCN = some ⟨ocCN, odCN, .func (PySem.W.fnOf "check_length" "check_length" (defArgs sCLen) (defBody sCLen) (defScope sCLen) .none kVCN dcCN pmCN anCN cdCN ctCN), slCN⟩)
    (coCN : PySem.W.codeIn K cdCN "check_length" = true)
    (kCN : PySem.W.keepIn K (.ref fCN) = true)
    (aCZ : PySem.W.nsIn K mainGlobals "check_size" = some (some (.ref fCZ)))
    (lCZ : K.lookup fCZ = some ⟨ocCZ, odCZ, .func (PySem.W.fnOf "check_size" "check_size" (defArgs sCSz) (defBody sCSz) (defScope sCSz) .none kVCZ dcCZ pmCZ anCZ cdCZ ctCZ), slCZ⟩)
    (coCZ : PySem.W.codeIn K cdCZ "check_size" = true)
    (kCZ : PySem.W.keepIn K (.ref fCZ) = true)
    (aNX : PySem.W.nsIn K mainGlobals "next_cut" = some (some (.ref fNX)))
    (lNX : K.lookup fNX = some ⟨ocNX, odNX, .func (PySem.W.fnOf "next_cut" "next_cut" (defArgs sNext) (defBody sNext) (defScope sNext) .none kVNX dcNX pmNX anNX cdNX ctNX), slNX⟩)
    (coNX : PySem.W.codeIn K cdNX "next_cut" = true)
    (kNX : PySem.W.keepIn K (.ref fNX) = true)
    (aWK : PySem.W.nsIn K mainGlobals "walk" = some (some (.ref fWK)))
    (lWK : K.lookup fWK = some ⟨ocWK, odWK, .func (PySem.W.fnOf "walk" "walk" (defArgs sWalk) (defBody sWalk) (defScope sWalk) .none kVWK dcWK pmWK anWK cdWK ctWK), slWK⟩)
    (coWK : PySem.W.codeIn K cdWK "walk" = true)
    (kWK : PySem.W.keepIn K (.ref fWK) = true)
    (aCW : PySem.W.nsIn K mainGlobals "check_walk" = some (some (.ref fCW)))
    (lCW : K.lookup fCW = some ⟨ocCW, odCW, .func (PySem.W.fnOf "check_walk" "check_walk" (defArgs sCWk) (defBody sCWk) (defScope sCWk) .none kVCW dcCW pmCW anCW cdCW ctCW), slCW⟩)
    (coCW : PySem.W.codeIn K cdCW "check_walk" = true)
    (kCW : PySem.W.keepIn K (.ref fCW) = true)
    (aST : PySem.W.nsIn K mainGlobals "step" = some (some (.ref fST)))
    (lST : K.lookup fST = some ⟨ocST, odST, .func (PySem.W.fnOf "step" "step" (defArgs sStep) (defBody sStep) (defScope sStep) .none kVST dcST pmST anST cdST ctST), slST⟩)
    (coST : PySem.W.codeIn K cdST "step" = true)
    (kST : PySem.W.keepIn K (.ref fST) = true)
    (aCF : PySem.W.nsIn K mainGlobals "cuts_from" = some (some (.ref fCF)))
    (lCF : K.lookup fCF = some ⟨ocCF, odCF, .func (PySem.W.fnOf "cuts_from" "cuts_from" (defArgs sCuts) (defBody sCuts) (defScope sCuts) .none kVCF dcCF pmCF anCF cdCF ctCF), slCF⟩)
    (coCF : PySem.W.codeIn K cdCF "cuts_from" = true)
    (kCF : PySem.W.keepIn K (.ref fCF) = true)
    (aFM : PySem.W.nsIn K mainGlobals "first_mark" = some (some (.ref fFM)))
    (lFM : K.lookup fFM = some ⟨ocFM, odFM, .func (PySem.W.fnOf "first_mark" "first_mark" (defArgs sFM) (defBody sFM) (defScope sFM) .none kVFM dcFM pmFM anFM cdFM ctFM), slFM⟩)
    (coFM : PySem.W.codeIn K cdFM "first_mark" = true)
    (kFM : PySem.W.keepIn K (.ref fFM) = true)
    (aCB : PySem.W.nsIn K mainGlobals "count_before" = some (some (.ref fCB)))
    (lCB : K.lookup fCB = some ⟨ocCB, odCB, .func (PySem.W.fnOf "count_before" "count_before" (defArgs sCB) (defBody sCB) (defScope sCB) .none kVCB dcCB pmCB anCB cdCB ctCB), slCB⟩)
    (coCB : PySem.W.codeIn K cdCB "count_before" = true)
    (kCB : PySem.W.keepIn K (.ref fCB) = true)
    (aJR : PySem.W.nsIn K mainGlobals "_law_jar" = some (some (.ref fJR)))
    (lJR : K.lookup fJR = some ⟨ocJR, odJR, .func (PySem.W.fnOf "_law_jar" "_law_jar" (defArgs sJar) (defBody sJar) (defScope sJar) .none kVJR dcJR pmJR anJR cdJR ctJR), slJR⟩)
    (coJR : PySem.W.codeIn K cdJR "_law_jar" = true)
    (kJR : PySem.W.keepIn K (.ref fJR) = true)
    (aDP : PySem.W.nsIn K mainGlobals "_law_dip" = some (some (.ref fDP)))
    (lDP : K.lookup fDP = some ⟨ocDP, odDP, .func (PySem.W.fnOf "_law_dip" "_law_dip" (defArgs sDip) (defBody sDip) (defScope sDip) .none kVDP dcDP pmDP anDP cdDP ctDP), slDP⟩)
    (coDP : PySem.W.codeIn K cdDP "_law_dip" = true)
    (kDP : PySem.W.keepIn K (.ref fDP) = true)
    (aTH : PySem.W.nsIn K mainGlobals "_law_three" = some (some (.ref fTH)))
    (lTH : K.lookup fTH = some ⟨ocTH, odTH, .func (PySem.W.fnOf "_law_three" "_law_three" (defArgs sThree) (defBody sThree) (defScope sThree) .none kVTH dcTH pmTH anTH cdTH ctTH), slTH⟩)
    (coTH : PySem.W.codeIn K cdTH "_law_three" = true)
    (kTH : PySem.W.keepIn K (.ref fTH) = true)
    (aSM : PySem.W.nsIn K mainGlobals "_law_small" = some (some (.ref fSM)))
    (lSM : K.lookup fSM = some ⟨ocSM, odSM, .func (PySem.W.fnOf "_law_small" "_law_small" (defArgs sSmall) (defBody sSmall) (defScope sSmall) .none kVSM dcSM pmSM anSM cdSM ctSM), slSM⟩)
    (coSM : PySem.W.codeIn K cdSM "_law_small" = true)
    (kSM : PySem.W.keepIn K (.ref fSM) = true)
    (aGT : PySem.W.nsIn K mainGlobals "_law_great" = some (some (.ref fGT)))
    (lGT : K.lookup fGT = some ⟨ocGT, odGT, .func (PySem.W.fnOf "_law_great" "_law_great" (defArgs sGreat) (defBody sGreat) (defScope sGreat) .none kVGT dcGT pmGT anGT cdGT ctGT), slGT⟩)
    (coGT : PySem.W.codeIn K cdGT "_law_great" = true)
    (kGT : PySem.W.keepIn K (.ref fGT) = true)
    (aHP : PySem.W.nsIn K mainGlobals "_law_heap" = some (some (.ref fHP)))
    (lHP : K.lookup fHP = some ⟨ocHP, odHP, .func (PySem.W.fnOf "_law_heap" "_law_heap" (defArgs sHeap) (defBody sHeap) (defScope sHeap) .none kVHP dcHP pmHP anHP cdHP ctHP), slHP⟩)
    (coHP : PySem.W.codeIn K cdHP "_law_heap" = true)
    (kHP : PySem.W.keepIn K (.ref fHP) = true)
    (aHI : PySem.W.nsIn K mainGlobals "_law_hidden" = some (some (.ref fHI)))
    (lHI : K.lookup fHI = some ⟨ocHI, odHI, .func (PySem.W.fnOf "_law_hidden" "_law_hidden" (defArgs sHid) (defBody sHid) (defScope sHid) .none kVHI dcHI pmHI anHI cdHI ctHI), slHI⟩)
    (coHI : PySem.W.codeIn K cdHI "_law_hidden" = true)
    (kHI : PySem.W.keepIn K (.ref fHI) = true)
    (aRI : PySem.W.nsIn K mainGlobals "_law_right" = some (some (.ref fRI)))
    (lRI : K.lookup fRI = some ⟨ocRI, odRI, .func (PySem.W.fnOf "_law_right" "_law_right" (defArgs sRight) (defBody sRight) (defScope sRight) .none kVRI dcRI pmRI anRI cdRI ctRI), slRI⟩)
    (coRI : PySem.W.codeIn K cdRI "_law_right" = true)
    (kRI : PySem.W.keepIn K (.ref fRI) = true)
    (aLW : PySem.W.nsIn K mainGlobals "law" = some (some (.ref fLW)))
    (lLW : K.lookup fLW = some ⟨ocLW, odLW, .func (PySem.W.fnOf "law" "law" (defArgs sLaw) (defBody sLaw) (defScope sLaw) .none kVLW dcLW pmLW anLW cdLW ctLW), slLW⟩)
    (coLW : PySem.W.codeIn K cdLW "law" = true)
    (kLW : PySem.W.keepIn K (.ref fLW) = true)
    (apL : PySem.W.findIn K (.ref C) "length" = some (some (.ref pL)))
    (gpL : PySem.W.specialIn K (.ref pL) "__get__" = some (some (.builtin "property.__get__")))
    (tpL : PySem.W.takesIn K (.ref pL) = some true)
    (rpL : PySem.W.recIn K pL "property" = some (.ref fGl :: restpL))
    (apM : PySem.W.findIn K (.ref C) "marks" = some (some (.ref pM)))
    (gpM : PySem.W.specialIn K (.ref pM) "__get__" = some (some (.builtin "property.__get__")))
    (tpM : PySem.W.takesIn K (.ref pM) = some true)
    (rpM : PySem.W.recIn K pM "property" = some (.ref fGm :: restpM))
    (apS : PySem.W.findIn K (.ref C) "strict" = some (some (.ref pS)))
    (gpS : PySem.W.specialIn K (.ref pS) "__get__" = some (some (.builtin "property.__get__")))
    (tpS : PySem.W.takesIn K (.ref pS) = some true)
    (rpS : PySem.W.recIn K pS "property" = some (.ref fGs :: restpS))
    (aIn : PySem.W.findIn K (.ref C) "__init__" = some (some (.ref fIn)))
    (iIn : PySem.W.isFn K (.ref fIn) = true)
    (lIn : K.lookup fIn = some ⟨ocIn, odIn, .func (PySem.W.fnOf "__init__" "Row.__init__" (defArgs sInit) (defBody sInit) (defScope sInit) .none kVIn dcIn pmIn anIn cdIn ctIn), slIn⟩)
    (coIn : PySem.W.codeIn K cdIn "Row.__init__" = true)
    (kIn : PySem.W.keepIn K (.ref fIn) = true)
    (lGl : K.lookup fGl = some ⟨ocGl, odGl, .func (PySem.W.fnOf "length" "Row.length" (defArgs sGetL) (defBody sGetL) (defScope sGetL) .none kVGl dcGl pmGl anGl cdGl ctGl), slGl⟩)
    (coGl : PySem.W.codeIn K cdGl "Row.length" = true)
    (kGl : PySem.W.keepIn K (.ref fGl) = true)
    (lGm : K.lookup fGm = some ⟨ocGm, odGm, .func (PySem.W.fnOf "marks" "Row.marks" (defArgs sGetM) (defBody sGetM) (defScope sGetM) .none kVGm dcGm pmGm anGm cdGm ctGm), slGm⟩)
    (coGm : PySem.W.codeIn K cdGm "Row.marks" = true)
    (kGm : PySem.W.keepIn K (.ref fGm) = true)
    (lGs : K.lookup fGs = some ⟨ocGs, odGs, .func (PySem.W.fnOf "strict" "Row.strict" (defArgs sGetS) (defBody sGetS) (defScope sGetS) .none kVGs dcGs pmGs anGs cdGs ctGs), slGs⟩)
    (coGs : PySem.W.codeIn K cdGs "Row.strict" = true)
    (kGs : PySem.W.keepIn K (.ref fGs) = true)
    (aCI : PySem.W.findIn K (.ref C) "_check_inner" = some (some (.ref fCI)))
    (iCI : PySem.W.isFn K (.ref fCI) = true)
    (lCI : K.lookup fCI = some ⟨ocCI, odCI, .func (PySem.W.fnOf "_check_inner" "Row._check_inner" (defArgs sCI) (defBody sCI) (defScope sCI) .none kVCI dcCI pmCI anCI cdCI ctCI), slCI⟩)
    (coCI : PySem.W.codeIn K cdCI "Row._check_inner" = true)
    (kCI : PySem.W.keepIn K (.ref fCI) = true)
    (aWM : PySem.W.findIn K (.ref C) "with_marks" = some (some (.ref fWM)))
    (iWM : PySem.W.isFn K (.ref fWM) = true)
    (lWM : K.lookup fWM = some ⟨ocWM, odWM, .func (PySem.W.fnOf "with_marks" "Row.with_marks" (defArgs sWith) (defBody sWith) (defScope sWith) .none kVWM dcWM pmWM anWM cdWM ctWM), slWM⟩)
    (coWM : PySem.W.codeIn K cdWM "Row.with_marks" = true)
    (kWM : PySem.W.keepIn K (.ref fWM) = true)
    (aWO : PySem.W.findIn K (.ref C) "without_marks" = some (some (.ref fWO)))
    (iWO : PySem.W.isFn K (.ref fWO) = true)
    (lWO : K.lookup fWO = some ⟨ocWO, odWO, .func (PySem.W.fnOf "without_marks" "Row.without_marks" (defArgs sWout) (defBody sWout) (defScope sWout) .none kVWO dcWO pmWO anWO cdWO ctWO), slWO⟩)
    (coWO : PySem.W.codeIn K cdWO "Row.without_marks" = true)
    (kWO : PySem.W.keepIn K (.ref fWO) = true)
    (pg : PySem.W.plainGet K C Str.empty = true)
    (hd : PySem.W.hasDictIn K C = true)
    (po : PySem.W.plainOver K C = true)
    (sa : PySem.W.findIn K (.ref C) "__setattr__" = some (some (.builtin "object.__setattr__")))
    (mk : PySem.W.makesIn K C = true)
    (kc : PySem.W.keepIn K (.ref C) = true)
    (nL : PySem.W.findIn K (.ref C) "_length" = some none)
    (nM : PySem.W.findIn K (.ref C) "_marks" = some none)
    (nS : PySem.W.findIn K (.ref C) "_strict" = some none)
    (kt : PySem.W.kitOne K (.ref C) (.ref C) = some true)
    : ∃ fd : FuncData, (∀ (s : Shared) (v : Value), BindsTo s fd ⟨[v], []⟩ [("script", v)]) ∧ ∀ base : Heap, K.In base → base.Ns mainGlobals mg → FnOk l.prog w K mg base CX0 9 fa fd ["script"] (spLaw K) := by
  have e := hfa.symm.trans (PySem.W.mg_of X G aLW)
  cases e
  have T : Bl mg := ⟨PySem.W.mg_none_of X G n_int, PySem.W.mg_none_of X G n_bool, PySem.W.mg_none_of X G n_list, PySem.W.mg_none_of X G n_tuple, PySem.W.mg_none_of X G n_range, PySem.W.mg_none_of X G n_len, PySem.W.mg_none_of X G n_abs, PySem.W.mg_none_of X G n_all, PySem.W.mg_none_of X G n_isi, PySem.W.mg_none_of X G n_zip, PySem.W.mg_none_of X G n_max, PySem.W.mg_none_of X G n_min, PySem.W.mg_none_of X G n_set, PySem.W.mg_none_of X G n_sorted, PySem.W.mg_none_of X G n_dict⟩
  have R : Cl K mg C := ⟨⟨pg, hd, po, sa⟩, nL, nM, nS, PySem.W.mg_of X G aC, kt⟩
  have M : Mk K C fIn := ⟨mk, aIn, iIn, kc⟩
  have FII := fun_mk (st := sIsInt) lII coII kII
  have bII := FII.binds (ps := ["thing"]) fun _ _ _ _ _ _ us hl => match us, hl with | [_], _ => rfl
  have gII := PySem.W.mg_of X G aII
  have FAP := fun_mk (st := sPlaces) lAP coAP kAP
  have bAP := FAP.binds (ps := ["thing", "low", "high"]) fun _ _ _ _ _ _ us hl => match us, hl with | [_, _, _], _ => rfl
  have gAP := PySem.W.mg_of X G aAP
  have FAA := fun_mk (st := sAsc) lAA coAA kAA
  have bAA := FAA.binds (ps := ["thing", "low", "high"]) fun _ _ _ _ _ _ us hl => match us, hl with | [_, _, _], _ => rfl
  have gAA := PySem.W.mg_of X G aAA
  have FAM := fun_mk (st := sMarks) lAM coAM kAM
  have bAM := FAM.binds (ps := ["thing", "high"]) fun _ _ _ _ _ _ us hl => match us, hl with | [_, _], _ => rfl
  have gAM := PySem.W.mg_of X G aAM
  have FAS := fun_mk (st := sSome) lAS coAS kAS
  have bAS := FAS.binds (ps := ["thing", "marks"]) fun _ _ _ _ _ _ us hl => match us, hl with | [_, _], _ => rfl
  have gAS := PySem.W.mg_of X G aAS
  have FCS := fun_mk (st := sCSet) lCS coCS kCS
  have bCS := FCS.binds (ps := ["settings"]) fun _ _ _ _ _ _ us hl => match us, hl with | [_], _ => rfl
  have gCS := PySem.W.mg_of X G aCS
  have FCP := fun_mk (st := sCPl) lCP coCP kCP
  have bCP := FCP.binds (ps := ["place", "low", "high"]) fun _ _ _ _ _ _ us hl => match us, hl with | [_, _, _], _ => rfl
  have gCP := PySem.W.mg_of X G aCP
  have FCN := fun_mk (st := sCLen) lCN coCN kCN
  have bCN := FCN.binds (ps := ["length", "settings"]) fun _ _ _ _ _ _ us hl => match us, hl with | [_, _], _ => rfl
  have gCN := PySem.W.mg_of X G aCN
  have FCZ := fun_mk (st := sCSz) lCZ coCZ kCZ
  have bCZ := FCZ.binds (ps := ["row", "settings"]) fun _ _ _ _ _ _ us hl => match us, hl with | [_, _], _ => rfl
  have gCZ := PySem.W.mg_of X G aCZ
  have FNX := fun_mk (st := sNext) lNX coNX kNX
  have bNX := FNX.binds (ps := ["row", "settings", "place"]) fun _ _ _ _ _ _ us hl => match us, hl with | [_, _, _], _ => rfl
  have gNX := PySem.W.mg_of X G aNX
  have FWK := fun_mk (st := sWalk) lWK coWK kWK
  have bWK := FWK.binds (ps := ["row", "settings", "start"]) fun _ _ _ _ _ _ us hl => match us, hl with | [_, _, _], _ => rfl
  have gWK := PySem.W.mg_of X G aWK
  have FCW := fun_mk (st := sCWk) lCW coCW kCW
  have bCW := FCW.binds (ps := ["row", "settings", "places"]) fun _ _ _ _ _ _ us hl => match us, hl with | [_, _, _], _ => rfl
  have gCW := PySem.W.mg_of X G aCW
  have FST := fun_mk (st := sStep) lST coST kST
  have bST := FST.binds (ps := ["row", "settings", "place"]) fun _ _ _ _ _ _ us hl => match us, hl with | [_, _, _], _ => rfl
  have gST := PySem.W.mg_of X G aST
  have FCF := fun_mk (st := sCuts) lCF coCF kCF
  have bCF := FCF.binds (ps := ["row", "settings", "start"]) fun _ _ _ _ _ _ us hl => match us, hl with | [_, _, _], _ => rfl
  have gCF := PySem.W.mg_of X G aCF
  have FFM := fun_mk (st := sFM) lFM coFM kFM
  have bFM := FFM.binds (ps := ["marks", "place", "end"]) fun _ _ _ _ _ _ us hl => match us, hl with | [_, _, _], _ => rfl
  have gFM := PySem.W.mg_of X G aFM
  have FCB := fun_mk (st := sCB) lCB coCB kCB
  have bCB := FCB.binds (ps := ["places", "place"]) fun _ _ _ _ _ _ us hl => match us, hl with | [_, _], _ => rfl
  have gCB := PySem.W.mg_of X G aCB
  have FJR := fun_mk (st := sJar) lJR coJR kJR
  have bJR := FJR.binds (ps := ["script", "k"]) fun _ _ _ _ _ _ us hl => match us, hl with | [_, _], _ => rfl
  have gJR := PySem.W.mg_of X G aJR
  have FDP := fun_mk (st := sDip) lDP coDP kDP
  have bDP := FDP.binds (ps := ["jar", "many"]) fun _ _ _ _ _ _ us hl => match us, hl with | [_, _], _ => rfl
  have gDP := PySem.W.mg_of X G aDP
  have FTH := fun_mk (st := sThree) lTH coTH kTH
  have bTH := FTH.binds (ps := ["jar", "wide"]) fun _ _ _ _ _ _ us hl => match us, hl with | [_, _], _ => rfl
  have gTH := PySem.W.mg_of X G aTH
  have FSM := fun_mk (st := sSmall) lSM coSM kSM
  have bSM := FSM.binds (ps := ["jar", "most"]) fun _ _ _ _ _ _ us hl => match us, hl with | [_, _], _ => rfl
  have gSM := PySem.W.mg_of X G aSM
  have FGT := fun_mk (st := sGreat) lGT coGT kGT
  have bGT := FGT.binds (ps := ["jar", "most"]) fun _ _ _ _ _ _ us hl => match us, hl with | [_, _], _ => rfl
  have gGT := PySem.W.mg_of X G aGT
  have FHP := fun_mk (st := sHeap) lHP coHP kHP
  have bHP := FHP.binds (ps := ["raw"]) fun _ _ _ _ _ _ us hl => match us, hl with | [_], _ => rfl
  have gHP := PySem.W.mg_of X G aHP
  have FHI := fun_mk (st := sHid) lHI coHI kHI
  have bHI := FHI.binds (ps := ["jar", "raw", "cuts_here"]) fun _ _ _ _ _ _ us hl => match us, hl with | [_, _, _], _ => rfl
  have gHI := PySem.W.mg_of X G aHI
  have FRI := fun_mk (st := sRight) lRI coRI kRI
  have bRI := FRI.binds (ps := ["jar", "raw", "start"]) fun _ _ _ _ _ _ us hl => match us, hl with | [_, _, _], _ => rfl
  have gRI := PySem.W.mg_of X G aRI
  have FLW := fun_mk (st := sLaw) lLW coLW kLW
  have gLW := PySem.W.mg_of X G aLW
  have FIn := fun_mk (st := sInit) lIn coIn kIn
  have bIn := FIn.binds (ps := ["self", "length", "marks", "strict"]) fun _ _ _ _ _ _ us hl => match us, hl with | [_, _, _, _], _ => rfl
  have FGl := fun_mk (st := sGetL) lGl coGl kGl
  have bGl := FGl.binds (ps := ["self"]) fun _ _ _ _ _ _ us hl => match us, hl with | [_], _ => rfl
  have FGm := fun_mk (st := sGetM) lGm coGm kGm
  have bGm := FGm.binds (ps := ["self"]) fun _ _ _ _ _ _ us hl => match us, hl with | [_], _ => rfl
  have FGs := fun_mk (st := sGetS) lGs coGs kGs
  have bGs := FGs.binds (ps := ["self"]) fun _ _ _ _ _ _ us hl => match us, hl with | [_], _ => rfl
  have FCI := fun_mk (st := sCI) lCI coCI kCI
  have bCI := FCI.binds (ps := ["self", "places"]) fun _ _ _ _ _ _ us hl => match us, hl with | [_, _], _ => rfl
  have FWM := fun_mk (st := sWith) lWM coWM kWM
  have bWM := FWM.binds (ps := ["self", "places", "is_strict"]) fun _ _ _ _ _ _ us hl => match us, hl with | [_, _, _], _ => rfl
  have FWO := fun_mk (st := sWout) lWO coWO kWO
  have bWO := FWO.binds (ps := ["self", "places"]) fun _ _ _ _ _ _ us hl => match us, hl with | [_, _], _ => rfl
  refine ⟨PySem.W.fnOf "law" "law" (defArgs sLaw) (defBody sLaw) (defScope sLaw) .none kVLW dcLW pmLW anLW cdLW ctLW, fun s v => .of_eq rfl, fun base _ _ => ?_⟩
  have GII := ok_int (P := l.prog) (w := w) (base := base) FII T
  have GAP := ok_places FAP T gII kII bII GII
  have GAA := ok_asc FAA T gAP kAP bAP GAP
  have GAM := ok_marks FAM T (PySem.W.mg_of X G aN) gAA kAA bAA GAA
  have GAS := ok_some FAS T gAA kAA bAA GAA
  have GIn := ok_init FIn T R gII kII bII GII gAM kAM bAM GAM gAS kAS bAS GAS
  have GGl := ok_getL (P := l.prog) (w := w) (base := base) FGl R
  have GGm := ok_getM (P := l.prog) (w := w) (base := base) FGm T R
  have GGs := ok_getS (P := l.prog) (w := w) (base := base) FGs T R
  have Gs : Gets l.prog w K mg base C pL fGl pM fGm pS fGs _ _ _ := ⟨⟨apL, gpL, tpL, ⟨restpL, rpL⟩⟩, bGl, GGl, ⟨apM, gpM, tpM, ⟨restpM, rpM⟩⟩, bGm, GGm, ⟨apS, gpS, tpS, ⟨restpS, rpS⟩⟩, bGs, GGs⟩
  have GCB := ok_cb (P := l.prog) (w := w) (base := base) FCB T
  have GFM := ok_fm FFM T gCB kCB bCB GCB
  have GST := ok_step FST T R Gs gFM kFM bFM GFM
  have GCS := ok_cset FCS T gII kII bII GII
  have GCP := ok_pl FCP gII kII bII GII
  have GCN := ok_len (P := l.prog) (w := w) (base := base) FCN (PySem.W.mg_of X G aN2)
  have GCZ := ok_sz FCZ R Gs gCN kCN bCN GCN
  have GCF := ok_cuts FCF R Gs gST kST bST GST
  have GCW := ok_cw FCW R Gs gCS kCS bCS GCS gCP kCP bCP GCP gCZ kCZ bCZ GCZ
  have GNX := ok_next FNX R Gs gCS kCS bCS GCS gCP kCP bCP GCP gCZ kCZ bCZ GCZ gST kST bST GST
  have GWK := ok_walk FWK gCW kCW bCW GCW gCF kCF bCF GCF
  have GJR := ok_jar (P := l.prog) (w := w) (base := base) FJR T
  have GDP := ok_dip (P := l.prog) (w := w) (base := base) FDP T
  have GTH := ok_three FTH gDP kDP bDP GDP
  have GSM := ok_small FSM T gDP kDP bDP GDP gTH kTH bTH GTH
  have GGT := ok_great FGT T gDP kDP bDP GDP gTH kTH bTH GTH
  have GHP := ok_heap FHP R M bIn GIn
  have GCI := ok_ci FCI R gAP kAP bAP GAP
  have mCI : Meth K C "_check_inner" fCI := ⟨aCI, iCI, kCI⟩
  have GWM := ok_with FWM T R M mCI bCI GCI bIn GIn
  have GWO := ok_wout FWO T R M mCI bCI GCI bIn GIn
  have mWM : Meth K C "with_marks" fWM := ⟨aWM, iWM, kWM⟩
  have mWO : Meth K C "without_marks" fWO := ⟨aWO, iWO, kWO⟩
  have GHI := ok_hid FHI T gDP kDP bDP GDP
  have GRI := ok_right FRI T R Gs gDP kDP bDP GDP gHP kHP bHP GHP gHI kHI bHI GHI gNX kNX bNX GNX gWK kWK bWK GWK mWM bWM GWM mWO bWO GWO
  exact ok_law FLW T gJR kJR bJR GJR gDP kDP bDP GDP gSM kSM bSM GSM gGT kGT bGT GGT gRI kRI bRI GRI
theorem walk_here {l : PySem.W.OpenLaw} {q : Program} {loose : List Str} {XP : (Str → Option Value) → Heap → Prop} {YP : World → Heap → Prop} {d : DefRec} {K : Params → PySem.W.Frag} (hn : l.most = some 63) (hdf : d.params.defaults = [])
    (hY : ∀ (w : World) (h : Heap), YP w h → (K w.params).In h)
    (F : ∀ (w : World) (mg : Str → Option Value) (fa : Addr) (h : Heap), (K w.params).In h → h.Ns mainGlobals mg → mg d.name = some (.ref fa) →
      ∃ fd : FuncData, (∀ (s : Shared) (u : Value), BindsTo s fd ⟨[u], []⟩ [("script", u)]) ∧ ∀ base : Heap, (K w.params).In base → base.Ns mainGlobals mg → FnOk l.prog w (K w.params) mg base CX0 9 fa fd ["script"] (spLaw (K w.params))) :
    PySem.W.WalkO q loose XP YP l.row.toRowW d [] (fun f vs => PySem.call f vs) :=
  L2.walk_of (n := 63) (k := 9) (x := "script") (CX := fun _ => CX0) (sp := fun w => spLaw (K w.params)) hn (by decide) hdf ⟨rfl, by decide, by decide⟩ hY F (fun _ _ a ns hl _ hS => ⟨a, ns, rfl, hS, hl, fun _ => rfl⟩) fun _ _ _ _ _ z => z
end Cw
open PySem PySem.W PyProof.Rows
set_option maxRecDepth 100000 in
set_option maxHeartbeats 0 in
theorem PySem.Challenge.cw_cutwalks_k34_whole_marks_out_of_sight_holds : PySem.Challenge.rw_cutwalks_k34_whole_marks_out_of_sight.Holds := by
  w_on; o_law; k_head; (case hw => w_witness2)
  k_fill
  refine Cw.walk_here (l := PySem.Challenge.rw_cutwalks_k34_whole_marks_out_of_sight) rfl rfl (fun w h Y => PySem.W.kIn_of Y) ?F
  case F =>
    intro w mg fa h KX G hmg
    refine' Cw.all_mk KX G hmg ?aC ?aN ?aN2 ?n_int ?n_bool ?n_list ?n_tuple ?n_range ?n_len ?n_abs ?n_all ?n_isi ?n_zip ?n_max ?n_min ?n_set ?n_sorted ?n_dict ?aII ?lII ?coII ?kII ?aAP ?lAP ?coAP ?kAP ?aAA ?lAA ?coAA ?kAA ?aAM ?lAM ?coAM ?kAM ?aAS ?lAS ?coAS ?kAS ?aCS ?lCS ?coCS ?kCS ?aCP ?lCP ?coCP ?kCP ?aCN ?lCN ?coCN ?kCN ?aCZ ?lCZ ?coCZ ?kCZ ?aNX ?lNX ?coNX ?kNX ?aWK ?lWK ?coWK ?kWK ?aCW ?lCW ?coCW ?kCW ?aST ?lST ?coST ?kST ?aCF ?lCF ?coCF ?kCF ?aFM ?lFM ?coFM ?kFM ?aCB ?lCB ?coCB ?kCB ?aJR ?lJR ?coJR ?kJR ?aDP ?lDP ?coDP ?kDP ?aTH ?lTH ?coTH ?kTH ?aSM ?lSM ?coSM ?kSM ?aGT ?lGT ?coGT ?kGT ?aHP ?lHP ?coHP ?kHP ?aHI ?lHI ?coHI ?kHI ?aRI ?lRI ?coRI ?kRI ?aLW ?lLW ?coLW ?kLW ?apL ?gpL ?tpL ?rpL ?apM ?gpM ?tpM ?rpM ?apS ?gpS ?tpS ?rpS ?aIn ?iIn ?lIn ?coIn ?kIn ?lGl ?coGl ?kGl ?lGm ?coGm ?kGm ?lGs ?coGs ?kGs ?aCI ?iCI ?lCI ?coCI ?kCI ?aWM ?iWM ?lWM ?coWM ?kWM ?aWO ?iWO ?lWO ?coWO ?kWO ?pg ?hd ?po ?sa ?mk ?kc ?nL ?nM ?nS ?kt
    (case aC => k_is)
    (case aN => k_is)
    (case aN2 => k_is)
    (case n_int => k_is)
    (case n_bool => k_is)
    (case n_list => k_is)
    (case n_tuple => k_is)
    (case n_range => k_is)
    (case n_len => k_is)
    (case n_abs => k_is)
    (case n_all => k_is)
    (case n_isi => k_is)
    (case n_zip => k_is)
    (case n_max => k_is)
    (case n_min => k_is)
    (case n_set => k_is)
    (case n_sorted => k_is)
    (case n_dict => k_is)
    (case aII => k_is)
    (case lII => k_is)
    (case coII => k_is)
    (case kII => k_is)
    (case aAP => k_is)
    (case lAP => k_is)
    (case coAP => k_is)
    (case kAP => k_is)
    (case aAA => k_is)
    (case lAA => k_is)
    (case coAA => k_is)
    (case kAA => k_is)
    (case aAM => k_is)
    (case lAM => k_is)
    (case coAM => k_is)
    (case kAM => k_is)
    (case aAS => k_is)
    (case lAS => k_is)
    (case coAS => k_is)
    (case kAS => k_is)
    (case aCS => k_is)
    (case lCS => k_is)
    (case coCS => k_is)
    (case kCS => k_is)
    (case aCP => k_is)
    (case lCP => k_is)
    (case coCP => k_is)
    (case kCP => k_is)
    (case aCN => k_is)
    (case lCN => k_is)
    (case coCN => k_is)
    (case kCN => k_is)
    (case aCZ => k_is)
    (case lCZ => k_is)
    (case coCZ => k_is)
    (case kCZ => k_is)
    (case aNX => k_is)
    (case lNX => k_is)
    (case coNX => k_is)
    (case kNX => k_is)
    (case aWK => k_is)
    (case lWK => k_is)
    (case coWK => k_is)
    (case kWK => k_is)
    (case aCW => k_is)
    (case lCW => k_is)
    (case coCW => k_is)
    (case kCW => k_is)
    (case aST => k_is)
    (case lST => k_is)
    (case coST => k_is)
    (case kST => k_is)
    (case aCF => k_is)
    (case lCF => k_is)
    (case coCF => k_is)
    (case kCF => k_is)
    (case aFM => k_is)
    (case lFM => k_is)
    (case coFM => k_is)
    (case kFM => k_is)
    (case aCB => k_is)
    (case lCB => k_is)
    (case coCB => k_is)
    (case kCB => k_is)
    (case aJR => k_is)
    (case lJR => k_is)
    (case coJR => k_is)
    (case kJR => k_is)
    (case aDP => k_is)
    (case lDP => k_is)
    (case coDP => k_is)
    (case kDP => k_is)
    (case aTH => k_is)
    (case lTH => k_is)
    (case coTH => k_is)
    (case kTH => k_is)
    (case aSM => k_is)
    (case lSM => k_is)
    (case coSM => k_is)
    (case kSM => k_is)
    (case aGT => k_is)
    (case lGT => k_is)
    (case coGT => k_is)
    (case kGT => k_is)
    (case aHP => k_is)
    (case lHP => k_is)
    (case coHP => k_is)
    (case kHP => k_is)
    (case aHI => k_is)
    (case lHI => k_is)
    (case coHI => k_is)
    (case kHI => k_is)
    (case aRI => k_is)
    (case lRI => k_is)
    (case coRI => k_is)
    (case kRI => k_is)
    (case aLW => k_is)
    (case lLW => k_is)
    (case coLW => k_is)
    (case kLW => k_is)
    (case apL => k_is)
    (case gpL => first | k_is | kernel_rfl)
    (case tpL => first | k_is | kernel_rfl)
    (case rpL => k_is)
    (case apM => k_is)
    (case gpM => first | k_is | kernel_rfl)
    (case tpM => first | k_is | kernel_rfl)
    (case rpM => k_is)
    (case apS => k_is)
    (case gpS => first | k_is | kernel_rfl)
    (case tpS => first | k_is | kernel_rfl)
    (case rpS => k_is)
    (case aIn => k_is)
    (case iIn => k_is)
    (case lIn => k_is)
    (case coIn => k_is)
    (case kIn => k_is)
    (case lGl => k_is)
    (case coGl => k_is)
    (case kGl => k_is)
    (case lGm => k_is)
    (case coGm => k_is)
    (case kGm => k_is)
    (case lGs => k_is)
    (case coGs => k_is)
    (case kGs => k_is)
    (case aCI => k_is)
    (case iCI => k_is)
    (case lCI => k_is)
    (case coCI => k_is)
    (case kCI => k_is)
    (case aWM => k_is)
    (case iWM => k_is)
    (case lWM => k_is)
    (case coWM => k_is)
    (case kWM => k_is)
    (case aWO => k_is)
    (case iWO => k_is)
    (case lWO => k_is)
    (case coWO => k_is)
    (case kWO => k_is)
    (case pg => k_is)
    (case hd => k_is)
    (case po => k_is)
    (case sa => k_is)
    (case mk => k_is)
    (case kc => k_is)
    (case nL => k_is)
    (case nM => k_is)
    (case nS => k_is)
    (case kt => first | k_is | kernel_rfl)
#print axioms PySem.Challenge.cw_cutwalks_k34_whole_marks_out_of_sight_holds
