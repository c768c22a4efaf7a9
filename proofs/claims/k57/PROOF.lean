import PyProof.Rows.All
import Wide.All
import OpenK.AllK
import Wide.FinOn
import HandS.ForMost
import HandS.Strs
import HandS.SetFor
import HandS.SortKw
import KE.DataMinMax
import HandS.OwnEq
import PyProof.InstNe
import HandS.IsInst
import HandS.Walk
import HandS.Exc
import PySem.Challenge.RW_cutwalks_k57_texts_written_and_read
import HandS.Property
import HandS.Flt
import PyProof.MaxThree
import PyProof.SeqI3
import HandS.WideBits
import HandS.Wide
import HandS.Text
import HandS.FStr
import HandS.TupSets
import HandS.SortInts
import PyProof.StrOps2
import HandS.Words
import PyProof.ReprRoads
set_option Elab.async false
set_option maxRecDepth 100000
set_option maxHeartbeats 8000000
namespace Cw
open PySem PySem.Spec PyProof.Rows L2
/-! ## set(xs) of a list of nts -/
section
variable {P : Program} {w : World} {A : Around} {E : Value → Shared → Prop} {s : Shared}
abbrev newS (w : World) : Obj := { cls := .type "set", dict := none, data := .set #[] 0 (.fresh 0 0 (!w.params.followText "set-order")) }
theorem set_list {l : Addr} {its : Array Value} (ns : List Int) {Q : Value → Shared → Prop} (hand : A.handled = none) (isl : s.heap.IsList l its) (nts : IntsAre its.toList ns) (room : ns.length + 1 < scanBound)
    (q : ∀ (g' : Heap) (tk c : Nat), SetR w g' s.heap.objs.size (fun j => decide (j ∈ ns)) c → c ≤ ns.length → (∀ b o, s.heap.get? b = some o → g'.get? b = some o) → Q (.ref s.heap.objs.size) { s with heap := g', toks := tk }) :
    wpAny (model P w) A (call (.type "set") [.ref l]) Q E s := by
  have len : its.size = ns.length := by rw [← IntsAre.length nts, Array.length_toList]
  obtain ⟨c, tl, hmro⟩ := F.called_set.mro; have hmade := F.called_set.made; have hsub := F.called_set.sub
  refine wpAny_call (codeAny_of_tree ?_); show wpAny _ _ (callAny (.type "set") _) _ _ _
  refine wpAny_pure ⟨Code.quiet_builtin _ (by decide +kernel), codeAny_builtin F.entry_type_call ?_⟩; rw [Around.under_plain (weight_type_call_type "set" [.ref l] []) rfl]
  have h1 := F.called_set.notType; have h2 := F.called_set.canCreate; have hct := F.typeCall_set_1 (.ref l)
  repeat (any_goals (first | assumption | wp_step))
  refine codeAny_mono (code_set_led1 (.ref l) (E := E) (Q₁ := fun ob t₁ => ob = .ref s.heap.objs.size ∧ t₁ = { s with heap := s.heap.push (newS w) }) ⟨rfl, rfl⟩) fun r t₁ hr => ?_
  cases r with
  | error e => exact hr
  | ok fl =>
    cases fl with
    | ret ob =>
      obtain ⟨rfl, rfl⟩ := hr
      have at0 : (s.heap.push (newS w)).get? s.heap.objs.size = some (newS w) := Heap.get?_push_size _ rfl
      have ty0 : Shared.TypeIs { s with heap := s.heap.push (newS w) } (.ref s.heap.objs.size) "set" := ⟨_, at0, rfl⟩
      have hli := F.called_set.init.lookup; have hbi := F.called_set.init.bind (.ref s.heap.objs.size)
      repeat (any_goals (first | assumption | wp_step))
      refine codeAny_mono (codeAny_call_builtin (R := wants (fun r t₂ => r = .none ∧ ∃ g' tk c, t₂ = { s with heap := g', toks := tk } ∧ SetR w g' s.heap.objs.size (fun j => decide (j ∈ ns)) c ∧ c ≤ ns.length ∧ (∀ b o, s.heap.get? b = some o → g'.get? b = some o)) E)
        F.called_set.init.plain F.entry_set_init (check_set_init_1 ty0 ?_)) fun r₂ t₂ hr₂ => ?_
      · obtain ⟨ol, lo, lc, nl, ld⟩ := isl
        obtain ⟨oc, odi, oda, osl⟩ := ol
        simp only at lc ld; subst lc; subst ld
        have lo' : (s.heap.push (newS w)).get? l = some { cls := .type "list", dict := odi, data := .seq its nl, slots := osl } := Heap.get?_push_of_some _ lo
        have u1 := F.sub_list_set; have u2 := F.sub_list_frozenset
        have u3 : (Value.type "list" == Value.type "dict") = false := by decide
        have il : (s.heap.push (newS w)).IsList l its := ⟨_, lo', rfl, nl, rfl⟩
        unfold Builtin.«set.__init__» noKeywords Builtin.Frozenset.updateFrom
        generalize hPI : pyIter = PI; wp_walk; subst hPI
        refine wpAny_pyIter_list il ?_; refine wpAny_bind (wpAny_runValue ?_)
        have lt : l < s.heap.objs.size := Heap.lt_size lo
        have hand3 : A.in1.in1.in1.handled = none := by simp [hand]
        have ne1 : l ≠ (s.heap.push (newS w)).objs.size := by rw [Heap.size_push]; exact Nat.ne_of_lt (Nat.lt_succ_of_lt lt)
        have nin : s.heap.objs.size ∉ [(s.heap.push (newS w)).objs.size, l] := by
          rw [Heap.size_push]
          simp only [List.mem_cons, List.mem_singleton, List.not_mem_nil, or_false, not_or]
          exact ⟨Nat.ne_of_lt (Nat.lt_succ_self _), Nat.ne_of_gt lt⟩
        have val : ∀ (i : Nat) (v : Value), its[i]? = some v → ∃ k t, ns[i]? = some k ∧ v = .int k t := fun i v hv => by
          have hi : i < ns.length := by rw [← len]; exact (Array.getElem?_eq_some_iff.mp hv).1
          obtain ⟨t, e⟩ := PyProof.Rows.IntsAre.int_at nts i v (by rw [Array.getElem?_toList]; exact hv)
          exact ⟨ns[i], t, List.getElem?_eq_getElem hi, by rw [e, List.getD_eq_getElem?_getD, List.getElem?_eq_getElem hi] <;> rfl⟩
        refine set_update_ints ((Walks.list hand3 _ l ne1 its).toS) s.heap.objs.size nin ns len room val (its.size - 0) 0 _ (by omega) (Nat.zero_le _) ⟨⟨_, Heap.get?_push_size _ rfl, rfl, rfl⟩, (il.push _)⟩ ?z0 ?zR
        case z0 => exact ⟨0, Nat.le_refl 0, setR_new_at (Heap.get?_push_of_some _ at0)⟩
        case zR =>
          intro t' c' hm hc' hS'
          obtain ⟨g', g2, d', tk', os'⟩ := t'
          have eg : g2 = s.gens := hm.gens; have ed : d' = s.drawn := hm.drawn; have eo : os' = s.os := hm.os
          subst eg; subst ed; subst eo
          show wpAny _ _ _ _ _ _
          refine wpAny_pure ?_; show wpAny _ _ (ret Value.none) _ _ _
          rw [len] at hc'
          refine wpAny_pure ⟨rfl, g', tk', c', rfl, hS', hc', fun b o e => ?_⟩
          have b0 : b < s.heap.objs.size := Heap.lt_size e
          have b2 : b ≠ (s.heap.push (newS w)).objs.size := by rw [Heap.size_push]; exact Nat.ne_of_lt (Nat.lt_succ_of_lt b0)
          exact hm.heap b o (by simp only [List.mem_cons, List.mem_singleton, List.not_mem_nil, or_false, not_or]; exact ⟨Nat.ne_of_lt b0, b2⟩) (Heap.get?_push_of_some _ (Heap.get?_push_of_some _ e))
      · cases r₂ with
        | error e => exact hr₂
        | ok fl₂ =>
          cases fl₂ with
          | ret r =>
            obtain ⟨rfl, g', tk, c', rfl, hS', hc', hk'⟩ := hr₂
            repeat (any_goals (first | assumption | wp_step))
            exact q _ _ _ hS' hc' hk'
          | _ => exact hr₂.elim
    | _ => exact hr.elim
end
section
variable {P : Program} {w : World} {A : Around} {E : Value → Shared → Prop} {s : Shared}
theorem entry_sub : entryFor table "set.__sub__" = some Builtin.«frozenset.__sub__» := entryFor_alias (id' := "frozenset.__sub__") (by kernel_rfl) rfl (by decide +kernel) (by kernel_rfl)
theorem sub_form (a b : Value) : Builtin.«frozenset.__sub__» ⟨[a, b], []⟩ = (do
    let p ← Builtin.Frozenset.slot1 "__sub__" ⟨[a, b], []⟩
    if !(← (Builtin.Frozenset.isAnySet p.1 <&&> Builtin.Frozenset.isAnySet p.2)) then
      rule "frozenset.__sub__.declined"
      ret .notImplemented
    else ret (← Builtin.Frozenset.difference "frozenset.__sub__" (← Builtin.Frozenset.addrOf p.1) p.2)) := by
  rfl
variable {a b : Addr} {S T : Int → Bool} {n m : Nat}
theorem isSet_at {s : Shared} {Q : Bool → Shared → Prop} {a : Addr} (ty : s.TypeIs (.ref a) "set") (q : Q true s) : wpAny (model P w) A (Builtin.Frozenset.isAnySet (.ref a)) Q E s := by
  unfold Builtin.Frozenset.isAnySet isInstance
  have z := sub_set_self
  wp_walk
  exact q
/-- what is walked: all of the set's members -/
def Mem (xs : Array (Int × Value)) (S : Int → Bool) : Prop := ∀ e ∈ xs.toList, GoodE e ∧ S (keyOf e) = true
section
variable {o : Obj} {es : Array (Int × Value)} {ep : Nat} {t : SetTable}
theorem walk_at (ho : s.heap.get? a = some o) (hd : o.data = .set es ep t) (hf : t.fits es.size = true) (hl : w.params.followText "set-order" = true ∨ t.led = true) (hp : w.params.followText "set-order" = true ∨ (!t.plain && decide (es.size > 1)) = false)
    {Q : Array (Int × Value) → Shared → Prop} (q : ∀ xs, (∀ e ∈ xs.toList, e ∈ es.toList) → Q xs s) : wpAny (model P w) A (setWalk a) Q E s := by
  unfold setWalk
  refine wpAny_bind (wpAny_setState_of ho hd hf ?_)
  dsimp only
  refine wpAny_bind (wpAny_byText ?_)
  by_cases c : w.params.followText "set-order" = true
  · refine wp_if_pos c ?_
    refine wpAny_bind (wpAny_askSetting (wpAny_pure (q _ fun e he => ?_)))
    exact (pick_perm _ es).mem_iff.mp he
  · refine wp_if_neg c ?_
    have p1 := hp.resolve_left c
    have p2 := hl.resolve_left c
    try refine wpAny_bind (wpAny_pure ?_)
    refine wp_if_neg (by show ¬ ((!t.plain && decide (es.size > 1)) = true); rw [p1]; exact Bool.false_ne_true) ?_
    try refine wpAny_bind (wpAny_pure ?_)
    refine wpAny_bind (wpAny_of_eq (a := ()) ?_ (wpAny_pure (q es fun _ h => h)))
    show (if (!t.led && decide (es.size > 1)) = true then unsupported "set:maker-not-led" else pure ()) = pure ()
    rw [p2]
    rfl
end
theorem forIn_keep {α β : Type} {M : Model} {f : α → β → Sem (ForInStep β)} {b : β} (I : Shared → Prop) : ∀ (l : List α) {s : Shared} {Q : β → Shared → Prop},
    (∀ x ∈ l, ∀ (s : Shared) (Q' : ForInStep β → Shared → Prop), I s → (∀ s', I s' → Q' (.yield b) s') → wpAny M A (f x b) Q' E s) → I s → (∀ s', I s' → Q b s') → wpAny M A (forIn l b f) Q E s
  | [], s, Q, _, i, q => by
    rw [List.forIn_nil]
    exact wpAny_pure (q s i)
  | x :: l, s, Q, h, i, q => by
    rw [List.forIn_cons]
    exact wpAny_bind (h x (List.mem_cons_self ..) s _ i fun s' i' => forIn_keep I l (fun y hy => h y (List.mem_cons_of_mem _ hy)) i' q)
theorem forIn_keepA {α β : Type} {M : Model} {f : α → β → Sem (ForInStep β)} {b : β} (I : Shared → Prop) (l : Array α) {s : Shared} {Q : β → Shared → Prop}
    (h : ∀ x ∈ l.toList, ∀ (s : Shared) (Q' : ForInStep β → Shared → Prop), I s → (∀ s', I s' → Q' (.yield b) s') → wpAny M A (f x b) Q' E s) (i : I s) (q : ∀ s', I s' → Q b s') : wpAny M A (forIn l b f) Q E s := by
  rw [← Array.forIn_toList]
  exact forIn_keep I l.toList h i q
theorem quiet_at : ∀ (l : List Addr) {s : Shared} {Q : Bool → Shared → Prop}, (∀ c ∈ l, ∃ S n, SetR w s.heap c S n) → Q true s → wpAny (model P w) A (setsQuiet l) Q E s := by
  intro l s Q h q
  unfold setsQuiet
  refine wpAny_bind (forIn_keep (fun s' => s' = s) l (fun c hc s' Q' hs k => ?_) rfl fun s' hs => ?_)
  · subst hs
    obtain ⟨S, n, o, es, ep, t, ho, hx, hd, g, nd, hm, hb, hf, _⟩ := h c hc
    refine wpAny_bind (wpAny_setEntries_of ho hd hf ?_)
    refine wpAny_bind (forIn_keepA (fun s'' => s'' = s') es (fun e he s'' Q'' hs k' => ?_) rfl fun s'' hs => ?_)
    · subst hs
      obtain ⟨i, tk, h1, h2⟩ := g e he
      obtain ⟨e1, e2⟩ := e
      dsimp only at h1
      subst h1
      exact wpAny_pure (k' _ rfl)
    · subst hs
      exact wpAny_pure (k _ rfl)
  · subst hs
    exact wpAny_pure q
/-- the set at a walked while the empty set at r is filled -/
theorem unseen_at {r : Addr} (R : SetR w s.heap a S n) (Rr : SetR w s.heap r (fun _ => false) 0) {l : List Addr} (hall : ∀ c ∈ a :: l, ∃ S n, SetR w s.heap c S n) {Q : Array (Int × Value) → Shared → Prop}
    (q : ∀ xs h', Mem xs S → (∀ c o, c ≠ r → s.heap.get? c = some o → h'.get? c = some o) → SetR w h' r (fun _ => false) 0 → Q xs { s with heap := h' }) : wpAny (model P w) A (setWalkUnseen a l (some r)) Q E s := by
  obtain ⟨o, es, ep, t, ho, hx, hd, g, nd, hm, hb, hf, hn, hr, hl⟩ := R
  have mem : ∀ xs : Array (Int × Value), (∀ e ∈ xs.toList, e ∈ es.toList) → Mem xs S := fun xs h e he => ⟨g e (h e he), (hm _).mpr (List.mem_map_of_mem (h e he))⟩
  unfold setWalkUnseen
  refine wpAny_bind (wpAny_setState_of ho hd hf ?_)
  dsimp only
  refine wpAny_bind (wpAny_byText ?_)
  by_cases c : (w.params.followText "set-order" || t.led && t.plain || decide (es.size ≤ 1)) = true
  · refine wp_if_pos c ?_
    refine walk_at ho hd hf hl ?_ fun xs h => ?_
    · simp only [Bool.or_eq_true, Bool.and_eq_true, decide_eq_true_eq] at c
      rcases c with (c | c) | c
      · exact .inl c
      · exact .inr (by rw [c.2]; rfl)
      · exact .inr (by rw [decide_eq_false (by omega), Bool.and_false])
    · exact q xs s.heap (mem xs h) (fun _ _ _ e => e) Rr
  · refine wp_if_neg c ?_
    try refine wpAny_bind (wpAny_pure ?_)
    refine wpAny_bind (quiet_at (a :: l) hall ?_)
    refine wp_if_neg (by decide) ?_
    try refine wpAny_bind (wpAny_pure ?_)
    refine wpAny_bind (wpAny_rule ?_)
    obtain ⟨o2, es2, ep2, t2, ho2, hx2, hd2, g2, nd2, hm2, hb2, hf2, hn2, hr2, hl2⟩ := Rr
    try dsimp only
    refine wpAny_bind (wpAny_setState_of ho2 hd2 hf2 ?_)
    dsimp only
    have nb : w.params.followText "set-order" = false := by
      cases z : w.params.followText "set-order" with
      | false => rfl
      | true => rw [z] at c; simp at c
    have l1 : t.led = true := hl.resolve_left (by rw [nb]; exact Bool.false_ne_true)
    have l2 : t2.led = true := hl2.resolve_left (by rw [nb]; exact Bool.false_ne_true)
    by_cases c2 : (t2.led && !t.led || t2.plain && !t.plain) = true
    · refine wp_if_pos c2 ?_
      refine wpAny_bind (wpAny_storeSet_of ho2 hd2 ?_ (fits_of_scanBound hb2))
      refine wpAny_pure (q es _ (mem es fun _ h => h) (fun y o' hy e => by rw [Heap.get?_update_other _ _ (Ne.symm hy)]; exact e) ?_)
      exact ⟨_, es2, _, _, store_at ho2 hd2, hx2, rfl, g2, nd2, hm2, hb2, by exact hf2, hn2, hr2, .inr (by rw [l1, l2]; rfl)⟩
    · refine wp_if_neg c2 ?_
      try refine wpAny_bind (wpAny_pure ?_)
      exact wpAny_pure (q es s.heap (mem es fun _ h => h) (fun _ _ _ e => e) ⟨o2, es2, ep2, t2, ho2, hx2, hd2, g2, nd2, hm2, hb2, hf2, hn2, hr2, hl2⟩)
theorem sub_none (R1 : SetR w s.heap a S n) (R2 : SetR w s.heap b T m) (sub : ∀ k, S k = true → T k = true) (le : n ≤ m) {Q : Value → Shared → Prop}
    (q : ∀ h', (∀ c o, s.heap.get? c = some o → h'.get? c = some o) → SetR w h' s.heap.objs.size (fun _ => false) 0 → Q (.ref s.heap.objs.size) { s with heap := h' }) : wpAny (model P w) A (binaryOp .Sub (.ref a) (.ref b)) Q E s := by
  have ta : s.TypeIs (.ref a) "set" := (R1.setOf (P := P)).typeIs
  have tb : s.TypeIs (.ref b) "set" := (R2.setOf (P := P)).typeIs
  refine wpAny_binaryOp_same (T := "set") ta tb F.fills_set_sub F.slot_set_sub ?_
  refine wpAny_call_entry F.slot_set_sub ta entry_sub ?_ (F.args_set_sub_2 _ _)
  rw [sub_form]
  unfold Builtin.Frozenset.slot1 slotArgs
  refine wpAny_bind (wpAny_bind (wpAny_of_eq (a := (Value.ref a, [Value.ref b])) rfl (wpAny_pure ?_)))
  dsimp only
  refine wpAny_bind (m := _ <&&> _) ?_
  unfold andM
  refine wpAny_bind (isSet_at ta ?_)
  show wpAny _ _ (Builtin.Frozenset.isAnySet (.ref b)) _ _ _
  refine isSet_at tb (wp_if_neg (by decide) ?_)
  refine wpAny_bind (wpAny_pure (wpAny_bind ?_))
  obtain ⟨o, es, ep, t, ho, hx, hd, g, nd, hm, hb, hf, hn, hr, hl⟩ := id R1
  obtain ⟨o2, es2, ep2, t2, ho2, hx2, hd2, g2, nd2, hm2, hb2, hf2, hn2, hr2, hl2⟩ := id R2
  unfold Builtin.Frozenset.difference
  dsimp only
  refine wpAny_bind (isSet_at tb ?_)
  refine wp_if_neg (by decide) ?_
  try refine wpAny_bind (m := Builtin.Frozenset.addrOf (.ref b)) (wpAny_pure ?_)
  refine wp_if_neg (by simp) ?_
  refine wp_if_pos rfl ?_
  unfold Builtin.Frozenset.sizeOf
  refine wpAny_bind (wpAny_bind (wpAny_setEntries_of ho2 hd2 hf2 (wpAny_pure ?_)))
  refine wpAny_bind (wpAny_bind (wpAny_setEntries_of ho hd hf (wpAny_pure ?_)))
  refine wp_if_neg (by rw [hn, hn2]; omega) ?_
  unfold Builtin.Frozenset.baseOf isInstance
  have z := sub_set_self
  obtain ⟨hp, gg, dr, tk, os⟩ := s
  wp_walk
  dsimp only at ho ho2 q R1 R2
  refine wpAny_askSetting (wpAny_pure ?_)
  simp only [newObj, if_true]
  refine wpAny_bind (wpAny_alloc (wpAny_pure ?_))
  dsimp only
  have k1 : ∀ c o, hp.get? c = some o → (hp.push (newS w)).get? c = some o := fun c o e => Heap.get?_push_of_some _ e
  have fr := setR_fresh (h := hp) w
  have na : a ≠ hp.objs.size := Nat.ne_of_lt (Heap.lt_size ho)
  have nb : b ≠ hp.objs.size := Nat.ne_of_lt (Heap.lt_size ho2)
  refine wpAny_bind (m := Builtin.Frozenset.addrOf (.ref hp.objs.size)) (wpAny_pure ?_)
  refine wpAny_bind (wpAny_setEpoch_of (k1 _ _ ho) hd hf ?_)
  refine wpAny_bind (wpAny_holding (wpAny_bind ?_))
  refine unseen_at (R1.at fun o e => k1 _ _ e) fr (fun c hc => ?_) fun xs h' hxs k2 R' => ?_
  · rcases List.mem_cons.mp hc with rfl | hc
    · exact ⟨_, _, R1.at fun o e => k1 _ _ e⟩
    rcases List.mem_cons.mp hc with rfl | hc
    · exact ⟨_, _, R2.at fun o e => k1 _ _ e⟩
    rcases List.mem_cons.mp hc with rfl | hc
    · exact ⟨_, _, fr⟩
    · cases hc
  · have k3 : ∀ c o, hp.get? c = some o → h'.get? c = some o := fun c o e => k2 c o (Nat.ne_of_lt (Heap.lt_size e)) (k1 c o e)
    refine wpAny_bind (forIn_keepA (fun s' => s' = ⟨h', gg, dr, tk, os⟩) xs (fun e he s' Q' hs kk => ?_) rfl fun s' hs => ?_)
    · subst hs
      obtain ⟨⟨i, ti, h1, h2⟩, h3⟩ := hxs e he
      obtain ⟨e1, e2⟩ := e
      dsimp only at h1 h2
      subst h1 h2
      refine wpAny_bind (wpAny_holding (wpAny_bind ?_))
      refine wpAny_setFind_of (knd := intKind P w) (k := i) (intKind_is P w i ti) rfl ((R2.at fun o e => k3 _ _ e).setOf (P := P)) fun r hr => ?_
      refine wpAny_bind (wpAny_pure ?_)
      have hs : r.isSome = true := by rw [hr]; exact sub i h3
      refine wp_if_neg (by rw [hs]; decide) ?_
      refine wpAny_pure ?_
      unfold Builtin.Frozenset.unchanged
      refine wpAny_bind (wpAny_bind (wpAny_setEpoch_of (k3 _ _ ho) hd hf ?_))
      refine wp_if_neg (by simp) (wpAny_pure (wpAny_pure (kk _ rfl)))
    · subst hs
      refine wpAny_pure (wpAny_pure (wpAny_pure ⟨_, rfl, (fun z => nomatch z), q h' k3 R'⟩))
end
end Cw
namespace Cw
open PySem PySem.Spec PyProof.Rows L2
theorem nodup_len : ∀ {l m : List Int}, l.Nodup → (∀ x ∈ l, x ∈ m) → l.length ≤ m.length
  | [], m, _, _ => Nat.zero_le _
  | x :: l, m, nd, h => by
    obtain ⟨nx, nd'⟩ := List.nodup_cons.mp nd
    have hx : x ∈ m := h x (List.mem_cons_self ..)
    have z := nodup_len (l := l) (m := m.erase x) nd' fun y hy => by
      have ne : y ≠ x := fun e => nx (by rw [← e]; exact hy)
      exact (List.mem_erase_of_ne ne).mpr (h y (List.mem_cons_of_mem _ hy))
    rw [List.length_erase_of_mem hx] at z
    have p : 0 < m.length := List.length_pos_of_mem hx
    rw [List.length_cons]
    omega
section
variable {X : Cx}
theorem setR_le {w : World} {h : Heap} {a b : Addr} {S T : Int → Bool} {n m : Nat} (R1 : SetR w h a S n) (R2 : SetR w h b T m) (sub : ∀ k, S k = true → T k = true) : n ≤ m := by
  obtain ⟨o, es, ep, t, ho, hx, hd, g, nd, hm, hb, hf, hn, _⟩ := R1
  obtain ⟨o2, es2, ep2, t2, ho2, hx2, hd2, g2, nd2, hm2, hb2, hf2, hn2, _⟩ := R2
  have z := nodup_len (l := es.toList.map keyOf) (m := es2.toList.map keyOf) nd fun x hx => (hm2 x).mp (sub x ((hm x).mpr hx))
  rw [List.length_map, List.length_map, Array.length_toList, Array.length_toList, hn, hn2] at z
  exact z
/-- set(xs) -/
def rSetOf (X : Cx) : List V → Hp → VK → Prop := fun xs H Q => ∃ (l : Addr) (ns : List Int), xs = [.ref l] ∧ SqL X.K H l (ns.map V.int) ∧ ns.length ≤ 4000 ∧ ∀ p c, c ≤ ns.length → H p = none → Q (.ref p) (upd H p (SetO X.w p (fun j => decide (j ∈ ns)) c))
theorem cr_setOf (hc : X.calm = true) : CallR X (.type "set") (rSetOf X) := by
  intro pins s σ H vs us Q I r h
  obtain ⟨l, ns, rfl, hs, hl, q⟩ := h
  obtain ⟨its, rv, pl, _⟩ := I.list hs
  rw [Vals.ref1 r]
  refine set_list (its := its.toArray) ns (I.ok.hd hc) pl.isList rv.ints (by show ns.length + 1 < 4096; omega) fun g' tk c R hc' k => ?_
  exact ⟨.ref s.heap.objs.size, _, I.laid (t' := tk) k (Nat.le_refl _) (setO_new R), rfl, q _ c hc' (I.hok.fresh (Nat.le_refl _))⟩
/-- a - b, all of a's being b's: a new empty set -/
def rSubN (w : World) : R2 := fun x y H Q => ∃ (a b : Addr) (S T : Int → Bool) (n m : Nat), x = .ref a ∧ y = .ref b ∧ H a = some (SetO w a S n) ∧ H b = some (SetO w b T m) ∧ (∀ k, S k = true → T k = true) ∧ ∀ p, H p = none → Q (.ref p) (upd H p (SetO w p (fun _ => false) 0))
theorem op_subN : OpR X (binaryOp .Sub) (rSubN X.w) := by
  intro pins s σ H x y v u Q I rx ry h
  obtain ⟨a, b, S, T, n, m, rfl, rfl, ha, hb, sub, q⟩ := h
  cases rx
  cases ry
  have R1 := setO_get I ha
  have R2 := setO_get I hb
  refine sub_none R1 R2 sub (setR_le R1 R2 sub) fun h' k R => ?_
  exact ⟨.ref s.heap.objs.size, _, I.laid (t' := s.toks) k (Nat.le_refl _) (setO_new R), rfl, q _ (I.hok.fresh (Nat.le_refl _))⟩
/-- len(s) -/
theorem cr_lenS : CallR X (.builtin "len") (fun xs H Q => ∃ (a : Addr) (S : Int → Bool) (n : Nat), xs = [.ref a] ∧ H a = some (SetO X.w a S n) ∧ Q (.int n) H) := by
  intro pins s σ H vs us Q I r h
  obtain ⟨a, S, n, rfl, ha, q⟩ := h
  rw [Vals.ref1 r]
  obtain ⟨o, es, ep, t, ho, hx, hd, g, nd, hm, hb, hf, hn, _⟩ := setO_get I ha
  have e : scanBound = 4096 := rfl
  refine call_len_set ho hx hd hf (by rw [e] at hb; omega) ?_
  rw [hn]
  exact ⟨.int n, H, I.tok _, ⟨_, rfl⟩, q⟩
/-- max(xs, default=k) -/
def rMaxD (K : PySem.W.Frag) : List V → List V → Hp → VK → Prop := fun xs zs H Q => ∃ (a : Addr) (ns : List Int) (k : Int), xs = [.ref a] ∧ SqL K H a (ns.map V.int) ∧ zs = [.int k] ∧ ∀ M, (ns = [] → M = k) → (∀ y ∈ ns, y ≤ M) → Q (.int M) H
theorem fold_max (n : Int) : ∀ (ns : List Int), n ≤ ns.foldl max n ∧ ∀ y ∈ ns, y ≤ ns.foldl max n := by
  intro ns
  induction ns generalizing n with
  | nil => exact ⟨Int.le_refl _, fun _ h => nomatch h⟩
  | cons k r ih =>
    rw [List.foldl_cons]
    obtain ⟨h1, h2⟩ := ih (max n k)
    refine ⟨Int.le_trans (Int.le_max_left _ _) h1, fun y hy => ?_⟩
    rcases List.mem_cons.mp hy with rfl | hy
    · exact Int.le_trans (Int.le_max_right _ _) h1
    · exact h2 y hy
theorem alike_ints (ns : List Int) : PySem.W.AlikeAll (ns.map PyData.int) := by
  constructor
  · intro x hx y hy
    obtain ⟨i, _, rfl⟩ := List.mem_map.mp hx
    obtain ⟨j, _, rfl⟩ := List.mem_map.mp hy
    rfl
  · intro x hx
    obtain ⟨i, _, rfl⟩ := List.mem_map.mp hx
    exact fun z => nomatch z
theorem cr_maxD (hc : X.calm = true) (hu : X.A.units + 3 < cLine) : CallRK X (.builtin "max") ["default"] (rMaxD X.K) := by
  intro pins s σ H xs zs us ws Q I r rz h
  obtain ⟨a, ns, k, rfl, hs, rfl, q⟩ := h
  obtain ⟨its, rv, pl, _⟩ := I.list hs
  rw [Vals.ref1 r]
  obtain ⟨u, rfl, tk0, rfl⟩ := vals1 rz
  have dpi : ∀ ns : List Int, DpAll X.K H (ns.map V.int) (ns.map PyData.int) := fun ns => by
    induction ns with
    | nil => exact .nil
    | cons n r ih => exact .cons (.int n) ih
  have dpt : ∀ ns : List Int, PyData.depthAll (ns.map PyData.int) ≤ 1 := fun ns => by
    induction ns with
    | nil => exact Nat.zero_le _
    | cons n r ih =>
      rw [List.map_cons]
      unfold PyData.depthAll PyData.depth
      omega
  obtain ⟨as, hr⟩ := Dp.readsAll I _ _ _ (dpi ns) rv
  have hd := dpt ns
  refine PySem.W.max_list_default (vs := its.toArray) (I.ok.hd hc) pl.isList (by rw [List.toList_toArray]; exact hr) (alike_ints ns) (by omega) (fun e h' tk k' => ?_) (fun y ys i v h' tk bs e _ rd k' => ?_)
  · exact ⟨.int k, H, I.kept k', ⟨_, rfl⟩, q k (fun _ => rfl) fun y hy => by rw [List.map_eq_nil_iff.mp e] at hy; cases hy⟩
  · cases ns with
    | nil => cases e
    | cons n r =>
      rw [List.map_cons] at e
      injection e with e1 e2
      subst e1 e2
      rw [PySem.W.maxD_ints] at rd
      cases rd with
      | int i t =>
        obtain ⟨f1, f2⟩ := fold_max n r
        refine ⟨.int (r.foldl max n), H, I.kept k', ⟨t, rfl⟩, q _ (fun z => nomatch z) fun y hy => ?_⟩
        rcases List.mem_cons.mp hy with rfl | hy
        · exact f1
        · exact f2 y hy
end
end Cw
namespace Cw
open PySem PySem.Spec PyProof.Rows PySem.SeqAt L2
/-! ## != by an own __eq__ -/
section
variable {M : Model} {prog : Program} {w : World} {A : Around} {E : Value → Shared → Prop} {s : Shared} {K : PySem.W.Frag} {x y f C : Addr} {ox oy : Obj} {od oe : Option Obj}
theorem objNe_entry (X : K.In s.heap) (I : PySem.W.InstAt s.heap x ox C od) (hs : PySem.W.findIn K (.ref C) "__eq__" = some (some (.ref f))) (hf : PySem.W.isFn K (.ref f) = true) (hu : A.units < cLine) {Q : Fin → Shared → Prop}
    (hcall : wpAny (model prog w) A (call (.ref f) [.ref x, .ref y]) (fun v s' => ∃ b, v = .bool b ∧ Q (.done (.ret (.bool (!b)))) s') E s) :
    wpAny (model prog w) A (Builtin.«object.__ne__» ⟨[.ref x, .ref y], []⟩) Q E s := by
  unfold Builtin.«object.__ne__»
  repeat (first
    | with_reducible refine wpAny_cRoomFor hu ?_
    | (refine wpAny_bind (m := callSpecialIfBound? (.ref x) (Str.ofString "__eq__") [.ref y])
        (PySem.W.ifBound_K X I hs hf (wpAny_mono hcall (fun r s' hr => by
          obtain ⟨b, rfl, hq⟩ := hr
          repeat (first | exact hq | exact wpAny_pure hq | exact wpAny_truthy_bool hq | (refine wpAny_bind (m := truthy (.bool _)) (wpAny_truthy_bool ?_)) | wp_step)) fun _ _ e => e)))
    | wp_step)
theorem ifBound_objNe {args : List Value} {Q : Option Value → Shared → Prop} (X : K.In s.heap) (I : PySem.W.InstAt s.heap x ox C od) (hs : PySem.W.findIn K (.ref C) "__ne__" = some (some (.builtin "object.__ne__")))
    (h : wpAny M A (call (.builtin "object.__ne__") (.ref x :: args)) (fun v => Q (some v)) E s) : wpAny M A (callSpecialIfBound? (.ref x) "__ne__" args) Q E s := by
  simp only [callSpecialIfBound?, bindSpecialIfBound?]
  refine wpAny_holding (wpAny_bind (wpAny_bind (wpAny_bind (I.type.here ((PySem.W.looks_findIn X hs).here ?_)))))
  refine wpAny_bind (wpAny_askSetting (wpAny_ite ?_))
  have fin : wpAny M A (call (.builtin "object.__ne__") ([.ref x] ++ args) >>= fun v => pure (some v)) Q E s := wpAny_bind (wpAny_mono h (fun v s' h' => wpAny_pure h') fun _ _ h' => h')
  split
  · exact wpAny_bind (wpAny_of_eq (F.cmp_object.ne.bind _) (wpAny_pure (by exact fin)))
  · exact wpAny_tryCatch (wpAny_bind (wpAny_of_eq (F.cmp_object.ne.bind _) (wpAny_pure (by exact fin))))
theorem rc_ne (hu : A.units + 1 < cLine) (X : K.In s.heap) (I : PySem.W.InstAt s.heap x ox C od) (J : PySem.W.InstAt s.heap y oy C oe) (hm : PySem.W.mroIn K C (.type "object") = some true) (hn : PySem.W.findIn K (.ref C) "__ne__" = some (some (.builtin "object.__ne__")))
    (hs : PySem.W.findIn K (.ref C) "__eq__" = some (some (.ref f))) (hf : PySem.W.isFn K (.ref f) = true) {Q : Value → Shared → Prop}
    (hcall : wpAny (model prog w) A.in1 (call (.ref f) [.ref x, .ref y]) (fun v s' => ∃ b, v = .bool b ∧ Q (.bool (!b)) s') E s) :
    wpAny (model prog w) A (richCompare .NotEq (.ref x) (.ref y)) Q E s := by
  have one : wpAny (model prog w) A (tryCompare (.ref x) "__ne__" (.ref y)) (fun r s' => ∃ b, r = some (.bool b) ∧ Q (.bool b) s') E s := by
    unfold tryCompare
    refine wpAny_bind (ifBound_objNe X I hn (wpAny_call (codeAny_call_builtin F.cmp_object.ne.plain F.cmpEntry_ne (PySem.W.check_slot F.cmpKind_ne F.cmpSplit_ne (I.type.andThen (PySem.W.looks_mroIn X hm)) (F.cmpArgs_ne _ _)
      (objNe_entry (A := A.in1) X I hs hf (by exact hu) (wpAny_mono hcall (fun v s' hv => ?_) fun _ _ e => e))))))
    obtain ⟨b, rfl, hq⟩ := hv
    first | exact ⟨b, rfl, wpAny_pure ⟨_, rfl, hq⟩⟩ | exact ⟨b, rfl, wpAny_pure (wpAny_pure ⟨_, rfl, hq⟩)⟩
  unfold richCompare
  simp only [oneThing_ref]
  refine wpAny_holding (wpAny_bind (wpAny_cRoomFor (Nat.lt_of_succ_lt hu) ?_))
  rw [cmpInfo_NotEq]
  dsimp only
  refine wpAny_bind (I.type.here (wpAny_bind (J.type.here ?_)))
  rw [show (Value.ref C != Value.ref C) = false from by simp]
  simp only [Bool.false_eq_true, if_false]
  refine wpAny_bind (wpAny_pure ?_)
  simp only [Bool.false_eq_true, if_false]
  refine wpAny_bind (wpAny_mono one (fun v s' hv => ?_) fun _ _ e => e)
  obtain ⟨b, rfl, hq⟩ := hv
  first | exact wpAny_pure hq | exact wpAny_pure (wpAny_pure hq)
end
/-- x != y, equal by the own == -/
def rNeG (D : Eqv) : R2 := fun x y H Q => D x y H ∧ ∀ H', Ext H H' → Q (.bl false) H'
section
variable {X : Cx} {n : Nat}
theorem op_neG {CX : CXT} {C f : Addr} {fd : FuncData} {ps : List Str} {R : Addr → Addr → Hp → Prop} {E : XK} (F : FnOk X.prog X.w X.K X.mg X.base CX n f fd ps (spEq R))
    (hm : PySem.W.mroIn X.K C (.type "object") = some true) (hn : PySem.W.findIn X.K (.ref C) "__ne__" = some (some (.builtin "object.__ne__")))
    (hs : PySem.W.findIn X.K (.ref C) "__eq__" = some (some (.ref f))) (hf : PySem.W.isFn X.K (.ref f) = true) (hb : Binds X.K fd ps []) (hx : Passes CX X E) (hr : Room (n + 1) X.A) : OpR X (compareOp .NotEq) (rNeG (DIns C R)) := by
  intro pins s σ H x y u v Q I rx ry hq
  obtain ⟨⟨a, b, dx, dy, fs, gs, rfl, rfl, ha, hb', hR⟩, q⟩ := hq
  cases rx
  cases ry
  obtain ⟨mA, J, _⟩ := ins_get I.hok ha
  obtain ⟨mB, J', _⟩ := ins_get I.hok hb'
  obtain ⟨od, J, _⟩ := J.look
  obtain ⟨od', J', _⟩ := J'.look
  show wpAny (model X.prog X.w) X.A (richCompare .NotEq (.ref a) (.ref b)) (EP X pins σ Q) X.xe s
  refine rc_ne (hr.mono (Nat.succ_le_succ (Nat.zero_le n)) |>.in1.units0) I.kIn J J' hm hn hs hf ?_
  have hsp : spEq R [.ref a, .ref b] H (fun v H' => v = .bl true ∧ Ext H H') E := ⟨a, b, rfl, hR, fun H' e => ⟨rfl, e⟩⟩
  have hl := F.len _ _ _ _ hsp
  have r2 : Vals [V.ref a, V.ref b] [Value.ref a, Value.ref b] := .cons rfl (.cons rfl .nil)
  have e0 : Env0 X.prog X.w X.K X.mg X.base X.A.in1 X.stack s H := I.env0.in1
  refine wpAny_call (codeAny_mono (F.run X.A.in1 X.stack s H ⟨[.ref a, .ref b], []⟩ [.ref a, .ref b] [.ref a, .ref b] _ E hr.in1 e0 (by
    have := hb s [.ref a, .ref b] I.kIn (by simpa using hl)
    simpa using this) r2 hsp) fun r s' hq => ?_)
  cases r with
  | error e => exact hx pins σ H s e s' I hq
  | ok fl =>
    cases fl with
    | ret w =>
      obtain ⟨z, H', I', rz, ez, ex⟩ := I.after hq
      subst ez
      cases rz
      exact ⟨true, rfl, .bl false, H', I', rfl, q H' ex⟩
    | next => exact False.elim hq
    | brk => exact False.elim hq
    | cont => exact False.elim hq
end
end Cw
namespace Cw
open PySem L2
def top (i : Nat) : Stmt := PySem.Challenge.pw_cutwalks_k57_texts_written_and_read.main.body.getD i (.Pass ⟨0, 0, 0, 0⟩)
abbrev sIsInt : Stmt := top 8
abbrev sPlaces : Stmt := top 9
abbrev sAsc : Stmt := top 10
abbrev sMarks : Stmt := top 11
abbrev sSome : Stmt := top 12
abbrev sChange : Stmt := top 0
abbrev sRepl : Stmt := top 0
abbrev sRow : Stmt := top 15
theorem ifT {c : Bool} {A B : Prop} (h : c = true) (x : A) : if c = true then A else B := by
  rw [if_pos h]
  exact x
theorem ifF {c : Bool} {A B : Prop} (h : c = false) (x : B) : if c = true then A else B := by
  rw [h, if_neg Bool.false_ne_true]
  exact x
theorem same_new {H H1 : Hp} {p : Addr} {o : HO} (s : Same H H1) (h : H1 p = none) : Same H (upd H1 p o) := fun b u e => by
  rw [upd_ne (ne_of_none (s b u e) h)]
  exact s b u e
/-- what stands at D is replaced, D being new since H -/
theorem same_put {H H1 : Hp} {p : Addr} {o : HO} (s : Same H H1) (h : H p = none) : Same H (upd H1 p o) := fun b u e => by
  rw [upd_ne (ne_of_none e h)]
  exact s b u e
theorem all_true (n : Nat) : (List.replicate n true).all id = true := by
  induction n with
  | zero => rfl
  | succ n ih => rw [List.replicate_succ, List.all_cons, ih]; rfl
abbrev Asc (ns : List Int) : Prop := ns.Pairwise (· < ·)
/-- a list of ints stands at a -/
abbrev IL (H : Hp) (a : Addr) (ns : List Int) : Prop := H a = some (.lst (ns.map V.int))
theorem il_at {ns : List Int} {i : Nat} {x : V} (h : (ns.map V.int)[i]? = some x) : ∃ z, x = V.int z ∧ ns[i]? = some z := by
  rw [List.getElem?_map] at h
  cases e : ns[i]? with
  | none => rw [e] at h; cases h
  | some z => rw [e] at h; exact ⟨z, (Option.some.inj h).symm, rfl⟩
/-- what the names of the built-ins hold -/
structure Bl (mg : Str → Option Value) : Prop where
  int : mg "int" = none
  bool : mg "bool" = none
  list : mg "list" = none
  tuple : mg "tuple" = none
  range : mg "range" = none
  len : mg "len" = none
  abs : mg "abs" = none
  all : mg "all" = none
  isi : mg "isinstance" = none
  zip : mg "zip" = none
  max : mg "max" = none
  min : mg "min" = none
  set : mg "set" = none
  sorted : mg "sorted" = none
  dict : mg "dict" = none
def spOne : Sp := fun vs H Q _ => ∃ i : Int, vs = [.int i] ∧ Q (.bl true) H
/-- places from low to high -/
def spPlaces : Sp := fun vs H Q _ => ∃ (a : Addr) (ns : List Int) (lo hi : Int), vs = [.ref a, .int lo, .int hi] ∧ IL H a ns ∧ ns.length ≤ 1000 ∧ (∀ x ∈ ns, lo ≤ x ∧ x ≤ hi) ∧ ∀ H', Same H H' → Q (.bl true) H'
def spAsc : Sp := fun vs H Q _ => ∃ (a : Addr) (ns : List Int) (lo hi : Int), vs = [.ref a, .int lo, .int hi] ∧ IL H a ns ∧ ns.length ≤ 1000 ∧ (∀ x ∈ ns, lo ≤ x ∧ x ≤ hi) ∧ Asc ns ∧ ∀ H', Same H H' → Q (.bl true) H'
def spMarks : Sp := fun vs H Q _ => ∃ (a : Addr) (ns : List Int) (hi : Int), vs = [.ref a, .int hi] ∧ IL H a ns ∧ ns.length ≤ 400 ∧ (∀ x ∈ ns, 1 ≤ x ∧ x ≤ hi) ∧ Asc ns ∧ ∀ H', Same H H' → Q (.bl true) H'
def spSome : Sp := fun vs H Q _ => ∃ (a b : Addr) (ns ms : List Int), vs = [.ref a, .ref b] ∧ IL H a ns ∧ IL H b ms ∧ ns.length ≤ 400 ∧ ms.length ≤ 400 ∧ Asc ns ∧ (∀ x ∈ ns, 1 ≤ x) ∧ (∀ x ∈ ns, x ∈ ms) ∧ ∀ H', Same H H' → Q (.bl true) H'
section
variable {P : Program} {w : World} {K : PySem.W.Frag} {mg : Str → Option Value} {base : Heap}
theorem scI : FnScope ["thing"] ["thing"] (defScope sIsInt) := ⟨rfl, rfl, rfl, by decide +kernel, rfl, by decide +kernel, by decide +kernel⟩
theorem ok_int {f : Addr} {fd : FuncData} (F : Fun K "is_integer" "is_integer" sIsInt f fd) (T : Bl mg) : FnOk P w K mg base CX0 1 f fd ["thing"] spOne := by
  refine F.ok scI (fun vs H Q E h => ?_) (fun cdv A outer s H vs Q E hr h => ?_)
  · obtain ⟨i, rfl, _⟩ := h
    rfl
  · obtain ⟨i, rfl, k⟩ := h
    refine ⟨_, pss_one (ps_ret (pe_and (pe_callB call_isi (by rfl) T.isi (by decide +kernel) (pa_cons (pv 0) (pa_cons (pe_bltn (by rfl) T.int (by decide +kernel) (v := V.ty "int") rfl) pa_nil)))
      (pe_one (pe_not (pe_callB call_isi (by rfl) T.isi (by decide +kernel) (pa_cons (pv 0) (pa_cons (pe_bltn (by rfl) T.bool (by decide +kernel) (v := V.ty "bool") rfl) pa_nil))))))), ?_⟩
    refine ⟨_, rfl, _, _, _, _, true, rfl, ClsV.ty _, .base (.int i), kit_ty (by decide +kernel), _, rfl, ?_⟩
    refine ifT rfl ?_
    refine ⟨_, rfl, _, _, _, _, false, rfl, ClsV.ty _, .base (.int i), kit_ty (by decide +kernel), _, rfl, ?_⟩
    exact k
theorem scP : FnScope ["thing", "low", "high", "place"] ["thing", "low", "high"] (defScope sPlaces) := ⟨rfl, rfl, rfl, by decide +kernel, rfl, by decide +kernel, by decide +kernel⟩
theorem ok_places {f fI : Addr} {fd fdI : FuncData} (F : Fun K "are_places" "are_places" sPlaces f fd) (T : Bl mg) (gI : mg "is_integer" = some (.ref fI)) (kI : PySem.W.keepIn K (.ref fI) = true) (bI : Binds K fdI ["thing"] []) (GI : FnOk P w K mg base CX0 1 fI fdI ["thing"] spOne) :
    FnOk P w K mg base CX0 2 f fd ["thing", "low", "high"] spPlaces := by
  refine F.ok scP (fun vs H Q E h => ?_) (fun cdv A outer s H vs Q E hr h => ?_)
  · obtain ⟨a, ns, lo, hi, rfl, _⟩ := h
    rfl
  · obtain ⟨a, ns, lo, hi, rfl, hS, hl, hb, k⟩ := h
    refine ⟨_, pss_cons (ps_if (pt_not (pt_val (pe_callB call_isi (by rfl) T.isi (by decide +kernel) (pa_cons (pv 0) (pa_cons (pe_bltn (by rfl) T.list (by decide +kernel) (v := V.ty "list") rfl) pa_nil))))) (pss_one (ps_ret pe_bl)) pss_nil)
      (pss_one (ps_ret (pe_callB (cr_all rfl) (by rfl) T.all (by decide +kernel) (pa_cons (pe_lc (own := [("place", 3)]) (g := gName 3) (tt := tYes) rfl scP.nd
        (pi_list (pv 0)) (blkOk_by (own := [("place", 3)]) (N := ["thing", "low", "high", "place"]) (sc := defScope sPlaces) (by decide +kernel)) (fun _ _ _ _ _ => pg_name (i := 3) scP.nd rfl (Or.inl rfl)) (fun _ _ _ _ _ => pts_nil)
        (fun _ _ _ _ _ => pe_and (pe_call GI hr rfl gI kI bI .nil pass0 (pa_cons (pv 3) pa_nil)) (pe_one (pe_chain op_le op_le (pv 1) (pv 3) (pv 2))))) pa_nil)))), ?_⟩
    refine ⟨_, rfl, _, _, _, _, true, rfl, ClsV.ty _, .base (.lst hS), kit_ty (by decide +kernel), _, rfl, ?_⟩
    refine ifF rfl ?_
    refine ⟨_, rfl, a, rfl, ⟨_, SqL.of hS⟩, fun D hD => ?_⟩
    refine lc_list (K := K) (a := a) (xs := ns.map V.int) (fun i H' => Same H H' ∧ H' D = some (.lst (List.replicate i (V.bl true)))) ⟨same_new (Same.refl H) hD, upd_same⟩ (fun i H' _ q => SqL.of (q.1 _ _ hS)) ?_ ?_
    · rintro i x H' hx ⟨s1, hD'⟩
      obtain ⟨z, rfl, hz⟩ := il_at hx
      have hil : i < ns.length := (List.getElem?_eq_some_iff.mp hz).1
      obtain ⟨b1, b2⟩ := hb z (List.mem_of_getElem? hz)
      refine ⟨rfl, ?_⟩
      unfold tYes
      refine iteT ?_
      refine ⟨_, rfl, _, rfl, _, rfl, ?_⟩
      refine ifT rfl ?_
      refine ⟨_, rfl, _, rfl, _, _, rfl, rfl, _, rfl, ?_⟩
      refine ifT (by simp [b1]) ?_
      refine ⟨_, rfl, _, _, rfl, rfl, ?_⟩
      refine ⟨_, hD', by rw [List.length_replicate]; exact small1000 (by omega), same_put s1 hD, ?_⟩
      rw [upd_same, List.replicate_succ']
      simp [b2]
    · rintro H' ⟨s1, hD'⟩
      refine ⟨D, List.replicate ns.length true, rfl, SqL.of (by rw [hD', List.map_replicate, List.length_map]), ?_⟩
      rw [all_true]
      exact k _ s1
end
end Cw
namespace Cw
open PySem L2
theorem cut_one (xs : List V) : cutV xs (some 1) none = xs.drop 1 := by
  unfold cutV
  have e1 : HT.sIx xs.length 0 (some 1) = min 1 xs.length := HT.sIx_nat xs.length 0 1
  rw [e1, HT.sIx_none]
  cases xs with
  | nil => rfl
  | cons x r =>
    have e2 : min 1 (x :: r).length = 1 := by
      rw [List.length_cons]
      omega
    rw [e2, List.drop_succ_cons, List.drop_zero, List.length_cons, Nat.add_sub_cancel]
    exact List.take_length
section
variable {P : Program} {w : World} {K : PySem.W.Frag} {mg : Str → Option Value} {base : Heap}
abbrev NA : List Str := ["thing", "low", "high", "before", "place"]
theorem scA : FnScope NA ["thing", "low", "high"] (defScope sAsc) := ⟨rfl, rfl, rfl, by decide +kernel, rfl, by decide +kernel, by decide +kernel⟩
theorem ok_asc {f fP : Addr} {fd fdP : FuncData} (F : Fun K "are_ascending" "are_ascending" sAsc f fd) (T : Bl mg) (gP : mg "are_places" = some (.ref fP)) (kP : PySem.W.keepIn K (.ref fP) = true) (bP : Binds K fdP ["thing", "low", "high"] []) (GP : FnOk P w K mg base CX0 2 fP fdP ["thing", "low", "high"] spPlaces) :
    FnOk P w K mg base CX0 3 f fd ["thing", "low", "high"] spAsc := by
  refine F.ok scA (fun vs H Q E h => ?_) (fun cdv A outer s H vs Q E hr h => ?_)
  · obtain ⟨a, ns, lo, hi, rfl, _⟩ := h
    rfl
  · obtain ⟨a, ns, lo, hi, rfl, hS, hl, hb, ha, k⟩ := h
    refine ⟨_, pss_cons (ps_if (pt_not (pt_val (pe_call GP hr rfl gP kP bP .nil pass0 (pa_cons (pv 0) (pa_cons (pv 1) (pa_cons (pv 2) pa_nil)))))) (pss_one (ps_ret pe_bl)) pss_nil)
      (pss_one (ps_ret (pe_callB (cr_all rfl) (by rfl) T.all (by decide +kernel) (pa_cons (pe_lc (own := [("before", 3), ("place", 4)]) (g := gTup K 2 (gCons (gName 3) (gCons (gName 4) gNil))) (tt := tYes) rfl scA.nd
        (pi_zip (by rfl) T.zip (pa_cons (pv 0) (pa_cons (pe_slice sl_list (pv 0) (po_some pe_int) po_none) pa_nil))) (blkOk_by (own := [("before", 3), ("place", 4)]) (N := NA) (sc := defScope sAsc) (by decide +kernel))
        (fun _ _ _ _ _ => pg_tup rfl (pgs_cons (pg_name (i := 3) scA.nd rfl (Or.inl rfl)) (pgs_cons (pg_name (i := 4) scA.nd rfl (Or.inl rfl)) pgs_nil))) (fun _ _ _ _ _ => pts_nil)
        (fun _ _ _ _ _ => pe_cmpR op_lt (pv 3) (pv 4) (nomark _))) pa_nil)))), ?_⟩
    refine ⟨_, rfl, _, rfl, _, rfl, a, ns, lo, hi, rfl, hS, hl, hb, fun H1 s1 => ⟨_, rfl, ?_⟩⟩
    refine ifF rfl ?_
    refine ⟨_, rfl, _, rfl, 1, rfl, a, _, rfl, SqL.of (s1 _ _ hS), fun c nc => ?_⟩
    have s2 := same_new (o := .lst (cutV (ns.map V.int) (some 1) none)) s1 nc
    rw [cut_one] at s2
    rw [cut_one]
    refine ⟨a, c, _, _, rfl, SqL.of (s2 _ _ hS), SqL.of upd_same, fun D hD => ?_⟩
    have nc' : H c = none := s1.free nc
    have ncD : c ≠ D := ne_of_none upd_same hD
    have hn : ns.length - 1 = min (ns.map V.int).length ((ns.map V.int).drop 1).length := by
      rw [List.length_drop, List.length_map]
      omega
    refine lc_it (walk_zip hn) (fun i H' => Same H H' ∧ H' c = some (.lst ((ns.map V.int).drop 1)) ∧ H' D = some (.lst (List.replicate i (V.bl true)))) ⟨same_new s2 hD, by rw [upd_ne ncD]; exact upd_same, upd_same⟩ (fun i H' _ q => ⟨SqL.of (q.1 _ _ hS), SqL.of q.2.1⟩) ?_ ?_
    · rintro i x H' H'' hi ⟨s3, hc, hD'⟩ ⟨t, x1, x2, rfl, nt, rfl, e1, e2⟩
      have h1 : i < ns.length := by omega
      have h2 : i + 1 < ns.length := by omega
      have g1 : x1 = .int ns[i] := by
        dsimp only at e1
        rw [List.getElem?_map, List.getElem?_eq_getElem h1] at e1
        exact (Option.some.inj e1).symm
      have g2 : x2 = .int ns[i + 1] := by
        dsimp only at e2
        rw [List.getElem?_drop, List.getElem?_map, Nat.add_comm 1 i, List.getElem?_eq_getElem h2] at e2
        exact (Option.some.inj e2).symm
      subst g1 g2
      have hlt : ns[i] < ns[i + 1] := List.pairwise_iff_getElem.mp ha i (i + 1) h1 h2 (Nat.lt_succ_self i)
      have ntc : c ≠ t := ne_of_none hc nt
      have ntD : D ≠ t := ne_of_none hD' nt
      refine ⟨t, _, rfl, SqT.of upd_same, rfl, _, _, rfl, _, _, rfl, rfl, rfl, ?_⟩
      unfold tYes
      refine iteT ?_
      refine ⟨_, rfl, _, rfl, _, _, rfl, rfl, ?_⟩
      refine ⟨_, (by rw [upd_ne ntD]; exact hD'), by rw [List.length_replicate]; exact small1000 (by omega), same_put (same_new s3 nt) (s2.trans (Same.refl _) |>.free hD), ?_, ?_⟩
      · rw [upd_ne ncD, upd_ne ntc]
        exact hc
      · rw [upd_same, List.replicate_succ']
        simp [hlt]
    · rintro H' ⟨s3, hc, hD'⟩
      refine ⟨D, List.replicate (ns.length - 1) true, rfl, SqL.of (by rw [hD', List.map_replicate]), ?_⟩
      rw [all_true]
      exact k _ s3
theorem scM : FnScope ["thing", "high"] ["thing", "high"] (defScope sMarks) := ⟨rfl, rfl, rfl, by decide +kernel, rfl, by decide +kernel, by decide +kernel⟩
theorem ok_marks {f fA : Addr} {fd fdA : FuncData} {t : Tok} (F : Fun K "are_marks" "are_marks" sMarks f fd) (T : Bl mg) (gN : mg "MOST_MARKS" = some (.int 400 t)) (gA : mg "are_ascending" = some (.ref fA)) (kA : PySem.W.keepIn K (.ref fA) = true) (bA : Binds K fdA ["thing", "low", "high"] []) (GA : FnOk P w K mg base CX0 3 fA fdA ["thing", "low", "high"] spAsc) :
    FnOk P w K mg base CX0 4 f fd ["thing", "high"] spMarks := by
  refine F.ok scM (fun vs H Q E h => ?_) (fun cdv A outer s H vs Q E hr h => ?_)
  · obtain ⟨a, ns, hi, rfl, _⟩ := h
    rfl
  · obtain ⟨a, ns, hi, rfl, hS, hl, hb, ha, k⟩ := h
    refine ⟨_, pss_one (ps_ret (pe_and (pe_call GA hr rfl gA kA bA .nil pass0 (pa_cons (pv 0) (pa_cons pe_int (pa_cons (pv 1) pa_nil))))
      (pe_one (pe_cmpR op_le (pe_callB call_len_seq (by rfl) T.len PySem.boot_len (pa_cons (pv 0) pa_nil)) (pe_glob rfl gN (v := V.int 400) ⟨_, rfl⟩) (nomark _))))), ?_⟩
    refine ⟨_, rfl, _, rfl, a, ns, 1, hi, rfl, hS, by omega, hb, ha, fun H1 s1 => ⟨_, rfl, ?_⟩⟩
    refine ifT rfl ?_
    refine ⟨_, rfl, a, _, rfl, .inl (SqL.of (s1 _ _ hS)), _, _, rfl, rfl, ?_⟩
    have e : decide (((ns.map V.int).length : Int) ≤ 400) = true := by
      rw [List.length_map]
      exact decide_eq_true (by omega)
    have z := k _ s1
    rw [← e] at z
    exact z
theorem scSo : FnScope ["thing", "marks"] ["thing", "marks"] (defScope sSome) := ⟨rfl, rfl, rfl, by decide +kernel, rfl, by decide +kernel, by decide +kernel⟩
theorem ok_some {f fA : Addr} {fd fdA : FuncData} (F : Fun K "are_some_of" "are_some_of" sSome f fd) (T : Bl mg) (gA : mg "are_ascending" = some (.ref fA)) (kA : PySem.W.keepIn K (.ref fA) = true) (bA : Binds K fdA ["thing", "low", "high"] []) (GA : FnOk P w K mg base CX0 3 fA fdA ["thing", "low", "high"] spAsc) :
    FnOk P w K mg base CX0 4 f fd ["thing", "marks"] spSome := by
  refine F.ok scSo (fun vs H Q E h => ?_) (fun cdv A outer s H vs Q E hr h => ?_)
  · obtain ⟨a, b, ns, ms, rfl, _⟩ := h
    rfl
  · obtain ⟨a, b, ns, ms, rfl, hS, hM, hl, hm, ha, h1, hsub, k⟩ := h
    have hu := hr.units
    refine ⟨_, pss_cons (ps_if (pt_not (pt_val (pe_call GA hr rfl gA kA bA .nil pass0 (pa_cons (pv 0) (pa_cons pe_int (pa_cons (pe_callBK (cr_maxD rfl (Nat.lt_of_le_of_lt (Nat.add_le_add_left (by decide : 3 ≤ 64) _) hu)) (by rfl) T.max (by decide +kernel) (pa_cons (pv 1) pa_nil) (pk_cons pe_int pk_nil)) pa_nil)))))) (pss_one (ps_ret pe_bl)) pss_nil)
      (pss_one (ps_ret (pe_cmpR op_eq (pe_callB cr_lenS (by rfl) T.len PySem.boot_len (pa_cons (pe_op op_subN (pe_callTy (cr_setOf rfl) (by rfl) T.set (by decide +kernel) (pa_cons (pv 0) pa_nil)) (pe_callTy (cr_setOf rfl) (by rfl) T.set (by decide +kernel) (pa_cons (pv 1) pa_nil))) pa_nil)) pe_int (nomark _)))), ?_⟩
    refine ⟨_, rfl, _, rfl, b, ms, 0, rfl, SqL.of hM, rfl, fun M _ hM2 => ?_⟩
    refine ⟨a, ns, 0, M, rfl, hS, by omega, fun x hx => ⟨Int.le_trans (by decide) (h1 x hx), hM2 x (hsub x hx)⟩, ha, fun H1 s1 => ⟨_, rfl, ?_⟩⟩
    refine ifF rfl ?_
    refine ⟨_, rfl, a, ns, rfl, SqL.of (s1 _ _ hS), by omega, fun p c _ hp => ?_⟩
    have s2 := same_new (o := SetO w p (fun j => decide (j ∈ ns)) c) s1 hp
    refine ⟨_, rfl, b, ms, rfl, SqL.of (s2 _ _ hM), by omega, fun p2 c2 _ hp2 => ?_⟩
    have s3 := same_new (o := SetO w p2 (fun j => decide (j ∈ ms)) c2) s2 hp2
    have n12 : p ≠ p2 := ne_of_none upd_same hp2
    refine ⟨p, p2, _, _, _, _, rfl, rfl, by rw [upd_ne n12]; exact upd_same, upd_same, fun j hj => decide_eq_true (hsub j (of_decide_eq_true hj)), fun p3 hp3 => ?_⟩
    refine ⟨p3, _, 0, rfl, upd_same, rfl, ?_⟩
    have e : decide (V.int ((0 : Nat) : Int) = V.int 0) = true := by simp
    have z := k _ (same_new (o := SetO w p3 (fun _ => false) 0) s3 hp3)
    rw [← e] at z
    exact z
end
end Cw
namespace Cw
open PySem L2
abbrev sInit : Stmt := inClass sRow 0
abbrev sGetM : Stmt := inClass sRow 2
abbrev sEq : Stmt := inClass sRow 6
abbrev sChanged : Stmt := inClass sRow 11
theorem k12 : ¬ (("_length" : Str) = "_marks") := by decide +kernel
theorem k13 : ¬ (("_length" : Str) = "_strict") := by decide +kernel
theorem k23 : ¬ (("_marks" : Str) = "_strict") := by decide +kernel
def flds (n : Int) (l1 l2 : Addr) : List (Str × V) := putF "_strict" (.ref l2) (putF "_marks" (.ref l1) (putF "_length" (.int n) []))
theorem flds_eq (n : Int) (l1 l2 : Addr) : flds n l1 l2 = ([("_length", V.int n), ("_marks", V.ref l1), ("_strict", V.ref l2)] : List (Str × V)) := by
  unfold flds
  rw [show putF "_length" (V.int n) [] = ([("_length", V.int n)] : List (Str × V)) from rfl]
  rw [show putF "_marks" (V.ref l1) ([("_length", V.int n)] : List (Str × V)) = (if ("_length" : Str) = "_marks" then ([("_length", V.ref l1)] : List (Str × V)) else ("_length", V.int n) :: putF "_marks" (V.ref l1) []) from rfl, if_neg k12]
  rw [show putF "_marks" (V.ref l1) [] = ([("_marks", V.ref l1)] : List (Str × V)) from rfl]
  rw [show putF "_strict" (V.ref l2) ([("_length", V.int n), ("_marks", V.ref l1)] : List (Str × V)) = (if ("_length" : Str) = "_strict" then ([("_length", V.ref l2), ("_marks", V.ref l1)] : List (Str × V)) else ("_length", V.int n) :: (if ("_marks" : Str) = "_strict" then ([("_marks", V.ref l2)] : List (Str × V)) else ("_marks", V.ref l1) :: putF "_strict" (V.ref l2) [])) from rfl, if_neg k13, if_neg k23]
  rfl
theorem fl_L (n : Int) (l1 l2 : Addr) : (flds n l1 l2).lookup ("_length" : Str) = some (.int n) := by
  unfold flds
  rw [lookup_putF, if_neg k13, lookup_putF, if_neg k12, lookup_putF, if_pos rfl]
theorem fl_M (n : Int) (l1 l2 : Addr) : (flds n l1 l2).lookup ("_marks" : Str) = some (.ref l1) := by
  unfold flds
  rw [lookup_putF, if_neg k23, lookup_putF, if_pos rfl]
theorem fl_S (n : Int) (l1 l2 : Addr) : (flds n l1 l2).lookup ("_strict" : Str) = some (.ref l2) := by
  unfold flds
  rw [lookup_putF, if_pos rfl]
theorem fl_no (n : Int) (l1 l2 : Addr) {m : Str} (h1 : ¬ m = "_length") (h2 : ¬ m = "_marks") (h3 : ¬ m = "_strict") : (flds n l1 l2).lookup m = none := by
  unfold flds
  rw [lookup_putF, if_neg h3, lookup_putF, if_neg h2, lookup_putF, if_neg h1]
  rfl
/-- what a row is -/
structure Good (n : Int) (ms ss : List Int) : Prop where
  pos : 1 ≤ n
  len : ms.length ≤ 400
  rng : ∀ x ∈ ms, 1 ≤ x ∧ x ≤ n - 1
  asc : Asc ms
  asc2 : Asc ss
  sub : ∀ x ∈ ss, x ∈ ms
theorem Good.len2 {n : Int} {ms ss : List Int} (g : Good n ms ss) : ss.length ≤ 400 :=
  Nat.le_trans (nodup_len (g.asc2.imp fun h e => by omega) g.sub) g.len
/-- a row stands at p -/
def RowAt (C : Addr) (H : Hp) (p : Addr) (n : Int) (ms ss : List Int) : Prop := ∃ dx l1 l2, H p = some (.ins C dx (flds n l1 l2)) ∧ IL H l1 ms ∧ IL H l2 ss
theorem RowAt.same {C : Addr} {H H' : Hp} {p : Addr} {n : Int} {ms ss : List Int} (r : RowAt C H p n ms ss) (s : Same H H') : RowAt C H' p n ms ss := by
  obtain ⟨dx, l1, l2, a, b, c⟩ := r
  exact ⟨dx, l1, l2, s _ _ a, s _ _ b, s _ _ c⟩
/-- a row has been made at p, its lists are new since H -/
def RowNew (C : Addr) (H H' : Hp) (p : Addr) (n : Int) (ms ss : List Int) : Prop := ∃ dx l1 l2, H' p = some (.ins C dx (flds n l1 l2)) ∧ IL H' l1 ms ∧ IL H' l2 ss ∧ H l1 = none ∧ H l2 = none
theorem RowNew.at {C : Addr} {H H' : Hp} {p : Addr} {n : Int} {ms ss : List Int} (r : RowNew C H H' p n ms ss) : RowAt C H' p n ms ss := by
  obtain ⟨dx, l1, l2, a, b, c, _⟩ := r
  exact ⟨dx, l1, l2, a, b, c⟩
theorem none_of {H H' : Hp} {l : Addr} (k : ∀ c o, H c = some o → ∃ o', H' c = some o') (h : H' l = none) : H l = none := by
  cases e : H l with
  | none => rfl
  | some o =>
    obtain ⟨o', z⟩ := k _ _ e
    rw [h] at z
    cases z
theorem RowNew.mono {C : Addr} {H0 H H' : Hp} {p : Addr} {n : Int} {ms ss : List Int} (r : RowNew C H H' p n ms ss) (k : ∀ c o, H0 c = some o → ∃ o', H c = some o') : RowNew C H0 H' p n ms ss := by
  obtain ⟨dx, l1, l2, a, b, c, d, e⟩ := r
  exact ⟨dx, l1, l2, a, b, c, none_of k d, none_of k e⟩
structure Cl (K : PySem.W.Frag) (mg : Str → Option Value) (C : Addr) : Prop where
  cl : Cls K C
  nL : NoAttr K C "_length"
  nM : NoAttr K C "_marks"
  nS : NoAttr K C "_strict"
  mgR : mg "Row" = some (.ref C)
  kit : PySem.W.kitOne K (.ref C) (.ref C) = some true
/-- Row(n, marks, strict): from the new instance on -/
def spInit (C : Addr) : Sp := fun vs H Q _ => ∃ (x dx a b : Addr) (n : Int) (ms ss : List Int), vs = [.ref x, .int n, .ref a, .ref b] ∧ H x = some (.ins C dx []) ∧ IL H a ms ∧ IL H b ss ∧ Good n ms ss ∧
  ∀ H', RowNew C H H' x n ms ss → (∀ c o, H c = some o → c ≠ x → H' c = some o) → Q .non H'
section
variable {P : Program} {w : World} {K : PySem.W.Frag} {mg : Str → Option Value} {base : Heap}
abbrev NI : List Str := ["self", "length", "marks", "strict"]
theorem scIn : FnScope NI NI (defScope sInit) := ⟨rfl, rfl, rfl, by decide +kernel, rfl, by decide +kernel, by decide +kernel⟩
theorem ok_init {f C fI fM fS : Addr} {fd fdI fdM fdS : FuncData} (F : Fun K "__init__" "Row.__init__" sInit f fd) (T : Bl mg) (R : Cl K mg C)
    (gI : mg "is_integer" = some (.ref fI)) (kI : PySem.W.keepIn K (.ref fI) = true) (bI : Binds K fdI ["thing"] []) (GI : FnOk P w K mg base CX0 1 fI fdI ["thing"] spOne)
    (gM : mg "are_marks" = some (.ref fM)) (kM : PySem.W.keepIn K (.ref fM) = true) (bM : Binds K fdM ["thing", "high"] []) (GM : FnOk P w K mg base CX0 4 fM fdM ["thing", "high"] spMarks)
    (gS : mg "are_some_of" = some (.ref fS)) (kS : PySem.W.keepIn K (.ref fS) = true) (bS : Binds K fdS ["thing", "marks"] []) (GS : FnOk P w K mg base CX0 4 fS fdS ["thing", "marks"] spSome) :
    FnOk P w K mg base CX0 5 f fd NI (spInit C) := by
  refine F.ok scIn (fun vs H Q E h => ?_) (fun cdv A outer s H vs Q E hr h => ?_)
  · obtain ⟨x, dx, a, b, n, ms, ss, rfl, _⟩ := h
    rfl
  · obtain ⟨x, dx, a, b, n, ms, ss, rfl, hx, hM, hS, G, k⟩ := h
    have hr1 : Room 1 (A.deeper (PyProof.Rows.envOfC "Row.__init__" (defScope sInit) s.heap.objs.size f cdv)) := hr.mono (by decide)
    refine ⟨_, pss_cons (ps_if (PW.pt (pw_or (pt_not (pt_val (pe_call GI hr1 rfl gI kI bI .nil pass0 (pa_cons (pv 1) pa_nil)))) (pw_or1 (pt_cmpR op_lt (pv 1) pe_int (nomark _))))) pss_never pss_nil)
      (pss_cons (ps_if (pt_not (pt_val (pe_call GM hr rfl gM kM bM .nil pass0 (pa_cons (pv 2) (pa_cons (pe_op op_sub (pv 1) pe_int) pa_nil))))) pss_never pss_nil)
      (pss_cons (ps_if (pt_not (pt_val (pe_call GS hr rfl gS kS bS .nil pass0 (pa_cons (pv 3) (pa_cons (pv 2) pa_nil))))) pss_never pss_nil)
      (pss_cons (ps_fld (pv 0) (pv 1) rfl)
      (pss_cons (ps_fld (pv 0) (pe_callTy call_list_of (by rfl) T.list (by decide +kernel) (pa_cons (pv 2) pa_nil)) rfl)
      (pss_one (ps_fld (pv 0) (pe_callTy call_list_of (by rfl) T.list (by decide +kernel) (pa_cons (pv 3) pa_nil)) rfl)))))), ?_⟩
    have hp := G.pos
    refine ⟨_, rfl, n, rfl, _, rfl, ?_⟩
    refine ifF rfl ?_
    refine ⟨_, rfl, _, _, rfl, rfl, _, rfl, ?_⟩
    refine ifF (decide_eq_false (by omega)) ?_
    refine ⟨_, rfl, _, rfl, _, _, rfl, rfl, a, ms, n - 1, rfl, hM, G.len, G.rng, G.asc, fun H1 s1 => ⟨_, rfl, ?_⟩⟩
    refine ifF rfl ?_
    refine ⟨_, rfl, _, rfl, b, a, ss, ms, rfl, s1 _ _ hS, s1 _ _ hM, G.len2, G.len, G.asc2, (fun y hy => (G.rng y (G.sub y hy)).1), G.sub, fun H2 s2 => ⟨_, rfl, ?_⟩⟩
    refine ifF rfl ?_
    have s12 := s1.trans s2
    refine ⟨_, rfl, _, rfl, x, C, dx, _, rfl, s12 _ _ hx, R.cl, R.nL, (by show 0 < 1000; decide), ?_⟩
    have na : a ≠ x := ne_of hM hx (by intro z; cases z)
    have nb : b ≠ x := ne_of hS hx (by intro z; cases z)
    have hM3 : ∀ o, IL (upd H2 x o) a ms := fun o => by
      show upd H2 x o a = _
      rw [upd_ne na]
      exact s12 _ _ hM
    have hS3 : ∀ o, IL (upd H2 x o) b ss := fun o => by
      show upd H2 x o b = _
      rw [upd_ne nb]
      exact s12 _ _ hS
    refine ⟨_, rfl, a, _, rfl, .inl (SqL.of (hM3 _)), fun l1 h1 => ?_⟩
    have nx1 : x ≠ l1 := ne_of_none upd_same h1
    have nb1 : b ≠ l1 := ne_of_none (hS3 _) h1
    refine ⟨_, rfl, x, C, dx, _, rfl, (by rw [upd_ne nx1]; exact upd_same), R.cl, R.nM, (by show 1 < 1000; decide), ?_⟩
    refine ⟨_, rfl, b, ss.map V.int, rfl, .inl (SqL.of (by rw [upd_ne nb, upd_ne nb1]; exact hS3 _)), fun l2 h2 => ?_⟩
    have nx2 : x ≠ l2 := ne_of_none upd_same h2
    have n12 : l1 ≠ l2 := ne_of_none (show _ = some (HO.lst (ms.map V.int)) by rw [upd_ne (Ne.symm nx1)]; exact upd_same) h2
    refine ⟨_, rfl, x, C, dx, _, rfl, (by rw [upd_ne nx2]; exact upd_same), R.cl, R.nS, (by show 2 < 1000; decide), ?_⟩
    have up : ∀ (H : Hp) (x : Addr) (o' : HO) (c : Addr) (o : HO), H c = some o → ∃ o'', upd H x o' c = some o'' := fun H x o' c o e => by
      by_cases z : c = x
      · exact ⟨o', by rw [z]; exact upd_same⟩
      · exact ⟨o, by rw [upd_ne z]; exact e⟩
    have f1 : H l1 = none := none_of (fun c o e => up _ _ _ _ _ (s12 _ _ e)) h1
    have f2 : H l2 = none := none_of (fun c o e => by
      obtain ⟨o1, e1⟩ := up H2 x (.ins C dx (putF "_length" (V.int n) [])) _ _ (s12 _ _ e)
      obtain ⟨o2, e2⟩ := up _ l1 (.lst (ms.map V.int)) _ _ e1
      exact up _ _ _ _ _ e2) h2
    refine k _ ⟨dx, l1, l2, upd_same, ?_, ?_, f1, f2⟩ ?_
    · show upd _ _ _ l1 = _
      rw [upd_ne (Ne.symm nx1), upd_ne n12, upd_ne (Ne.symm nx1)]
      exact upd_same
    · show upd _ _ _ l2 = _
      rw [upd_ne (Ne.symm nx2)]
      exact upd_same
    · intro c o ec nc
      have e3 : ∀ o', upd H2 x o' c = some o := fun o' => by
        rw [upd_ne nc]
        exact s12 _ _ ec
      have e4 := e3 (.ins C dx (putF "_length" (V.int n) []))
      have ne1 : c ≠ l1 := ne_of_none e4 h1
      rw [upd_ne nc]
      have e5 : upd (upd (upd H2 x (.ins C dx (putF "_length" (V.int n) []))) l1 (.lst (ms.map V.int))) x (.ins C dx (putF "_marks" (V.ref l1) (putF "_length" (V.int n) []))) c = some o := by
        rw [upd_ne nc, upd_ne ne1]
        exact e4
      rw [upd_ne (ne_of_none e5 h2)]
      exact e5
end
end Cw
namespace Cw
open PySem PySem.Spec PyProof.Rows L2
theorem dps_ints {K : PySem.W.Frag} {H : Hp} : ∀ ns : List Int, DpAll K H (ns.map V.int) (ns.map PyData.int)
  | [] => .nil
  | n :: r => .cons (.int n) (dps_ints r)
theorem dp_il {K : PySem.W.Frag} {H : Hp} {a : Addr} {ns : List Int} (h : IL H a ns) : Dp K H (.ref a) (.list (ns.map PyData.int)) := .lst (SqL.of h) (dps_ints ns)
theorem depth_ints : ∀ ns : List Int, PyData.depthAll (ns.map PyData.int) ≤ 1 := fun ns => by
  induction ns with
  | nil => exact Nat.zero_le _
  | cons n r ih =>
    rw [List.map_cons]
    unfold PyData.depthAll PyData.depth
    omega
theorem lay_ints : ∀ ns : List Int, PyData.canLayAll0 (ns.map PyData.int) = true := fun ns => by
  induction ns with
  | nil => rfl
  | cons n r ih =>
    rw [List.map_cons]
    unfold PyData.canLayAll0 PyData.canLay0
    rw [ih]
    rfl
theorem shape_il (ns : List Int) : SeqAt.shaped (.list (ns.map PyData.int)) = true := by
  have h1 : PyData.canLay0 (.list (ns.map PyData.int)) = true := by
    unfold PyData.canLay0
    exact lay_ints ns
  have h2 : PyData.depth (.list (ns.map PyData.int)) ≤ 64 := by
    have z := depth_ints ns
    unfold PyData.depth
    omega
  unfold SeqAt.shaped
  rw [h1, decide_eq_true h2]
  rfl
theorem eqv_il (ns : List Int) : PyData.eqv (.list (ns.map PyData.int)) (.list (ns.map PyData.int)) = true := SeqAt.eqv_refl _ (SeqAt.canLay_of_shaped (shape_il ns))
section
variable {X : Cx} {a b c d : Expr} {ta tb tc td : TE} {pos : Pos}
/-- a op1 b op2 c op3 d -/
def tChain3 (r1 r2 r3 : R2) (ta tb tc td : TE) : TE := fun σ H Q => ta σ H fun x H1 => tb σ H1 fun y H2 => r1 x y H2 fun z H3 => ∃ k, z = .bl k ∧
  (if k = true then tc σ H3 fun u H4 => r2 y u H4 fun z2 H5 => ∃ k2, z2 = .bl k2 ∧ (if k2 = true then td σ H5 fun v H6 => r3 u v H6 Q else Q (.bl false) H5) else Q (.bl false) H3)
theorem pt_chain3 {o1 o2 o3 : CmpOp} {r1 r2 r3 : R2} (h1 : OpR X (compareOp o1) r1) (h2 : OpR X (compareOp o2) r2) (h3 : OpR X (compareOp o3) r3) (ha : PE X a ta) (hb : PE X b tb) (hc : PE X c tc) (hd : PE X d td)
    (hm : lastMarks [o1, o2, o3] [b, c, d] = false := by with_unfolding_all rfl) : PT X (.Compare a [o1, o2, o3] [b, c, d] pos) (tTest (tChain3 r1 r2 r3 ta tb tc td)) := by
  refine ⟨fun pins s σ H Q I h => ?_⟩
  refine isTrue_chain (thn (ha.run pins s σ H _ I h) fun v s1 ⟨x, H1, I1, e1, q1⟩ => test_link (thn (hb.run pins s1 σ H1 _ I1 q1) fun u s2 ⟨y, H2, I2, e2, q2⟩ =>
    thn (h1 pins s2 σ H2 x y v u _ I2 e1 e2 q2) fun d1 s3 ⟨z, H3, I3, e3, k, e, q3⟩ => ?_)) hm
  subst e
  cases e3
  refine wpAny_truthy_bool ?_
  cases k with
  | false =>
    obtain ⟨k', e', q'⟩ := q3
    cases e'
    exact ite_ff ⟨H3, I3, q'⟩
  | true =>
    refine ite_tt (test_link (thn (hc.run pins s3 σ H3 _ I3 q3) fun w' s4 ⟨z', H4, I4, e4, q4⟩ => thn (h2 pins s4 σ H4 y z' u w' _ I4 e2 e4 q4) fun d' s5 ⟨z2, H5, I5, e5, k2, f2, q5⟩ => ?_))
    subst f2
    cases e5
    refine wpAny_truthy_bool ?_
    cases k2 with
    | false =>
      obtain ⟨k', e', q'⟩ := q5
      cases e'
      exact ite_ff ⟨H5, I5, q'⟩
    | true =>
      refine ite_tt (test_last (thn (hd.run pins s5 σ H5 _ I5 q5) fun w2 s6 ⟨y2, H6, I6, e6, q6⟩ => thn (h3 pins s6 σ H6 z' y2 w' w2 _ I6 e4 e6 q6) fun d2 s7 ⟨y3, H7, I7, e7, k3, f3, q7⟩ => ?_))
      subst f3
      cases e7
      exact wpAny_truthy_bool ⟨H7, I7, q7⟩
end
/-- two rows alike -/
def Alike (C : Addr) : Addr → Addr → Hp → Prop := fun a b H => ∃ n ms ss, RowAt C H a n ms ss ∧ RowAt C H b n ms ss
/-- what a row's .marks promises -/
def spGetM (C : Addr) : Sp := fun vs H Q _ => ∃ (a : Addr) (n : Int) (ms ss : List Int), vs = [.ref a] ∧ RowAt C H a n ms ss ∧ ∀ p H', Same H H' → H p = none → IL H' p ms → Q (.ref p) H'
/-- what isinstance asks of the class -/
structure Ci (K : PySem.W.Frag) (C : Addr) : Prop where
  ha : PySem.W.findIn K (.ref C) "__class__" = some (some (.builtin "object.__class__"))
  hn : PySem.W.specialIn K (.builtin "object.__class__") "__get__" = some (some (.builtin "getset_descriptor.__get__"))
  ht : PySem.W.takesIn K (.builtin "object.__class__") = some true
  hm : PySem.W.mroIn K C (.type "object") = some true
section
variable {P : Program} {w : World} {K : PySem.W.Frag} {mg : Str → Option Value} {base : Heap}
theorem scG : FnScope ["self"] ["self"] (defScope sGetM) := ⟨rfl, rfl, rfl, by decide +kernel, rfl, by decide +kernel, by decide +kernel⟩
theorem ok_getM {f C : Addr} {fd : FuncData} (F : Fun K "marks" "Row.marks" sGetM f fd) (T : Bl mg) (R : Cl K mg C) : FnOk P w K mg base CX0 1 f fd ["self"] (spGetM C) := by
  refine F.ok scG (fun vs H Q E h => ?_) (fun cdv A outer s H vs Q E hr h => ?_)
  · obtain ⟨a, n, ms, ss, rfl, _⟩ := h
    rfl
  · obtain ⟨a, n, ms, ss, rfl, ⟨dx, l1, l2, ho, h1, h2⟩, k⟩ := h
    refine ⟨_, pss_one (ps_ret (pe_callTy call_list_of (by rfl) T.list (by decide +kernel) (pa_cons (pe_fld (pv 0) rfl) pa_nil))), ?_⟩
    refine ⟨_, rfl, a, C, dx, _, _, rfl, ho, R.cl, R.nM, fl_M _ _ _, l1, _, rfl, .inl (SqL.of h1), fun p hp => ?_⟩
    exact k p _ (same_new (Same.refl H) hp) hp upd_same
theorem scE : FnScope ["self", "other"] ["self", "other"] (defScope sEq) := ⟨rfl, rfl, rfl, by decide +kernel, rfl, by decide +kernel, by decide +kernel⟩
theorem ok_eq {f C : Addr} {fd : FuncData} (F : Fun K "__eq__" "Row.__eq__" sEq f fd) (T : Bl mg) (R : Cl K mg C) (N : Ci K C) : FnOk P w K mg base CX0 1 f fd ["self", "other"] (spEq (Alike C)) := by
  refine F.ok scE (fun vs H Q E h => ?_) (fun cdv A outer s H vs Q E hr h => ?_)
  · obtain ⟨a, b, rfl, _⟩ := h
    rfl
  · obtain ⟨a, b, rfl, ⟨n, ms, ss, ⟨dx, l1, l2, ho, h1, h2⟩, ⟨dy, m1, m2, hp, g1, g2⟩⟩, k⟩ := h
    refine ⟨_, pss_cons (ps_if (pt_not (pt_val (pe_callB call_isi (by rfl) T.isi (by decide +kernel) (pa_cons (pv 1) (pa_cons (pe_glob (by rfl) R.mgR (v := V.ref C) rfl) pa_nil))))) (pss_one (ps_ret pe_bl)) pss_nil)
      (pss_cons (ps_if (pt_cmpR op_ne (pe_fld (pv 0) rfl) (pe_fld (pv 1) rfl) (nomark _)) (pss_one (ps_ret pe_bl)) pss_nil)
      (pss_one (ps_ret (pe_and (pe_cmpR (op_eqD hr.units) (pe_fld (pv 0) rfl) (pe_fld (pv 1) rfl) (nomark _)) (pe_one (pe_cmpR (op_eqD hr.units) (pe_fld (pv 0) rfl) (pe_fld (pv 1) rfl) (nomark _))))))), ?_⟩
    refine ⟨_, rfl, _, _, _, _, true, rfl, ClsV.own _, .base (.ins hp R.cl N.ha N.hn N.ht N.hm), R.kit, _, rfl, ?_⟩
    refine ifF rfl ?_
    refine ⟨_, rfl, a, C, dx, _, _, rfl, ho, R.cl, R.nL, fl_L _ _ _, _, rfl, b, C, dy, _, _, rfl, hp, R.cl, R.nL, fl_L _ _ _, rfl, _, rfl, ?_⟩
    refine ifF (by simp) ?_
    refine ⟨_, rfl, a, C, dx, _, _, rfl, ho, R.cl, R.nM, fl_M _ _ _, _, rfl, b, C, dy, _, _, rfl, hp, R.cl, R.nM, fl_M _ _ _, _, _, dp_il h1, dp_il g1, shape_il _, shape_il _, _, rfl, ?_⟩
    refine ifT (eqv_il ms) ?_
    refine ⟨_, rfl, a, C, dx, _, _, rfl, ho, R.cl, R.nS, fl_S _ _ _, _, rfl, b, C, dy, _, _, rfl, hp, R.cl, R.nS, fl_S _ _ _, _, _, dp_il h2, dp_il g2, shape_il _, shape_il _, ?_⟩
    have z := k H Ext.rfl'
    rw [← eqv_il ss] at z
    exact z
end
end Cw
namespace Cw
open PySem L2
/-! ## min of four whole numbers -/
theorem min4_args (vs : List Value) (h : vs.length = 4) : argsOk "min" ⟨vs, []⟩ := by
  match vs, h with
  | [p, q, r, s], _ => unfold argsOk; kernel_rfl
section
variable {P : Program} {w : World} {A : Around} {E : Value → Shared → Prop} {s : Shared}
/-- min of four values whose tuple is walked -/
theorem min4_walked {vs : List Value} (h4 : vs.length = 4) {Q : Value → Shared → Prop}
    (go : wpAny (model P w) A.in1 (pyIter (.ref s.heap.objs.size)) (fun it s1 => ∃ J fs ws k Pv Sv less, it = .ref J ∧ Walks P w A.in1 J fs ws k Pv Sv ∧ Sv 0 s1.heap ∧ (∀ d ∈ fs, d < s1.heap.objs.size) ∧ 0 < k ∧ CmpOf P w A.in1 .Lt Pv less ∧
      ∀ v h1 t1, Pv (argBest less (k - 1)) v → (∀ d o, d ∉ ws → s1.heap.get? d = some o → h1.get? d = some o) → Q v { s1 with heap := h1, toks := t1 }) E
      { s with heap := s.heap.push { cls := .type "tuple", data := .seq vs.toArray } }) :
    wpAny (model P w) A (call (.builtin "min") vs) Q E s := by
  match vs, h4 with
  | [p, q, r, u], _ =>
    refine call_function_tree F.kind_min F.plain_min F.entry_min (min4_args [p, q, r, u] rfl) (wpAny_bind (wpAny_of_eq (a := [none, none]) rfl (wpAny_bind (wpAny_newObj_type (wpAny_bind (wpAny_mono go (fun it s1 g => ?_) fun _ _ e => e))))))
    obtain ⟨J, fs, ws, k, Pv, Sv, less, e, wk, st, fr, k0, cmp, out⟩ := g
    subst e
    have new : s1.heap.objs.size ∉ fs := fun m => absurd (fr _ m) (Nat.lt_irrefl _)
    have nm : (toString "min" ++ toString ".loop" : String) = "min.loop" := by decide
    refine wpAny_bind (wpAny_newObj_type ?_)
    rw [nm]
    refine wpAny_pure ⟨plainId_quiet F.plain_min_loop _, codeAny_min_loop_first wk less cmp s1.heap.objs.size new k0 (wk.frame _ _ _ st fun d _ o e => Heap.get?_push_of_some _ e) (Heap.get?_push_size _ rfl) fun v h1 t1 pv keep =>
      out v h1 t1 pv fun d o nd e => keep d o nd (Nat.ne_of_lt (Heap.lt_size e)) (Heap.get?_push_of_some _ e)⟩
theorem min4_ints {a b c d : Int} {t u x y : Tok} {Q : Value → Shared → Prop} (nh : A.handled = none)
    (out : ∀ m r h1 t1, (∀ z o, s.heap.get? z = some o → h1.get? z = some o) → (m = a ∨ m = b ∨ m = c ∨ m = d) → m ≤ a → m ≤ b → m ≤ c → m ≤ d → Q (.int m r) { s with heap := h1, toks := t1 }) :
    wpAny (model P w) A (call (.builtin "min") [.int a t, .int b u, .int c x, .int d y]) Q E s := by
  obtain ⟨xs, hxs⟩ : ∃ xs : Array (Int × Tok), xs = #[(a, t), (b, u), (c, x), (d, y)] := ⟨_, rfl⟩
  have items : intItems xs = #[.int a t, .int b u, .int c x, .int d y] := by rw [hxs]; simp [intItems]
  have tup : (s.heap.push { cls := .type "tuple", data := .seq #[.int a t, .int b u, .int c x, .int d y] }).IsTuple s.heap.objs.size (intItems xs) := ⟨_, Heap.get?_push_size _ rfl, rfl, 0, by rw [items]⟩
  have size1 : (s.heap.push { cls := .type "tuple", data := .seq #[.int a t, .int b u, .int c x, .int d y] }).objs.size = s.heap.objs.size + 1 := Heap.size_push ..
  have four : (intItems xs).size = 4 := by rw [items]; rfl
  have lt0 : s.heap.objs.size < s.heap.objs.size + 1 := Nat.lt_succ_self _
  refine min4_walked (vs := [.int a t, .int b u, .int c x, .int d y]) rfl (wpAny_pyIter_tuple tup ⟨_, [_, s.heap.objs.size], [_], _, _, _, _, rfl, Walks.tuple (A := A.in1) nh _ s.heap.objs.size (by rw [size1]; exact Nat.ne_of_lt lt0) (intItems xs),
    ⟨⟨_, Heap.get?_push_size _ rfl, rfl, rfl⟩, tup.push _⟩, fun z hz => ?_, by rw [four]; decide, CmpOf.ints_lt (numAt xs) (fun _ _ => intItems_at), fun v h1 t1 pv keep => ?_⟩)
  · show z < ((s.heap.push _).push _).objs.size
    rw [Heap.size_push, size1]
    simp only [List.mem_cons, List.not_mem_nil, or_false] at hz
    rcases hz with rfl | rfl
    · rw [size1]; exact Nat.lt_succ_self _
    · exact Nat.lt_succ_of_lt lt0
  have kept : ∀ z o, s.heap.get? z = some o → h1.get? z = some o := fun z o e => keep z o (fun m => by
    have l := Heap.lt_size e
    rw [List.mem_singleton.mp m, size1] at l
    exact Nat.lt_irrefl _ (Nat.lt_of_succ_lt l)) (Heap.get?_push_of_some _ (Heap.get?_push_of_some _ e))
  have pv3 : (intItems xs)[argBest (fun i j => decide (numAt xs i < numAt xs j)) 3]? = some v := by
    have e3 : (intItems xs).size - 1 = 3 := by rw [four]
    rw [← e3]
    exact pv
  obtain ⟨j3, least⟩ := argBest_lt (numAt xs) 3
  obtain ⟨r, rfl⟩ := intItems_at pv3
  have at0 : numAt xs 0 = a := by rw [hxs]; rfl
  have at1 : numAt xs 1 = b := by rw [hxs]; rfl
  have at2 : numAt xs 2 = c := by rw [hxs]; rfl
  have at3 : numAt xs 3 = d := by rw [hxs]; rfl
  refine out _ r h1 t1 kept ?_ (at0 ▸ least 0 (by decide)) (at1 ▸ least 1 (by decide)) (at2 ▸ least 2 (by decide)) (at3 ▸ least 3 (by decide))
  generalize argBest (fun i j => decide (numAt xs i < numAt xs j)) 3 = j at j3 ⊢
  match j, j3 with
  | 0, _ => exact .inl at0
  | 1, _ => exact .inr (.inl at1)
  | 2, _ => exact .inr (.inr (.inl at2))
  | 3, _ => exact .inr (.inr (.inr at3))
  | j + 4, h => omega
end
theorem vals4 {x y z u : V} {us : List Value} (r : Vals [x, y, z, u] us) : ∃ a b c d, us = [a, b, c, d] ∧ RelV x a ∧ RelV y b ∧ RelV z c ∧ RelV u d := by
  cases r with
  | cons r1 r2 =>
    obtain ⟨b, c, d, rfl, r3, r4, r5⟩ := vals3 r2
    exact ⟨_, b, c, d, rfl, r1, r3, r4, r5⟩
theorem call_min4 {X : Cx} (hc : X.calm = true) : CallR X (.builtin "min") (fun xs H Q => ∃ a b c d, xs = [.int a, .int b, .int c, .int d] ∧ ∀ m, (m = a ∨ m = b ∨ m = c ∨ m = d) → m ≤ a → m ≤ b → m ≤ c → m ≤ d → Q (.int m) H) := by
  intro pins s σ H xs us Q I r h
  obtain ⟨a, b, c, d, rfl, q⟩ := h
  obtain ⟨u1, u2, u3, u4, rfl, ⟨t, rfl⟩, ⟨t2, rfl⟩, ⟨t3, rfl⟩, ⟨t4, rfl⟩⟩ := vals4 r
  exact min4_ints (I.ok.hd hc) fun m r h2 tk k e1 l1 l2 l3 l4 => ⟨.int m, H, I.kept k, ⟨_, rfl⟩, q m e1 l1 l2 l3 l4⟩
end Cw
namespace Cw
open PySem L2
abbrev sCSet : Stmt := top 0
abbrev sCPl : Stmt := top 13
abbrev sCSz : Stmt := top 0
abbrev sCLen : Stmt := top 0
abbrev sNext : Stmt := top 0
abbrev sWalk : Stmt := top 0
abbrev sWithin : Stmt := top 0
abbrev sCWk : Stmt := top 0
abbrev sStep : Stmt := top 0
abbrev sCuts : Stmt := top 0
abbrev sFM : Stmt := top 0
abbrev sCB : Stmt := top 0
abbrev sMeet : Stmt := top 0
/-! ## how many are before -/
def cb (ns : List Int) (z : Int) : Nat := (ns.filter fun x => decide (x < z)).length
def fm (ns : List Int) (z e : Int) : Int := (ns[cb ns z]?).getD e
theorem cb_le {ns : List Int} {z : Int} : cb ns z ≤ ns.length := List.length_filter_le _ _
theorem cb_at {ns : List Int} {z : Int} {k : Nat} (hk : k ≤ ns.length) (h1 : ∀ i, i < k → ∀ x, ns[i]? = some x → x < z) (h2 : ∀ i, k ≤ i → ∀ x, ns[i]? = some x → z ≤ x) : cb ns z = k := by
  have e : ns = ns.take k ++ ns.drop k := (List.take_append_drop k ns).symm
  unfold cb
  rw [e, List.filter_append, List.length_append]
  have a1 : (ns.take k).filter (fun x => decide (x < z)) = ns.take k := List.filter_eq_self.mpr fun x hx => by
    obtain ⟨i, hi, rfl⟩ := List.mem_iff_getElem.mp hx
    rw [List.length_take] at hi
    refine decide_eq_true (h1 i (by omega) _ ?_)
    rw [List.getElem_take]
    exact List.getElem?_eq_getElem (by omega)
  have a2 : (ns.drop k).filter (fun x => decide (x < z)) = [] := List.filter_eq_nil_iff.mpr fun x hx => by
    obtain ⟨i, hi, rfl⟩ := List.mem_iff_getElem.mp hx
    rw [List.length_drop] at hi
    have := h2 (k + i) (by omega) (ns.drop k)[i] (by rw [List.getElem_drop]; exact List.getElem?_eq_getElem (by omega))
    simp only [decide_eq_true_eq]
    omega
  rw [a1, a2, List.length_take]
  simp
  omega
theorem asc_ix {ns : List Int} (h : Asc ns) {i j : Nat} {x y : Int} (hij : i < j) (hx : ns[i]? = some x) (hy : ns[j]? = some y) : x < y := by
  obtain ⟨li, rfl⟩ := List.getElem?_eq_some_iff.mp hx
  obtain ⟨lj, rfl⟩ := List.getElem?_eq_some_iff.mp hy
  exact List.pairwise_iff_getElem.mp h i j li lj hij
/-- what stands on both sides of the number of those before -/
theorem cb_split {ns : List Int} (h : Asc ns) (z : Int) : (∀ i, i < cb ns z → ∀ x, ns[i]? = some x → x < z) ∧ (∀ i, cb ns z ≤ i → ∀ x, ns[i]? = some x → z ≤ x) := by
  induction ns with
  | nil => exact ⟨fun i _ x e => by simp at e, fun i _ x e => by simp at e⟩
  | cons a r ih =>
    obtain ⟨ha, hr⟩ := List.pairwise_cons.mp h
    obtain ⟨i1, i2⟩ := ih hr
    by_cases c : a < z
    · have e : cb (a :: r) z = cb r z + 1 := by
        unfold cb
        rw [List.filter_cons, if_pos (decide_eq_true c)]
        rfl
      rw [e]
      refine ⟨fun i hi x hx => ?_, fun i hi x hx => ?_⟩
      · cases i with
        | zero => cases hx; exact c
        | succ i => exact i1 i (by omega) x hx
      · cases i with
        | zero => omega
        | succ i => exact i2 i (by omega) x hx
    · have e : cb (a :: r) z = 0 := by
        unfold cb
        rw [List.filter_eq_nil_iff.mpr fun x hx => ?_]
        · rfl
        · rcases List.mem_cons.mp hx with rfl | hx
          · simpa using c
          · have := ha x hx
            simp only [decide_eq_true_eq]
            omega
      rw [e]
      refine ⟨fun i hi => by omega, fun i _ x hx => ?_⟩
      cases i with
      | zero => cases hx; omega
      | succ i =>
        have := ha x (List.mem_of_getElem? hx)
        omega
theorem fm_or {ns : List Int} (h : Asc ns) (z e : Int) : (fm ns z e ∈ ns ∧ z ≤ fm ns z e) ∨ (fm ns z e = e ∧ ∀ x ∈ ns, x < z) := by
  obtain ⟨h1, h2⟩ := cb_split h z
  unfold fm
  by_cases c : cb ns z < ns.length
  · have hg := List.getElem?_eq_getElem c
    rw [hg]
    exact .inl ⟨List.getElem_mem c, h2 _ (Nat.le_refl _) _ hg⟩
  · rw [List.getElem?_eq_none (by omega)]
    refine .inr ⟨rfl, fun x hx => ?_⟩
    obtain ⟨i, hi, rfl⟩ := List.mem_iff_getElem.mp hx
    exact h1 i (by omega) _ (List.getElem?_eq_getElem hi)
theorem fm_le {ns : List Int} (h : Asc ns) {z e x : Int} (hx : x ∈ ns) (hz : z ≤ x) : fm ns z e ≤ x := by
  obtain ⟨h1, h2⟩ := cb_split h z
  obtain ⟨i, hi, rfl⟩ := List.mem_iff_getElem.mp hx
  have hg := List.getElem?_eq_getElem hi
  have c : cb ns z ≤ i := by
    by_cases c : i < cb ns z
    · have := h1 i c _ hg
      omega
    · omega
  unfold fm
  by_cases d : cb ns z = i
  · rw [d, hg]
    exact Int.le_refl _
  · have l : cb ns z < ns.length := by omega
    rw [List.getElem?_eq_getElem l]
    have := asc_ix h (by omega : cb ns z < i) (List.getElem?_eq_getElem l) hg
    show ns[cb ns z] ≤ ns[i]
    omega
theorem fm_top {ns : List Int} (h : Asc ns) {z e : Int} (k : ∀ x ∈ ns, x ≤ e) : fm ns z e ≤ e := by
  rcases fm_or h z e with ⟨m, _⟩ | ⟨m, _⟩
  · exact k _ m
  · omega
theorem fm_mono {ns : List Int} (h : Asc ns) {z y e : Int} (k : ∀ x ∈ ns, x ≤ e) (hz : z ≤ y) : fm ns z e ≤ fm ns y e := by
  rcases fm_or h y e with ⟨m, l⟩ | ⟨m, _⟩
  · exact fm_le h m (by omega)
  · rw [m]
    exact fm_top h k
def spCB : Sp := fun vs H Q _ => ∃ (a : Addr) (ns : List Int) (z : Int), vs = [.ref a, .int z] ∧ IL H a ns ∧ ns.length ≤ 1000 ∧ Asc ns ∧ Q (.int (cb ns z)) H
def spFM : Sp := fun vs H Q _ => ∃ (a : Addr) (ns : List Int) (z e : Int), vs = [.ref a, .int z, .int e] ∧ IL H a ns ∧ ns.length ≤ 1000 ∧ Asc ns ∧ Q (.int (fm ns z e)) H
def muCB : St → Hp → Nat := fun σ _ => match σ with | [_, _, some (.int lo), some (.int hi), _] => (hi - lo).toNat | _ => 0
section
variable {P : Program} {w : World} {K : PySem.W.Frag} {mg : Str → Option Value} {base : Heap}
abbrev NCB : List Str := ["places", "place", "low", "high", "middle"]
abbrev NFM : List Str := ["marks", "place", "end", "at"]
end
end Cw
namespace Cw
open PySem L2
abbrev sGetL : Stmt := inClass sRow 1
abbrev sGetS : Stmt := inClass sRow 3
def spGetL (C : Addr) : Sp := fun vs H Q _ => ∃ (a : Addr) (n : Int) (ms ss : List Int), vs = [.ref a] ∧ RowAt C H a n ms ss ∧ Q (.int n) H
def spGetS (C : Addr) : Sp := fun vs H Q _ => ∃ (a : Addr) (n : Int) (ms ss : List Int), vs = [.ref a] ∧ RowAt C H a n ms ss ∧ ∀ p H', Same H H' → H p = none → IL H' p ss → Q (.ref p) H'
/-! ## the next cut -/
def nx (n : Int) (ms ss : List Int) (l m g p : Int) : Int := min (min (fm ss (p + l) n) (fm ms (p + m) n)) (min (p + g) n)
/-- settings -/
structure SetOk (l m g : Int) : Prop where
  l1 : 1 ≤ l
  lm : l ≤ m
  mg : m ≤ g
/-- what a step does -/
structure Stp (F : Int → Int) (n l : Int) : Prop where
  l1 : 1 ≤ l
  le : ∀ p, F p ≤ n
  ge : ∀ p, p + l ≤ F p ∨ F p = n
  mono : ∀ p q, p ≤ q → F p ≤ F q
theorem Stp.gt {F : Int → Int} {n l p : Int} (S : Stp F n l) (h : p < n) : p < F p := by
  have := S.ge p
  have := S.l1
  omega
theorem nx_stp {n l m g : Int} {ms ss : List Int} (G : Good n ms ss) (S : SetOk l m g) : Stp (nx n ms ss l m g) n l := by
  have k1 : ∀ x ∈ ms, x ≤ n := fun x hx => by have := G.rng x hx; omega
  have k2 : ∀ x ∈ ss, x ≤ n := fun x hx => k1 x (G.sub x hx)
  have s1 := S.l1
  have s2 := S.lm
  have s3 := S.mg
  refine ⟨s1, fun p => ?_, fun p => ?_, fun p q h => ?_⟩
  · unfold nx
    omega
  · have a := fm_or G.asc2 (p + l) n
    have b := fm_or G.asc (p + m) n
    unfold nx
    omega
  · have a := fm_mono G.asc2 k2 (z := p + l) (y := q + l) (by omega)
    have b := fm_mono G.asc k1 (z := p + m) (y := q + m) (by omega)
    unfold nx
    omega
/-! ## walks -/
def kc (F : Int → Int) (n s : Int) : Nat → Int
  | 0 => s
  | k + 1 => if kc F n s k < n then F (kc F n s k) else kc F n s k
def wl (F : Int → Int) (n s : Int) (m : Nat) : List Int := (List.range (m + 1)).map (kc F n s)
theorem wl_succ {F : Int → Int} {n s : Int} {m : Nat} : wl F n s (m + 1) = wl F n s m ++ [kc F n s (m + 1)] := by
  unfold wl
  rw [List.range_succ, List.map_append]
  rfl
theorem wl_len {F : Int → Int} {n s : Int} {m : Nat} : (wl F n s m).length = m + 1 := by
  unfold wl
  rw [List.length_map, List.length_range]
theorem kc_le {F : Int → Int} {n l s : Int} (S : Stp F n l) (h : s ≤ n) : ∀ k, kc F n s k ≤ n
  | 0 => h
  | k + 1 => by
    have i := kc_le S h k
    unfold kc
    by_cases c : kc F n s k < n
    · rw [if_pos c]
      exact S.le _
    · rw [if_neg c]
      exact i
theorem kc_ge {F : Int → Int} {n l s : Int} (S : Stp F n l) : ∀ k : Nat, kc F n s k < n → s + k * l ≤ kc F n s k
  | 0, _ => by
    show s + ((0 : Nat) : Int) * l ≤ s
    simp
  | k + 1, h => by
    by_cases c : kc F n s k < n
    · have e : kc F n s (k + 1) = F (kc F n s k) := if_pos c
      have i := kc_ge S k c
      have z := S.ge (kc F n s k)
      rw [e] at h ⊢
      have w : ((k + 1 : Nat) : Int) * l = k * l + l := by
        rw [Int.natCast_add, Int.add_mul]
        simp
      rw [w]
      omega
    · have e : kc F n s (k + 1) = kc F n s k := if_neg c
      omega
theorem kc_few {F : Int → Int} {n l s : Int} (S : Stp F n l) (h0 : 0 ≤ s) (b : n ≤ 200 * l) {k : Nat} (h : kc F n s k < n) : k < 200 := by
  have z := kc_ge S k h
  have l1 := S.l1
  by_cases c : k < 200
  · exact c
  · have w : (200 : Int) * l ≤ k * l := Int.mul_le_mul_of_nonneg_right (by omega) (by omega)
    omega
theorem kc_at {F : Int → Int} {n s : Int} {k : Nat} (h : kc F n s k < n) : kc F n s (k + 1) = F (kc F n s k) := if_pos h
theorem kc_end {F : Int → Int} {n s : Int} {m : Nat} (h : ¬ kc F n s m < n) : ∀ j, kc F n s (m + j) = kc F n s m
  | 0 => rfl
  | j + 1 => by
    have i := kc_end h j
    show (if kc F n s (m + j) < n then F (kc F n s (m + j)) else kc F n s (m + j)) = _
    rw [i, if_neg h]
/-- how many cuts a walk has -/
structure WkOk (F : Int → Int) (n s : Int) (m : Nat) : Prop where
  few : m ≤ 200
  fin : kc F n s m = n
  bef : ∀ i, i < m → kc F n s i < n
def spStep (C : Addr) : Sp := fun vs H Q _ => ∃ (r t : Addr) (n l m g p : Int) (ms ss : List Int), vs = [.ref r, .ref t, .int p] ∧ RowAt C H r n ms ss ∧ H t = some (.tup [.int l, .int m, .int g]) ∧ Good n ms ss ∧ ∀ H', Same H H' → Q (.int (nx n ms ss l m g p)) H'
def spCuts (C : Addr) : Sp := fun vs H Q _ => ∃ (r t : Addr) (n l m g p : Int) (ms ss : List Int), vs = [.ref r, .ref t, .int p] ∧ RowAt C H r n ms ss ∧ H t = some (.tup [.int l, .int m, .int g]) ∧ Good n ms ss ∧ SetOk l m g ∧ n ≤ 200 * l ∧ 0 ≤ p ∧ p ≤ n ∧
  ∀ q H' k, Same H H' → H q = none → WkOk (nx n ms ss l m g) n p k → IL H' q (wl (nx n ms ss l m g) n p k) → Q (.ref q) H'
/-- the getters -/
structure Gets (P : Program) (w : World) (K : PySem.W.Frag) (mg : Str → Option Value) (base : Heap) (C pL fL pM fM pS fS : Addr) (dL dM dS : FuncData) : Prop where
  hL : PropOf K C "length" pL fL
  bL : Binds K dL ["self"] []
  GL : FnOk P w K mg base CX0 1 fL dL ["self"] (spGetL C)
  hM : PropOf K C "marks" pM fM
  bM : Binds K dM ["self"] []
  GM : FnOk P w K mg base CX0 1 fM dM ["self"] (spGetM C)
  hS : PropOf K C "strict" pS fS
  bS : Binds K dS ["self"] []
  GS : FnOk P w K mg base CX0 1 fS dS ["self"] (spGetS C)
section
variable {P : Program} {w : World} {K : PySem.W.Frag} {mg : Str → Option Value} {base : Heap}
theorem scGL : FnScope ["self"] ["self"] (defScope sGetL) := ⟨rfl, rfl, rfl, by decide +kernel, rfl, by decide +kernel, by decide +kernel⟩
theorem ok_getL {f C : Addr} {fd : FuncData} (F : Fun K "length" "Row.length" sGetL f fd) (R : Cl K mg C) : FnOk P w K mg base CX0 1 f fd ["self"] (spGetL C) := by
  refine F.ok scGL (fun vs H Q E h => ?_) (fun cdv A outer s H vs Q E hr h => ?_)
  · obtain ⟨a, n, ms, ss, rfl, _⟩ := h
    rfl
  · obtain ⟨a, n, ms, ss, rfl, ⟨dx, l1, l2, ho, h1, h2⟩, k⟩ := h
    refine ⟨_, pss_one (ps_ret (pe_fld (pv 0) rfl)), ?_⟩
    exact ⟨_, rfl, a, C, dx, _, _, rfl, ho, R.cl, R.nL, fl_L _ _ _, k⟩
theorem scGS : FnScope ["self"] ["self"] (defScope sGetS) := ⟨rfl, rfl, rfl, by decide +kernel, rfl, by decide +kernel, by decide +kernel⟩
theorem ok_getS {f C : Addr} {fd : FuncData} (F : Fun K "strict" "Row.strict" sGetS f fd) (T : Bl mg) (R : Cl K mg C) : FnOk P w K mg base CX0 1 f fd ["self"] (spGetS C) := by
  refine F.ok scGS (fun vs H Q E h => ?_) (fun cdv A outer s H vs Q E hr h => ?_)
  · obtain ⟨a, n, ms, ss, rfl, _⟩ := h
    rfl
  · obtain ⟨a, n, ms, ss, rfl, ⟨dx, l1, l2, ho, h1, h2⟩, k⟩ := h
    refine ⟨_, pss_one (ps_ret (pe_callTy call_list_of (by rfl) T.list (by decide +kernel) (pa_cons (pe_fld (pv 0) rfl) pa_nil))), ?_⟩
    refine ⟨_, rfl, a, C, dx, _, _, rfl, ho, R.cl, R.nS, fl_S _ _ _, l2, _, rfl, .inl (SqL.of h2), fun p hp => ?_⟩
    exact k p _ (same_new (Same.refl H) hp) hp upd_same
abbrev NSt : List Str := ["row", "settings", "place", "least", "normal", "greatest", "strict", "either"]
end
end Cw
namespace Cw
open PySem L2
abbrev sBag : Stmt := top 32
abbrev sStir : Stmt := top 33
abbrev sDraw : Stmt := top 34
/-! the bag of draws: a list of the script's numbers, how many are taken, what is left of the last one, the stirred number, the turns -/
def bagL (l : Addr) (i : Nat) (r st n : Int) : List V := [.ref l, .int i, .int r, .int st, .int n]
structure BagAt (H : Hp) (b l : Addr) (cs : List Int) (i : Nat) (r st n : Int) : Prop where
  ob : H b = some (.lst (bagL l i r st n))
  ls : H l = some (.lst (cs.map V.int))
  le : i ≤ cs.length
  lo : 0 ≤ st
  hi : st < 2147483647
def Bag (H : Hp) (b l : Addr) : Prop := ∃ cs i r st n, BagAt H b l cs i r st n
/-- all but b is as it was -/
def But (H H' : Hp) (b : Addr) : Prop := ∀ a o, H a = some o → a ≠ b → H' a = some o
theorem But.refl (H : Hp) (b : Addr) : But H H b := fun _ _ e _ => e
theorem But.trans {H H1 H2 : Hp} {b : Addr} (x : But H H1 b) (y : But H1 H2 b) : But H H2 b := fun a o e n => y a o (x a o e n) n
theorem But.upd {H H1 : Hp} {b : Addr} {o : HO} (x : But H H1 b) : But H (upd H1 b o) b := fun a u e n => by
  rw [upd_ne n]
  exact x a u e n
theorem BagAt.ne {H : Hp} {b l : Addr} {cs : List Int} {i : Nat} {r st n : Int} (B : BagAt H b l cs i r st n) : l ≠ b := fun e => by
  have h := B.ls
  rw [e, B.ob] at h
  cases cs with
  | nil => cases h
  | cons c r => cases h
theorem BagAt.up {H : Hp} {b l : Addr} {cs : List Int} {i : Nat} {r st n : Int} (B : BagAt H b l cs i r st n) {i' : Nat} {r' st' n' : Int} (h1 : i' ≤ cs.length) (h2 : 0 ≤ st') (h3 : st' < 2147483647) :
    BagAt (upd H b (.lst (bagL l i' r' st' n'))) b l cs i' r' st' n' := ⟨upd_same, by rw [upd_ne B.ne]; exact B.ls, h1, h2, h3⟩
theorem Bag.same {H H' : Hp} {b l : Addr} (x : Bag H b l) (s : Same H H') : Bag H' b l := by
  obtain ⟨cs, i, r, st, n, B⟩ := x
  exact ⟨cs, i, r, st, n, s _ _ B.ob, s _ _ B.ls, B.le, B.lo, B.hi⟩
theorem Bag.put {H : Hp} {b l D : Addr} {o : HO} (x : Bag H b l) (h1 : b ≠ D) (h2 : l ≠ D) : Bag (upd H D o) b l := by
  obtain ⟨cs, i, r, st, n, B⟩ := x
  exact ⟨cs, i, r, st, n, by rw [upd_ne h1]; exact B.ob, by rw [upd_ne h2]; exact B.ls, B.le, B.lo, B.hi⟩
theorem Bag.here {H : Hp} {b l D : Addr} (x : Bag H b l) (n : H D = none) : b ≠ D ∧ l ≠ D := by
  obtain ⟨cs, i, r, st, m, B⟩ := x
  exact ⟨ne_of_none B.ob n, ne_of_none B.ls n⟩
def CPowW (i j : Int) : Prop := 0 ≤ j ∧ ((Builtin.Int.intBits i : Nat) : Int) * j ≤ 2 ^ 27
theorem op_powW {X : Cx} : OpR X (binaryOp .Pow) (rI CPowW fun i j => .int (i ^ j.toNat)) := opI fun _ _ _ _ _ _ _ hc q => PyProof.Rows.pow_int hc.1 hc.2 q
theorem pow_a : CPowW 10 60 := by
  have z : Builtin.Int.intBits 10 ≤ 4 := PyProof.Rows.intBits_le (k := 4) (by decide)
  refine ⟨by decide, ?_⟩
  have e : (2 : Int) ^ 27 = 134217728 := by decide
  omega
theorem pow_b : CPowW (10 ^ (60 : Int).toNat) 10 := by
  have z : Builtin.Int.intBits (10 ^ (60 : Int).toNat) ≤ 200 := PyProof.Rows.intBits_le (k := 200) (by decide +kernel)
  refine ⟨by decide, ?_⟩
  have e : (2 : Int) ^ 27 = 134217728 := by decide
  omega
theorem pow_c : (0 : Int) < (10 ^ (60 : Int).toNat) ^ (10 : Int).toNat := by decide +kernel
theorem cut_intB {ns : List Int} {lo hi : Option Int} {i : Nat} {x : V} (h : (cutV (ns.map V.int) lo hi)[i]? = some x) : ∃ z, x = V.int z := by
  have m : x ∈ ns.map V.int := List.mem_of_mem_drop (List.mem_of_mem_take (List.mem_of_getElem? h))
  obtain ⟨z, _, e⟩ := List.mem_map.mp m
  exact ⟨z, e.symm⟩
theorem cut_lenB {ns : List Int} {lo hi : Option Int} : (cutV (ns.map V.int) lo hi).length ≤ ns.length := by
  unfold cutV
  rw [List.length_take, List.length_drop, List.length_map]
  omega
def spBag (K : PySem.W.Frag) : Sp := fun vs H Q _ => ∃ (a : Addr) (ns : List Int), vs = [.ref a] ∧ SqL K H a (ns.map V.int) ∧ ns.length ≤ 63 ∧
  ∀ (b l : Addr) (H' : Hp), Bag H' b l → Same H H' → Q (.ref b) H'
def spStir : Sp := fun vs H Q _ => ∃ (b l : Addr) (cs : List Int) (i : Nat) (r st n w : Int), vs = [.ref b, .int w] ∧ BagAt H b l cs i r st n ∧ 0 < w ∧ w < 2 ^ 120 ∧
  ∀ (v : Int) (H' : Hp), 0 ≤ v → v < w → Bag H' b l → But H H' b → Q (.int v) H'
theorem bits_120 {w : Int} (h0 : 0 < w) (h1 : w < 2 ^ 120) : Builtin.Int.intBits w ≤ 120 := PyProof.Rows.intBits_le (k := 120) (by
  have e : ((2 ^ 120 : Nat) : Int) = 2 ^ 120 := by norm_cast
  omega)
section
variable {P : Program} {w : World} {K : PySem.W.Frag} {mg : Str → Option Value} {base : Heap}
theorem scStr : FnScope ["bag", "wide", "found", "k", "mixed"] ["bag", "wide"] (defScope sStir) := ⟨rfl, rfl, rfl, by decide +kernel, rfl, by decide +kernel, by decide +kernel⟩
theorem ok_stir {f : Addr} {fd : FuncData} (F : Fun K "_law_stirred" "_law_stirred" sStir f fd) (T : Bl mg) : FnOk P w K mg base CX0 1 f fd ["bag", "wide"] spStir := by
  refine F.ok scStr (fun vs H Q E h => ?_) (fun cdv A outer s H vs Q E hr h => ?_)
  · obtain ⟨b, l, cs, i, r, st, n, w, rfl, _⟩ := h
    rfl
  · obtain ⟨b, l, cs, i, r, st, n, w, rfl, B, w0, w1, k⟩ := h
    refine ⟨_, pss_cons (ps_set (i := 2) scStr.nd rfl (Or.inl rfl) pe_int)
      (pss_cons (ps_for PassesOwn.never rfl (pi_range1 (by rfl) T.range (pa_cons (pe_op op_add pe_int (pe_op op_fdiv (pe_bits (pv 1)) pe_int)) pa_nil)) (pg_name (i := 3) scStr.nd rfl (Or.inl rfl))
        (pss_cons (ps_asg (pe_op op_add (pe_ix ix_list (pv 0) pe_int (fun _ _ => rfl)) pe_int) (pg_sub (pv 0) pe_int L2.set_list))
        (pss_cons (ps_set (i := 4) scStr.nd rfl (Or.inl rfl) (pe_op op_add (pe_op op_add (pe_op op_add (pe_op op_pow (pe_ix ix_list (pv 0) pe_int (fun _ _ => rfl)) pe_int) (pe_op op_mul pe_int (pe_ix ix_list (pv 0) pe_int (fun _ _ => rfl))))
            (pe_op op_mul pe_int (pe_ix ix_list (pv 0) pe_int (fun _ _ => rfl)))) pe_int))
        (pss_cons (ps_asg (pe_op op_mod (pe_callTy call_int1 (by rfl) T.int (by decide +kernel) (pa_cons (pv 4) pa_nil)) pe_int) (pg_sub (pv 0) pe_int L2.set_list))
        (pss_one (ps_set (i := 2) scStr.nd rfl (Or.inl rfl) (pe_op op_add (pe_op op_mul (pv 2) pe_int) (pe_op op_fdiv (pe_ix ix_list (pv 0) pe_int (fun _ _ => rfl)) pe_int))))))))
      (pss_one (ps_ret (pe_op op_mod (pe_callTy call_int1 (by rfl) T.int (by decide +kernel) (pa_cons (pv 2) pa_nil)) (pv 1))))), ?_⟩
    refine ⟨_, rfl, _, rfl, _, _, rfl, rfl, ⟨by decide, by decide⟩, _, _, rfl, rfl, _, rfl, ?_⟩
    have bz := bits_120 w0 w1
    refine ⟨by omega, by omega, for_range (lo := 0) (n := Int.toNat _) (fun j σ H' => ∃ (fo st' n' : Int) (v3 v4 : Option V), σ = [some (.ref b), some (.int w), some (.int fo), v3, v4] ∧ BagAt H' b l cs i r st' n' ∧ But H H' b)
      ⟨0, st, n, none, none, rfl, B, But.refl H b⟩ ?_ ?_⟩
    · rintro j σ H' _ ⟨fo, st', n', v3, v4, rfl, B', y⟩
      have B1 := B'.up (i' := i) (r' := r) (st' := st') (n' := n' + 1) B'.le B'.lo B'.hi
      refine ⟨_, rfl, b, _, 4, _, rfl, rfl, SqL.of B'.ob, rfl, _, _, rfl, rfl, _, rfl, b, _, 4, 4, rfl, rfl, B'.ob, rfl, ?_⟩
      have hlo := B'.lo
      have hhi := B'.hi
      refine ⟨_, rfl, b, _, 3, _, rfl, rfl, SqL.of B1.ob, rfl, _, _, rfl, rfl, ⟨by decide, by decide, by omega⟩, _, rfl, b, _, 3, _, rfl, rfl, SqL.of B1.ob, rfl, _, _, rfl, rfl, .inl ⟨by decide, by decide⟩, _, _, rfl, rfl,
        _, rfl, b, _, 4, _, rfl, rfl, SqL.of B1.ob, rfl, _, _, rfl, rfl, .inl ⟨by decide, by decide⟩, _, _, rfl, rfl, _, _, rfl, rfl, ?_⟩
      refine ⟨_, rfl, .inl ⟨_, rfl, _, _, rfl, rfl, (by show (0 : Int) < 2147483647; decide), _, rfl, b, _, 3, 3, rfl, rfl, B1.ob, rfl, ?_⟩⟩
      have B2 := B1.up (i' := i) (r' := r) (st' := (st' ^ Int.toNat 3 + 69621 * st' + 1031 * (n' + 1) + 1) % 2147483647) (n' := n' + 1) B'.le (Int.emod_nonneg _ (by decide)) (Int.emod_lt_of_pos _ (by decide))
      refine ⟨_, rfl, _, _, rfl, rfl, .inr ⟨by decide, by decide⟩, _, rfl, b, _, 3, _, rfl, rfl, SqL.of B2.ob, rfl, _, _, rfl, rfl, ⟨by decide, by decide⟩, _, _, rfl, rfl, ?_⟩
      exact ⟨_, _, _, _, _, rfl, B2, y.upd.upd⟩
    · rintro σ H' ⟨fo, st', n', v3, v4, rfl, B', y⟩
      refine ⟨_, rfl, .inl ⟨_, rfl, _, rfl, _, _, rfl, rfl, w0, ?_⟩⟩
      exact k _ _ (Int.emod_nonneg _ (by omega)) (Int.emod_lt_of_pos _ w0) ⟨cs, i, r, st', n', B'⟩ y
theorem scDrw : FnScope ["bag", "wide", "found"] ["bag", "wide"] (defScope sDraw) := ⟨rfl, rfl, rfl, by decide +kernel, rfl, by decide +kernel, by decide +kernel⟩
theorem ok_draw {f fS : Addr} {fd fdS : FuncData} (F : Fun K "_law_draw" "_law_draw" sDraw f fd) (T : Bl mg) (FS : Fun K "_law_stirred" "_law_stirred" sStir fS fdS) (gS : mg "_law_stirred" = some (.ref fS)) (bS : Binds K fdS ["bag", "wide"] []) :
    FnOk P w K mg base CX0 2 f fd ["bag", "wide"] spStir := by
  have GS : FnOk P w K mg base CX0 1 fS fdS ["bag", "wide"] spStir := ok_stir FS T
  refine F.ok scDrw (fun vs H Q E h => ?_) (fun cdv A outer s H vs Q E hr h => ?_)
  · obtain ⟨b, l, cs, i, r, st, n, w, rfl, _⟩ := h
    rfl
  · obtain ⟨b, l, cs, i, r, st, n, w, rfl, B, w0, w1, k⟩ := h
    refine ⟨_, pss_cons (ps_if (PW.pt (pw_and (pt_cmpR op_eq (pe_ix ix_list (pv 0) pe_int (fun _ _ => rfl)) pe_int (nomark _))
          (pw_and1 (pt_cmpR op_lt (pe_ix ix_list (pv 0) pe_int (fun _ _ => rfl)) (pe_callB call_len_seq (by rfl) T.len PySem.boot_len (pa_cons (pe_ix ix_list (pv 0) pe_int (fun _ _ => rfl)) pa_nil)) (nomark _)))))
        (pss_cons (ps_asg (pe_ix ix_list (pe_ix ix_list (pv 0) pe_int (fun _ _ => rfl)) (pe_ix ix_list (pv 0) pe_int (fun _ _ => rfl)) (fun _ _ => rfl)) (pg_sub (pv 0) pe_int L2.set_list))
        (pss_one (ps_asg (pe_op op_add (pe_ix ix_list (pv 0) pe_int (fun _ _ => rfl)) pe_int) (pg_sub (pv 0) pe_int L2.set_list))))
        (pss_one (ps_if (pt_cmpR op_eq (pe_ix ix_list (pv 0) pe_int (fun _ _ => rfl)) pe_int (nomark _))
          (pss_one (ps_ret (pe_call GS hr rfl gS FS.kp bS .nil pass0 (pa_cons (pv 0) (pa_cons (pv 1) pa_nil)))))
          pss_nil)))
      (pss_cons (ps_set (i := 2) scDrw.nd rfl (Or.inl rfl) (pe_op op_mod (pe_callTy call_int1 (by rfl) T.int (by decide +kernel) (pa_cons (pe_ix ix_list (pv 0) pe_int (fun _ _ => rfl)) pa_nil)) (pv 1)))
      (pss_cons (ps_asg (pe_op op_fdivW (pe_ix ix_list (pv 0) pe_int (fun _ _ => rfl)) (pv 1)) (pg_sub (pv 0) pe_int L2.set_list))
      (pss_one (ps_ret (pv 2))))), ?_⟩
    refine ⟨_, rfl, b, _, 2, _, rfl, rfl, SqL.of B.ob, rfl, rfl, _, rfl, ?_⟩
    have wn : w.natAbs < 2 ^ 120 := by
      have e : ((2 ^ 120 : Nat) : Int) = 2 ^ 120 := by norm_cast
      omega
    have hw : ∀ i, CDivW i w := fun i => wide_div w0 wn (by decide) (by decide)
    by_cases c : r = 0
    · refine ifT (decide_eq_true (by rw [c])) ?_
      refine ⟨_, rfl, b, _, 1, _, rfl, rfl, SqL.of B.ob, rfl, _, rfl, b, _, 0, _, rfl, rfl, SqL.of B.ob, rfl, l, _, rfl, .inl (SqL.of B.ls), _, _, rfl, rfl, _, rfl, ?_⟩
      by_cases c2 : i < cs.length
      · refine ifT (decide_eq_true (by rw [List.length_map]; omega)) ?_
        have hx : (cs.map V.int)[i]? = some (V.int cs[i]) := by rw [List.getElem?_map, List.getElem?_eq_getElem c2]; rfl
        refine ⟨_, rfl, b, _, 0, _, rfl, rfl, SqL.of B.ob, rfl, _, rfl, b, _, 1, _, rfl, rfl, SqL.of B.ob, rfl, l, _, _, _, rfl, rfl, SqL.of B.ls, atI_nat hx, _, rfl, b, _, 2, 2, rfl, rfl, B.ob, rfl, ?_⟩
        have B1 := B.up (i' := i) (r' := cs[i]) (st' := st) (n' := n) B.le B.lo B.hi
        refine ⟨_, rfl, b, _, 1, _, rfl, rfl, SqL.of B1.ob, rfl, _, _, rfl, rfl, _, rfl, b, _, 1, 1, rfl, rfl, B1.ob, rfl, ?_⟩
        have B2 := B1.up (i' := i + 1) (r' := cs[i]) (st' := st) (n' := n) c2 B.lo B.hi
        refine ⟨_, rfl, b, _, 2, _, rfl, rfl, SqL.of B2.ob, rfl, .inl ⟨_, rfl, _, rfl, _, _, rfl, rfl, w0, ?_⟩⟩
        refine ⟨_, rfl, b, _, 2, _, rfl, rfl, SqL.of B2.ob, rfl, _, rfl, _, _, rfl, rfl, hw _, _, rfl, b, _, 2, 2, rfl, rfl, B2.ob, rfl, ?_⟩
        have B3 := B2.up (i' := i + 1) (r' := cs[i] / w) (st' := st) (n' := n) c2 B.lo B.hi
        exact ⟨_, rfl, k _ _ (Int.emod_nonneg _ (by omega)) (Int.emod_lt_of_pos _ w0) ⟨cs, i + 1, _, st, n, B3⟩ (But.refl H b).upd.upd.upd⟩
      · refine ifF (decide_eq_false (by rw [List.length_map]; omega)) ?_
        refine ⟨_, rfl, b, _, 2, _, rfl, rfl, SqL.of B.ob, rfl, rfl, _, rfl, ?_⟩
        refine ifT (decide_eq_true (by rw [c])) ?_
        exact ⟨_, rfl, _, rfl, b, l, cs, i, r, st, n, w, rfl, B, w0, w1, fun v H' h1 h2 B' y => k v H' h1 h2 B' y⟩
    · have e0 : decide (V.int r = V.int 0) = false := decide_eq_false fun e => c (by injection e)
      refine ifF e0 ?_
      refine ifF rfl ?_
      refine ⟨_, rfl, b, _, 2, _, rfl, rfl, SqL.of B.ob, rfl, rfl, _, rfl, ?_⟩
      refine ifF e0 ?_
      refine ⟨_, rfl, b, _, 2, _, rfl, rfl, SqL.of B.ob, rfl, .inl ⟨_, rfl, _, rfl, _, _, rfl, rfl, w0, ?_⟩⟩
      refine ⟨_, rfl, b, _, 2, _, rfl, rfl, SqL.of B.ob, rfl, _, rfl, _, _, rfl, rfl, hw _, _, rfl, b, _, 2, 2, rfl, rfl, B.ob, rfl, ?_⟩
      have B3 := B.up (i' := i) (r' := r / w) (st' := st) (n' := n) B.le B.lo B.hi
      exact ⟨_, rfl, k _ _ (Int.emod_nonneg _ (by omega)) (Int.emod_lt_of_pos _ w0) ⟨cs, i, _, st, n, B3⟩ (But.refl H b).upd⟩
theorem scBag : FnScope ["script", "stir", "cell"] ["script"] (defScope sBag) := ⟨rfl, rfl, rfl, by decide +kernel, rfl, by decide +kernel, by decide +kernel⟩
theorem ok_bag {f : Addr} {fd : FuncData} (F : Fun K "_law_bag" "_law_bag" sBag f fd) (T : Bl mg) : FnOk P w K mg base CX0 1 f fd ["script"] (spBag K) := by
  refine F.ok scBag (fun vs H Q E h => ?_) (fun cdv A outer s H vs Q E hr h => ?_)
  · obtain ⟨a, ns, rfl, _⟩ := h
    rfl
  · obtain ⟨a, ns, rfl, hS, hl, k⟩ := h
    refine ⟨_, pss_cons (ps_set (i := 1) scBag.nd rfl (Or.inl rfl) pe_int)
      (pss_cons (ps_for PassesOwn.never rfl (pi_list (pe_slice sl_list (pv 0) po_none (po_some pe_int))) (pg_name (i := 2) scBag.nd rfl (Or.inl rfl))
        (pss_one (ps_set (i := 1) scBag.nd rfl (Or.inl rfl) (pe_op op_mod (pe_callTy call_int1 (by rfl) T.int (by decide +kernel) (pa_cons (pe_op op_add (pe_op op_add (pe_op op_mul (pv 1) pe_int)
          (pe_op op_mod (pe_callTy call_int1 (by rfl) T.int (by decide +kernel) (pa_cons (pv 2) pa_nil)) pe_int)) pe_int) pa_nil)) pe_int))))
      (pss_one (ps_ret (pe_lst (pa_cons (pe_lc (own := [("cell", 2)]) (g := gName 2) (tt := tYes) rfl scBag.nd (pi_list (pe_slice sl_list (pv 0) po_none (po_some pe_int)))
          (blkOk_by (own := [("cell", 2)]) (N := ["script", "stir", "cell"]) (sc := defScope sBag) (by decide +kernel)) (fun _ _ _ _ _ => pg_name (i := 2) scBag.nd rfl (Or.inl rfl)) (fun _ _ _ _ _ => pts_nil)
          (fun _ _ _ _ _ => pe_op op_mod (pe_callTy call_int1 (by rfl) T.int (by decide +kernel) (pa_cons (pe_callB call_abs (by rfl) T.abs (by decide +kernel) (pa_cons (pv 2) pa_nil)) pa_nil)) (pe_op op_powW (pe_op op_powW pe_int pe_int) pe_int)))
        (pa_cons pe_int (pa_cons pe_int (pa_cons (pv 1) (pa_cons pe_int pa_nil))))))))), ?_⟩
    refine ⟨_, rfl, _, rfl, a, _, rfl, hS, fun p hp => ⟨p, rfl, ⟨_, SqL.of upd_same⟩, ?_⟩⟩
    have s1 : Same H (upd H p (.lst (cutV (ns.map V.int) none (some 63)))) := same_new (Same.refl H) hp
    refine for_list (K := K) (a := p) (xs := cutV (ns.map V.int) none (some 63)) (fun i σ H' => ∃ (st : Int) (v : Option V), σ = [some (.ref a), some (.int st), v] ∧ 0 ≤ st ∧ st < 2147483647 ∧ H' = upd H p (.lst (cutV (ns.map V.int) none (some 63))))
      ⟨139, none, rfl, by decide, by decide, rfl⟩ (fun i σ H' _ ⟨_, _, _, _, _, e⟩ => by rw [e]; exact SqL.of upd_same) ?_ ?_
    · rintro i x σ H' hx ⟨st, v, rfl, h0, h1, rfl⟩
      obtain ⟨z, rfl⟩ := cut_intB hx
      refine ⟨_, rfl, _, _, rfl, rfl, .inl ⟨by omega, by omega⟩, _, rfl, .inl ⟨_, rfl, _, _, rfl, rfl, (by show (0 : Int) < 2147483629; decide), _, _, rfl, rfl, _, _, rfl, rfl, .inl ⟨_, rfl, _, _, rfl, rfl, (by show (0 : Int) < 2147483647; decide), ?_⟩⟩⟩
      exact ⟨_, _, rfl, Int.emod_nonneg _ (by decide), Int.emod_lt_of_pos _ (by decide), rfl⟩
    · rintro σ H' ⟨st, v, rfl, h0, h1, rfl⟩
      refine ⟨_, rfl, _, rfl, a, _, rfl, s1.seq hS, fun q hq => ⟨q, rfl, ⟨_, SqL.of upd_same⟩, fun D hD => ?_⟩⟩
      have s2 : Same H (upd (upd H p (.lst (cutV (ns.map V.int) none (some 63)))) q (.lst (cutV (ns.map V.int) none (some 63)))) := same_new s1 hq
      refine lc_list (K := K) (a := q) (xs := cutV (ns.map V.int) none (some 63)) (fun i H' => ∃ ds : List Int, ds.length = i ∧ H' D = some (.lst (ds.map V.int)) ∧ Same (upd (upd H p (.lst (cutV (ns.map V.int) none (some 63)))) q (.lst (cutV (ns.map V.int) none (some 63)))) H')
        ⟨[], rfl, upd_same, same_new (Same.refl _) hD⟩ (fun i H' _ ⟨_, _, _, e⟩ => e.seq (SqL.of upd_same)) ?_ ?_
      · rintro i x H' hx ⟨ds, hd, hD', e⟩
        have hi : i < ns.length := Nat.lt_of_lt_of_le (List.getElem?_eq_some_iff.mp hx).1 cut_lenB
        obtain ⟨z, rfl⟩ := cut_intB hx
        refine ⟨rfl, ?_⟩
        unfold tYes
        refine iteT ?_
        refine ⟨_, rfl, _, rfl, .inl ⟨_, rfl, _, _, rfl, rfl, pow_a, _, _, rfl, rfl, pow_b, _, _, rfl, rfl, pow_c, _, hD', by rw [List.length_map]; exact small1000 (by omega), ?_⟩⟩
        refine ⟨ds ++ [_], by rw [List.length_append, hd]; rfl, Eq.trans upd_same (by rw [List.map_append]; rfl), fun c o ec => ?_⟩
        have nc : c ≠ D := ne_of_none ec hD
        rw [upd_ne nc]
        exact e c o ec
      · rintro H' ⟨ds, hd, hD', e⟩
        refine ⟨_, rfl, (by show 5 ≤ sizeLine; decide), fun b hb => ?_⟩
        have nb : D ≠ b := fun z => by
          rw [z, hb] at hD'
          cases hD'
        have s3 : Same H H' := s2.trans e
        refine k b D _ ⟨ds, 0, 0, st, 0, upd_same, by rw [upd_ne nb]; exact hD', Nat.zero_le _, h0, h1⟩ (same_new s3 hb)
end
end Cw
namespace Cw
open PySem L2
abbrev sAlike : Stmt := top 35
/-! ## _law_alike, by the depth of its data -/
def spA (L : Hp → V → V → Prop) : Sp := fun vs H Q _ => ∃ x y, vs = [x, y] ∧ L H x y ∧ ∀ H', Same H H' → Q (.bl true) H'
def Stab (L : Hp → V → V → Prop) : Prop := ∀ H H' x y, L H x y → Same H H' → L H' x y
inductive Leaf : V → Prop where
  | int (i : Int) : Leaf (.int i)
  | str (s : Str) : Leaf (.str s)
  | non : Leaf .non
  | bl (b : Bool) : Leaf (.bl b)
/-- equal leaves, or two lists (two tuples) of items that are alike -/
def Up (L : Hp → V → V → Prop) : Hp → V → V → Prop := fun H x y => (Leaf x ∧ y = x) ∨
  ∃ (a b : Addr) (xs ys : List V), x = .ref a ∧ y = .ref b ∧ ((H a = some (.lst xs) ∧ H b = some (.lst ys)) ∨ (H a = some (.tup xs) ∧ H b = some (.tup ys))) ∧ xs.length ≤ 1000 ∧ xs.length = ys.length ∧ ∀ (i : Nat) (u v : V), xs[i]? = some u → ys[i]? = some v → L H u v
theorem stab_up {L : Hp → V → V → Prop} (h : Stab L) : Stab (Up L) := by
  intro H H' x y u s
  rcases u with u | ⟨a, b, xs, ys, e1, e2, u, l, l2, m⟩
  · exact .inl u
  · refine .inr ⟨a, b, xs, ys, e1, e2, ?_, l, l2, fun i u v hu hv => h _ _ _ _ (m i u v hu hv) s⟩
    rcases u with ⟨p, q⟩ | ⟨p, q⟩
    · exact .inl ⟨s _ _ p, s _ _ q⟩
    · exact .inr ⟨s _ _ p, s _ _ q⟩
theorem rix_of {K : PySem.W.Frag} {H : Hp} {a : Addr} {xs : List V} {z : Int} {v : V} {Q : VK} (h : SqL K H a xs ∨ SqT K H a xs) (e : atI xs z = some v) (q : Q v H) : rIx K (.ref a) (.int z) H Q :=
  h.elim (fun h => .inl ⟨a, xs, z, v, rfl, rfl, h, e, q⟩) (fun h => .inr (.inl ⟨a, xs, z, v, rfl, rfl, h, e, q⟩))
theorem stab_no : Stab (fun _ _ _ => False) := fun _ _ _ _ h _ => h
theorem leaf_kit {K : PySem.W.Frag} {x : V} (h : Leaf x) : ∃ (T : String) (b1 b2 b3 : Bool), (∀ H, TyX K H x (.type T)) ∧ PySem.W.kitAny K (.type T) [.type "list", .type "tuple"] = some false ∧ PySem.W.kitOne K (.type T) (.type "bool") = some b1 ∧ PySem.W.kitOne K (.type T) (.type "int") = some b2 ∧ PySem.W.kitOne K (.type T) (.type "str") = some b3 := by
  have any : ∀ T : String, kitB T "list" = some false → kitB T "tuple" = some false → PySem.W.kitAny K (.type T) [.type "list", .type "tuple"] = some false := fun T h1 h2 => kitAny_cons (b := false) (kit_ty h1) (fun _ => kitAny_cons (b := false) (kit_ty h2) (fun _ => kitAny_nil) (fun z => nomatch z)) (fun z => nomatch z)
  cases h with
  | int i => exact ⟨"int", false, true, false, fun _ => .base (.int i), any _ (by decide +kernel) (by decide +kernel), kit_ty (by decide +kernel), kit_ty (by decide +kernel), kit_ty (by decide +kernel)⟩
  | str i => exact ⟨"str", false, false, true, fun _ => .base (.str i), any _ (by decide +kernel) (by decide +kernel), kit_ty (by decide +kernel), kit_ty (by decide +kernel), kit_ty (by decide +kernel)⟩
  | non => exact ⟨"NoneType", false, false, false, fun _ => .base .non, any _ (by decide +kernel) (by decide +kernel), kit_ty (by decide +kernel), kit_ty (by decide +kernel), kit_ty (by decide +kernel)⟩
  | bl i => exact ⟨"bool", true, true, false, fun _ => .base (.bl i), any _ (by decide +kernel) (by decide +kernel), kit_ty (by decide +kernel), kit_ty (by decide +kernel), kit_ty (by decide +kernel)⟩
theorem kit_l {K : PySem.W.Frag} : PySem.W.kitAny K (.type "list") [.type "list", .type "tuple"] = some true :=
  kitAny_cons (b := true) (kit_ty (by decide +kernel)) (fun z => nomatch z) (fun _ => rfl)
theorem kit_t {K : PySem.W.Frag} : PySem.W.kitAny K (.type "tuple") [.type "list", .type "tuple"] = some true :=
  kitAny_cons (b := false) (kit_ty (by decide +kernel)) (fun _ => kitAny_cons (b := true) (kit_ty (by decide +kernel)) (fun z => nomatch z) (fun _ => rfl)) (fun z => nomatch z)
theorem two_cls : Paired ClsV [V.ty "list", V.ty "tuple"] [Value.type "list", Value.type "tuple"] := .cons (ClsV.ty _) (.cons (ClsV.ty _) .nil)
section
variable {P : Program} {w : World} {K : PySem.W.Frag} {mg : Str → Option Value} {base : Heap}
theorem scAlk : FnScope ["found", "due", "k"] ["found", "due"] (defScope sAlike) := ⟨rfl, rfl, rfl, by decide +kernel, rfl, by decide +kernel, by decide +kernel⟩
theorem ok_alike {f : Addr} {fd : FuncData} {k : Nat} {L : Hp → V → V → Prop} (F : Fun K "_law_alike" "_law_alike" sAlike f fd) (T : Bl mg) (hST : mg "str" = none) (gA : mg "_law_alike" = some (.ref f)) (bA : Binds K fd ["found", "due"] []) (hL : Stab L)
    (G : FnOk P w K mg base CX0 k f fd ["found", "due"] (spA L)) : FnOk P w K mg base CX0 (k + 1) f fd ["found", "due"] (spA (Up L)) := by
  refine F.ok scAlk (fun vs H Q E h => ?_) (fun cdv A outer s H vs Q E hr h => ?_)
  · obtain ⟨x, y, rfl, _⟩ := h
    rfl
  · obtain ⟨x, y, rfl, hu, q⟩ := h
    refine ⟨_, pss_cons (ps_if (pt_val (pe_callB call_isiT (by rfl) T.isi (by decide +kernel) (pa_cons (pv 1) (pa_cons (pe_tup (pa_cons (pe_bltn (by rfl) T.list (by decide +kernel) (v := V.ty "list") rfl) (pa_cons (pe_bltn (by rfl) T.tuple (by decide +kernel) (v := V.ty "tuple") rfl) pa_nil))) pa_nil))))
        (pss_cons (ps_if (PW.pt (pw_or (pt_not (pt_val (pe_callB call_isiT (by rfl) T.isi (by decide +kernel) (pa_cons (pv 0) (pa_cons (pe_tup (pa_cons (pe_bltn (by rfl) T.list (by decide +kernel) (v := V.ty "list") rfl) (pa_cons (pe_bltn (by rfl) T.tuple (by decide +kernel) (v := V.ty "tuple") rfl) pa_nil))) pa_nil)))))
            (pw_or1 (pt_cmpR op_ne (pe_callB call_isi (by rfl) T.isi (by decide +kernel) (pa_cons (pv 0) (pa_cons (pe_bltn (by rfl) T.list (by decide +kernel) (v := V.ty "list") rfl) pa_nil)))
              (pe_callB call_isi (by rfl) T.isi (by decide +kernel) (pa_cons (pv 1) (pa_cons (pe_bltn (by rfl) T.list (by decide +kernel) (v := V.ty "list") rfl) pa_nil))) (nomark _)))))
            (pss_one (ps_ret pe_bl)) pss_nil)
        (pss_cons (ps_if (pt_cmpR op_ne (pe_callB call_len_seq (by rfl) T.len PySem.boot_len (pa_cons (pv 0) pa_nil)) (pe_callB call_len_seq (by rfl) T.len PySem.boot_len (pa_cons (pv 1) pa_nil)) (nomark _)) (pss_one (ps_ret pe_bl)) pss_nil)
        (pss_one (ps_ret (pe_callB (cr_all rfl) (by rfl) T.all (by decide +kernel) (pa_cons (pe_lc (own := [("k", 2)]) (g := gName 2) (tt := tYes) rfl scAlk.nd
            (pi_range1 (by rfl) T.range (pa_cons (pe_callB call_len_seq (by rfl) T.len PySem.boot_len (pa_cons (pv 1) pa_nil)) pa_nil))
            (blkOk_by (own := [("k", 2)]) (N := ["found", "due", "k"]) (sc := defScope sAlike) (by decide +kernel)) (fun _ _ _ _ _ => pg_name (i := 2) scAlk.nd rfl (Or.inl rfl)) (fun _ _ _ _ _ => pts_nil)
            (fun _ _ _ _ _ => pe_call G hr rfl gA F.kp bA .nil pass0 (pa_cons (pe_ix (r := rIx K) ix_seq (pv 0) (pv 2) (fun _ _ => rfl)) (pa_cons (pe_ix (r := rIx K) ix_seq (pv 1) (pv 2) (fun _ _ => rfl)) pa_nil)))) pa_nil)))))) pss_nil)
      (pss_cons (ps_if (PW.pt (pw_or (pt_cmpR op_ne (pe_callB call_isi (by rfl) T.isi (by decide +kernel) (pa_cons (pv 0) (pa_cons (pe_bltn (by rfl) T.bool (by decide +kernel) (v := V.ty "bool") rfl) pa_nil)))
            (pe_callB call_isi (by rfl) T.isi (by decide +kernel) (pa_cons (pv 1) (pa_cons (pe_bltn (by rfl) T.bool (by decide +kernel) (v := V.ty "bool") rfl) pa_nil))) (nomark _))
          (pw_or1 (pt_cmpR op_ne (pe_callB call_isi (by rfl) T.isi (by decide +kernel) (pa_cons (pv 0) (pa_cons (pe_bltn (by rfl) T.int (by decide +kernel) (v := V.ty "int") rfl) pa_nil)))
            (pe_callB call_isi (by rfl) T.isi (by decide +kernel) (pa_cons (pv 1) (pa_cons (pe_bltn (by rfl) T.int (by decide +kernel) (v := V.ty "int") rfl) pa_nil))) (nomark _)))))
          (pss_one (ps_ret pe_bl)) pss_nil)
      (pss_one (ps_ret (pe_and (pe_cmpR op_eq (pe_callB call_isi (by rfl) T.isi (by decide +kernel) (pa_cons (pv 0) (pa_cons (pe_bltn (by rfl) hST (by decide +kernel) (v := V.ty "str") rfl) pa_nil)))
            (pe_callB call_isi (by rfl) T.isi (by decide +kernel) (pa_cons (pv 1) (pa_cons (pe_bltn (by rfl) hST (by decide +kernel) (v := V.ty "str") rfl) pa_nil))) (nomark _))
          (pe_one (pe_cmpR op_eq (pv 0) (pv 1) (nomark _))))))), ?_⟩
    rcases hu with ⟨lf, rfl⟩ | ⟨a, b, xs, ys, rfl, rfl, hu, hl, hl2, hm⟩
    · obtain ⟨T1, b1, b2, b3, ty, kA, k1, k2, k3⟩ := leaf_kit (K := K) lf
      refine ⟨_, rfl, (by show 2 ≤ sizeLine; decide), fun p hp => ⟨_, p, _, _, _, false, rfl, upd_same, two_cls, ty _, kA, _, rfl, ?_⟩⟩
      refine ifF rfl ?_
      refine ⟨_, rfl, _, _, _, _, b1, rfl, ClsV.ty _, ty _, k1, _, rfl, _, _, _, _, b1, rfl, ClsV.ty _, ty _, k1, rfl, _, rfl, ?_⟩
      refine ifF (by simp) ?_
      refine ⟨_, rfl, _, _, _, _, b2, rfl, ClsV.ty _, ty _, k2, _, rfl, _, _, _, _, b2, rfl, ClsV.ty _, ty _, k2, rfl, _, rfl, ?_⟩
      refine ifF (by simp) ?_
      refine ⟨_, rfl, _, _, _, _, b3, rfl, ClsV.ty _, ty _, k3, _, rfl, _, _, _, _, b3, rfl, ClsV.ty _, ty _, k3, rfl, _, rfl, ?_⟩
      refine ifT (by simp) ?_
      have fin : Q (.bl true) (upd H p (.tup [V.ty "list", V.ty "tuple"])) := q _ (same_new (Same.refl H) hp)
      cases lf <;>
      · refine ⟨_, rfl, _, rfl, rfl, ?_⟩
        rw [decide_eq_true rfl]
        exact fin
    · have hseq : ∀ H', Same H H' → (H' a = some (.lst xs) ∧ H' b = some (.lst ys)) ∨ (H' a = some (.tup xs) ∧ H' b = some (.tup ys)) := fun H' s => hu.elim (fun z => .inl ⟨s _ _ z.1, s _ _ z.2⟩) (fun z => .inr ⟨s _ _ z.1, s _ _ z.2⟩)
      -- what kind both are
      obtain ⟨T1, kl, kA, hta, htb⟩ : ∃ (T1 : String) (kl : Bool), PySem.W.kitAny K (.type T1) [.type "list", .type "tuple"] = some true ∧ (∀ H', Same H H' → TyX K H' (.ref a) (.type T1)) ∧ (∀ H', Same H H' → TyX K H' (.ref b) (.type T1)) ∧ PySem.W.kitOne K (.type T1) (.type "list") = some kl := by
        rcases hu with ⟨p, q⟩ | ⟨p, q⟩
        · exact ⟨"list", true, kit_l, fun H' s => .base (.lst (s _ _ p)), fun H' s => .base (.lst (s _ _ q)), kit_ty (by decide +kernel)⟩
        · exact ⟨"tuple", false, kit_t, fun H' s => .base (.tup (s _ _ p)), fun H' s => .base (.tup (s _ _ q)), kit_ty (by decide +kernel)⟩
      obtain ⟨htb, kone⟩ := htb
      refine ⟨_, rfl, (by show 2 ≤ sizeLine; decide), fun p hp => ⟨_, p, _, _, _, true, rfl, upd_same, two_cls, htb _ (same_new (Same.refl H) hp), kA, _, rfl, ?_⟩⟩
      refine ifT rfl ?_
      have s1 : Same H (upd H p (.tup [V.ty "list", V.ty "tuple"])) := same_new (Same.refl H) hp
      refine ⟨_, rfl, (by show 2 ≤ sizeLine; decide), fun p2 hp2 => ⟨_, p2, _, _, _, true, rfl, upd_same, two_cls, hta _ (same_new s1 hp2), kA, _, rfl, ?_⟩⟩
      have s2 := same_new (o := .tup [V.ty "list", V.ty "tuple"]) s1 hp2
      refine ifF rfl ?_
      refine ⟨_, rfl, _, _, _, _, kl, rfl, ClsV.ty _, hta _ s2, kone, _, rfl, _, _, _, _, kl, rfl, ClsV.ty _, htb _ s2, kone, rfl, _, rfl, ?_⟩
      refine ifF (by simp) ?_
      have la : ∀ H', Same H H' → SqL K H' a xs ∨ SqT K H' a xs := fun H' s => (hseq H' s).elim (fun z => .inl (SqL.of z.1)) (fun z => .inr (SqT.of z.1))
      have lb : ∀ H', Same H H' → SqL K H' b ys ∨ SqT K H' b ys := fun H' s => (hseq H' s).elim (fun z => .inl (SqL.of z.2)) (fun z => .inr (SqT.of z.2))
      refine ⟨_, rfl, a, xs, rfl, la _ s2, _, rfl, b, ys, rfl, lb _ s2, rfl, _, rfl, ?_⟩
      refine ifF (by simp [hl2]) ?_
      refine ⟨_, rfl, b, ys, rfl, lb _ s2, _, rfl, by omega, by omega, fun D hD => ?_⟩
      rw [Int.toNat_natCast, ← hl2]
      generalize hc : upd (upd H p (.tup [V.ty "list", V.ty "tuple"])) p2 (.tup [V.ty "list", V.ty "tuple"]) = Hc at s2 hD ⊢
      refine lc_range (lo := 0) (n := xs.length) (fun i H' => Same Hc H' ∧ H' D = some (.lst (List.replicate i (V.bl true)))) ⟨same_new (Same.refl _) hD, upd_same⟩ ?_ ?_
      · rintro i H' hi ⟨s3, hD'⟩
        have hx : xs[i]? = some xs[i] := List.getElem?_eq_getElem hi
        refine ⟨rfl, ?_⟩
        unfold tYes
        refine iteT ?_
        refine ⟨_, rfl, _, rfl, rix_of (la _ (s2.trans s3)) (at_of (j := i) (by omega) hx) ?_⟩
        have hy : ys[i]? = some (ys[i]'(by omega)) := List.getElem?_eq_getElem (by omega)
        refine ⟨_, rfl, _, rfl, rix_of (lb _ (s2.trans s3)) (at_of (j := i) (by omega) hy) ?_⟩
        refine ⟨_, _, rfl, hL _ _ _ _ (hm i _ _ hx hy) (s2.trans s3), fun H2 s4 => ⟨_, s4 _ _ hD', by rw [List.length_replicate]; exact small1000 (by omega), ?_, ?_⟩⟩
        · intro c o ec
          rw [upd_ne (ne_of_none ec hD)]
          exact s4 _ _ (s3 _ _ ec)
        · rw [upd_same, List.replicate_succ']
      · rintro H' ⟨s3, hD'⟩
        refine ⟨D, List.replicate xs.length true, rfl, SqL.of (by rw [hD', List.map_replicate]), ?_⟩
        rw [all_true]
        exact q _ (s2.trans s3)
end
end Cw
namespace Cw
open PySem PySem.Spec L2 TL
/-! ## numbers and words as texts -/
/-- the text of a number -/
abbrev num (n : Int) : Str := Str.ofString (toString n)
theorem tl_numI {n : Int} (h : 0 ≤ n) : tl (num n) = numL n.toNat := by
  have e : n = ((n.toNat : Nat) : Int) := by omega
  show tl (Str.ofString (toString n)) = _
  rw [e, tl_num]
  congr 1
theorem emp_app (x : Str) : Str.empty ++ x = x := ext_tl (by rw [tl_append]; rfl)
theorem app_emp (x : Str) : x ++ Str.empty = x := ext_tl (by rw [tl_append]; exact List.append_nil _)
theorem app_ass (x y z : Str) : x ++ y ++ z = x ++ (y ++ z) := ext_tl (by rw [tl_append, tl_append, tl_append, tl_append, List.append_assoc])
theorem ends_yes {x y : Str} {c : Nat} (hy : tl y = [c]) : Txt.endswith (x ++ y) y = true := by
  have l1 : y.length = 1 := by rw [len_tl, hy]; rfl
  have l2 : (x ++ y).length = x.length + 1 := by rw [PySem.strLen_append, l1]
  show (decide (0 + y.length ≤ (x ++ y).length) && Builtin.Str.subAt (x ++ y) y ((x ++ y).length - y.length)) = true
  rw [decide_eq_true (by omega), Bool.true_and, StrLaws.subAt_eq]
  have e : (x ++ y).length - y.length = (tl x).length := by rw [← len_tl]; omega
  have e2 : (x ++ y).cps.toList = tl x ++ tl y := tl_append x y
  have e3 : y.cps.toList = [c] := hy
  rw [e, e2, List.drop_append_of_le_length (Nat.le_refl _), List.drop_length, List.nil_append, hy, l1, e3]
  exact beq_self_eq_true [c]
theorem ends_no {x y : Str} {c : Nat} (hy : tl y = [c]) (h : c ∉ tl x) : Txt.endswith x y = false := by
  have l1 : y.length = 1 := by rw [len_tl, hy]; rfl
  show (decide (0 + y.length ≤ x.length) && Builtin.Str.subAt x y (x.length - y.length)) = false
  rw [StrLaws.subAt_eq]
  have e3 : y.cps.toList = [c] := hy
  rw [e3, l1]
  cases d : decide (0 + 1 ≤ x.length) with
  | false => rfl
  | true =>
    rw [Bool.true_and]
    apply Bool.eq_false_iff.mpr
    intro z
    have z := eq_of_beq z
    have m : c ∈ List.take 1 (List.drop (x.length - 1) x.cps.toList) := by rw [z]; exact List.mem_cons_self
    exact h (List.mem_of_mem_drop (List.mem_of_mem_take m))
theorem cut_end {x y : Str} {c : Nat} (hy : tl y = [c]) : cutS (x ++ y) none (some (-1)) = x := by
  have l1 : y.length = 1 := by rw [len_tl, hy]; rfl
  have l2 : (x ++ y).length = x.length + 1 := by rw [PySem.strLen_append, l1]
  apply ext_tl
  have e : HT.sIx (x ++ y).length (x ++ y).length (some (-1)) = x.length := by
    show (if (-1 : Int) < 0 then ((-1 : Int) + (((x ++ y).length : Nat) : Int)).toNat else min (-1 : Int).toNat (x ++ y).length) = _
    rw [if_pos (by decide)]
    omega
  show (((x ++ y).cps.toList.drop (HT.sIx (x ++ y).length 0 none)).take (HT.sIx (x ++ y).length (x ++ y).length (some (-1)) - HT.sIx (x ++ y).length 0 none)) = _
  rw [e, HT.sIx_none, List.drop_zero, Nat.sub_zero, show (x ++ y).cps.toList = tl x ++ tl y from tl_append x y, len_tl x, List.take_left]
theorem num_len {n : Int} (h0 : 0 ≤ n) {k : Nat} (hk : 0 < k) (h : n < 10 ^ k) : (num n).length ≤ k := PyProof.Rows.toString_length_le h0 hk h
theorem num_free {n : Int} {c : Nat} (h0 : 0 ≤ n) (h : c < 48 ∨ 57 < c) : c ∉ tl (num n) := by
  rw [tl_numI h0]
  exact numL_free h
theorem numL_head : ∀ n : Nat, ∃ c r, numL n = c :: r ∧ (n ≠ 0 → c ≠ 48) := fun n => by
  induction n using Nat.strongRecOn with
  | _ n ih =>
    by_cases h : n < 10
    · rw [numL_lt h]
      exact ⟨48 + n, [], rfl, fun z => by omega⟩
    · obtain ⟨c, r, e, q⟩ := ih (n / 10) (by omega)
      rw [numL_step (by omega), e]
      exact ⟨c, r ++ [48 + n % 10], rfl, fun _ => q (by omega)⟩
theorem numL_zero : numL 0 = [48] := numL_lt (by decide)
/-- the word of a mark -/
def mw (ss : List Int) (m : Int) : Str := if m ∈ ss then num m ++ "!" else num m
theorem mw_free {ss : List Int} {m : Int} (h : 0 ≤ m) : 32 ∉ tl (mw ss m) := by
  unfold mw
  split
  · rw [tl_append]
    intro z
    rcases List.mem_append.mp z with z | z
    · exact num_free h (.inl (by decide)) z
    · rw [show tl ("!" : Str) = [33] by decide +kernel] at z
      cases List.mem_singleton.mp z
  · exact num_free h (.inl (by decide))
theorem mw_len {ss : List Int} {m : Int} (h : 0 ≤ m) (h1 : m < 10 ^ 30) : (mw ss m).length ≤ 31 := by
  have l := num_len h (k := 30) (by decide) h1
  have e : ("!" : Str).length = 1 := by decide +kernel
  unfold mw
  split
  · rw [PySem.strLen_append, e]
    omega
  · omega
/-- a text: a first word, words behind it with blanks -/
def txt (a : Str) (ws : List Str) : Str := Txt.join " " (a :: ws)
theorem tl_blank : tl (" " : Str) = [32] := by decide +kernel
theorem tl_txt (a : Str) : ∀ ws : List Str, tl (txt a ws) = tl a ++ (ws.map fun w => 32 :: tl w).flatten := by
  have key : ∀ (ps : List (List Nat)) (p : List Nat), joinL [32] (p :: ps) = p ++ (ps.map fun w => 32 :: w).flatten := by
    intro ps
    induction ps with
    | nil => exact fun p => (List.append_nil p).symm
    | cons q r ih =>
      intro p
      show p ++ ([32] ++ joinL [32] (q :: r)) = _
      rw [ih q]
      simp
  intro ws
  unfold txt
  rw [join_eq, tl_join, tl_blank, List.map_cons, key, List.map_map]
  rfl
theorem tl_join0 (ws : List Str) : tl (Txt.join Str.empty ws) = (ws.map tl).flatten := by
  rw [join_eq, tl_join]
  have key : ∀ ps : List (List Nat), joinL [] ps = ps.flatten := by
    intro ps
    induction ps with
    | nil => rfl
    | cons p r ih =>
      cases r with
      | nil => simp [joinL]
      | cons q r =>
        show p ++ ([] ++ joinL [] (q :: r)) = _
        rw [List.nil_append, ih]
        rfl
  exact key _
theorem txt_is (a : Str) (ss : List Int) (ms : List Int) : a ++ Txt.join Str.empty (ms.map fun m => " " ++ num m ++ (if m ∈ ss then ("!" : Str) else Str.empty)) = txt a (ms.map (mw ss)) := by
  apply ext_tl
  rw [tl_append, tl_join0, tl_txt, List.map_map, List.map_map]
  congr 2
  apply List.map_congr_left
  intro m _
  show tl (" " ++ num m ++ (if m ∈ ss then ("!" : Str) else Str.empty)) = 32 :: tl (mw ss m)
  unfold mw
  rw [tl_append, tl_append, tl_blank]
  split
  · rw [tl_append]
    rfl
  · show [32] ++ tl (num m) ++ [] = _
    rw [List.append_nil]
    rfl
theorem split_txt {a : Str} {ws : List Str} (ha : 32 ∉ tl a) (hw : ∀ w ∈ ws, 32 ∉ tl w) : Txt.split (txt a ws) " " = a :: ws :=
  split_join (s := 32) (S := []) tl_blank (by decide +kernel) (by simp) fun p hp => by
    rcases List.mem_cons.mp hp with rfl | hp
    · exact ha
    · exact hw p hp
theorem txt_len {a : Str} {ws : List Str} {n : Nat} (ha : a.length ≤ 100) (hn : ws.length ≤ n) (hw : ∀ w ∈ ws, w.length ≤ 31) : (txt a ws).length ≤ 100 + 32 * n := by
  rw [len_tl, tl_txt, List.length_append, ← len_tl]
  have key : ∀ (l : List Str), (∀ w ∈ l, w.length ≤ 31) → ((l.map fun w => 32 :: tl w).flatten).length ≤ 32 * l.length := by
    intro l
    induction l with
    | nil => exact fun _ => Nat.zero_le _
    | cons x r ih =>
      intro h
      have a := ih fun w hw => h w (List.mem_cons_of_mem _ hw)
      have b := h x List.mem_cons_self
      rw [len_tl] at b
      rw [List.map_cons, List.flatten_cons, List.length_append, List.length_cons, List.length_cons]
      omega
  have := key ws hw
  have : 32 * ws.length ≤ 32 * n := by omega
  omega
end Cw
namespace Cw
open PySem PySem.Spec PyProof.Rows L2
/-! ## x -> 5 x + 1 meets all numbers below a power of two -/
def ff : Nat → Nat → Nat
  | 0, i => i
  | n + 1, i => 5 * ff n i + 1
theorem ff_add (a i : Nat) : ∀ b, ff (a + b) i = ff b (ff a i)
  | 0 => rfl
  | b + 1 => by
    show 5 * ff (a + b) i + 1 = 5 * ff b (ff a i) + 1
    rw [ff_add a i b]
theorem ff_two (k : Nat) : ∃ u v : Nat, ∀ i, ff (2 ^ k) i = (1 + 4 * 2 ^ k * u) * i + 2 ^ k * (1 + 2 * v) := by
  induction k with
  | zero => exact ⟨1, 0, fun i => by show 5 * i + 1 = _; omega⟩
  | succ k ih =>
    obtain ⟨u, v, h⟩ := ih
    generalize hK : 2 ^ k = K at h
    refine ⟨u + 2 * K * u * u, v + K * u * (1 + 2 * v), fun i => ?_⟩
    have e : 2 ^ (k + 1) = K + K := by rw [Nat.pow_succ, hK]; omega
    rw [e, ff_add, h, h]
    grind
theorem ff_half (k i : Nat) : ∃ c, ff (2 ^ k) i = i + 2 ^ k + 2 ^ (k + 1) * c := by
  obtain ⟨u, v, h⟩ := ff_two k
  refine ⟨2 * u * i + v, ?_⟩
  rw [h, Nat.pow_succ]
  generalize 2 ^ k = K
  grind
/-- each residue comes -/
theorem ff_all : ∀ (k i j : Nat), j < 2 ^ k → ∃ n, n < 2 ^ k ∧ ff n i % 2 ^ k = j
  | 0, i, j, h => ⟨0, by decide, by
    have : j < 1 := h
    show i % 1 = j
    omega⟩
  | k + 1, i, j, h => by
    obtain ⟨n, hn, e⟩ := ff_all k i (j % 2 ^ k) (Nat.mod_lt _ (Nat.pow_pos (by decide)))
    obtain ⟨c, hc⟩ := ff_half k (ff n i)
    have e1 : 2 ^ (k + 1) = 2 * 2 ^ k := by rw [Nat.pow_succ]; omega
    rw [e1] at h hc ⊢
    have pos : 0 < 2 ^ k := Nat.pow_pos (by decide)
    generalize 2 ^ k = K at *
    generalize hx : ff n i = x at *
    have d1 := Nat.div_add_mod x (2 * K)
    have m1 := Nat.mod_lt x (show 0 < 2 * K by omega)
    have key : x % (2 * K) % K = j % K := by rw [Nat.mod_mul_left_mod]; exact e
    by_cases q : x % (2 * K) = j
    · exact ⟨n, by omega, by rw [hx]; exact q⟩
    · refine ⟨n + K, by omega, ?_⟩
      rw [ff_add, hx, hc]
      have z : x + K + 2 * K * c = (x % (2 * K) + K) + 2 * K * (x / (2 * K) + c) := by
        rw [Nat.mul_add]
        omega
      rw [z, Nat.add_mul_mod_self_left]
      generalize x % (2 * K) = y at *
      have dy : y % K = if y < K then y else y - K := by
        split
        · exact Nat.mod_eq_of_lt (by assumption)
        · rw [Nat.mod_eq_sub_mod (by omega), Nat.mod_eq_of_lt (by omega)]
      have dj : j % K = if j < K then j else j - K := by
        split
        · exact Nat.mod_eq_of_lt (by assumption)
        · rw [Nat.mod_eq_sub_mod (by omega), Nat.mod_eq_of_lt (by omega)]
      rw [dy, dj] at key
      by_cases a : y < K
      · rw [if_pos a] at key
        have b : ¬ j < K := fun b => by rw [if_pos b] at key; exact q key
        rw [if_neg b] at key
        rw [Nat.mod_eq_of_lt (by omega)]
        omega
      · rw [if_neg a] at key
        have b : j < K := by
          by_cases b : j < K
          · exact b
          · rw [if_neg b] at key
            omega
        rw [if_pos b] at key
        rw [Nat.mod_eq_sub_mod (by omega), Nat.mod_eq_of_lt (by omega)]
        omega
/-- a mask of a set's table -/
def MaskG (m : Nat) : Prop := ∃ k, m + 1 = 2 ^ k
theorem lcgI_ff (m i : Nat) : ∀ n, 0 < n → lcgI m i n = ff n i % (m + 1)
  | 0, h => absurd h (Nat.lt_irrefl _)
  | 1, _ => by
    show (i * 5 + 1) % (m + 1) = (5 * i + 1) % (m + 1)
    rw [Nat.mul_comm]
  | n + 2, _ => by
    have ih := lcgI_ff m i (n + 1) (Nat.succ_pos _)
    show (lcgI m i (n + 1) * 5 + 1) % (m + 1) = (5 * ff (n + 1) i + 1) % (m + 1)
    rw [ih, Nat.mul_comm, Nat.add_mod, Nat.mul_mod, Nat.mod_mod, ← Nat.mul_mod, ← Nat.add_mod]
theorem lcgI_any {m i j : Nat} (G : MaskG m) (hi : i ≤ m) (hj : j ≤ m) : ∃ n, n ≤ m ∧ lcgI m i n = j := by
  obtain ⟨k, e⟩ := G
  obtain ⟨n, hn, h⟩ := ff_all k i j (by omega)
  refine ⟨n, by omega, ?_⟩
  cases n with
  | zero =>
    have : i % 2 ^ k = j := h
    rw [Nat.mod_eq_of_lt (by omega)] at this
    exact this
  | succ n => rw [lcgI_ff m i _ (Nat.succ_pos _), e, h]
end Cw
namespace Cw
open PySem PySem.Spec PyProof.Rows L2
/-! ## a table is laid for any mask -/
theorem runs_meet {m j : Nat} (G : MaskG m) (h : Int) (hj : j ≤ m) : ∃ n, n ≤ m + 12 ∧ runI m (SetTable.bits h) n = j := by
  obtain ⟨k, hk, e⟩ := lcgI_any G (runI_le m (SetTable.bits h) 12) hj
  refine ⟨12 + k, by omega, ?_⟩
  rw [runI_tail (bits_lt h) k, e]
/-- one more hash finds its slot -/
theorem free_got {m j : Nat} (G : MaskG m) (owner : Array (Option Nat)) (h : Int) (hj : j ≤ m) (hf : oAt owner j = none) :
    ∃ i, i ≤ m ∧ oAt owner i = none ∧ SetTable.layClean.free m owner (SetTable.turns m) (SetTable.bits h % (m + 1)) (SetTable.bits h) = some i := by
  obtain ⟨n, hn, e⟩ := runs_meet G h hj
  let P : Nat → Prop := fun k => oAt owner (nth m (runAt m (SetTable.bits h % (m + 1)) (SetTable.bits h)) k).j = none
  have at_n : P (off m (SetTable.bits h % (m + 1)) (SetTable.bits h) n) := by
    show oAt owner (nth m (runAt m _ _) (off m _ _ n)).j = none
    rw [nth_off, itL_run]
    show oAt owner (runI m (SetTable.bits h) n) = none
    rw [e]
    exact hf
  obtain ⟨k, h1, h2, h3⟩ := st_least (p := P) _ at_n
  refine ⟨_, ?_, h2, free_spec m owner (SetTable.turns m) n _ _ k (by unfold SetTable.turns; omega) h1 (fun i hi => ?_) ?_⟩
  · have i0 : SetTable.bits h % (m + 1) ≤ m := Nat.le_of_lt_succ (Nat.mod_lt _ (Nat.succ_pos _))
    have r0 := runEnd_bd i0
    have z := nth_in (m := m) k (runAt m (SetTable.bits h % (m + 1)) (SetTable.bits h)) (show SetTable.bits h % (m + 1) + (SetTable.runEnd m (SetTable.bits h % (m + 1)) - SetTable.bits h % (m + 1)) ≤ m by omega)
    omega
  · have q := h3 i hi
    cases z : oAt owner (nth m (runAt m (SetTable.bits h % (m + 1)) (SetTable.bits h)) i).j with
    | none => exact absurd z q
    | some _ => rfl
  · have q : oAt owner (nth m (runAt m (SetTable.bits h % (m + 1)) (SetTable.bits h)) k).j = none := h2
    rw [q]
    rfl
/-- the first c hashes have their slots -/
structure Ow (m c : Nat) (u : Array (Option Nat)) : Prop where
  sz : u.size = m + 1
  has : ∀ k, k < c → ∃ j, j ≤ m ∧ oAt u j = some k
  occ : ∃ ps : List Nat, ps.length = c ∧ ∀ j, j ≤ m → oAt u j ≠ none → j ∈ ps
theorem ow_one {m c : Nat} {u : Array (Option Nat)} (G : MaskG m) (O : Ow m c u) (few : c ≤ m) (h : Int) :
    ∃ i, SetTable.layClean.free m u (SetTable.turns m) (SetTable.bits h % (m + 1)) (SetTable.bits h) = some i ∧ Ow m (c + 1) (u.setIfInBounds i (some c)) := by
  obtain ⟨ps, pl, pm⟩ := O.occ
  obtain ⟨j, j1, j2⟩ := st_missing ps (m + 1) (by omega)
  have fj : oAt u j = none := by
    cases z : oAt u j with
    | none => rfl
    | some k => exact absurd (pm j (by omega) (by rw [z]; exact Option.some_ne_none k)) j2
  obtain ⟨i, im, fi, e⟩ := free_got G u h (by omega) fj
  have ib : i < u.size := by rw [O.sz]; omega
  have other : ∀ {x : Nat}, x ≠ i → oAt (u.setIfInBounds i (some c)) x = oAt u x := fun {x} hx => oAt_set_ne _ hx
  refine ⟨i, e, by rw [Array.size_setIfInBounds]; exact O.sz, fun k hk => ?_, i :: ps, by rw [List.length_cons, pl], fun x hx hne => ?_⟩
  · rcases Nat.lt_or_ge k c with q | q
    · obtain ⟨x, x1, x2⟩ := O.has k q
      refine ⟨x, x1, (other fun z => ?_).trans x2⟩
      rw [z, fi] at x2
      cases x2
    · have : k = c := by omega
      exact ⟨i, im, by rw [this]; exact oAt_set_self _ ib⟩
  · by_cases q : x = i
    · rw [q]
      exact List.mem_cons_self ..
    · rw [other q] at hne
      exact List.mem_cons_of_mem _ (pm x hx hne)
theorem ow_fold {m : Nat} (G : MaskG m) : ∀ (rest : List Int) (c : Nat) (u : Array (Option Nat)), Ow m c u → c + rest.length ≤ m + 1 →
    ∃ v, rest.foldl (stepF m) (some (u, c)) = some (v, c + rest.length) ∧ Ow m (c + rest.length) v
  | [], c, u, O, _ => ⟨u, rfl, O⟩
  | h :: rest, c, u, O, few => by
    rw [List.length_cons] at few
    obtain ⟨i, e, O2⟩ := ow_one G O (by omega) h
    obtain ⟨v, f, O3⟩ := ow_fold G rest (c + 1) _ O2 (by omega)
    have z : c + 1 + rest.length = c + (h :: rest).length := by rw [List.length_cons]; omega
    rw [z] at f O3
    exact ⟨v, by rw [List.foldl_cons, stepF_some e]; exact f, O3⟩
theorem clean_got {m : Nat} (G : MaskG m) {hs : Array Int} (few : hs.size ≤ m + 1) : ∃ u, SetTable.layClean m hs = some u ∧ Ow m hs.size u := by
  have O0 : Ow m 0 (Array.replicate (m + 1) none) := ⟨by simp, fun k hk => absurd hk (Nat.not_lt_zero _), [], rfl, fun j hj e => absurd (oAt_init hj) e⟩
  have hl : hs.toList.length = hs.size := Array.length_toList
  obtain ⟨u, f, O⟩ := ow_fold G hs.toList 0 _ O0 (by omega)
  rw [Nat.zero_add, hl] at O
  refine ⟨u, ?_, O⟩
  rw [layClean_eq, f]
  rfl
theorem laid_got {m : Nat} (G : MaskG m) (fi mo : Nat) (ld pl : Bool) {hs : Array Int} (few : hs.size ≤ m) :
    ∃ t order, SetTable.laid m fi mo ld pl hs = some (t, order) ∧ order.toList.Perm (List.range hs.size) ∧ t.fits hs.size = true ∧ Ris t.place.toList ∧ t.led = ld ∧ t.plain = pl := by
  obtain ⟨u, e, O⟩ := clean_got G (hs := hs) (by omega)
  have rl := ris_live (fun j => u.getD j none) (List.range (m + 1)) (by unfold Ris; exact List.pairwise_lt_range)
  have r1 : Ris ((liveOf m u).map (·.1)) := rl.1
  have nd : ((liveOf m u).map (·.1)).Nodup := List.Pairwise.imp (fun h => Nat.ne_of_lt h) r1
  have inn : ∀ k, k < hs.size → k ∈ (liveOf m u).map (·.2) := fun k hk => by
    obtain ⟨j, j1, j2⟩ := O.has k hk
    exact List.mem_map.mpr ⟨(j, k), (mem_live O.sz).mpr ⟨j1, j2⟩, rfl⟩
  have up : (liveOf m u).length ≤ hs.size := by
    obtain ⟨ps, p1, p2⟩ := O.occ
    have z := nat_nodup_len _ ps nd fun x hx => by
      obtain ⟨⟨a, b⟩, hab, rfl⟩ := List.mem_map.mp hx
      obtain ⟨h1, h2⟩ := (mem_live O.sz).mp hab
      exact p2 a h1 (by rw [h2]; exact Option.some_ne_none b)
    rw [List.length_map, p1] at z
    exact z
  have dn : hs.size ≤ (liveOf m u).length := by
    have z := nat_nodup_len (List.range hs.size) _ List.nodup_range fun x hx => inn x (List.mem_range.mp hx)
    rw [List.length_range, List.length_map] at z
    exact z
  refine ⟨{ mask := m, place := ((liveOf m u).map (·.1)).toArray, dummies := #[], finger := fi, led := ld, moves := mo, plain := pl }, ((liveOf m u).map (·.2)).toArray, ?_, ?_, ?_, ?_, rfl, rfl⟩
  · show (SetTable.layClean m hs).bind _ = _
    rw [e]
    rfl
  · rw [List.toList_toArray]
    exact perm_range _ _ (by rw [List.length_map]; omega) inn
  · unfold SetTable.fits SetTable.fill
    dsimp only
    rw [List.size_toArray, List.length_map]
    simp only [Bool.and_eq_true, beq_iff_eq, decide_eq_true_eq]
    exact ⟨by omega, by show (liveOf m u).length + 0 ≤ m; omega⟩
  · exact r1
theorem pick_range {α : Type} : ∀ l : List α, (List.range l.length).filterMap (fun i => l[i]?) = l
  | [] => rfl
  | x :: r => by
    rw [List.length_cons, List.range_succ_eq_map, List.filterMap_cons_some (f := fun i => (x :: r)[i]?) (a := 0) (b := x) rfl, List.filterMap_map]
    show x :: (List.range r.length).filterMap (fun i => r[i]?) = _
    rw [pick_range r]
theorem order_perm {α : Type} (es : Array α) {order : Array Nat} (h : order.toList.Perm (List.range es.size)) : (order.filterMap (es[·]?)).toList.Perm es.toList := by
  rw [Array.toList_filterMap]
  have e : (fun i => es[i]?) = fun i : Nat => es.toList[i]? := funext fun i => Array.getElem?_toList.symm
  rw [e]
  refine (h.filterMap _).trans ?_
  rw [← Array.length_toList, pick_range]
theorem above_go : ∀ (f size n : Nat), (∃ k, size = 2 ^ k) → n < size * 2 ^ f → (∃ k, SetTable.sizeAbove.go n f size = 2 ^ k) ∧ n < SetTable.sizeAbove.go n f size ∧ (SetTable.sizeAbove.go n f size ≤ size ∨ SetTable.sizeAbove.go n f size ≤ 2 * n)
  | 0, size, n, h, l => ⟨h, by rw [Nat.pow_zero, Nat.mul_one] at l; exact l, .inl (Nat.le_refl _)⟩
  | f + 1, size, n, h, l => by
    obtain ⟨k, rfl⟩ := h
    show (∃ k', (if 2 ^ k ≤ n then SetTable.sizeAbove.go n f (2 ^ k * 2) else 2 ^ k) = 2 ^ k') ∧ n < (if 2 ^ k ≤ n then SetTable.sizeAbove.go n f (2 ^ k * 2) else 2 ^ k) ∧ ((if 2 ^ k ≤ n then SetTable.sizeAbove.go n f (2 ^ k * 2) else 2 ^ k) ≤ 2 ^ k ∨ (if 2 ^ k ≤ n then SetTable.sizeAbove.go n f (2 ^ k * 2) else 2 ^ k) ≤ 2 * n)
    by_cases c : 2 ^ k ≤ n
    · rw [if_pos c]
      obtain ⟨h1, h2, h3⟩ := above_go f (2 ^ k * 2) n ⟨k + 1, by rw [Nat.pow_succ]⟩ (by rw [Nat.pow_succ] at l; rw [Nat.mul_assoc, Nat.mul_comm 2]; exact l)
      exact ⟨h1, h2, .inr (by omega)⟩
    · rw [if_neg c]
      exact ⟨⟨k, rfl⟩, by omega, .inl (Nat.le_refl _)⟩
/-- the new size is a power of two, above what is wanted, and not far above -/
theorem above_ok {n : Nat} (h : n < 100000) : MaskG (SetTable.sizeAbove n - 1) ∧ n < SetTable.sizeAbove n ∧ SetTable.sizeAbove n ≤ 8 + 2 * n := by
  obtain ⟨⟨k, e⟩, h2, h3⟩ := above_go 64 8 n ⟨3, rfl⟩ (Nat.lt_of_lt_of_le h (by decide))
  have e0 : SetTable.sizeAbove n = SetTable.sizeAbove.go n 64 8 := rfl
  rw [e0]
  refine ⟨⟨k, by omega⟩, h2, by omega⟩
end Cw
namespace Cw
open PySem PySem.Spec PyProof.Rows L2
section
variable {P : Program} {w : World} {A : Around} {E : Value → Shared → Prop} {s : Shared} {a b : Addr} {S T : Int → Bool} {n m : Nat}
/-- more of a laid table -/
theorem laid_more {m : Nat} {fi mo : Nat} {ld pl : Bool} {hs : Array Int} {t : SetTable} {order : Array Nat} (e : SetTable.laid m fi mo ld pl hs = some (t, order)) : t.mask = m ∧ t.dummies = #[] := by
  have e2 : (SetTable.layClean m hs).bind (fun u => some (({ mask := m, place := ((liveOf m u).map (·.1)).toArray, dummies := #[], finger := fi, led := ld, moves := mo, plain := pl } : SetTable), ((liveOf m u).map (·.2)).toArray)) = some (t, order) := e
  cases z : SetTable.layClean m hs with
  | none => rw [z] at e2; cases e2
  | some u =>
    rw [z] at e2
    injection e2 with e3
    injection e3 with e4 e5
    rw [← e4]
    exact ⟨rfl, rfl⟩
/-- laid anew with more room -/
theorem relay_got {wanted : Nat} (R : SetR w s.heap a S n) (hw : wanted < 100000) (few : n < SetTable.sizeAbove wanted) {Q : Unit → Shared → Prop}
    (q : ∀ h' o es ep t, Heap.SameBut a s.heap h' → SetR w h' a S n → h'.get? a = some o → o.data = .set es ep t → MaskG t.mask → t.mask = SetTable.sizeAbove wanted - 1 → t.dummies = #[] → Q () { s with heap := h' }) : wpAny (model P w) A (setRelay a wanted) Q E s := by
  obtain ⟨o, es, ep, t, ho, hx, hd, g, nd, hm, hb, hf, hn, hr, hl⟩ := R
  obtain ⟨G, h1, h2⟩ := above_ok hw
  have hs0 : (es.map (·.1)).size = es.size := Array.size_map ..
  obtain ⟨t', order, e, p, f, r, l1, l2⟩ := laid_got G t.finger (t.movedTo (SetTable.sizeAbove wanted - 1)) t.led t.plain (hs := es.map (·.1)) (by omega)
  obtain ⟨m1, m2⟩ := laid_more e
  rw [hs0] at p f
  have pm := order_perm es p
  have sz : (order.filterMap (es[·]?)).size = es.size := by rw [← Array.length_toList, pm.length_eq, Array.length_toList]
  have er : t.relaid (es.map (·.1)) wanted = some (t', order) := e
  rw [setRelay_eq]
  refine wpAny_bind (wpAny_setState_of ho hd hf ?_)
  dsimp only
  refine wp_if_neg (by rw [sizeLine_eq]; omega) ?_
  try refine wpAny_bind (wpAny_pure ?_)
  rw [er]
  dsimp only
  refine wpAny_bind ?_
  refine wp_if_neg (by rw [sz]; simp) ?_
  try refine wpAny_bind (wpAny_pure ?_)
  refine wpAny_pure ?_
  dsimp only
  refine wpAny_storeSet_of ho hd ?_ (fits_of_scanBound (by rw [sz]; exact hb))
  refine q _ _ _ _ _ (Heap.SameBut.update ..) ⟨_, _, _, _, store_at ho hd, ⟨hx.1, hx.2.1, hx.2.2⟩, rfl, fun e he => g e (pm.mem_iff.mp he), (pm.map keyOf).nodup_iff.mpr nd, fun k => (hm k).trans (pm.map keyOf).mem_iff.symm, by rw [sz]; exact hb, by rw [sz]; exact f, by rw [sz]; exact hn, r, hl.imp id fun z => by rw [l1]; exact z⟩ (store_at ho hd) rfl (by rw [m1]; exact G) m1 m2
/-- all of the set's members are walked -/
def MemAll (xs : Array (Int × Value)) (S : Int → Bool) (n : Nat) : Prop := (∀ e ∈ xs.toList, GoodE e) ∧ (∀ k, S k = true ↔ k ∈ xs.toList.map keyOf) ∧ xs.size = n
theorem walk_all {o : Obj} {es : Array (Int × Value)} {ep : Nat} {t : SetTable} (ho : s.heap.get? a = some o) (hd : o.data = .set es ep t) (hf : t.fits es.size = true) (hl : w.params.followText "set-order" = true ∨ t.led = true) (hp : w.params.followText "set-order" = true ∨ (!t.plain && decide (es.size > 1)) = false)
    {Q : Array (Int × Value) → Shared → Prop} (q : ∀ xs : Array (Int × Value), xs.toList.Perm es.toList → Q xs s) : wpAny (model P w) A (setWalk a) Q E s := by
  unfold setWalk
  refine wpAny_bind (wpAny_setState_of ho hd hf ?_)
  dsimp only
  refine wpAny_bind (wpAny_byText ?_)
  by_cases c : w.params.followText "set-order" = true
  · refine wp_if_pos c ?_
    exact wpAny_bind (wpAny_askSetting (wpAny_pure (q _ (pick_perm _ es))))
  · have p1 := hp.resolve_left c
    have p2 := hl.resolve_left c
    refine wp_if_neg c ?_
    try refine wpAny_bind (wpAny_pure ?_)
    refine wp_if_neg (by show ¬ ((!t.plain && decide (es.size > 1)) = true); rw [p1]; exact Bool.false_ne_true) ?_
    try refine wpAny_bind (wpAny_pure ?_)
    refine wpAny_bind (wpAny_of_eq (a := ()) ?_ (wpAny_pure (q es (List.Perm.refl _))))
    show (if (!t.led && decide (es.size > 1)) = true then unsupported "set:maker-not-led" else pure ()) = pure ()
    rw [p2]
    rfl
/-- the set at a walked while the set at r is filled -/
theorem unseen_all {r : Addr} {U : Int → Bool} {c : Nat} (R : SetR w s.heap a S n) (Rr : SetR w s.heap r U c) {l : List Addr} (hall : ∀ c ∈ a :: l, ∃ S n, SetR w s.heap c S n) {Q : Array (Int × Value) → Shared → Prop}
    (q : ∀ xs h', MemAll xs S n → Heap.SameBut r s.heap h' → SetR w h' r U c → Q xs { s with heap := h' }) : wpAny (model P w) A (setWalkUnseen a l (some r)) Q E s := by
  obtain ⟨o, es, ep, t, ho, hx, hd, g, nd, hm, hb, hf, hn, hr, hl⟩ := R
  have mem : ∀ xs : Array (Int × Value), xs.toList.Perm es.toList → MemAll xs S n := fun xs h => ⟨fun e he => g e (h.mem_iff.mp he), fun k => (hm k).trans (h.map keyOf).mem_iff.symm, by rw [← Array.length_toList, h.length_eq, Array.length_toList, hn]⟩
  unfold setWalkUnseen
  refine wpAny_bind (wpAny_setState_of ho hd hf ?_)
  dsimp only
  refine wpAny_bind (wpAny_byText ?_)
  by_cases c : (w.params.followText "set-order" || t.led && t.plain || decide (es.size ≤ 1)) = true
  · refine wp_if_pos c ?_
    refine walk_all ho hd hf hl ?_ fun xs h => q xs s.heap (mem xs h) (Heap.SameBut.refl _ _) Rr
    simp only [Bool.or_eq_true, Bool.and_eq_true, decide_eq_true_eq] at c
    rcases c with (c | c) | c
    · exact .inl c
    · exact .inr (by rw [c.2]; rfl)
    · exact .inr (by rw [decide_eq_false (by omega), Bool.and_false])
  · refine wp_if_neg c ?_
    try refine wpAny_bind (wpAny_pure ?_)
    refine wpAny_bind (quiet_at (a :: l) hall ?_)
    refine wp_if_neg (by decide) ?_
    try refine wpAny_bind (wpAny_pure ?_)
    refine wpAny_bind (wpAny_rule ?_)
    obtain ⟨o2, es2, ep2, t2, ho2, hx2, hd2, g2, nd2, hm2, hb2, hf2, hn2, hr2, hl2⟩ := Rr
    try dsimp only
    refine wpAny_bind (wpAny_setState_of ho2 hd2 hf2 ?_)
    dsimp only
    have nb : w.params.followText "set-order" = false := by
      cases z : w.params.followText "set-order" with
      | false => rfl
      | true => rw [z] at c; simp at c
    have l1 : t.led = true := hl.resolve_left (by rw [nb]; exact Bool.false_ne_true)
    have l2 : t2.led = true := hl2.resolve_left (by rw [nb]; exact Bool.false_ne_true)
    by_cases c2 : (t2.led && !t.led || t2.plain && !t.plain) = true
    · refine wp_if_pos c2 ?_
      refine wpAny_bind (wpAny_storeSet_of ho2 hd2 ?_ (fits_of_scanBound hb2))
      refine wpAny_pure (q es _ (mem es (List.Perm.refl _)) (Heap.SameBut.update ..) ?_)
      exact ⟨_, es2, _, _, store_at ho2 hd2, ⟨hx2.1, hx2.2.1, hx2.2.2⟩, rfl, g2, nd2, hm2, hb2, by exact hf2, hn2, hr2, .inr (by rw [l1, l2]; rfl)⟩
    · refine wp_if_neg c2 ?_
      try refine wpAny_bind (wpAny_pure ?_)
      exact wpAny_pure (q es s.heap (mem es (List.Perm.refl _)) (Heap.SameBut.refl _ _) ⟨o2, es2, ep2, t2, ho2, hx2, hd2, g2, nd2, hm2, hb2, hf2, hn2, hr2, hl2⟩)
end
end Cw
namespace Cw
open PySem PySem.Spec PyProof.Rows L2
theorem merge_eq (s o : Addr) (each : Sem Unit) : setMerge s o each = (do
    if s == o then return
    let (eo, epoch, to) ← setState o
    if eo.isEmpty then return
    (do if let some wanted := (← setState s).2.2.roomFor eo.size then setRelay s wanted)
    let (_, _, ts) ← setState s
    match ts.road to with
    | .slotForSlot => storeSet s eo { to with finger := ts.finger, led := ts.led && to.led, moves := ts.moves, plain := ts.plain && to.plain }
    | .clean =>
      let (es, t) ← (do
        let some (t, order) := SetTable.laid ts.mask ts.finger ts.moves (ts.led && to.led) (ts.plain && to.plain) (eo.map (·.1)) | unsupported "internal:set-table-without-room"
        let es' := order.filterMap (eo[·]?)
        if es'.size != eo.size then unsupported "internal:set-table-lost-an-element"
        pure (es', t) : Sem (Array (Int × Value) × SetTable))
      storeSet s es t
    | .oneByOne =>
      for (h, x) in ← setWalkUnseen o [s] (some s) do
        let _ ← holding [x] (setAddHashed s x h)
        each
        if (← setState o).2.1 != epoch then unsupported "set.changed-during-merge") := by rfl
section
variable {P : Program} {w : World} {A : Around} {E : Value → Shared → Prop} {s : Shared} {a b : Addr} {S T : Int → Bool} {n m : Nat}
/-- the empty new set -/
def Fresh (w : World) (h : Heap) (r : Addr) : Prop := ∃ o ep ld, h.get? r = some o ∧ o.ExactSet ∧ o.data = .set #[] ep (.fresh 0 0 ld) ∧ (w.params.followText "set-order" = true ∨ ld = true)
theorem Fresh.setR {h : Heap} {r : Addr} (f : Fresh w h r) : SetR w h r (fun _ => false) 0 := by
  obtain ⟨o, ep, ld, ho, hx, hd, hl⟩ := f
  exact ⟨o, #[], ep, _, ho, hx, hd, (fun e he => by simp at he), (by simp), (fun k => by simp), (by decide), rfl, rfl, List.Pairwise.nil, hl⟩
/-- all of b's members into a new set -/
theorem merge_fresh {r : Addr} {each : Sem Unit} (f : Fresh w s.heap r) (R : SetR w s.heap b T m) (ne : r ≠ b) {Q : Unit → Shared → Prop}
    (q : ∀ h', Heap.SameBut r s.heap h' → SetR w h' r T m → (m = 0 → Fresh w h' r) → Q () { s with heap := h' }) : wpAny (model P w) A (setMerge r b each) Q E s := by
  have Rr := f.setR
  obtain ⟨o, es, ep, t, ho, hx, hd, g, nd, hm, hb, hf, hn, hr, hl⟩ := id R
  rw [merge_eq]
  refine wp_if_neg (by simp [ne]) ?_
  try refine wpAny_bind (wpAny_pure ?_)
  refine wpAny_bind (wpAny_setState_of ho hd hf ?_)
  dsimp only
  by_cases c0 : es = #[]
  · have m0 : m = 0 := by rw [← hn, c0]; rfl
    refine wp_if_pos (by rw [c0]; rfl) (wpAny_pure ?_)
    refine q s.heap (Heap.SameBut.refl _ _) ?_ fun _ => f
    have e : T = fun _ => false := funext fun k => by
      cases z : T k with
      | false => rfl
      | true =>
        have := (hm k).mp z
        rw [c0] at this
        simp at this
    rw [e, m0]
    exact Rr
  · have pos : 0 < es.size := Array.size_pos_iff.mpr c0
    refine wp_if_neg (by simp [c0]) ?_
    try refine wpAny_bind (wpAny_pure ?_)
    obtain ⟨o1, ep1, ld, ho1, hx1, hd1, hl1⟩ := f
    have hb' : es.size < 4096 := hb
    -- the last part, for any table without members
    have last : ∀ (h1 : Heap) (o2 : Obj) (e2 : Nat) (t2 : SetTable), Heap.SameBut r s.heap h1 → h1.get? r = some o2 → o2.ExactSet → o2.data = .set #[] e2 t2 → t2.dummies = #[] → t2.fits 0 = true → MaskG t2.mask → es.size ≤ t2.mask → (w.params.followText "set-order" = true ∨ t2.led = true) →
        wpAny (model P w) A (do
          let (_, _, ts) ← setState r
          match ts.road t with
          | .slotForSlot => storeSet r es { t with finger := ts.finger, led := ts.led && t.led, moves := ts.moves, plain := ts.plain && t.plain }
          | .clean =>
            let (es, t) ← (do
              let some (t, order) := SetTable.laid ts.mask ts.finger ts.moves (ts.led && t.led) (ts.plain && t.plain) (es.map (·.1)) | unsupported "internal:set-table-without-room"
              let es' := order.filterMap (es[·]?)
              if es'.size != es.size then unsupported "internal:set-table-lost-an-element"
              pure (es', t) : Sem (Array (Int × Value) × SetTable))
            storeSet r es t
          | .oneByOne =>
            for (h, x) in ← setWalkUnseen b [r] (some r) do
              let _ ← holding [x] (setAddHashed r x h)
              each
              if (← setState b).2.1 != ep then unsupported "set.changed-during-merge") Q E { s with heap := h1 } := by
      intro h1 o2 e2 t2 sb ho2 hx2 hd2 dm2 f2 G2 few2 l2
      refine wpAny_bind (wpAny_setState_of ho2 hd2 f2 ?_)
      dsimp only
      have p0 : t2.place.size = 0 := by
        unfold SetTable.fits at f2
        simp only [Bool.and_eq_true, beq_iff_eq] at f2
        exact f2.1
      have fill0 : t2.fill = 0 := by
        unfold SetTable.fill
        rw [p0, dm2]
        rfl
      have led2 : w.params.followText "set-order" = true ∨ (t2.led && t.led) = true := by
        rcases l2 with x | x
        · exact .inl x
        · rcases hl with y | y
          · exact .inl y
          · exact .inr (by rw [x, y]; rfl)
      have m0 : m ≠ 0 := by omega
      unfold SetTable.road
      rw [fill0, if_neg (by decide)]
      by_cases c1 : (t2.mask == t.mask && t.dummies.isEmpty) = true
      · rw [if_pos c1]
        dsimp only
        refine wpAny_storeSet_of ho2 hd2 ?_ (fits_of_scanBound hb)
        exact q _ (sb.trans (Heap.SameBut.update ..)) ⟨_, _, _, _, store_at ho2 hd2, ⟨hx2.1, hx2.2.1, hx2.2.2⟩, rfl, g, nd, hm, hb, hf, hn, hr, led2⟩ fun z => absurd z m0
      · rw [if_neg c1]
        dsimp only
        have hs0 : (es.map (·.1)).size = es.size := Array.size_map ..
        obtain ⟨t', order, e, p, f', r', k1, k2⟩ := laid_got G2 t2.finger t2.moves (t2.led && t.led) (t2.plain && t.plain) (hs := es.map (·.1)) (by omega)
        rw [hs0] at p f'
        have pm := order_perm es p
        have sz : (order.filterMap (es[·]?)).size = es.size := by rw [← Array.length_toList, pm.length_eq, Array.length_toList]
        rw [e]
        dsimp only
        refine wpAny_bind ?_
        refine wp_if_neg (by rw [sz]; simp) ?_
        try refine wpAny_bind (wpAny_pure ?_)
        refine wpAny_pure ?_
        dsimp only
        refine wpAny_storeSet_of ho2 hd2 ?_ (fits_of_scanBound (by rw [sz]; exact hb))
        exact q _ (sb.trans (Heap.SameBut.update ..)) ⟨_, _, _, _, store_at ho2 hd2, ⟨hx2.1, hx2.2.1, hx2.2.2⟩, rfl, fun e he => g e (pm.mem_iff.mp he), (pm.map keyOf).nodup_iff.mpr nd, fun k => (hm k).trans (pm.map keyOf).mem_iff.symm, by rw [sz]; exact hb, by rw [sz]; exact f', by rw [sz]; exact hn, r', by rw [k1]; exact led2⟩ fun z => absurd z m0
    refine wpAny_bind ?_
    refine wpAny_bind (wpAny_setState_of ho1 hd1 rfl ?_)
    dsimp only
    unfold SetTable.roomFor
    by_cases c2 : ((SetTable.fresh 0 0 ld).fill + es.size) * 5 ≥ (SetTable.fresh 0 0 ld).mask * 3
    · rw [if_pos c2]
      dsimp only
      have wn : ((SetTable.fresh 0 0 ld).place.size + es.size) * 2 = es.size * 2 := by
        show (0 + es.size) * 2 = _
        rw [Nat.zero_add]
      rw [wn]
      obtain ⟨G3, k3, k4⟩ := above_ok (n := es.size * 2) (by omega)
      refine relay_got Rr (by omega) (by omega) fun h' o2 es2 e2 t2 sb R2 ho2 hd2 G2 mk dm => ?_
      obtain ⟨o3, es3, ep3, t3, ho3, hx3, hd3, g3, nd3, hm3, hb3, hf3, hn3, hr3, hl3⟩ := R2
      rw [ho2] at ho3
      cases ho3
      rw [hd2] at hd3
      cases hd3
      have e0 : es2 = #[] := Array.size_eq_zero_iff.mp hn3
      subst e0
      exact last h' o2 e2 t2 sb ho2 hx3 hd2 dm hf3 G2 (by rw [mk]; omega) hl3
    · rw [if_neg c2]
      dsimp only
      refine wpAny_pure ?_
      have c3 : ¬ ((0 + es.size) * 5 ≥ 7 * 3) := c2
      exact last s.heap o1 ep1 _ (Heap.SameBut.refl _ _) ho1 hx1 hd1 rfl rfl ⟨3, rfl⟩ (by show es.size ≤ 7; omega) hl1
theorem forIn_upto {α β : Type} {M : Model} {f : α → β → Sem (ForInStep β)} {b : β} (I : List α → Shared → Prop) : ∀ (l done : List α) {s : Shared} {Q : β → Shared → Prop},
    (∀ (d : List α) (x : α) (r : List α), d ++ x :: r = done ++ l → ∀ (s : Shared) (Q' : ForInStep β → Shared → Prop), I d s → (∀ s', I (d ++ [x]) s' → Q' (.yield b) s') → wpAny M A (f x b) Q' E s) → I done s → (∀ s', I (done ++ l) s' → Q b s') → wpAny M A (forIn l b f) Q E s
  | [], done, s, Q, _, i, q => by
    rw [List.forIn_nil]
    rw [List.append_nil] at q
    exact wpAny_pure (q s i)
  | x :: l, done, s, Q, h, i, q => by
    rw [List.forIn_cons]
    have e : (done ++ [x]) ++ l = done ++ x :: l := by rw [List.append_assoc]; rfl
    refine wpAny_bind (h done x l rfl s _ i fun s' i' => ?_)
    refine forIn_upto I l (done ++ [x]) (fun d y r z => h d y r (z.trans e)) i' ?_
    rw [e]
    exact q
/-- all of b's members, one by one, into a set that isn't empty -/
theorem merge_more {each : Sem Unit} (R : SetR w s.heap a S n) (R2 : SetR w s.heap b T m) (ne : a ≠ b) (pos : 0 < n) (room : n + m + 1 < scanBound)
    (he : ∀ (h' : Heap) (Q' : Unit → Shared → Prop), (∀ o, s.heap.get? b = some o → h'.get? b = some o) → Q' () { s with heap := h' } → wpAny (model P w) A each Q' E { s with heap := h' }) {Q : Unit → Shared → Prop}
    (q : ∀ h' c, Heap.SameBut a s.heap h' → SetR w h' a (fun j => S j || T j) c → c ≤ n + m → Q () { s with heap := h' }) : wpAny (model P w) A (setMerge a b each) Q E s := by
  obtain ⟨o, es, ep, t, ho, hx, hd, g, nd, hm, hb, hf, hn, hr, hl⟩ := id R2
  rw [merge_eq]
  refine wp_if_neg (by simp [ne]) ?_
  try refine wpAny_bind (wpAny_pure ?_)
  refine wpAny_bind (wpAny_setState_of ho hd hf ?_)
  dsimp only
  by_cases c0 : es = #[]
  · refine wp_if_pos (by rw [c0]; rfl) (wpAny_pure ?_)
    refine q s.heap n (Heap.SameBut.refl _ _) (R.congr fun k => ?_) (Nat.le_add_right _ _)
    have z : T k = false := by
      cases z : T k with
      | false => rfl
      | true =>
        have := (hm k).mp z
        rw [c0] at this
        simp at this
    rw [z, Bool.or_false]
  · refine wp_if_neg (by simp [c0]) ?_
    try refine wpAny_bind (wpAny_pure ?_)
    have rm : n + m + 1 < 4096 := room
    have last : ∀ h1 : Heap, Heap.SameBut a s.heap h1 → SetR w h1 a S n →
        wpAny (model P w) A (do
          let (_, _, ts) ← setState a
          match ts.road t with
          | .slotForSlot => storeSet a es { t with finger := ts.finger, led := ts.led && t.led, moves := ts.moves, plain := ts.plain && t.plain }
          | .clean =>
            let (es, t) ← (do
              let some (t, order) := SetTable.laid ts.mask ts.finger ts.moves (ts.led && t.led) (ts.plain && t.plain) (es.map (·.1)) | unsupported "internal:set-table-without-room"
              let es' := order.filterMap (es[·]?)
              if es'.size != es.size then unsupported "internal:set-table-lost-an-element"
              pure (es', t) : Sem (Array (Int × Value) × SetTable))
            storeSet a es t
          | .oneByOne =>
            for (h, x) in ← setWalkUnseen b [a] (some a) do
              let _ ← holding [x] (setAddHashed a x h)
              each
              if (← setState b).2.1 != ep then unsupported "set.changed-during-merge") Q E { s with heap := h1 } := by
      intro h1 sb R1
      obtain ⟨o1, es1, ep1, t1, ho1, hx1, hd1, g1, nd1, hm1, hb1, hf1, hn1, hr1, hl1⟩ := id R1
      refine wpAny_bind (wpAny_setState_of ho1 hd1 hf1 ?_)
      dsimp only
      have fill1 : t1.fill ≠ 0 := by
        have z := hf1
        unfold SetTable.fits at z
        simp only [Bool.and_eq_true, beq_iff_eq] at z
        unfold SetTable.fill
        omega
      unfold SetTable.road
      rw [if_pos (by simp [fill1])]
      dsimp only
      have ob : ∀ {h : Heap}, Heap.SameBut a s.heap h → ∀ o, s.heap.get? b = some o → h.get? b = some o := fun {h} k o e => by rw [k.2 b (Ne.symm ne)]; exact e
      refine wpAny_bind (unseen_all (R2.at (ob sb)) R1 (fun c hc => ?_) fun xs h2 M sb2 R3 => ?_)
      · rcases List.mem_cons.mp hc with rfl | hc
        · exact ⟨_, _, R2.at (ob sb)⟩
        rcases List.mem_cons.mp hc with rfl | hc
        · exact ⟨_, _, R1⟩
        · cases hc
      · obtain ⟨M1, M2, M3⟩ := M
        rw [← Array.forIn_toList]
        have len : xs.toList.length = m := by rw [Array.length_toList]; exact M3
        refine wpAny_bind (forIn_upto (fun d s' => ∃ h' c, s' = { s with heap := h' } ∧ Heap.SameBut a s.heap h' ∧ SetR w h' a (fun j => S j || decide (j ∈ d.map keyOf)) c ∧ c ≤ n + d.length) xs.toList [] (fun d x r e s' Q' i k => ?_)
          ⟨h2, n, rfl, sb.trans sb2, R3.congr fun j => by simp, Nat.le_add_right _ _⟩ fun s' i => ?_)
        · obtain ⟨h', c, rfl, sb', Rc, cl⟩ := i
          have hxm : x ∈ xs.toList := by
            rw [List.nil_append] at e
            rw [← e]
            simp
          have dl : d.length + 1 ≤ m := by
            have := congrArg List.length e
            simp at this
            omega
          obtain ⟨i, tk, e1, e2⟩ := M1 x hxm
          obtain ⟨x1, x2⟩ := x
          dsimp only at e1 e2
          subst e1 e2
          have kk : keyOf (hashInt i, Value.int i tk) = i := rfl
          dsimp only
          refine wpAny_bind (wpAny_holding (setR_add_hashed Rc (by show c + 1 < 4096; omega) fun h3 sb3 R4 => ?_))
          have sb4 := sb'.trans sb3
          refine wpAny_bind (he h3 _ (ob sb4) ?_)
          refine wpAny_bind (wpAny_setState_of (ob sb4 _ ho) hd hf ?_)
          refine wp_if_neg (by simp) ?_
          try refine wpAny_bind (wpAny_pure ?_)
          refine wpAny_pure (k _ ⟨h3, _, rfl, sb4, R4.congr fun j => ?_, ?_⟩)
          · try dsimp only
            rw [Bool.or_assoc]
            congr 1
            rw [List.map_append, Bool.eq_iff_iff, Bool.or_eq_true, decide_eq_true_eq, decide_eq_true_eq, decide_eq_true_eq, List.mem_append, List.map_cons, kk]
            simp
          · try dsimp only
            rw [List.length_append]
            show _ ≤ n + (d.length + 1)
            split <;> omega
        · obtain ⟨h', c, rfl, sb', Rc, cl⟩ := i
          rw [List.nil_append] at Rc cl
          refine wpAny_pure (q h' c sb' (Rc.congr fun j => ?_) (by omega))
          congr 1
          rw [Bool.eq_iff_iff, decide_eq_true_eq]
          exact M2 j
    obtain ⟨o1, es1, ep1, t1, ho1, hx1, hd1, g1, nd1, hm1, hb1, hf1, hn1, hr1, hl1⟩ := id R
    refine wpAny_bind ?_
    refine wpAny_bind (wpAny_setState_of ho1 hd1 hf1 ?_)
    dsimp only
    unfold SetTable.roomFor
    have z : t1.place.size = n := by
      have z := hf1
      unfold SetTable.fits at z
      simp only [Bool.and_eq_true, beq_iff_eq] at z
      omega
    by_cases c2 : (t1.fill + es.size) * 5 ≥ t1.mask * 3
    · rw [if_pos c2]
      dsimp only
      rw [z]
      obtain ⟨G3, k3, k4⟩ := above_ok (n := (n + es.size) * 2) (by omega)
      exact relay_got R (by omega) (by omega) fun h' o2 es2 e2 t2 sb R4 _ _ _ _ _ => last h' sb R4
    · rw [if_neg c2]
      dsimp only
      exact wpAny_pure (last s.heap (Heap.SameBut.refl _ _) R)
end
end Cw
namespace Cw
open PySem PySem.Spec PyProof.Rows L2
section
variable {P : Program} {w : World} {A : Around} {E : Value → Shared → Prop} {s : Shared} {a b : Addr} {S T : Int → Bool} {n m : Nat}
theorem entry_or : entryFor table "set.__or__" = some Builtin.«frozenset.__or__» := entryFor_alias (id' := "frozenset.__or__") (by kernel_rfl) rfl (by decide +kernel) (by kernel_rfl)
theorem or_form (a b : Value) : Builtin.«frozenset.__or__» ⟨[a, b], []⟩ = (do
    let p ← Builtin.Frozenset.slot1 "__or__" ⟨[a, b], []⟩
    if !(← (Builtin.Frozenset.isAnySet p.1 <&&> Builtin.Frozenset.isAnySet p.2)) then
      rule "frozenset.__or__.declined"
      ret .notImplemented
    else do
      let la ← Builtin.Frozenset.addrOf p.1
      let v ← (do
        let result ← Builtin.Frozenset.copyOf la
        if p.2 != .ref la then holding [result] (Builtin.Frozenset.updateFrom "frozenset.__or__" (← Builtin.Frozenset.addrOf result) p.2)
        return result)
      ret v) := by
  rfl
/-- a | b: a new set -/
theorem or_new (R1 : SetR w s.heap a S n) (R2 : SetR w s.heap b T m) (ne : a ≠ b) (room : n + m + 1 < scanBound) {Q : Value → Shared → Prop}
    (q : ∀ h' c, (∀ x o, s.heap.get? x = some o → h'.get? x = some o) → SetR w h' s.heap.objs.size (fun j => S j || T j) c → c ≤ n + m → Q (.ref s.heap.objs.size) { s with heap := h' }) : wpAny (model P w) A (binaryOp .BitOr (.ref a) (.ref b)) Q E s := by
  have ta : s.TypeIs (.ref a) "set" := (R1.setOf (P := P)).typeIs
  have tb : s.TypeIs (.ref b) "set" := (R2.setOf (P := P)).typeIs
  refine wpAny_binaryOp_same (T := "set") ta tb F.fills_set_or F.slot_set_or ?_
  refine wpAny_call_entry F.slot_set_or ta entry_or ?_ (F.args_set_or_2 _ _)
  rw [or_form]
  unfold Builtin.Frozenset.slot1 slotArgs
  refine wpAny_bind (wpAny_bind (wpAny_of_eq (a := (Value.ref a, [Value.ref b])) rfl (wpAny_pure ?_)))
  dsimp only
  refine wpAny_bind (m := _ <&&> _) ?_
  unfold andM
  refine wpAny_bind (isSet_at ta ?_)
  show wpAny _ _ (Builtin.Frozenset.isAnySet (.ref b)) _ _ _
  refine isSet_at tb (wp_if_neg (by decide) ?_)
  try refine wpAny_bind (wpAny_pure ?_)
  refine wpAny_bind ?_
  unfold Builtin.Frozenset.copyOf Builtin.Frozenset.baseOf isInstance
  have z := sub_set_self
  obtain ⟨hp, gg, dr, tk, os⟩ := s
  dsimp only at q R1 R2
  have k1 : ∀ c o, hp.get? c = some o → (hp.push (newS w)).get? c = some o := fun c o e => Heap.get?_push_of_some _ e
  have fr : Fresh w (hp.push (newS w)) hp.objs.size := by
    refine ⟨newS w, 0, _, Heap.get?_push_size _ rfl, ⟨rfl, rfl, rfl⟩, rfl, ?_⟩
    cases w.params.followText "set-order"
    · exact .inr rfl
    · exact .inl rfl
  have na : hp.objs.size ≠ a := Nat.ne_of_gt R1.lt
  have nb : hp.objs.size ≠ b := Nat.ne_of_gt R2.lt
  wp_walk
  refine wpAny_askSetting (wpAny_pure ?_)
  simp only [newObj, if_true]
  refine wpAny_bind (wpAny_alloc (wpAny_pure ?_))
  dsimp only
  refine wpAny_bind (m := Builtin.Frozenset.addrOf (.ref hp.objs.size)) (wpAny_pure ?_)
  refine wpAny_bind (merge_fresh fr (R1.at fun o e => k1 _ _ e) na fun h1 sb1 Rr f1 => ?_)
  have k2 : ∀ c o, c ≠ hp.objs.size → hp.get? c = some o → h1.get? c = some o := fun c o hc e => by
    rw [sb1.2 c hc]
    exact k1 c o e
  have k3 : ∀ c o, hp.get? c = some o → h1.get? c = some o := fun c o e => k2 c o (Nat.ne_of_lt (Heap.lt_size e)) e
  have R3 : SetR w h1 b T m := R2.at fun o e => k3 _ _ e
  refine wpAny_pure ?_
  refine wp_if_pos (by simp [Ne.symm ne]) ?_
  refine wpAny_bind (m := Builtin.Frozenset.addrOf (.ref hp.objs.size)) (wpAny_pure ?_)
  refine wpAny_bind (wpAny_holding ?_)
  unfold Builtin.Frozenset.updateFrom
  refine wpAny_bind (isSet_at (R3.setOf (P := P)).typeIs ?_)
  refine wp_if_pos rfl ?_
  refine wpAny_bind (m := Builtin.Frozenset.addrOf (.ref b)) (wpAny_pure ?_)
  unfold Builtin.Frozenset.merge
  obtain ⟨o, es, ep, t, ho, hx, hd, g, nd, hm, hb, hf, hn, hr, hl⟩ := id R3
  refine wpAny_bind (wpAny_setEpoch_of ho hd hf ?_)
  have fin : ∀ h' c, Heap.SameBut hp.objs.size h1 h' → SetR w h' hp.objs.size (fun j => S j || T j) c → c ≤ n + m → Q (.ref hp.objs.size) ⟨h', gg, dr, tk, os⟩ := fun h' c sb R le =>
    q h' c (fun x o e => by rw [sb.2 x (Nat.ne_of_lt (Heap.lt_size e))]; exact k3 x o e) R le
  have done : ∀ h' c, Heap.SameBut hp.objs.size h1 h' → SetR w h' hp.objs.size (fun j => S j || T j) c → c ≤ n + m →
      wpAny (model P w) A.in1 (pure (Value.ref hp.objs.size)) (fun a s' => wpAny (model P w) A.in1 (ret a) (fun fin s' => ∃ v, fin = Fin.done (Flow.ret v) ∧ v ≠ Value.notImplemented ∧ Q v s') E s') E ⟨h', gg, dr, tk, os⟩ := fun h' c sb R le =>
    wpAny_pure (wpAny_pure ⟨_, rfl, (fun z => nomatch z), fin h' c sb R le⟩)
  by_cases n0 : n = 0
  · refine merge_fresh (f1 n0) R3 nb fun h2 sb2 R4 _ => ?_
    refine done h2 m sb2 (R4.congr fun k => ?_) (Nat.le_add_left _ _)
    obtain ⟨o5, es5, ep5, t5, ho5, hx5, hd5, g5, nd5, hm5, hb5, hf5, hn5, _⟩ := R1
    have e0 : es5 = #[] := Array.size_eq_zero_iff.mp (by omega)
    have z : S k = false := by
      cases z : S k with
      | false => rfl
      | true =>
        have := (hm5 k).mp z
        rw [e0] at this
        simp at this
    rw [z, Bool.false_or]
  · refine merge_more Rr R3 nb (Nat.pos_of_ne_zero n0) room (fun h' Q' kb qq => ?_) fun h2 c sb2 R4 le => done h2 c sb2 R4 le
    unfold Builtin.Frozenset.unchanged
    refine wpAny_bind (wpAny_setEpoch_of (kb _ ho) hd hf ?_)
    refine wp_if_neg (by simp) (wpAny_pure qq)
end
end Cw
namespace Cw
open PySem PySem.Spec PyProof.Rows L2
section
variable {X : Cx}
/-- a | b -/
def rOrN (w : World) : R2 := fun x y H Q => ∃ (a b : Addr) (S T : Int → Bool) (n m : Nat), x = .ref a ∧ y = .ref b ∧ a ≠ b ∧ H a = some (SetO w a S n) ∧ H b = some (SetO w b T m) ∧ n + m ≤ 4000 ∧ ∀ p c, c ≤ n + m → H p = none → Q (.ref p) (upd H p (SetO w p (fun j => S j || T j) c))
theorem op_orN : OpR X (binaryOp .BitOr) (rOrN X.w) := by
  intro pins s σ H x y v u Q I rx ry h
  obtain ⟨a, b, S, T, n, m, rfl, rfl, ne, ha, hb, le, q⟩ := h
  cases rx
  cases ry
  refine or_new (setO_get I ha) (setO_get I hb) ne (by show n + m + 1 < 4096; omega) fun h' c k R lc => ?_
  exact ⟨.ref s.heap.objs.size, _, I.laid (t' := s.toks) k (Nat.le_refl _) (setO_new R), rfl, q _ c lc (I.hok.fresh (Nat.le_refl _))⟩
end
end Cw
namespace Cw
open PySem PySem.Spec PyProof.Rows L2
section
variable {P : Program} {w : World} {A : Around} {E : Value → Shared → Prop} {s : Shared} {a : Addr}
/-- sorted of a set of ints, as many as there are -/
theorem sorted_all {S : Int → Bool} {n : Nat} {Q : Value → Shared → Prop} (R : SetR w s.heap a S n) (calm : A.handled = none)
    (q : ∀ (t : Shared) (p : Addr) (out : Array Value) (c : Nat) (ns : List Int), (∀ x o, s.heap.get? x = some o → t.heap.get? x = some o) → t.gens = s.gens → t.os = s.os → s.heap.objs.size ≤ p →
      t.heap.get? p = some (seqObj "list" out c) → IntsAre out.toList ns → List.Pairwise (· < ·) ns → (∀ k, k ∈ ns ↔ S k = true) → ns.length = n → Q (.ref p) t) :
    wpAny (model P w) A (call (.builtin "sorted") [.ref a]) Q E s := by
  obtain ⟨o, es, ep, t, ho, hx, hd, g, nd, hm, hb, hf, hn, hr, hl⟩ := R
  refine Calls.call_function_entry kind_sorted
    plain_sorted entry_sorted (args_sorted1 _) ?_
  unfold Builtin.«sorted»
  refine wpAny_bind (m := checkCount "sorted" 1 1 _)
    (wpAny_pure ?_)
  refine wpAny_bind (collect_set (A := A.in1) calm ⟨o, ho, hx.1, hd⟩ hf hb hr hl fun u vs old sz ge oss pm => ?_)
  have len : vs.length = n := by
    rw [pm.length_eq, List.length_map, Array.length_toList, hn]
  have iz : IntsAre vs (vs.map Builtin.Re.reRawOf) := ints_of vs fun v hv => by
    obtain ⟨e, he, z⟩ := List.mem_map.mp (pm.mem_iff.mp hv)
    obtain ⟨k, tk, e1, _⟩ := g e he
    exact ⟨k, tk, by rw [← z]; exact e1⟩
  have keys : (vs.map Builtin.Re.reRawOf).Perm (es.toList.map keyOf) := by
    have z := pm.map Builtin.Re.reRawOf
    rw [List.map_map] at z
    exact z
  have nb : n < 4096 := by rw [← hn]; exact hb
  refine wpAny_bind (wpAny_newList ?_ (by rw [len, sizeLine_eq]; omega))
  have at0 : (u.heap.push (seqObj "list" vs.toArray 0)).get? u.heap.objs.size = some (seqObj "list" vs.toArray 0) := Heap.get?_push_size _ rfl
  refine wpAny_bind (wpAny_holding (wpAny_call_entry slot_list_sort ⟨_, at0, rfl⟩ entry_list_sort
    (SrtO.list_sort_ord SrtO.swo_int at0 (by rw [len, sizeLine_eq]; omega) (fun h2 => SrtO.ints_sortable iz h2) fun out h1 h2 => ⟨.none, rfl, ?_⟩) (args_list_sort _)))
  obtain ⟨k1, k2, k3⟩ := SrtO.ints_out iz h1 h2
  obtain ⟨c, hc⟩ := sortedHeap_at (vs := vs) (out := out.toArray) at0
  have perm := k2.trans keys
  refine wpAny_pure ⟨_, rfl, q _ u.heap.objs.size out.toArray c (out.map SrtO.iv) (fun x v e => ?_) ge oss sz hc k1 (lt_of_le_nodup _ k3 (perm.nodup_iff.mpr nd)) (fun k => ?_) ?_⟩
  · have z := old x v e
    have lt := Heap.lt_size z
    show (sortedHeap (u.heap.push (seqObj "list" vs.toArray 0)) u.heap.objs.size vs out.toArray).get? x = some v
    rw [sortedHeap_old (Nat.ne_of_lt lt) (Nat.lt_of_lt_of_le lt (by rw [size_push']; exact Nat.le_succ _))]
    exact Heap.get?_push_of_some _ z
  · rw [perm.mem_iff]
    exact (hm k).symm
  · rw [perm.length_eq, List.length_map, Array.length_toList, hn]
end
section
variable {X : Cx}
/-- sorted(s), s a set of ints -/
def rSortSet (w : World) : List V → Hp → VK → Prop := fun vs H Q => ∃ (a : Addr) (S : Int → Bool) (n : Nat), vs = [V.ref a] ∧ H a = some (SetO w a S n) ∧
  ∀ (ns : List Int) (p : Addr), List.Pairwise (· < ·) ns → (∀ k, k ∈ ns ↔ S k = true) → H p = none → Q (.ref p) (upd H p (.lst (ns.map V.int)))
theorem cr_sortSet (hc : X.calm = true) : CallR X (.builtin "sorted") (rSortSet X.w) := by
  intro pins s σ H vs us Q I r h
  obtain ⟨a, S, n, rfl, ha, q⟩ := h
  have R := setO_get I ha
  rw [Vals.ref1 r]
  obtain ⟨o, es, ep, t, ho, hx, hd, g, nd, hm, hb, hf, hn, hr, hl⟩ := id R
  have nb : n < 4096 := by rw [← hn]; exact hb
  refine sorted_all R (I.ok.hd hc) fun t p out c ns k ge oss sz hg hi hs hm' hl' => ?_
  have few : (ns.map V.int).length ≤ sizeLine := by
    rw [List.length_map, hl', sizeLine_eq]
    omega
  have np : H p = none := I.hok.fresh sz
  obtain ⟨hp2, g2, d2, tk2, os2⟩ := t
  dsimp only at k ge oss hg
  subst ge oss
  refine ⟨.ref p, upd H p (.lst (ns.map V.int)), ?_, rfl, q ns p hs hm' np⟩
  exact I.call (ch := []) (Un.laid k sz np) (I.hok.laid k sz ⟨few, out.toList, c, vals_of_ints hi, hg⟩) I.bare (fun _ z => nomatch z)
end
end Cw
namespace Cw
open PySem L2
def rSetOfW (K : PySem.W.Frag) (w : World) : List V → Hp → VK → Prop := fun xs H Q => ∃ (l : Addr) (ns : List Int), xs = [.ref l] ∧ SqL K H l (ns.map V.int) ∧ ns.length ≤ 4000 ∧ ∀ p c, c ≤ ns.length → H p = none → Q (.ref p) (upd H p (SetO w p (fun j => decide (j ∈ ns)) c))
end Cw
namespace Cw
open PySem PySem.Spec L2 TL
abbrev sRn : Stmt := top 19
abbrev sRc : Stmt := top 21
abbrev sRs : Stmt := top 20
abbrev sMw : Stmt := top 29
/-- what may be read -/
structure Nm (n : Int) : Prop where
  lo : 0 ≤ n
  hi : n < 10 ^ 30
def spRn : Sp := fun vs H Q _ => ∃ n : Int, vs = [.str (num n)] ∧ Nm n ∧ ∀ H', Same H H' → Q (.int n) H'
def spRc : Sp := fun vs H Q _ => ∃ n : Int, vs = [.str (num n ++ ":")] ∧ Nm n ∧ ∀ H', Same H H' → Q (.int n) H'
def spRs : Sp := fun vs H Q _ => ∃ (n : Int) (ns : List Int), vs = [.str (Txt.join "-" ((n :: ns).map num)), .int ((n :: ns).length : Nat)] ∧ (∀ x ∈ n :: ns, Nm x) ∧ (n :: ns).length ≤ 100 ∧ ∀ H' q, Same H H' → H q = none → IL H' q (n :: ns) → Q (.ref q) H'
def spMw : Sp := fun vs H Q _ => ∃ (a b : Addr) (ms ss : List Int), vs = [.ref a, .ref b] ∧ IL H a ms ∧ IL H b ss ∧ ms.length ≤ 400 ∧ ss.length ≤ 400 ∧ (∀ x ∈ ms, Nm x) ∧ ∀ H' q, Same H H' → H q = none → H' q = some (.lst ((ms.map (mw ss)).map V.str)) → Q (.ref q) H'
theorem Nm.log {n : Int} (h : Nm n) : n.natAbs.log2 < 1920 := by
  have a := h.lo
  have b := h.hi
  have h : n.natAbs < 2 ^ 1920 := by omega
  by_cases e : n.natAbs = 0
  · rw [e]
    decide
  · exact (Nat.log2_lt e).mpr h
theorem Nm.len {n : Int} (h : Nm n) : 1 ≤ (num n).length ∧ (num n).length ≤ 30 := by
  refine ⟨?_, num_len h.lo (by decide) h.hi⟩
  rw [len_tl, tl_numI h.lo]
  exact List.length_pos_iff.mpr (numL_ne _)
theorem map_take_snoc {α β : Type} (f : α → β) {xs : List α} {i : Nat} {x : α} (h : xs[i]? = some x) : (xs.take i).map f ++ [f x] = (xs.take (i + 1)).map f := by
  obtain ⟨hi, e⟩ := List.getElem?_eq_some_iff.mp h
  rw [List.take_succ_eq_append_getElem hi, List.map_append, e]
  rfl
theorem flat_ints : ∀ ns : List Int, (ns.map V.int).all flatV = true
  | [] => rfl
  | _ :: r => by
    rw [List.map_cons, List.all_cons, flat_ints r]
    rfl
theorem inV_non : ∀ ns : List Int, inV V.non (ns.map V.int) = false
  | [] => rfl
  | _ :: r => inV_non r
theorem digit_in {c : Nat} (h : 48 ≤ c ∧ c ≤ 57) : decide (c ∈ ("0123456789" : Str).cps.toList) = true := by
  have e : ("0123456789" : Str).cps.toList = [48, 49, 50, 51, 52, 53, 54, 55, 56, 57] := by decide +kernel
  rw [e]
  apply decide_eq_true
  have c : c = 48 ∨ c = 49 ∨ c = 50 ∨ c = 51 ∨ c = 52 ∨ c = 53 ∨ c = 54 ∨ c = 55 ∨ c = 56 ∨ c = 57 := by omega
  rcases c with rfl | rfl | rfl | rfl | rfl | rfl | rfl | rfl | rfl | rfl <;> simp
section
variable {P : Program} {w : World} {K : PySem.W.Frag} {mg : Str → Option Value} {base : Heap}
abbrev NRn : List Str := ["word", "sign"]
theorem scRn : FnScope NRn ["word"] (defScope sRn) := ⟨rfl, rfl, rfl, by decide +kernel, rfl, by decide +kernel, by decide +kernel⟩
theorem ok_rn {f : Addr} {fd : FuncData} (F : Fun K "read_number" "read_number" sRn f fd) {tMD tDG : Tok} (T : Bl mg) (gMD : mg "MOST_DIGITS" = some (.int 30 tMD)) (gDG : mg "DIGITS" = some (.str "0123456789" tDG)) :
    FnOk P w K mg base CX0 1 f fd ["word"] (spRn) := by
  refine F.ok scRn (fun vs H Q E h => ?_) (fun cdv A outer s H vs Q E hr h => ?_)
  · obtain ⟨n, rfl, _⟩ := h
    rfl
  · obtain ⟨n, rfl, N, q⟩ := h
    refine ⟨_, (pss_cons (ps_if (pt_not (pt_chain op_le op_le pe_int (pe_callB call_len (by rfl) T.len PySem.boot_len (pa_cons (pv 0) pa_nil)) (pe_glob (by rfl) gMD (v := V.int 30) ⟨_, rfl⟩))) (pss_one (ps_ret pe_non)) pss_nil)
        (pss_cons (ps_if (pt_not (pt_val (pe_callB (cr_all rfl) (by rfl) T.all (by decide +kernel) (pa_cons (pe_lc (own := [("sign", 1)]) (g := (gName 1)) (tt := tYes) rfl scRn.nd (pi_str (pv 0)) (blkOk_by (own := [("sign", 1)]) (N := NRn) (sc := defScope sRn) (by decide +kernel)) (fun _ _ _ _ _ => (pg_name (i := 1) scRn.nd rfl (Or.inl rfl))) (fun _ _ _ _ _ => pts_nil) (fun _ _ _ _ _ => (pe_cmpR op_in_sign (pv 1) (pe_glob (by rfl) gDG (v := V.str "0123456789") ⟨_, rfl⟩) (by rfl)))) pa_nil)))) (pss_one (ps_ret pe_non)) pss_nil)
        (pss_cons (ps_if (PW.pt (pw_and (pt_cmpR op_eq (pe_ix (r := rIxS) ix_str (pv 0) pe_int (fun _ _ => rfl)) pe_str (nomark _)) (pw_and1 (pt_cmpR op_gt (pe_callB call_len (by rfl) T.len PySem.boot_len (pa_cons (pv 0) pa_nil)) pe_int (nomark _))))) (pss_one (ps_ret pe_non)) pss_nil)
        (pss_one (ps_ret (pe_callTy call_int_str (by rfl) T.int (by decide +kernel) (pa_cons (pv 0) pa_nil))))))), ?_⟩
    obtain ⟨l1, l2⟩ := N.len
    have lz : (num n).length ≤ sizeLine := Nat.le_of_lt (small1000 (by omega))
    refine ⟨_, rfl, _, _, rfl, ⟨lz, rfl⟩, _, _, rfl, rfl, _, rfl, ?_⟩
    refine ifT (decide_eq_true (by omega)) ?_
    refine ⟨_, _, rfl, rfl, _, rfl, ?_⟩
    refine ifF (by rw [decide_eq_true (by omega)]; rfl) ?_
    refine ⟨_, rfl, _, rfl, fun D hD => ?_⟩
    have dg : ∀ c ∈ tl (num n), 48 ≤ c ∧ c ≤ 57 := fun c hc => by
      rw [tl_numI N.lo] at hc
      exact numL_digits _ c hc
    refine lc_it walk_str (fun i H' => Same H H' ∧ H' D = some (.lst (List.replicate i (V.bl true)))) ⟨same_new (Same.refl H) hD, upd_same⟩ (fun _ _ _ _ => trivial) ?_ ?_
    · rintro i x H' H'' hi ⟨s1, hD'⟩ ⟨rfl, c, hc, rfl⟩
      refine ⟨rfl, ?_⟩
      unfold tYes
      refine iteT ?_
      refine ⟨_, rfl, c, _, rfl, rfl, ?_⟩
      have mc : c ∈ tl (num n) := by
        have z := Array.mem_of_getElem? hc
        exact Array.mem_toList_iff.mpr z
      rw [digit_in (dg c mc)]
      have hil : i ≤ 1000 := by
        have z : i < (num n).cps.size := hi
        have e : (num n).cps.size = (num n).length := rfl
        omega
      exact ⟨_, hD', by rw [List.length_replicate]; exact small1000 hil, same_put s1 hD, by rw [upd_same, List.replicate_succ']⟩
    · rintro H' ⟨s1, hD'⟩
      refine ⟨D, List.replicate (num n).cps.size true, rfl, SqL.of (by rw [hD', List.map_replicate]), _, rfl, ?_⟩
      rw [all_true]
      refine ifF rfl ?_
      obtain ⟨c, r, ec, hc⟩ := numL_head n.toNat
      have et : (num n).cps.toList = c :: r := by
        show tl (num n) = _
        rw [tl_numI N.lo, ec]
      have at0 : atI (num n).cps.toList 0 = some c := by
        rw [et]
        exact atI_nat (j := 0) rfl
      refine ⟨_, rfl, _, 0, c, rfl, rfl, lz, at0, rfl, _, rfl, ?_⟩
      have fin : tRet (tCB (fun xs H Q => ∃ a n, xs = [V.str a] ∧ PySem.intText? a = some n ∧ a.length ≤ 640 ∧ Q (.int n) H) (tCons (tVar 0) tNil)) { nx := fun x H' => Q V.non H', rt := Q } (L2.start NRn [V.str (num n)]) H' := by
        refine ⟨_, rfl, _, n, rfl, ?_, by omega, q _ s1⟩
        have e : n = ((n.toNat : Nat) : Int) := by have := N.lo; omega
        have z := int_num (n := n.toNat) (by rw [← tl_num, ← len_tl, ← e]; show (num n).length ≤ 4300; omega)
        rw [← e] at z
        exact z
      by_cases c0 : n = 0
      · subst c0
        have e1 : numL (Int.toNat 0) = [48] := numL_zero
        rw [e1] at ec
        obtain ⟨rfl, rfl⟩ := List.cons.inj ec
        refine ifT (by decide +kernel) ?_
        refine ⟨_, rfl, _, _, rfl, ⟨lz, rfl⟩, _, _, rfl, rfl, _, rfl, ?_⟩
        exact ifF (by decide +kernel) fin
      · have c1 := hc (by have := N.lo; omega)
        have ne : decide (V.str ⟨#[c]⟩ = V.str "0") = false := decide_eq_false fun z => by
          have z := congrArg tl (V.str.inj z)
          rw [show tl ("0" : Str) = [48] by decide +kernel] at z
          exact c1 (List.cons.inj z).1
        exact ifF ne (ifF rfl fin)
abbrev NRc : List Str := ["word"]
theorem scRc : FnScope NRc ["word"] (defScope sRc) := ⟨rfl, rfl, rfl, by decide +kernel, rfl, by decide +kernel, by decide +kernel⟩
theorem ok_rc {f fN : Addr} {fd fdN : FuncData} (F : Fun K "read_count" "read_count" sRc f fd)
    (gN : mg "read_number" = some (.ref fN)) (kN : PySem.W.keepIn K (.ref fN) = true) (bN : Binds K fdN ["word"] []) (GN : FnOk P w K mg base CX0 1 fN fdN ["word"] spRn) :
    FnOk P w K mg base CX0 2 f fd ["word"] (spRc) := by
  refine F.ok scRc (fun vs H Q E h => ?_) (fun cdv A outer s H vs Q E hr h => ?_)
  · obtain ⟨n, rfl, _⟩ := h
    rfl
  · obtain ⟨n, rfl, N, q⟩ := h
    refine ⟨_, (pss_cons (ps_if (pt_not (pt_val (pe_m1 PySem.F.slot_str_endswith PySem.F.type_str_endswith mt_endswith (pv 0) pe_str))) (pss_one (ps_ret pe_non)) pss_nil)
        (pss_one (ps_ret (pe_call GN (hr.mono (by decide)) rfl gN kN bN .nil pass0 (pa_cons (pe_slice sl_str (pv 0) po_none (po_some (pe_un un_neg pe_int))) pa_nil))))), ?_⟩
    have cl : tl (":" : Str) = [58] := by decide +kernel
    obtain ⟨l1, l2⟩ := N.len
    have lc : (":" : Str).length = 1 := by decide +kernel
    refine ⟨_, rfl, ⟨_, rfl⟩, _, _, rfl, rfl, _, rfl, ?_⟩
    rw [ends_yes cl]
    refine ifF rfl ?_
    refine ⟨_, rfl, _, rfl, _, rfl, _, rfl, by rw [PySem.strLen_append, lc]; exact Nat.le_of_lt (small1000 (by omega)), ?_⟩
    rw [cut_end cl]
    exact ⟨n, rfl, N, q⟩
abbrev NRs : List Str := ["word", "many", "numbers", "part"]
theorem scRs : FnScope NRs ["word", "many"] (defScope sRs) := ⟨rfl, rfl, rfl, by decide +kernel, rfl, by decide +kernel, by decide +kernel⟩
theorem ok_rs {f fN : Addr} {fd fdN : FuncData} (F : Fun K "read_numbers" "read_numbers" sRs f fd) (T : Bl mg)
    (gN : mg "read_number" = some (.ref fN)) (kN : PySem.W.keepIn K (.ref fN) = true) (bN : Binds K fdN ["word"] []) (GN : FnOk P w K mg base CX0 1 fN fdN ["word"] spRn) :
    FnOk P w K mg base CX0 2 f fd ["word", "many"] (spRs) := by
  refine F.ok scRs (fun vs H Q E h => ?_) (fun cdv A outer s H vs Q E hr h => ?_)
  · obtain ⟨n, ns, rfl, _⟩ := h
    rfl
  · obtain ⟨n, ns, rfl, NM, few, q⟩ := h
    refine ⟨_, (pss_cons (ps_setLc (i := 2) (own := [("part", 3)]) (g := (gName 3)) (tt := tYes) rfl scRs.nd rfl rfl (sw_true rfl rfl rfl (by decide +kernel)) (pi_list (pe_split (pv 0) pe_str)) (blkOk_by (own := [("part", 3)]) (N := NRs) (sc := defScope sRs) (by decide +kernel)) (fun _ _ _ _ _ => (pg_name (i := 3) scRs.nd rfl (Or.inl rfl))) (fun _ _ _ _ _ => pts_nil) (fun _ _ _ _ _ => (pe_call GN (hr.mono (by decide)) rfl gN kN bN .nil pass0 (pa_cons (pv 3) pa_nil))))
        (pss_cons (ps_if (PW.pt (pw_or (pt_cmpR op_ne (pe_callB call_len_seq (by rfl) T.len PySem.boot_len (pa_cons (pv 2) pa_nil)) (pv 1) (nomark _)) (pw_or1 (pt_cmpR (show OpR _ (compareOp .In) (rIn K false) from op_in_seq) pe_non (pv 2) (by rfl))))) (pss_one (ps_ret pe_non)) pss_nil)
        (pss_one (ps_ret (pv 2))))), ?_⟩
    have hl : tl ("-" : Str) = [45] := by decide +kernel
    have h1 : ("-" : Str).length = 1 := by decide +kernel
    have sp : Txt.split (Txt.join "-" ((n :: ns).map num)) "-" = (n :: ns).map num := split_join (s := 45) (S := []) hl (by decide +kernel) (by simp) fun p hp => by
      obtain ⟨x, hx, rfl⟩ := List.mem_map.mp hp
      exact num_free (NM x hx).lo (.inl (by decide))
    have jl : (Txt.join "-" ((n :: ns).map num)).length + 2 ≤ sizeLine := by
      have key : ∀ (l : List Int), (∀ x ∈ l, Nm x) → (joinL [45] ((l.map num).map tl)).length ≤ 31 * l.length := by
        intro l
        induction l with
        | nil => exact fun _ => Nat.zero_le _
        | cons x r ih =>
          intro h
          have a := ih fun y hy => h y (List.mem_cons_of_mem _ hy)
          have b := (h x List.mem_cons_self).len.2
          rw [len_tl] at b
          cases r with
          | nil =>
            show (tl (num x)).length ≤ 31 * 1
            omega
          | cons y r =>
            show (tl (num x) ++ ([45] ++ joinL [45] (((y :: r).map num).map tl))).length ≤ _
            rw [List.length_append, List.length_append]
            have e : [45].length = 1 := rfl
            rw [List.length_cons (a := x)]
            omega
      have := key (n :: ns) NM
      rw [len_tl, join_eq, tl_join, hl, sizeLine_eq]
      omega
    refine ⟨_, rfl, ⟨_, rfl⟩, _, _, rfl, rfl, by rw [h1]; rfl, jl, fun p hp => ?_⟩
    rw [sp]
    have s1 := same_new (o := .lst (((n :: ns).map num).map V.str)) (Same.refl H) hp
    have kp : upd H p (.lst (((n :: ns).map num).map V.str)) p = some (.lst (((n :: ns).map num).map V.str)) := upd_same
    generalize upd H p (.lst (((n :: ns).map num).map V.str)) = H1 at s1 kp ⊢
    generalize n :: ns = xs at NM few kp q ⊢
    refine ⟨p, rfl, ⟨_, SqL.of kp⟩, fun D hD => ?_⟩
    refine lc_list (K := K) (a := p) (xs := (xs.map num).map V.str) (fun i H' => Same H1 H' ∧ IL H' D (xs.take i)) ⟨same_new (Same.refl H1) hD, upd_same⟩ (fun i H' _ z => SqL.of (z.1 _ _ kp)) ?_ ?_
    · rintro i x H' hx ⟨s2, hE⟩
      rw [List.getElem?_map, List.getElem?_map] at hx
      have il : i < xs.length := by
        cases e : xs[i]? with
        | none => rw [e] at hx; cases hx
        | some y => exact (List.getElem?_eq_some_iff.mp e).1
      have hy := List.getElem?_eq_getElem il
      rw [hy] at hx
      cases hx
      refine ⟨rfl, ?_⟩
      unfold tYes
      refine iteT ?_
      refine ⟨_, rfl, xs[i], rfl, NM _ (List.getElem_mem il), fun H2 s3 => ?_⟩
      exact ⟨_, s3 _ _ hE, by rw [List.length_map, List.length_take]; exact small1000 (by omega), same_put (s2.trans s3) hD, by
        show upd _ _ _ D = _
        rw [upd_same, map_take_snoc V.int hy]⟩
    · rintro H2 ⟨s2, hE⟩
      rw [List.length_map, List.length_map, List.take_length] at hE
      try dsimp only [L2.start, List.set, List.map, List.append, List.replicate, List.length]
      refine ⟨_, rfl, D, _, rfl, .inl (SqL.of hE), _, rfl, rfl, _, rfl, ?_⟩
      refine ifF (by rw [List.length_map]; simp) ?_
      refine ⟨_, rfl, D, _, rfl, .inl (SqL.of hE), rfl, flat_ints xs, _, rfl, ?_⟩
      refine ifF ?_ ?_
      · rw [if_neg Bool.false_ne_true, inV_non]
      · exact ⟨_, rfl, q _ _ (s1.trans s2) (s1.free hD) hE⟩
abbrev NMw : List Str := ["marks", "strict", "firm", "mark"]
theorem scMw : FnScope NMw ["marks", "strict"] (defScope sMw) := ⟨rfl, rfl, rfl, by decide +kernel, rfl, by decide +kernel, by decide +kernel⟩
theorem ok_mwd {f : Addr} {fd : FuncData} (F : Fun K "mark_words" "mark_words" sMw f fd) (T : Bl mg) :
    FnOk P w K mg base CX0 1 f fd ["marks", "strict"] (spMw) := by
  refine F.ok scMw (fun vs H Q E h => ?_) (fun cdv A outer s H vs Q E hr h => ?_)
  · obtain ⟨a, b, ms, ss, rfl, _⟩ := h
    rfl
  · obtain ⟨a, b, ms, ss, rfl, ha, hb, la, lb, NM, q⟩ := h
    refine ⟨_, (pss_cons (ps_set (i := 2) scMw.nd rfl (Or.inr rfl) (pe_callTy (show CallR _ (.type "set") (rSetOfW K w) from cr_setOf rfl) (by rfl) T.set (by decide +kernel) (pa_cons (pv 1) pa_nil)))
        (pss_one (ps_ret (pe_lc (own := [("mark", 3)]) (g := (gName 3)) (tt := tYes) rfl scMw.nd (pi_list (pv 0)) (blkOk_by (own := [("mark", 3)]) (N := NMw) (sc := defScope sMw) (by decide +kernel)) (fun _ _ _ _ _ => (pg_name (i := 3) scMw.nd rfl (Or.inl rfl))) (fun _ _ _ _ _ => pts_nil) (fun _ _ _ _ _ => (pe_ifExp (pt_cmpR (show OpR _ (compareOp .In) (rSIn w) from or_sin) (pv 3) (pv 2) (by rfl)) (pe_joined (.cons (pe_fmt (pv 3)) (.cons pe_str .nil))) (pe_joined1 (pe_fmt (pv 3))))))))), ?_⟩
    refine ⟨_, rfl, b, ss, rfl, SqL.of hb, by omega, fun p0 c0 hc0 hp0 => ?_⟩
    have s2 := same_new (o := SetO w p0 (fun j => decide (j ∈ ss)) c0) (Same.refl H) hp0
    have k0 : upd H p0 (SetO w p0 (fun j => decide (j ∈ ss)) c0) p0 = some (SetO w p0 (fun j => decide (j ∈ ss)) c0) := upd_same
    generalize upd H p0 (SetO w p0 (fun j => decide (j ∈ ss)) c0) = H2 at s2 k0 ⊢
    try dsimp only [L2.start, List.set, List.map, List.append, List.replicate, List.length]
    have ha2 := s2 _ _ ha
    refine ⟨_, rfl, a, rfl, ⟨_, SqL.of ha2⟩, fun D hD => ?_⟩
    refine lc_list (K := K) (a := a) (xs := ms.map V.int) (fun i H' => Same H2 H' ∧ H' D = some (.lst ((ms.take i).map fun m => V.str (mw ss m)))) ⟨same_new (Same.refl H2) hD, upd_same⟩ (fun i H' _ z => SqL.of (z.1 _ _ ha2)) ?_ ?_
    · rintro i x H' hx ⟨s3, hE⟩
      obtain ⟨z, rfl, hz⟩ := il_at hx
      have N := NM z (List.mem_of_getElem? hz)
      have il : i < ms.length := (List.getElem?_eq_some_iff.mp hz).1
      refine ⟨rfl, ?_⟩
      unfold tYes
      refine iteT ?_
      refine ⟨_, rfl, _, rfl, z, p0, _, c0, rfl, rfl, s3 _ _ k0, _, rfl, ?_⟩
      have e1 : ("!" : Str).length = 1 := by decide +kernel
      obtain ⟨l1, l2⟩ := N.len
      have fin : ∀ (w1 : Str) (G : Hp), w1 = mw ss z → Same H' G → ∃ acc, G D = some (HO.lst acc) ∧ acc.length < sizeLine ∧ Same H2 (upd G D (.lst (acc ++ [V.str w1]))) ∧ upd G D (.lst (acc ++ [V.str w1])) D = some (.lst ((ms.take (i + 1)).map fun m => V.str (mw ss m))) := fun w1 G e s4 => by
        subst e
        exact ⟨_, s4 _ _ hE, by rw [List.length_map, List.length_take]; exact small1000 (by omega), same_put (s3.trans s4) hD, by rw [upd_same, map_take_snoc (fun m => V.str (mw ss m)) hz]⟩
      by_cases c : z ∈ ss
      · refine ifT (decide_eq_true c) ?_
        refine ⟨_, rfl, .inr ⟨z, rfl, N.log, _, rfl, ?_, _, rfl, ?_, ?_⟩⟩
        · rw [emp_app]
          exact Nat.le_of_lt (small1000 (by show (num z).length ≤ 1000; omega))
        · rw [emp_app, PySem.strLen_append, e1]
          exact Nat.le_of_lt (small1000 (by show (num z).length + 1 ≤ 1000; omega))
        · exact fin _ _ (by rw [emp_app]; unfold mw; rw [if_pos c]) (Same.refl _)
      · refine ifF (decide_eq_false c) ?_
        exact ⟨_, rfl, .inr ⟨z, rfl, N.log, fin _ _ (by unfold mw; rw [if_neg c]) (Same.refl _)⟩⟩
    · rintro H3 ⟨s3, hE⟩
      rw [List.length_map, List.take_length] at hE
      exact q _ _ (s2.trans s3) (s2.free hD) (by rw [hE, List.map_map]; rfl)
end
end Cw
namespace Cw
open PySem PySem.Spec L2 TL
abbrev sWr : Stmt := top 23
abbrev sWs : Stmt := top 25
abbrev sWc : Stmt := top 27
abbrev sRm : Stmt := top 30
abbrev sRr : Stmt := top 24
abbrev sRg : Stmt := top 26
abbrev sRch : Stmt := top 28
theorem asc_ext : ∀ {xs ys : List Int}, Asc xs → Asc ys → (∀ z, z ∈ xs ↔ z ∈ ys) → xs = ys
  | [], [], _, _, _ => rfl
  | [], y :: ys, _, _, h => by have := (h y).mpr (List.mem_cons_self ..); cases this
  | x :: xs, [], _, _, h => by have := (h x).mp (List.mem_cons_self ..); cases this
  | x :: xs, y :: ys, hx, hy, h => by
    obtain ⟨x1, x2⟩ := List.pairwise_cons.mp hx
    obtain ⟨y1, y2⟩ := List.pairwise_cons.mp hy
    have e : x = y := by
      rcases List.mem_cons.mp ((h x).mp (List.mem_cons_self ..)) with a | a
      · exact a
      · rcases List.mem_cons.mp ((h y).mpr (List.mem_cons_self ..)) with b | b
        · exact b.symm
        · have := x1 y b
          have := y1 x a
          omega
    subst e
    congr 1
    refine asc_ext x2 y2 fun z => ⟨fun hz => ?_, fun hz => ?_⟩
    · rcases List.mem_cons.mp ((h z).mp (List.mem_cons_of_mem _ hz)) with a | a
      · have := x1 z hz
        omega
      · exact a
    · rcases List.mem_cons.mp ((h z).mpr (List.mem_cons_of_mem _ hz)) with a | a
      · have := y1 z hz
        omega
      · exact a
/-- the texts of rows, settings and changes -/
def rowT (n : Int) (ms ss : List Int) : Str := txt (num n ++ ":") (ms.map (mw ss))
def setT (l m g : Int) : Str := num l ++ "-" ++ num m ++ "-" ++ num g
def chgT (b e n : Int) (ms ss : List Int) : Str := txt (num b ++ "-" ++ num e) ("by" :: (num n ++ ":") :: ms.map (mw ss))
/-- marks that may be written and read -/
structure Mk3 (ms ss : List Int) (hi : Int) : Prop where
  len : ms.length ≤ 400
  asc : Asc ms
  asc2 : Asc ss
  rng : ∀ x ∈ ms, 1 ≤ x ∧ x ≤ hi
  sub : ∀ x ∈ ss, x ∈ ms
  big : hi < 10 ^ 30
theorem Mk3.nm {ms ss : List Int} {hi : Int} (h : Mk3 ms ss hi) : ∀ x ∈ ms, Nm x := fun x hx => ⟨by have := (h.rng x hx).1; omega, by have := (h.rng x hx).2; have := h.big; omega⟩
theorem Mk3.len2 {ms ss : List Int} {hi : Int} (h : Mk3 ms ss hi) : ss.length ≤ 400 := by
  have z := nodup_len (h.asc2.imp fun h e => by omega) h.sub
  have := h.len
  omega
theorem Mk3.fil {ms ss : List Int} {hi : Int} (h : Mk3 ms ss hi) : ms.filter (fun x => decide (x ∈ ss)) = ss := asc_ext (h.asc.filter _) h.asc2 fun z => by
  rw [List.mem_filter, decide_eq_true_eq]
  exact ⟨fun a => a.2, fun a => ⟨h.sub z a, a⟩⟩
theorem Mk3.wlen {ms ss : List Int} {hi : Int} (h : Mk3 ms ss hi) : ∀ w ∈ ms.map (mw ss), w.length ≤ 31 := fun w hw => by
  obtain ⟨x, hx, rfl⟩ := List.mem_map.mp hw
  exact mw_len (h.nm x hx).lo (h.nm x hx).hi
theorem Mk3.free {ms ss : List Int} {hi : Int} (h : Mk3 ms ss hi) : ∀ w ∈ ms.map (mw ss), 32 ∉ tl w := fun w hw => by
  obtain ⟨x, hx, rfl⟩ := List.mem_map.mp hw
  exact mw_free (h.nm x hx).lo
theorem sum_le {l : List Str} {k : Nat} (h : ∀ w ∈ l, w.length ≤ k) : (l.map (·.length)).sum ≤ k * l.length := by
  induction l with
  | nil => exact Nat.zero_le _
  | cons x r ih =>
    have a := ih fun w hw => h w (List.mem_cons_of_mem _ hw)
    have b := h x List.mem_cons_self
    rw [List.map_cons, List.sum_cons, List.length_cons, Nat.mul_add]
    omega
theorem num1_len {n : Int} (N : Nm n) (s : Str) (hs : s.length ≤ 10) : (num n ++ s).length ≤ 40 := by
  rw [PySem.strLen_append]
  have := N.len.2
  omega
theorem mk_txt {ms ss : List Int} {hi : Int} (M : Mk3 ms ss hi) {ys : List Str} {a : Str} (h : a.length = 1) (hy : ys.length ≤ 10) (hl : ∀ y ∈ ys, y.length ≤ 100) : ((ys ++ ms.map (mw ss)).map (·.length)).sum + (ys ++ ms.map (mw ss)).length * a.length ≤ 16777216 := by
  have z := sum_le (l := ys ++ ms.map (mw ss)) (k := 100) fun w hw => by
    rcases List.mem_append.mp hw with hw | hw
    · exact hl w hw
    · have := M.wlen w hw
      omega
  have l := M.len
  rw [h]
  rw [List.length_append, List.length_map] at z ⊢
  omega
theorem rest_of1 {C R : Hp → Prop} {G : Prop} (a : (∀ H, C H → R H) → G) (b : ∀ H, C H → R H) : G := a b
theorem at_of2 {α : Type} {xs : List α} {z : Int} {j : Nat} {v : α} (e : z = (j : Int)) (h : xs[j]? = some v) : atI xs z = some v := by
  rw [e]
  exact atI_nat h
theorem free1 {n : Int} (N : Nm n) {y : Str} (h : 32 ∉ tl y) : 32 ∉ tl (num n ++ y) := fun z => by
  rw [tl_append] at z
  rcases List.mem_append.mp z with z | z
  · exact num_free N.lo (.inl (by decide)) z
  · exact h z
theorem txt_nil (a : Str) : txt a [] = a := ext_tl (by rw [tl_txt]; exact List.append_nil _)
theorem setT_join (l m g : Int) : setT l m g = Txt.join "-" ([l, m, g].map num) := by
  rw [join_eq]
  show _ = num l ++ "-" ++ (num m ++ "-" ++ num g)
  unfold setT
  apply ext_tl
  simp only [tl_append, List.append_assoc]
theorem two_join (b e : Int) : num b ++ "-" ++ num e = Txt.join "-" ([b, e].map num) := by
  rw [join_eq]
  rfl
theorem cut_by (x z : Str) (ws : List Str) : cutV (([x, "by", z] ++ ws).map V.str) (some 1) (some 2) = (["by"] : List Str).map V.str := by
  have e1 : HT.sIx (([x, "by", z] ++ ws).map V.str).length 0 (some 1) = 1 := by
    rw [show (1 : Int) = ((1 : Nat) : Int) from rfl, HT.sIx_nat]
    simp
  have e2 : HT.sIx (([x, "by", z] ++ ws).map V.str).length (([x, "by", z] ++ ws).map V.str).length (some 2) = 2 := by
    rw [show (2 : Int) = ((2 : Nat) : Int) from rfl, HT.sIx_nat]
    simp
  unfold cutV
  rw [e1, e2]
  rfl
theorem dp_strs {K : PySem.W.Frag} {H : Hp} : ∀ ws : List Str, DpAll K H (ws.map V.str) (ws.map PyData.str)
  | [] => .nil
  | x :: ws => .cons (.str x) (dp_strs ws)
theorem dp_strL {K : PySem.W.Frag} {H : Hp} {p : Addr} {ws : List Str} (h : H p = some (.lst (ws.map V.str))) : Dp K H (.ref p) (.list (ws.map PyData.str)) := .lst (SqL.of h) (dp_strs ws)
theorem same_ins {H H1 H' : Hp} {x dx C : Addr} (s : Same H H1) (nx : H1 x = none) (nd : H1 dx = none) (k : ∀ c o, upd (upd H1 dx (.own x)) x (.ins C dx []) c = some o → c ≠ x → H' c = some o) : Same H H' := fun c o e => by
  have z := s _ _ e
  refine k c o ?_ (ne_of_none z nx)
  rw [upd_ne (ne_of_none z nx), upd_ne (ne_of_none z nd)]
  exact z
def spWr (C : Addr) : Sp := fun vs H Q _ => ∃ (r : Addr) (n : Int) (ms ss : List Int), vs = [.ref r] ∧ RowAt C H r n ms ss ∧ Nm n ∧ Mk3 ms ss (n - 1) ∧ ∀ H', Same H H' → Q (.str (rowT n ms ss)) H'
def spWs : Sp := fun vs H Q _ => ∃ (t : Addr) (l m g : Int), vs = [.ref t] ∧ H t = some (.tup [.int l, .int m, .int g]) ∧ Nm l ∧ Nm m ∧ Nm g ∧ Q (.str (setT l m g)) H
def spWc : Sp := fun vs H Q _ => ∃ (t a c : Addr) (b e n hi : Int) (ms ss : List Int), vs = [.ref t] ∧ H t = some (.tup [.int b, .int e, .int n, .ref a, .ref c]) ∧ IL H a ms ∧ IL H c ss ∧ Nm b ∧ Nm e ∧ Nm n ∧ Mk3 ms ss hi ∧ ∀ H', Same H H' → Q (.str (chgT b e n ms ss)) H'
def spRm : Sp := fun vs H Q _ => ∃ (a : Addr) (pre : List Str) (hi : Int) (ms ss : List Int), vs = [.ref a, .int (pre.length : Nat), .int hi] ∧ H a = some (.lst ((pre ++ ms.map (mw ss)).map V.str)) ∧ pre.length ≤ 10 ∧ Mk3 ms ss hi ∧
  ∀ (H' : Hp) (t x y : Addr), Same H H' → H t = none → H x = none → H y = none → x ≠ y → H' t = some (.tup [.ref x, .ref y]) → IL H' x ms → IL H' y ss → Q (.ref t) H'
def spRr (C : Addr) : Sp := fun vs H Q _ => ∃ (n : Int) (ms ss : List Int), vs = [.str (rowT n ms ss)] ∧ Nm n ∧ Mk3 ms ss (n - 1) ∧ 1 ≤ n ∧ ∀ H' p, Same H H' → RowNew C H H' p n ms ss → Q (.ref p) H'
def spRg : Sp := fun vs H Q _ => ∃ l m g : Int, vs = [.str (setT l m g)] ∧ Nm l ∧ Nm m ∧ Nm g ∧ SetOk l m g ∧ ∀ H' p, Same H H' → H p = none → H' p = some (.tup [.int l, .int m, .int g]) → Q (.ref p) H'
def spRch : Sp := fun vs H Q _ => ∃ (b e n : Int) (ms ss : List Int), vs = [.str (chgT b e n ms ss)] ∧ Nm b ∧ Nm e ∧ b ≤ e ∧ Nm n ∧ Mk3 ms ss n ∧
  ∀ (H' : Hp) (t x y : Addr), Same H H' → H t = none → H x = none → H y = none → x ≠ y → H' t = some (.tup [.int b, .int e, .int n, .ref x, .ref y]) → IL H' x ms → IL H' y ss → Q (.ref t) H'
section
variable {P : Program} {w : World} {K : PySem.W.Frag} {mg : Str → Option Value} {base : Heap}
abbrev NWr : List Str := ["row"]
theorem scWr : FnScope NWr ["row"] (defScope sWr) := ⟨rfl, rfl, rfl, by decide +kernel, rfl, by decide +kernel, by decide +kernel⟩
theorem ok_wr {f C fW pL fGL pM fGM pS fGS : Addr} {fd fdW dL dM dS : FuncData} (F : Fun K "write_row" "write_row" sWr f fd) (T : Bl mg) (R : Cl K mg C) (Gs : Gets P w K mg base C pL fGL pM fGM pS fGS dL dM dS)
    (gW : mg "mark_words" = some (.ref fW)) (kW : PySem.W.keepIn K (.ref fW) = true) (bW : Binds K fdW ["marks", "strict"] []) (GW : FnOk P w K mg base CX0 1 fW fdW ["marks", "strict"] spMw) :
    FnOk P w K mg base CX0 3 f fd ["row"] (spWr C) := by
  refine F.ok scWr (fun vs H Q E h => ?_) (fun cdv A outer s H vs Q E hr h => ?_)
  · obtain ⟨r, n, ms, ss, rfl, _⟩ := h
    rfl
  · obtain ⟨r, n, ms, ss, rfl, row, N, M3, q⟩ := h
    refine ⟨_, (pss_one (ps_ret (pe_join pe_str (pe_op op_cat (pe_lst (pa_cons (pe_joined (.cons (pe_fmt (pe_prop (pv 0) R.cl Gs.hL Gs.GL (hr.mono (by decide)) Gs.bL .nil pass0 rfl)) (.cons pe_str .nil))) pa_nil)) (pe_call GW (hr.mono (by decide)) rfl gW kW bW .nil pass0 (pa_cons (pe_prop (pv 0) R.cl Gs.hM Gs.GM (hr.mono (by decide)) Gs.bM .nil pass0 rfl) (pa_cons (pe_prop (pv 0) R.cl Gs.hS Gs.GS (hr.mono (by decide)) Gs.bS .nil pass0 rfl) pa_nil))))))), ?_⟩
    obtain ⟨dx, l1, l2, ho, _, _⟩ := id row
    have nl := N.len
    have cl : (":" : Str).length = 1 := by decide +kernel
    refine ⟨⟨_, rfl⟩, _, rfl, r, dx, _, rfl, ho, r, n, ms, ss, rfl, row, .inr ⟨n, rfl, N.log, _, rfl, ?_, _, rfl, ?_, ?_⟩⟩
    · rw [emp_app]
      exact Nat.le_of_lt (small1000 (by show (num n).length ≤ 1000; omega))
    · rw [emp_app, PySem.strLen_append, cl]
      exact Nat.le_of_lt (small1000 (by show (num n).length + 1 ≤ 1000; omega))
    rw [emp_app]
    show _ ∧ _
    refine ⟨small1000 (by show (0 : Nat) ≤ 1000; decide), fun p hp => ?_⟩
    have s1 := same_new (o := .lst [.str (num n ++ ":")]) (Same.refl H) hp
    have kp : upd H p (.lst [.str (num n ++ ":")]) p = some (.lst ([num n ++ ":"].map V.str)) := upd_same
    generalize upd H p (.lst [.str (num n ++ ":")]) = H1 at s1 kp ⊢
    have row1 := row.same s1
    have ho := s1 _ _ ho
    refine ⟨_, rfl, r, dx, _, rfl, ho, r, n, ms, ss, rfl, row1, fun c1 H2 s2 nc1 ic1 => ?_⟩
    have row2 := row1.same s2
    refine ⟨_, rfl, r, dx, _, rfl, s2 _ _ ho, r, n, ms, ss, rfl, row2, fun c2 H3 s3 nc2 ic2 => ?_⟩
    refine ⟨c1, c2, ms, ss, rfl, s3 _ _ ic1, ic2, M3.len, M3.len2, M3.nm, fun H4 w s4 nw kw => ?_⟩
    refine ⟨_, _, _, _, rfl, rfl, s4 _ _ (s3 _ _ (s2 _ _ kp)), kw, ?_, fun v hv => ?_⟩
    · have := M3.len
      simp only [List.length_map, List.length_cons, List.length_nil]
      exact Nat.le_of_lt (small1000 (by omega))
    rw [← List.map_append]
    refine ⟨_, v, [num n ++ ":"] ++ ms.map (mw ss), rfl, rfl, .inl (SqL.of upd_same), mk_txt M3 (by decide +kernel) (by show 1 ≤ 10; decide) fun y hy => ?_, ?_⟩
    · rw [List.mem_singleton.mp hy]
      have := num1_len N ":" (by rw [cl]; decide)
      omega
    · exact q _ (same_new (s1.trans (s2.trans (s3.trans s4))) hv)
abbrev NWs : List Str := ["settings", "least", "normal", "greatest"]
theorem scWs : FnScope NWs ["settings"] (defScope sWs) := ⟨rfl, rfl, rfl, by decide +kernel, rfl, by decide +kernel, by decide +kernel⟩
theorem ok_ws {f : Addr} {fd : FuncData} (F : Fun K "write_settings" "write_settings" sWs f fd) :
    FnOk P w K mg base CX0 1 f fd ["settings"] (spWs) := by
  refine F.ok scWs (fun vs H Q E h => ?_) (fun cdv A outer s H vs Q E hr h => ?_)
  · obtain ⟨t, l, m, g, rfl, _⟩ := h
    rfl
  · obtain ⟨t, l, m, g, rfl, ht, N1, N2, N3, q⟩ := h
    refine ⟨_, (pss_cons (ps_asg (pv 0) (pg_tup rfl (pgs_cons (pg_name (i := 1) scWs.nd rfl (Or.inl rfl)) (pgs_cons (pg_name (i := 2) scWs.nd rfl (Or.inl rfl)) (pgs_cons (pg_name (i := 3) scWs.nd rfl (Or.inl rfl)) pgs_nil)))))
        (pss_one (ps_ret (pe_joined (.cons (pe_fmt (pv 1)) (.cons pe_str (.cons (pe_fmt (pv 2)) (.cons pe_str (.cons (pe_fmt (pv 3)) .nil))))))))), ?_⟩
    have l1 : (Str.ofString (toString l)).length ≤ 30 := N1.len.2
    have l2 : (Str.ofString (toString m)).length ≤ 30 := N2.len.2
    have l3 : (Str.ofString (toString g)).length ≤ 30 := N3.len.2
    have hl : ("-" : Str).length = 1 := by decide +kernel
    refine ⟨_, rfl, t, _, rfl, SqT.of ht, rfl, _, _, rfl, _, _, rfl, _, _, rfl, rfl, ?_⟩
    try dsimp only [L2.start, List.set, List.map, List.append, List.replicate, List.length]
    refine ⟨_, rfl, .inr ⟨l, rfl, N1.log, _, rfl, ?_, _, rfl, ?_, _, rfl, .inr ⟨m, rfl, N2.log, _, rfl, ?_, _, rfl, ?_, _, rfl, .inr ⟨g, rfl, N3.log, _, rfl, ?_, ?_⟩⟩⟩⟩
    iterate 5
      · rw [emp_app]
        try simp only [PySem.strLen_append, hl]
        exact Nat.le_of_lt (small1000 (by omega))
    rw [emp_app]
    exact q
abbrev NWc : List Str := ["change", "begin", "end", "length", "marks", "strict"]
theorem scWc : FnScope NWc ["change"] (defScope sWc) := ⟨rfl, rfl, rfl, by decide +kernel, rfl, by decide +kernel, by decide +kernel⟩
theorem ok_wc {f fW : Addr} {fd fdW : FuncData} (F : Fun K "write_change" "write_change" sWc f fd) (T : Bl mg)
    (gW : mg "mark_words" = some (.ref fW)) (kW : PySem.W.keepIn K (.ref fW) = true) (bW : Binds K fdW ["marks", "strict"] []) (GW : FnOk P w K mg base CX0 1 fW fdW ["marks", "strict"] spMw) :
    FnOk P w K mg base CX0 2 f fd ["change"] (spWc) := by
  refine F.ok scWc (fun vs H Q E h => ?_) (fun cdv A outer s H vs Q E hr h => ?_)
  · obtain ⟨t, a, c, b, e, n, hi, ms, ss, rfl, _⟩ := h
    rfl
  · obtain ⟨t, a, c, b, e, n, hi, ms, ss, rfl, ht, ha, hc, N1, N2, N3, M3, q⟩ := h
    refine ⟨_, (pss_cons (ps_asg (pv 0) (pg_tup rfl (pgs_cons (pg_name (i := 1) scWc.nd rfl (Or.inl rfl)) (pgs_cons (pg_name (i := 2) scWc.nd rfl (Or.inl rfl)) (pgs_cons (pg_name (i := 3) scWc.nd rfl (Or.inl rfl)) (pgs_cons (pg_name (i := 4) scWc.nd rfl (Or.inl rfl)) (pgs_cons (pg_name (i := 5) scWc.nd rfl (Or.inl rfl)) pgs_nil)))))))
        (pss_one (ps_ret (pe_join pe_str (pe_op op_cat (pe_lst (pa_cons (pe_joined (.cons (pe_fmt (pv 1)) (.cons pe_str (.cons (pe_fmt (pv 2)) .nil)))) (pa_cons pe_str (pa_cons (pe_joined (.cons (pe_fmt (pv 3)) (.cons pe_str .nil))) pa_nil)))) (pe_call GW (hr.mono (by decide)) rfl gW kW bW .nil pass0 (pa_cons (pv 4) (pa_cons (pv 5) pa_nil)))))))), ?_⟩
    have l1 : (Str.ofString (toString b)).length ≤ 30 := N1.len.2
    have l2 : (Str.ofString (toString e)).length ≤ 30 := N2.len.2
    have l3 : (Str.ofString (toString n)).length ≤ 30 := N3.len.2
    have hl : ("-" : Str).length = 1 := by decide +kernel
    have cl : (":" : Str).length = 1 := by decide +kernel
    refine ⟨_, rfl, t, _, rfl, SqT.of ht, rfl, _, _, rfl, _, _, rfl, _, _, rfl, _, _, rfl, _, _, rfl, rfl, ?_⟩
    try dsimp only [L2.start, List.set, List.map, List.append, List.replicate, List.length]
    refine ⟨⟨_, rfl⟩, _, rfl, .inr ⟨b, rfl, N1.log, _, rfl, ?_, _, rfl, ?_, _, rfl, .inr ⟨e, rfl, N2.log, _, rfl, ?_, ?_⟩⟩⟩
    iterate 3
      · rw [emp_app]
        try simp only [PySem.strLen_append, hl]
        exact Nat.le_of_lt (small1000 (by omega))
    refine ⟨_, rfl, .inr ⟨n, rfl, N3.log, _, rfl, ?_, _, rfl, ?_, ?_⟩⟩
    iterate 2
      · rw [emp_app]
        try simp only [PySem.strLen_append, cl]
        exact Nat.le_of_lt (small1000 (by omega))
    rw [emp_app, emp_app]
    show _ ∧ _
    refine ⟨small1000 (by show (2 : Nat) ≤ 1000; decide), fun p hp => ?_⟩
    have s1 := same_new (o := .lst [.str (num b ++ "-" ++ num e), .str "by", .str (num n ++ ":")]) (Same.refl H) hp
    have kp : upd H p (.lst [.str (num b ++ "-" ++ num e), .str "by", .str (num n ++ ":")]) p = some (.lst ([num b ++ "-" ++ num e, "by", num n ++ ":"].map V.str)) := upd_same
    generalize upd H p (.lst [.str (num b ++ "-" ++ num e), .str "by", .str (num n ++ ":")]) = H1 at s1 kp ⊢
    refine ⟨_, rfl, _, rfl, a, c, ms, ss, rfl, s1 _ _ ha, s1 _ _ hc, M3.len, M3.len2, M3.nm, fun H4 w s4 nw kw => ?_⟩
    refine ⟨_, _, _, _, rfl, rfl, s4 _ _ kp, kw, ?_, fun v hv => ?_⟩
    · have := M3.len
      simp only [List.length_map, List.length_cons, List.length_nil]
      exact Nat.le_of_lt (small1000 (by omega))
    rw [← List.map_append]
    refine ⟨_, v, [num b ++ "-" ++ num e, "by", num n ++ ":"] ++ ms.map (mw ss), rfl, rfl, .inl (SqL.of upd_same), mk_txt M3 (by decide +kernel) (by show 3 ≤ 10; decide) fun y hy => ?_, ?_⟩
    · simp only [List.mem_cons, List.not_mem_nil, or_false] at hy
      rcases hy with rfl | rfl | rfl
      · simp only [PySem.strLen_append, hl]
        change (Str.ofString (toString b)).length + 1 + (Str.ofString (toString e)).length ≤ 100
        omega
      · decide +kernel
      · simp only [PySem.strLen_append, cl]
        change (Str.ofString (toString n)).length + 1 ≤ 100
        omega
    · exact q _ (same_new (s1.trans s4) hv)
abbrev NRm : List Str := ["words", "begin", "high", "marks", "strict", "low", "at", "is_strict", "mark"]
theorem scRm : FnScope NRm ["words", "begin", "high"] (defScope sRm) := ⟨rfl, rfl, rfl, by decide +kernel, rfl, by decide +kernel, by decide +kernel⟩
theorem ok_rm {f fN : Addr} {fd fdN : FuncData} (F : Fun K "read_marks" "read_marks" sRm f fd) {tMM : Tok} (T : Bl mg) (gMM : mg "MOST_MARKS" = some (.int 400 tMM))
    (gN : mg "read_number" = some (.ref fN)) (kN : PySem.W.keepIn K (.ref fN) = true) (bN : Binds K fdN ["word"] []) (GN : FnOk P w K mg base CX0 1 fN fdN ["word"] spRn) :
    FnOk P w K mg base CX0 2 f fd ["words", "begin", "high"] (spRm) := by
  refine F.ok scRm (fun vs H Q E h => ?_) (fun cdv A outer s H vs Q E hr h => ?_)
  · obtain ⟨a, pre, hi, ms, ss, rfl, _⟩ := h
    rfl
  · obtain ⟨a, pre, hi, ms, ss, rfl, hw, few, M3, q⟩ := h
    refine ⟨_, (pss_cons (ps_set (i := 3) scRm.nd rfl (Or.inl rfl) (pe_lst pa_nil))
        (pss_cons (ps_set (i := 4) scRm.nd rfl (Or.inl rfl) (pe_lst pa_nil))
        (pss_cons (ps_set (i := 5) scRm.nd rfl (Or.inl rfl) pe_int)
        (pss_cons (ps_for PassesOwn.never rfl (pi_range2 (by rfl) T.range (pa_cons (pv 1) (pa_cons (pe_callB call_len_seq (by rfl) T.len PySem.boot_len (pa_cons (pv 0) pa_nil)) pa_nil))) (pg_name (i := 6) scRm.nd rfl (Or.inl rfl))
        (pss_cons (ps_set (i := 7) scRm.nd rfl (Or.inl rfl) (pe_m1 PySem.F.slot_str_endswith PySem.F.type_str_endswith mt_endswith (pe_ix (r := rIxL K) ix_list (pv 0) (pv 6) (fun _ _ => rfl)) pe_str))
        (pss_cons (ps_set (i := 8) scRm.nd rfl (Or.inl rfl) (pe_call GN (hr.mono (by decide)) rfl gN kN bN .nil pass0 (pa_cons (pe_ifExp (pt_val (pv 7)) (pe_slice sl_str (pe_ix (r := rIxL K) ix_list (pv 0) (pv 6) (fun _ _ => rfl)) po_none (po_some (pe_un un_neg pe_int))) (pe_ix (r := rIxL K) ix_list (pv 0) (pv 6) (fun _ _ => rfl))) pa_nil)))
        (pss_cons (ps_if (PW.pt (pw_or (pt_cmpR op_isN (pv 8) pe_non (nomark _)) (pw_or (pt_not (pt_chain op_le op_le (pv 5) (pv 8) (pv 2))) (pw_or1 (pt_cmpR op_eq (pe_callB call_len_seq (by rfl) T.len PySem.boot_len (pa_cons (pv 3) pa_nil)) (pe_glob (by rfl) gMM (v := V.int 400) ⟨_, rfl⟩) (nomark _)))))) pss_never pss_nil)
        (pss_cons (ps_expr (pe_bm PySem.F.plainAttrs_list PySem.F.slot_list_append PySem.F.type_list_append mt_append (pv 3) (pa_cons (pv 8) pa_nil)))
        (pss_cons (ps_if (pt_val (pv 7)) (pss_one (ps_expr (pe_bm PySem.F.plainAttrs_list PySem.F.slot_list_append PySem.F.type_list_append mt_append (pv 4) (pa_cons (pv 8) pa_nil)))) pss_nil)
        (pss_one (ps_set (i := 5) scRm.nd rfl (Or.inl rfl) (pe_op op_add (pv 8) pe_int)))))))))
        (pss_one (ps_ret (pe_tup (pa_cons (pv 3) (pa_cons (pv 4) pa_nil))))))))), ?_⟩
    refine ⟨Nat.zero_le _, fun x hx => ?_⟩
    have s1 := same_new (o := .lst []) (Same.refl H) hx
    have kx : IL (upd H x (.lst [])) x (ms.take 0) := upd_same
    generalize upd H x (.lst []) = H1 at s1 kx ⊢
    refine ⟨Nat.zero_le _, fun y hy => ?_⟩
    have s2 := same_new (o := .lst []) s1 hy
    have ky : IL (upd H1 y (.lst [])) y ((ms.take 0).filter fun z => decide (z ∈ ss)) := upd_same
    have nxy : x ≠ y := ne_of_none kx hy
    have kx : IL (upd H1 y (.lst [])) x (ms.take 0) := by
      show upd _ _ _ x = _
      rw [upd_ne nxy]
      exact kx
    have nx := hx
    have ny := s1.free hy
    generalize upd H1 y (.lst []) = H2 at s2 kx ky ⊢
    have lm := M3.len
    have ll : ((pre ++ ms.map (mw ss)).map V.str).length = pre.length + ms.length := by simp
    try dsimp only [L2.start, List.set, List.map, List.append, List.replicate, List.length]
    refine ⟨_, rfl, _, rfl, a, _, rfl, .inl (SqL.of (s2 _ _ hw)), _, _, rfl, ?_⟩
    refine ⟨⟨by omega, by omega, by rw [ll]; omega, by rw [ll]; omega⟩, for_range (lo := (pre.length : Int)) (n := Int.toNat _) (fun i σ H' => ∃ v6 v7 v8 : Option V, σ = [some (.ref a), some (.int (pre.length : Nat)), some (.int hi), some (.ref x), some (.ref y), some (.int ((0 :: ms).getD i 0 + 1)), v6, v7, v8] ∧ Same H H' ∧ IL H' x (ms.take i) ∧ IL H' y ((ms.take i).filter fun z => decide (z ∈ ss))) ⟨none, none, none, rfl, s2, kx, ky⟩ ?_ ?_⟩
    · rintro i σ H' hi' ⟨v6, v7, v8, rfl, s3, kx, ky⟩
      have il : i < ms.length := by
        rw [ll] at hi'
        omega
      have hz : ms[i]? = some ms[i] := List.getElem?_eq_getElem il
      generalize ms[i] = z at hz
      have mz := List.mem_of_getElem? hz
      have N := M3.nm z mz
      have rz := M3.rng z mz
      have el : tl ("!" : Str) = [33] := by decide +kernel
      have at1 : atI ((pre ++ ms.map (mw ss)).map V.str) ((pre.length : Int) + (i : Int)) = some (V.str (mw ss z)) := at_of2 (j := pre.length + i) (by omega) (by
        rw [List.getElem?_map, List.getElem?_append_right (by omega), Nat.add_sub_cancel_left, List.getElem?_map, hz]
        rfl)
      have wl := mw_len (ss := ss) N.lo N.hi
      have hw3 := s3 _ _ hw
      have low : (0 :: ms).getD i 0 + 1 ≤ z := by
        cases i with
        | zero => exact rz.1
        | succ i =>
          have h0 : ms[i]? = some ms[i] := List.getElem?_eq_getElem (by omega)
          have e : (0 :: ms).getD (i + 1) 0 = ms[i] := by
            show ms.getD i 0 = _
            rw [List.getD_eq_getElem?_getD, h0]
            rfl
          have := List.pairwise_iff_getElem.mp M3.asc i (i + 1) (by omega) il (Nat.lt_succ_self i)
          rw [List.getElem?_eq_getElem il] at hz
          have hz := Option.some.inj hz
          rw [e]
          omega
      have e2 : (0 :: ms).getD (i + 1) 0 + 1 = z + 1 := by
        show ms.getD i 0 + 1 = _
        rw [List.getD_eq_getElem?_getD, hz]
        rfl
      have ew : Txt.endswith (mw ss z) "!" = decide (z ∈ ss) := by
        unfold mw
        by_cases c : z ∈ ss
        · rw [if_pos c, ends_yes el, decide_eq_true c]
        · rw [if_neg c, ends_no el (num_free N.lo (.inl (by decide))), decide_eq_false c]
      refine ⟨_, rfl, _, rfl, a, _, _, _, rfl, rfl, SqL.of hw3, at1, ⟨_, rfl⟩, _, _, rfl, rfl, ?_⟩
      try dsimp only [L2.start, List.set, List.map, List.append, List.replicate, List.length]
      apply rest_of1 (C := fun H4 => Same H' H4)
      · intro rest
        refine ⟨_, rfl, _, rfl, ?_⟩
        by_cases c : z ∈ ss
        · refine ifT (ew.trans (decide_eq_true c)) ?_
          refine ⟨_, rfl, _, rfl, a, _, _, _, rfl, rfl, SqL.of hw3, at1, _, rfl, _, rfl, _, rfl, Nat.le_of_lt (small1000 (by omega)), z, ?_, N, fun H4 s4 => rest H4 s4⟩
          have e : mw ss z = num z ++ "!" := by unfold mw; rw [if_pos c]
          rw [e, cut_end el]
          rfl
        · refine ifF (ew.trans (decide_eq_false c)) ?_
          refine ⟨_, rfl, _, rfl, a, _, _, _, rfl, rfl, SqL.of hw3, at1, z, ?_, N, fun H4 s4 => rest H4 s4⟩
          have e : mw ss z = num z := by unfold mw; rw [if_neg c]
          rw [e]
          rfl
      intro H4 s4
      have kx := s4 _ _ kx
      have ky := s4 _ _ ky
      have s34 := s3.trans s4
      try dsimp only [L2.start, List.set, List.map, List.append, List.replicate, List.length]
      refine ⟨_, rfl, rfl, _, rfl, ?_⟩
      refine ifF (decide_eq_false fun z => nomatch z) ?_
      refine ⟨_, rfl, _, rfl, _, _, rfl, rfl, _, rfl, ?_⟩
      refine ifT (decide_eq_true low) ?_
      refine ⟨_, rfl, _, _, rfl, rfl, _, rfl, ?_⟩
      refine ifF (by rw [decide_eq_true rz.2]; rfl) ?_
      refine ⟨_, rfl, x, _, rfl, .inl (SqL.of kx), rfl, _, rfl, ?_⟩
      refine ifF (decide_eq_false fun z => by have z := V.int.inj z; rw [List.length_map, List.length_take] at z; omega) ?_
      refine ⟨_, rfl, .inl ⟨rfl, _, SqL.of kx⟩, _, rfl, x, _, _, rfl, rfl, kx, by rw [List.length_map, List.length_take]; exact small1000 (by omega), ?_⟩
      have sx := same_put (o := .lst ((ms.take i).map V.int ++ [V.int z])) s34 nx
      have kx' : IL (upd H4 x (.lst ((ms.take i).map V.int ++ [V.int z]))) x (ms.take (i + 1)) := by
        show upd _ _ _ x = _
        rw [upd_same, map_take_snoc V.int hz]
      have ky' : IL (upd H4 x (.lst ((ms.take i).map V.int ++ [V.int z]))) y ((ms.take i).filter fun z => decide (z ∈ ss)) := by
        show upd _ _ _ y = _
        rw [upd_ne (Ne.symm nxy)]
        exact ky
      generalize upd H4 x (.lst ((ms.take i).map V.int ++ [V.int z])) = H5 at sx kx' ky' ⊢
      have lf : ((ms.take i).filter fun z => decide (z ∈ ss)).length ≤ 400 := by
        have := List.length_filter_le (fun z => decide (z ∈ ss)) (ms.take i)
        rw [List.length_take] at this
        omega
      have tk : ms.take (i + 1) = ms.take i ++ [z] := by
        rw [List.take_succ_eq_append_getElem il]
        rw [List.getElem?_eq_getElem il] at hz
        rw [Option.some.inj hz]
      try dsimp only [L2.start, List.set, List.map, List.append, List.replicate, List.length]
      refine ⟨_, rfl, _, rfl, ?_⟩
      by_cases c : z ∈ ss
      · refine ifT (ew.trans (decide_eq_true c)) ?_
        refine ⟨_, rfl, .inl ⟨rfl, _, SqL.of ky'⟩, _, rfl, y, _, _, rfl, rfl, ky', by rw [List.length_map]; exact small1000 (by omega), ?_⟩
        refine ⟨_, rfl, _, _, rfl, rfl, _, _, _, by rw [e2]; rfl, same_put sx ny, ?_, ?_⟩
        · show upd _ _ _ x = _
          rw [upd_ne nxy]
          exact kx'
        · show upd _ _ _ y = _
          rw [upd_same, tk, List.filter_append, List.filter_cons_of_pos (by simpa using c), List.map_append]
          rfl
      · refine ifF (ew.trans (decide_eq_false c)) ?_
        refine ⟨_, rfl, _, _, rfl, rfl, _, _, _, by rw [e2]; rfl, sx, kx', ?_⟩
        rw [tk, List.filter_append, List.filter_cons_of_neg (by simpa using c), List.filter_nil, List.append_nil]
        exact ky'
    · rintro σ H' ⟨v6, v7, v8, rfl, s3, kx, ky⟩
      have e : Int.toNat (((((pre ++ ms.map (mw ss)).map V.str).length : Nat) : Int) - (pre.length : Nat)) = ms.length := by
        rw [ll]
        omega
      rw [e, List.take_length] at kx ky
      rw [M3.fil] at ky
      refine ⟨_, rfl, _, rfl, (by show 2 ≤ sizeLine; decide), fun t ht => ?_⟩
      have s4 := same_new (o := .tup [.ref x, .ref y]) (Same.refl H') ht
      exact q _ t x y (same_new s3 ht) (s3.free ht) nx ny nxy upd_same (s4 _ _ kx) (s4 _ _ ky)
abbrev NRr : List Str := ["text", "words", "length", "marks", "strict"]
theorem scRr : FnScope NRr ["text"] (defScope sRr) := ⟨rfl, rfl, rfl, by decide +kernel, rfl, by decide +kernel, by decide +kernel⟩
theorem ok_rr {f C fC fM fI : Addr} {fd fdC fdM fdI : FuncData} (F : Fun K "read_row" "read_row" sRr f fd) (T : Bl mg) (R : Cl K mg C) (M : Mk K C fI) (bI : Binds K fdI NI []) (GI : FnOk P w K mg base CX0 5 fI fdI NI (spInit C))
    (gC : mg "read_count" = some (.ref fC)) (kC : PySem.W.keepIn K (.ref fC) = true) (bC : Binds K fdC ["word"] []) (GC : FnOk P w K mg base CX0 2 fC fdC ["word"] spRc)
    (gM : mg "read_marks" = some (.ref fM)) (kM : PySem.W.keepIn K (.ref fM) = true) (bM : Binds K fdM ["words", "begin", "high"] []) (GM : FnOk P w K mg base CX0 2 fM fdM ["words", "begin", "high"] spRm) :
    FnOk P w K mg base CX0 7 f fd ["text"] (spRr C) := by
  refine F.ok scRr (fun vs H Q E h => ?_) (fun cdv A outer s H vs Q E hr h => ?_)
  · obtain ⟨n, ms, ss, rfl, _⟩ := h
    rfl
  · obtain ⟨n, ms, ss, rfl, N, M3, n1, q⟩ := h
    refine ⟨_, (pss_cons (ps_set (i := 1) scRr.nd rfl (Or.inl rfl) (pe_split (pv 0) pe_str))
        (pss_cons (ps_set (i := 2) scRr.nd rfl (Or.inl rfl) (pe_call GC (hr.mono (by decide)) rfl gC kC bC .nil pass0 (pa_cons (pe_ix (r := rIxL K) ix_list (pv 1) pe_int (fun _ _ => rfl)) pa_nil)))
        (pss_cons (ps_if (PW.pt (pw_or (pt_cmpR op_isN (pv 2) pe_non (nomark _)) (pw_or1 (pt_cmpR op_lt (pv 2) pe_int (nomark _))))) pss_never pss_nil)
        (pss_cons (ps_asg (pe_call GM (hr.mono (by decide)) rfl gM kM bM .nil pass0 (pa_cons (pv 1) (pa_cons pe_int (pa_cons (pe_op op_sub (pv 2) pe_int) pa_nil)))) (pg_tup rfl (pgs_cons (pg_name (i := 3) scRr.nd rfl (Or.inl rfl)) (pgs_cons (pg_name (i := 4) scRr.nd rfl (Or.inl rfl)) pgs_nil))))
        (pss_one (ps_ret (pe_make M GI (hr.mono (by decide)) rfl R.mgR bI .nil pass0 (pa_cons (pv 2) (pa_cons (pv 3) (pa_cons (pv 4) pa_nil)))))))))), ?_⟩
    have cl : (":" : Str).length = 1 := by decide +kernel
    have bl : (" " : Str).length = 1 := by decide +kernel
    have lm := M3.len
    have fa : 32 ∉ tl (num n ++ ":") := free1 N (by decide +kernel)
    have tlen := txt_len (a := num n ++ ":") (ws := ms.map (mw ss)) (n := 400) (by have := num1_len N ":" (by rw [cl]; decide); omega) (by rw [List.length_map]; exact lm) M3.wlen
    refine ⟨_, rfl, ⟨_, rfl⟩, _, _, rfl, rfl, by rw [bl]; rfl, by rw [sizeLine_eq]; show (txt _ _).length + 2 ≤ _; omega, fun p hp => ?_⟩
    rw [show Txt.split (rowT n ms ss) " " = (num n ++ ":") :: ms.map (mw ss) from split_txt fa M3.free]
    have s1 := same_new (o := .lst (((num n ++ ":") :: ms.map (mw ss)).map V.str)) (Same.refl H) hp
    have kp : upd H p (.lst (((num n ++ ":") :: ms.map (mw ss)).map V.str)) p = some (.lst (([num n ++ ":"] ++ ms.map (mw ss)).map V.str)) := upd_same
    generalize upd H p (.lst (((num n ++ ":") :: ms.map (mw ss)).map V.str)) = H1 at s1 kp ⊢
    try dsimp only [L2.start, List.set, List.map, List.append, List.replicate, List.length]
    refine ⟨_, rfl, p, _, 0, _, rfl, rfl, SqL.of kp, at_of2 (j := 0) rfl rfl, n, rfl, N, fun H2 s2 => ?_⟩
    try dsimp only [L2.start, List.set, List.map, List.append, List.replicate, List.length]
    refine ⟨_, rfl, rfl, _, rfl, ?_⟩
    refine ifF (decide_eq_false fun z => nomatch z) ?_
    refine ⟨_, rfl, _, _, rfl, rfl, _, rfl, ?_⟩
    refine ifF (decide_eq_false (by omega)) ?_
    refine ⟨_, rfl, _, rfl, _, _, rfl, rfl, p, [num n ++ ":"], n - 1, ms, ss, rfl, s2 _ _ kp, by show 1 ≤ 10; decide, M3, fun H3 t x y s3 nt nx ny nxy kt kx ky => ?_⟩
    refine ⟨t, _, rfl, SqT.of kt, rfl, _, _, rfl, _, _, rfl, rfl, ?_⟩
    try dsimp only [L2.start, List.set, List.map, List.append, List.replicate, List.length]
    refine ⟨_, rfl, _, rfl, _, rfl, fun z dz nz nd ne => ?_⟩
    have s9 : Same H3 (upd (upd H3 dz (.own z)) z (.ins C dz [])) := same_new (same_new (Same.refl H3) nd) (by rw [upd_ne (Ne.symm ne)]; exact nz)
    refine ⟨z, dz, x, y, n, ms, ss, rfl, upd_same, s9 _ _ kx, s9 _ _ ky, ⟨n1, lm, M3.rng, M3.asc, M3.asc2, M3.sub⟩, fun H4 rn kp => ⟨rfl, ?_⟩⟩
    have s03 := s1.trans (s2.trans s3)
    exact q H4 z (same_ins s03 nz nd kp) (rn.mono fun c o e => ⟨o, s9 _ _ (s03 _ _ e)⟩)
abbrev NRg : List Str := ["text", "words", "numbers"]
theorem scRg : FnScope NRg ["text"] (defScope sRg) := ⟨rfl, rfl, rfl, by decide +kernel, rfl, by decide +kernel, by decide +kernel⟩
theorem ok_rg {f fN : Addr} {fd fdN : FuncData} (F : Fun K "read_settings" "read_settings" sRg f fd) (T : Bl mg)
    (gN : mg "read_numbers" = some (.ref fN)) (kN : PySem.W.keepIn K (.ref fN) = true) (bN : Binds K fdN ["word", "many"] []) (GN : FnOk P w K mg base CX0 2 fN fdN ["word", "many"] spRs) :
    FnOk P w K mg base CX0 3 f fd ["text"] (spRg) := by
  refine F.ok scRg (fun vs H Q E h => ?_) (fun cdv A outer s H vs Q E hr h => ?_)
  · obtain ⟨l, m, g, rfl, _⟩ := h
    rfl
  · obtain ⟨l, m, g, rfl, N1, N2, N3, S, q⟩ := h
    refine ⟨_, (pss_cons (ps_set (i := 1) scRg.nd rfl (Or.inl rfl) (pe_split (pv 0) pe_str))
        (pss_cons (ps_set (i := 2) scRg.nd rfl (Or.inl rfl) (pe_call GN (hr.mono (by decide)) rfl gN kN bN .nil pass0 (pa_cons (pe_ix (r := rIxL K) ix_list (pv 1) pe_int (fun _ _ => rfl)) (pa_cons pe_int pa_nil))))
        (pss_cons (ps_if (PW.pt (pw_or (pt_cmpR op_isN (pv 2) pe_non (nomark _)) (pw_or1 (pt_not (pt_chain3 op_le op_le op_le pe_int (pe_ix (r := rIxL K) ix_list (pv 2) pe_int (fun _ _ => rfl)) (pe_ix (r := rIxL K) ix_list (pv 2) pe_int (fun _ _ => rfl)) (pe_ix (r := rIxL K) ix_list (pv 2) pe_int (fun _ _ => rfl))))))) pss_never pss_nil)
        (pss_cons (ps_if (pt_cmpR op_gt (pe_callB call_len_seq (by rfl) T.len PySem.boot_len (pa_cons (pv 1) pa_nil)) pe_int (nomark _)) pss_never pss_nil)
        (pss_one (ps_ret (pe_callTy call_tuple_of (by rfl) T.tuple (by decide +kernel) (pa_cons (pv 2) pa_nil)))))))), ?_⟩
    have bl : (" " : Str).length = 1 := by decide +kernel
    have hl : ("-" : Str).length = 1 := by decide +kernel
    have l1 : (Str.ofString (toString l)).length ≤ 30 := N1.len.2
    have l2 : (Str.ofString (toString m)).length ≤ 30 := N2.len.2
    have l3 : (Str.ofString (toString g)).length ≤ 30 := N3.len.2
    have fr : 32 ∉ tl (setT l m g) := by
      unfold setT
      rw [tl_append, tl_append, tl_append, tl_append]
      simp only [List.mem_append, not_or]
      exact ⟨⟨⟨⟨num_free N1.lo (.inl (by decide)), by decide +kernel⟩, num_free N2.lo (.inl (by decide))⟩, by decide +kernel⟩, num_free N3.lo (.inl (by decide))⟩
    have tlen : (setT l m g).length ≤ 1000 := by
      unfold setT
      simp only [PySem.strLen_append, hl]
      change (Str.ofString (toString l)).length + 1 + (Str.ofString (toString m)).length + 1 + (Str.ofString (toString g)).length ≤ 1000
      omega
    refine ⟨_, rfl, ⟨_, rfl⟩, _, _, rfl, rfl, by rw [bl]; rfl, by rw [sizeLine_eq]; omega, fun p hp => ?_⟩
    have sp : Txt.split (setT l m g) " " = [setT l m g] := by
      have z := split_txt (a := setT l m g) (ws := []) fr (fun _ h => nomatch h)
      rw [txt_nil] at z
      exact z
    rw [sp]
    have s1 := same_new (o := .lst ([setT l m g].map V.str)) (Same.refl H) hp
    have kp : upd H p (.lst ([setT l m g].map V.str)) p = some (.lst ([setT l m g].map V.str)) := upd_same
    generalize upd H p (.lst ([setT l m g].map V.str)) = H1 at s1 kp ⊢
    try dsimp only [L2.start, List.set, List.map, List.append, List.replicate, List.length]
    refine ⟨_, rfl, p, _, 0, _, rfl, rfl, SqL.of kp, at_of2 (j := 0) rfl rfl, l, [m, g], by rw [setT_join]; rfl, fun x hx => ?_, by show 3 ≤ 100; decide, fun H2 c s2 nc ic => ?_⟩
    · simp only [List.mem_cons, List.not_mem_nil, or_false] at hx
      rcases hx with rfl | rfl | rfl
      · exact N1
      · exact N2
      · exact N3
    have l1 := S.l1
    have lm := S.lm
    have mg' := S.mg
    try dsimp only [L2.start, List.set, List.map, List.append, List.replicate, List.length]
    refine ⟨_, rfl, rfl, _, rfl, ?_⟩
    refine ifF (decide_eq_false fun z => nomatch z) ?_
    refine ⟨_, rfl, c, _, 0, _, rfl, rfl, SqL.of ic, at_of2 (j := 0) rfl rfl, _, _, rfl, rfl, _, rfl, ?_⟩
    refine ifT (decide_eq_true l1) ?_
    refine ⟨_, rfl, c, _, 1, _, rfl, rfl, SqL.of ic, at_of2 (j := 1) rfl rfl, _, _, rfl, rfl, _, rfl, ?_⟩
    refine ifT (decide_eq_true lm) ?_
    refine ⟨_, rfl, c, _, 2, _, rfl, rfl, SqL.of ic, at_of2 (j := 2) rfl rfl, _, _, rfl, rfl, _, rfl, ?_⟩
    refine ifF (by rw [decide_eq_true mg']; rfl) ?_
    refine ⟨_, rfl, p, _, rfl, .inl (SqL.of (s2 _ _ kp)), _, _, rfl, rfl, _, rfl, ?_⟩
    refine ifF (by simp) ?_
    refine ⟨_, rfl, c, _, rfl, .inl ⟨SqL.of ic, fun t ht => ?_⟩⟩
    exact q _ t (same_new (s1.trans s2) ht) ((s1.trans s2).free ht) upd_same
abbrev NRch : List Str := ["text", "words", "numbers", "length", "marks", "strict"]
theorem scRch : FnScope NRch ["text"] (defScope sRch) := ⟨rfl, rfl, rfl, by decide +kernel, rfl, by decide +kernel, by decide +kernel⟩
theorem ok_rch {f fN fC fM : Addr} {fd fdN fdC fdM : FuncData} (F : Fun K "read_change" "read_change" sRch f fd) (T : Bl mg)
    (gN : mg "read_numbers" = some (.ref fN)) (kN : PySem.W.keepIn K (.ref fN) = true) (bN : Binds K fdN ["word", "many"] []) (GN : FnOk P w K mg base CX0 2 fN fdN ["word", "many"] spRs)
    (gC : mg "read_count" = some (.ref fC)) (kC : PySem.W.keepIn K (.ref fC) = true) (bC : Binds K fdC ["word"] []) (GC : FnOk P w K mg base CX0 2 fC fdC ["word"] spRc)
    (gM : mg "read_marks" = some (.ref fM)) (kM : PySem.W.keepIn K (.ref fM) = true) (bM : Binds K fdM ["words", "begin", "high"] []) (GM : FnOk P w K mg base CX0 2 fM fdM ["words", "begin", "high"] spRm) :
    FnOk P w K mg base CX0 3 f fd ["text"] (spRch) := by
  refine F.ok scRch (fun vs H Q E h => ?_) (fun cdv A outer s H vs Q E hr h => ?_)
  · obtain ⟨b, e, n, ms, ss, rfl, _⟩ := h
    rfl
  · obtain ⟨b, e, n, ms, ss, rfl, N1, N2, le, N3, M3, q⟩ := h
    refine ⟨_, (pss_cons (ps_set (i := 1) scRch.nd rfl (Or.inl rfl) (pe_split (pv 0) pe_str))
        (pss_cons (ps_set (i := 2) scRch.nd rfl (Or.inl rfl) (pe_call GN (hr.mono (by decide)) rfl gN kN bN .nil pass0 (pa_cons (pe_ix (r := rIxL K) ix_list (pv 1) pe_int (fun _ _ => rfl)) (pa_cons pe_int pa_nil))))
        (pss_cons (ps_if (PW.pt (pw_or (pt_cmpR op_isN (pv 2) pe_non (nomark _)) (pw_or1 (pt_cmpR op_gt (pe_ix (r := rIxL K) ix_list (pv 2) pe_int (fun _ _ => rfl)) (pe_ix (r := rIxL K) ix_list (pv 2) pe_int (fun _ _ => rfl)) (nomark _))))) pss_never pss_nil)
        (pss_cons (ps_if (pt_cmpR (op_neD hr.units) (pe_slice sl_list (pv 1) (po_some pe_int) (po_some pe_int)) (pe_lst (pa_cons pe_str pa_nil)) (nomark _)) pss_never pss_nil)
        (pss_cons (ps_set (i := 3) scRch.nd rfl (Or.inl rfl) (pe_ifExp (pt_cmpR op_gt (pe_callB call_len_seq (by rfl) T.len PySem.boot_len (pa_cons (pv 1) pa_nil)) pe_int (nomark _)) (pe_call GC (hr.mono (by decide)) rfl gC kC bC .nil pass0 (pa_cons (pe_ix (r := rIxL K) ix_list (pv 1) pe_int (fun _ _ => rfl)) pa_nil)) pe_non))
        (pss_cons (ps_if (pt_cmpR op_isN (pv 3) pe_non (nomark _)) pss_never pss_nil)
        (pss_cons (ps_asg (pe_call GM (hr.mono (by decide)) rfl gM kM bM .nil pass0 (pa_cons (pv 1) (pa_cons pe_int (pa_cons (pv 3) pa_nil)))) (pg_tup rfl (pgs_cons (pg_name (i := 4) scRch.nd rfl (Or.inl rfl)) (pgs_cons (pg_name (i := 5) scRch.nd rfl (Or.inl rfl)) pgs_nil))))
        (pss_one (ps_ret (pe_tup (pa_cons (pe_ix (r := rIxL K) ix_list (pv 2) pe_int (fun _ _ => rfl)) (pa_cons (pe_ix (r := rIxL K) ix_list (pv 2) pe_int (fun _ _ => rfl)) (pa_cons (pv 3) (pa_cons (pv 4) (pa_cons (pv 5) pa_nil))))))))))))))), ?_⟩
    have bl : (" " : Str).length = 1 := by decide +kernel
    have hl : ("-" : Str).length = 1 := by decide +kernel
    have cl : (":" : Str).length = 1 := by decide +kernel
    have l1 : (Str.ofString (toString b)).length ≤ 30 := N1.len.2
    have l2 : (Str.ofString (toString e)).length ≤ 30 := N2.len.2
    have lm := M3.len
    have fr : 32 ∉ tl (num b ++ "-" ++ num e) := by
      rw [tl_append, tl_append]
      simp only [List.mem_append, not_or]
      exact ⟨⟨num_free N1.lo (.inl (by decide)), by decide +kernel⟩, num_free N2.lo (.inl (by decide))⟩
    have fw : ∀ w ∈ ("by" : Str) :: (num n ++ ":") :: ms.map (mw ss), 32 ∉ tl w := fun w hw => by
      rcases List.mem_cons.mp hw with rfl | hw
      · decide +kernel
      rcases List.mem_cons.mp hw with rfl | hw
      · exact free1 N3 (by decide +kernel)
      · exact M3.free w hw
    have tlen : (chgT b e n ms ss).length ≤ 20000 := by
      have z := txt_len (a := num b ++ "-" ++ num e) (ws := ("by" : Str) :: (num n ++ ":") :: ms.map (mw ss)) (n := 402) (by
        simp only [PySem.strLen_append, hl]
        change (Str.ofString (toString b)).length + 1 + (Str.ofString (toString e)).length ≤ 100
        omega) (by simp only [List.length_cons, List.length_map]; omega) fun w hw => by
          rcases List.mem_cons.mp hw with rfl | hw
          · decide +kernel
          rcases List.mem_cons.mp hw with rfl | hw
          · have := N3.len.2
            rw [PySem.strLen_append, cl]
            omega
          · exact M3.wlen w hw
      exact Nat.le_trans z (by decide)
    refine ⟨_, rfl, ⟨_, rfl⟩, _, _, rfl, rfl, by rw [bl]; rfl, by rw [sizeLine_eq]; omega, fun p hp => ?_⟩
    rw [show Txt.split (chgT b e n ms ss) " " = (num b ++ "-" ++ num e) :: ("by" : Str) :: (num n ++ ":") :: ms.map (mw ss) from split_txt fr fw]
    have s1 := same_new (o := .lst (((num b ++ "-" ++ num e) :: ("by" : Str) :: (num n ++ ":") :: ms.map (mw ss)).map V.str)) (Same.refl H) hp
    have kp : upd H p (.lst (((num b ++ "-" ++ num e) :: ("by" : Str) :: (num n ++ ":") :: ms.map (mw ss)).map V.str)) p = some (.lst (([num b ++ "-" ++ num e, "by", num n ++ ":"] ++ ms.map (mw ss)).map V.str)) := upd_same
    generalize upd H p (.lst (((num b ++ "-" ++ num e) :: ("by" : Str) :: (num n ++ ":") :: ms.map (mw ss)).map V.str)) = H1 at s1 kp ⊢
    have ll : (([num b ++ "-" ++ num e, "by", num n ++ ":"] ++ ms.map (mw ss)).map V.str).length = ms.length + 3 := by simp
    try dsimp only [L2.start, List.set, List.map, List.append, List.replicate, List.length]
    refine ⟨_, rfl, p, _, 0, _, rfl, rfl, SqL.of kp, at_of2 (j := 0) rfl rfl, b, [e], by rw [two_join]; rfl, fun x hx => ?_, by show 2 ≤ 100; decide, fun H2 c s2 nc ic => ?_⟩
    · simp only [List.mem_cons, List.not_mem_nil, or_false] at hx
      rcases hx with rfl | rfl
      · exact N1
      · exact N2
    have kp2 := s2 _ _ kp
    try dsimp only [L2.start, List.set, List.map, List.append, List.replicate, List.length]
    refine ⟨_, rfl, rfl, _, rfl, ?_⟩
    refine ifF (decide_eq_false fun z => nomatch z) ?_
    refine ⟨_, rfl, c, _, 0, _, rfl, rfl, SqL.of ic, at_of2 (j := 0) rfl rfl, _, rfl, c, _, 1, _, rfl, rfl, SqL.of ic, at_of2 (j := 1) rfl rfl, _, _, rfl, rfl, _, rfl, ?_⟩
    refine ifF (decide_eq_false (by omega)) ?_
    refine ⟨_, rfl, 1, rfl, 2, rfl, p, _, rfl, SqL.of kp2, fun d hd => ?_⟩
    rw [show cutV (([num b ++ "-" ++ num e, "by", num n ++ ":"] ++ ms.map (mw ss)).map V.str) (some 1) (some 2) = (["by"] : List Str).map V.str from cut_by _ _ _]
    have s3 := same_new (o := .lst ((["by"] : List Str).map V.str)) s2 hd
    have kd : upd H2 d (.lst ((["by"] : List Str).map V.str)) d = some (.lst ((["by"] : List Str).map V.str)) := upd_same
    have nd' := hd
    have ic := same_new (o := .lst ((["by"] : List Str).map V.str)) (Same.refl H2) hd _ _ ic
    have kp3 := same_new (o := .lst ((["by"] : List Str).map V.str)) (Same.refl H2) hd _ _ kp2
    generalize upd H2 d (.lst ((["by"] : List Str).map V.str)) = H3 at s3 kd ic kp3 ⊢
    refine ⟨small1000 (by show (0 : Nat) ≤ 1000; decide), fun d2 hd2 => ?_⟩
    have s4 := same_new (o := .lst [.str "by"]) s3 hd2
    have kd2 : upd H3 d2 (.lst [.str "by"]) d2 = some (.lst ((["by"] : List Str).map V.str)) := upd_same
    have kd := same_new (o := .lst [.str "by"]) (Same.refl H3) hd2 _ _ kd
    have ic := same_new (o := .lst [.str "by"]) (Same.refl H3) hd2 _ _ ic
    have kp3 := same_new (o := .lst [.str "by"]) (Same.refl H3) hd2 _ _ kp3
    generalize upd H3 d2 (.lst [.str "by"]) = H4 at s4 kd kd2 ic kp3 ⊢
    refine ⟨_, _, dp_strL (ws := ["by"]) kd, dp_strL (ws := ["by"]) kd2, by decide +kernel, by decide +kernel, _, rfl, ?_⟩
    refine ifF (by decide +kernel) ?_
    refine ⟨_, rfl, p, _, rfl, .inl (SqL.of kp3), _, _, rfl, rfl, _, rfl, ?_⟩
    refine ifT (decide_eq_true (by rw [ll]; omega)) ?_
    refine ⟨_, rfl, p, _, 2, _, rfl, rfl, SqL.of kp3, at_of2 (j := 2) rfl rfl, n, rfl, N3, fun H5 s5 => ?_⟩
    have ic := s5 _ _ ic
    have kp3 := s5 _ _ kp3
    try dsimp only [L2.start, List.set, List.map, List.append, List.replicate, List.length]
    refine ⟨_, rfl, rfl, _, rfl, ?_⟩
    refine ifF (decide_eq_false fun z => nomatch z) ?_
    refine ⟨_, rfl, _, rfl, p, [num b ++ "-" ++ num e, "by", num n ++ ":"], n, ms, ss, rfl, kp3, by show 3 ≤ 10; decide, M3, fun H6 t x y s6 nt nx ny nxy kt kx ky => ?_⟩
    have ic := s6 _ _ ic
    have s06 := s1.trans (s4.trans (s5.trans s6))
    refine ⟨t, _, rfl, SqT.of kt, rfl, _, _, rfl, _, _, rfl, rfl, ?_⟩
    try dsimp only [L2.start, List.set, List.map, List.append, List.replicate, List.length]
    refine ⟨_, rfl, c, _, 0, _, rfl, rfl, SqL.of ic, at_of2 (j := 0) rfl rfl, _, rfl, c, _, 1, _, rfl, rfl, SqL.of ic, at_of2 (j := 1) rfl rfl, _, rfl, _, rfl, _, rfl, small1000 (by show (4 : Nat) ≤ 1000; decide), fun v hv => ?_⟩
    have sv := same_new (o := .tup [.int b, .int e, .int n, .ref x, .ref y]) (Same.refl H6) hv
    have s05 := s1.trans (s4.trans s5)
    exact q _ v x y (same_new s06 hv) (s06.free hv) (s05.free nx) (s05.free ny) nxy upd_same (sv _ _ kx) (sv _ _ ky)
end
end Cw
namespace Cw
open PySem PySem.Spec L2 TL
abbrev sNb : Stmt := top 36
abbrev sWo : Stmt := top 37
/-- a text times 0 or 1 -/
theorem op_mul_str {X : Cx} : OpR X (binaryOp .Mult) (fun x y H Q => ∃ (a : Str) (b : Bool), x = .str a ∧ y = .int (if b = true then 1 else 0) ∧ Q (.str (if b = true then a else Str.empty)) H) := by
  intro pins s σ H x y v u Q I rx ry h
  obtain ⟨a, b, rfl, rfl, q⟩ := h
  obtain ⟨t, rfl⟩ := rx
  obtain ⟨t', rfl⟩ := ry
  cases b with
  | false => exact PySem.P.mul_str_none (by decide) (by decide) ⟨.str Str.empty, H, I.tok _, ⟨_, rfl⟩, q⟩
  | true =>
    refine PySem.P.mul_str (by decide) (fun _ z => nomatch z) (fun _ z => nomatch z) ?_
    exact ⟨.str a, H, I, ⟨_, rfl⟩, q⟩
def spDr : Sp := fun vs H Q _ => ∃ (b l : Addr) (w : Int), vs = [.ref b, .int w] ∧ Bag H b l ∧ 0 < w ∧ w < 2 ^ 120 ∧ ∀ (v : Int) (H' : Hp), 0 ≤ v → v < w → Bag H' b l → But H H' b → Q (.int v) H'
def spNb : Sp := fun vs H Q _ => ∃ (b l : Addr) (lo many : Int), vs = [.ref b, .int lo, .int many] ∧ Bag H b l ∧ 0 ≤ lo ∧ 0 ≤ many ∧ many ≤ 60 ∧
  ∀ (q : Addr) (H' : Hp) (ns : List Int), H q = none → IL H' q ns → ns.length ≤ 60 → Asc ns → (∀ x ∈ ns, lo < x ∧ x ≤ lo + 60 * 10 ^ 26) → Bag H' b l → But H H' b → Q (.ref q) H'
def lawW (ss ms : List Int) : Str := Txt.join Str.empty (ms.map fun m => " " ++ num m ++ (if m ∈ ss then ("!" : Str) else Str.empty))
def spWo : Sp := fun vs H Q _ => ∃ (a c : Addr) (ms ss : List Int), vs = [.ref a, .ref c] ∧ IL H a ms ∧ IL H c ss ∧ (∀ x ∈ ms, Nm x) ∧ ms.length ≤ 400 ∧ ∀ H', Same H H' → Q (.str (lawW ss ms)) H'
theorem pick3 {x y w v : Int} (v0 : 0 ≤ v) (v1 : v < 3) : ∃ z, (z = x ∨ z = y ∨ z = w) ∧ atI [V.int x, V.int y, V.int w] v = some (.int z) := by
  by_cases e0 : v = 0
  · exact ⟨x, .inl rfl, at_of2 (j := 0) e0 rfl⟩
  · by_cases e1 : v = 1
    · exact ⟨y, .inr (.inl rfl), at_of2 (j := 1) e1 rfl⟩
    · exact ⟨w, .inr (.inr rfl), at_of2 (j := 2) (by omega) rfl⟩
theorem pick2 {x y v : Int} (v0 : 0 ≤ v) (v1 : v < 2) : ∃ z, (z = x ∨ z = y) ∧ atI [V.int x, V.int y] v = some (.int z) := by
  by_cases e0 : v = 0
  · exact ⟨x, .inl rfl, at_of2 (j := 0) e0 rfl⟩
  · exact ⟨y, .inr rfl, at_of2 (j := 1) (by omega) rfl⟩
theorem But.of {H H1 : Hp} {b : Addr} (x : Same H H1) : But H H1 b := fun a o e _ => x a o e
theorem But.put {H H1 : Hp} {b p : Addr} {o : HO} (x : But H H1 b) (h : H p = none) : But H (L2.upd H1 p o) b := fun a u e n => by
  rw [upd_ne (ne_of_none e h)]
  exact x a u e n
theorem But.new {H H1 : Hp} {b p : Addr} {o : HO} (x : But H H1 b) (h : H1 p = none) : But H (L2.upd H1 p o) b := fun a u e n => by
  rw [upd_ne (ne_of_none (x a u e n) h)]
  exact x a u e n
theorem inV_il {z : Int} {ns : List Int} : inV (.int z) (ns.map V.int) = decide (z ∈ ns) := by
  unfold inV
  induction ns with
  | nil => rfl
  | cons a r ih =>
    rw [List.map_cons, List.any_cons, ih]
    have e : eqV (.int a) (.int z) = decide (a = z) := by
      by_cases c : a = z
      · subst c; simp [eqV]
      · simp [eqV, c]
    rw [e]
    by_cases c : a = z
    · subst c; simp
    · have c' : ¬ z = a := fun h => c h.symm
      simp [c, c']
theorem asc_snoc {ms : List Int} {z : Int} (h : Asc ms) (k : ∀ x ∈ ms, x < z) : Asc (ms ++ [z]) := by
  rw [Asc, List.pairwise_append]
  refine ⟨h, List.pairwise_singleton _ _, fun x hx y hy => ?_⟩
  rw [List.mem_singleton.mp hy]
  exact k x hx
theorem flat_il {ns : List Int} : (ns.map V.int).all flatV = true := by
  rw [List.all_map]
  exact List.all_eq_true.mpr fun _ _ => rfl
section
variable {P : Program} {w : World} {K : PySem.W.Frag} {mg : Str → Option Value} {base : Heap}
theorem ok_drw {f fS : Addr} {fd fdS : FuncData} (F : Fun K "_law_draw" "_law_draw" sDraw f fd) (T : Bl mg) (FS : Fun K "_law_stirred" "_law_stirred" sStir fS fdS) (gS : mg "_law_stirred" = some (.ref fS)) (bS : Binds K fdS ["bag", "wide"] []) :
    FnOk P w K mg base CX0 2 f fd ["bag", "wide"] spDr := (ok_draw F T FS gS bS).imp fun vs H Q E ⟨b, l, w, e, ⟨cs, i, r, st, n, BA⟩, w0, w1, k⟩ => ⟨b, l, cs, i, r, st, n, w, e, BA, w0, w1, k⟩
abbrev NNb : List Str := ["bag", "low", "many", "found", "turn"]
theorem scNb : FnScope NNb ["bag", "low", "many"] (defScope sNb) := ⟨rfl, rfl, rfl, by decide +kernel, rfl, by decide +kernel, by decide +kernel⟩
theorem ok_nb {f fD : Addr} {fd fdD : FuncData} (F : Fun K "_law_numbers" "_law_numbers" sNb f fd) (T : Bl mg)
    (gD : mg "_law_draw" = some (.ref fD)) (kD : PySem.W.keepIn K (.ref fD) = true) (bD : Binds K fdD ["bag", "wide"] []) (GD : FnOk P w K mg base CX0 2 fD fdD ["bag", "wide"] spDr) :
    FnOk P w K mg base CX0 3 f fd ["bag", "low", "many"] (spNb) := by
  refine F.ok scNb (fun vs H Q E h => ?_) (fun cdv A outer s H vs Q E hr h => ?_)
  · obtain ⟨b, l, lo, many, rfl, _⟩ := h
    rfl
  · obtain ⟨b, l, lo, many, rfl, B, l0, m0, m1, q⟩ := h
    refine ⟨_, (pss_cons (ps_set (i := 3) scNb.nd rfl (Or.inl rfl) (pe_lst pa_nil))
        (pss_cons (ps_for PassesOwn.never rfl (pi_range1 (by rfl) T.range (pa_cons (pv 2) pa_nil)) (pg_name (i := 4) scNb.nd rfl (Or.inl rfl))
        (pss_cons (ps_set (i := 1) scNb.nd rfl (Or.inl rfl) (pe_op op_add (pe_op op_add (pv 1) pe_int) (pe_call GD (hr.mono (by decide)) rfl gD kD bD .nil pass0 (pa_cons (pv 0) (pa_cons (pe_ix (r := rIxL K) ix_list (pe_lst (pa_cons pe_int (pa_cons (pe_op op_pow pe_int pe_int) (pa_cons (pe_op op_pow pe_int pe_int) pa_nil)))) (pe_call GD (hr.mono (by decide)) rfl gD kD bD .nil pass0 (pa_cons (pv 0) (pa_cons pe_int pa_nil))) (fun _ _ => rfl)) pa_nil)))))
        (pss_one (ps_expr (pe_bm PySem.F.plainAttrs_list PySem.F.slot_list_append PySem.F.type_list_append mt_append (pv 3) (pa_cons (pv 1) pa_nil))))))
        (pss_one (ps_ret (pv 3))))), ?_⟩
    refine ⟨Nat.zero_le _, fun p hp => ?_⟩
    have s1 := same_new (o := .lst []) (Same.refl H) hp
    obtain ⟨pb, pl⟩ := B.here hp
    have kp : IL (upd H p (.lst [])) p [] := upd_same
    have B := B.same s1
    generalize upd H p (.lst []) = H1 at s1 kp B ⊢
    try dsimp only [L2.start, List.set, List.map, List.append, List.replicate, List.length]
    refine ⟨_, rfl, _, rfl, by omega, by omega, for_range (lo := 0) (n := Int.toNat _) (fun i σ H' => ∃ (x : Int) (v5 : Option V) (ns : List Int), σ = [some (.ref b), some (.int x), some (.int many), some (.ref p), v5] ∧ Bag H' b l ∧ But H H' b ∧ IL H' p ns ∧ ns.length = i ∧ Asc ns ∧ (∀ y ∈ ns, lo < y ∧ y ≤ x) ∧ lo ≤ x ∧ x ≤ lo + i * 10 ^ 26) ⟨lo, none, [], rfl, B, But.of s1, kp, rfl, .nil, fun _ h => (nomatch h), Int.le_refl _, by omega⟩ ?_ ?_⟩
    · rintro i σ H' hi ⟨x, v5, ns, rfl, B, By, kp, ln, asc, rg, xl, xh⟩
      have hpn := hp
      refine ⟨_, rfl, _, _, rfl, rfl, _, rfl, _, _, rfl, rfl, ⟨by decide, by decide, by decide⟩, _, _, rfl, rfl, ⟨by decide, by decide, by decide⟩, small1000 (by show (2 : Nat) ≤ 1000; decide), fun c hc => ?_⟩
      obtain ⟨cb, cl⟩ := B.here hc
      have pc : p ≠ c := ne_of_none kp hc
      have s2 : Same H' (upd H' c (.lst [.int 3, .int (10 ^ Int.toNat 9), .int (10 ^ Int.toNat 26)])) := same_new (Same.refl H') hc
      have kc : upd H' c (.lst [.int 3, .int (10 ^ Int.toNat 9), .int (10 ^ Int.toNat 26)]) c = some (.lst [.int 3, .int (10 ^ Int.toNat 9), .int (10 ^ Int.toNat 26)]) := upd_same
      have B1 := B.same s2
      have By1 := By.trans (But.of s2)
      have kp1 := s2 _ _ kp
      generalize upd H' c (.lst [.int 3, .int (10 ^ Int.toNat 9), .int (10 ^ Int.toNat 26)]) = H2 at s2 kc B1 By1 kp1 ⊢
      refine ⟨_, rfl, b, l, 3, rfl, B1, by decide, by decide, fun v H3 v0 v1 B3 By3 => ?_⟩
      obtain ⟨z, hz, az⟩ := pick3 (x := 3) (y := 10 ^ Int.toNat 9) (w := 10 ^ Int.toNat 26) v0 v1
      refine ⟨c, _, v, _, rfl, rfl, SqL.of (By3 _ _ kc (Ne.symm cb)), az, ?_⟩
      have zr : 0 < z ∧ z < 2 ^ 120 ∧ z ≤ 10 ^ 26 := by
        rcases hz with rfl | rfl | rfl <;> decide +kernel
      refine ⟨b, l, z, rfl, B3, zr.1, zr.2.1, fun u H4 u0 u1 B4 By4 => ?_⟩
      have kp4 := By4 _ _ (By3 _ _ kp1 (Ne.symm pb)) (Ne.symm pb)
      have By4 := (By1.trans By3).trans By4
      refine ⟨_, _, rfl, rfl, ?_⟩
      try dsimp only [List.set]
      refine ⟨_, rfl, .inl ⟨rfl, _, SqL.of kp4⟩, _, rfl, p, _, _, rfl, rfl, kp4, by rw [List.length_map]; exact small1000 (by omega), ?_⟩
      refine ⟨_, _, ns ++ [x + 1 + u], rfl, B4.put pb pl, By4.put hp, ?_, ?_, asc_snoc asc fun y hy => ?_, fun y hy => ?_, ?_, ?_⟩
      · show upd _ _ _ _ = _
        rw [upd_same, List.map_append]
        rfl
      · rw [List.length_append, ln]
        rfl
      · have := (rg y hy).2
        show _ < _
        omega
      · rcases List.mem_append.mp hy with hy | hy
        · have := rg y hy
          show _ ∧ _
          omega
        · obtain rfl := List.mem_singleton.mp hy
          show _ ∧ _
          omega
      · show _ ≤ _
        omega
      · show _ ≤ _
        have := zr.2.2
        omega
    · rintro σ H' ⟨x, v5, ns, rfl, B, By, kp, ln, asc, rg, xl, xh⟩
      refine ⟨_, rfl, q p H' ns hp kp (by omega) asc (fun y hy => ?_) B By⟩
      have := rg y hy
      omega
abbrev NWo : List Str := ["marks", "strict", "spot"]
theorem scWo : FnScope NWo ["marks", "strict"] (defScope sWo) := ⟨rfl, rfl, rfl, by decide +kernel, rfl, by decide +kernel, by decide +kernel⟩
theorem ok_wo {f : Addr} {fd : FuncData} (F : Fun K "_law_words" "_law_words" sWo f fd) (T : Bl mg) (hST : mg "str" = none) :
    FnOk P w K mg base CX0 1 f fd ["marks", "strict"] (spWo) := by
  refine F.ok scWo (fun vs H Q E h => ?_) (fun cdv A outer s H vs Q E hr h => ?_)
  · obtain ⟨a, c, ms, ss, rfl, _⟩ := h
    rfl
  · obtain ⟨a, c, ms, ss, rfl, ha, hc, NM, lm, q⟩ := h
    refine ⟨_, (pss_one (ps_ret (pe_join pe_str (pe_lc (own := [("spot", 2)]) (g := (gName 2)) (tt := tYes) rfl scWo.nd (pi_list (pv 0)) (blkOk_by (own := [("spot", 2)]) (N := NWo) (sc := defScope sWo) (by decide +kernel)) (fun _ _ _ _ _ => (pg_name (i := 2) scWo.nd rfl (Or.inl rfl))) (fun _ _ _ _ _ => pts_nil) (fun _ _ _ _ _ => (pe_op op_add_str (pe_op op_add_str pe_str (pe_callTy call_str_int (by rfl) hST (by decide +kernel) (pa_cons (pv 2) pa_nil))) (pe_op op_mul_str pe_str (pe_callTy call_int1 (by rfl) T.int (by decide +kernel) (pa_cons (pe_cmpR (show OpR _ (compareOp .In) (rIn K false) from op_in_seq) (pv 2) (pv 1) (by rfl)) pa_nil))))))))), ?_⟩
    let g : Int → Str := fun m => " " ++ num m ++ (if m ∈ ss then ("!" : Str) else Str.empty)
    have sl : (" " : Str).length = 1 := by decide +kernel
    have xl : ("!" : Str).length = 1 := by decide +kernel
    have gl : ∀ m, Nm m → (g m).length ≤ 40 := fun m N => by
      obtain ⟨l1, l2⟩ := N.len
      show (" " ++ num m ++ (if m ∈ ss then ("!" : Str) else Str.empty)).length ≤ 40
      have : (if m ∈ ss then ("!" : Str) else Str.empty).length ≤ 1 := by
        by_cases c : m ∈ ss
        · rw [if_pos c, xl]
          exact Nat.le_refl _
        · rw [if_neg c]
          exact Nat.zero_le _
      rw [PySem.strLen_append, PySem.strLen_append, sl]
      omega
    refine ⟨⟨_, rfl⟩, _, rfl, a, rfl, ⟨_, SqL.of ha⟩, fun D hD => ?_⟩
    refine lc_list (K := K) (a := a) (xs := ms.map V.int) (fun i H' => Same H H' ∧ H' D = some (.lst ((ms.take i).map fun m => V.str (g m)))) ⟨same_new (Same.refl H) hD, upd_same⟩ (fun i H' _ z => SqL.of (z.1 _ _ ha)) ?_ ?_
    · rintro i x H' hx ⟨s3, hE⟩
      obtain ⟨z, rfl, hz⟩ := il_at hx
      have N := NM z (List.mem_of_getElem? hz)
      have il : i < ms.length := (List.getElem?_eq_some_iff.mp hz).1
      obtain ⟨l1, l2⟩ := N.len
      refine ⟨rfl, ?_⟩
      unfold tYes
      refine iteT ?_
      refine ⟨_, rfl, z, rfl, N.log, _, _, rfl, rfl, ?_, _, rfl, _, rfl, c, _, rfl, .inl (SqL.of (s3 _ _ hc)), rfl, flat_il, ?_⟩
      · rw [sl]
        change (Str.ofString (toString z)).length ≤ 30 at l2
        exact Nat.le_of_lt (small1000 (by omega))
      rw [inV_il]
      have ge : " " ++ Str.ofString (toString z) ++ (if decide (z ∈ ss) = true then ("!" : Str) else Str.empty) = g z := by
        show _ = " " ++ num z ++ (if z ∈ ss then ("!" : Str) else Str.empty)
        by_cases c : z ∈ ss
        · rw [decide_eq_true c, if_pos c, if_pos rfl]
        · rw [decide_eq_false c, if_neg c, if_neg (fun z => nomatch z)]
      refine .inr ⟨_, rfl, ?_⟩
      have gz := gl z N
      rw [← ge] at gz
      refine ⟨_, decide (z ∈ ss), rfl, rfl, _, _, rfl, rfl, ?_, ?_⟩
      · rw [PySem.strLen_append] at gz
        exact Nat.le_of_lt (small1000 (by omega))
      rw [ge]
      exact ⟨_, hE, by rw [List.length_map, List.length_take]; exact small1000 (by omega), same_put s3 hD, by rw [upd_same, map_take_snoc (fun m => V.str (g m)) hz]⟩
    · rintro H' ⟨s3, hE⟩
      rw [List.length_map, List.take_length] at hE
      have e0 : ("" : Str) = Str.empty := by decide +kernel
      rw [e0]
      refine ⟨_, D, ms.map g, rfl, rfl, .inl (SqL.of (by rw [hE, List.map_map]; rfl)), ?_, q H' s3⟩
      have z := sum_le (l := ms.map g) (k := 40) fun w hw => by
        obtain ⟨x, hx, rfl⟩ := List.mem_map.mp hw
        exact gl x (NM x hx)
      rw [List.length_map] at z ⊢
      have : Str.empty.length = 0 := rfl
      rw [this, Nat.mul_zero]
      omega
end
end Cw
namespace Cw
open PySem PySem.Spec PyProof.Rows L2
/-! ## defs of which it is known that no list's text is being made around them -/
structure FnG (P : Program) (w : World) (K : PySem.W.Frag) (mg : Str → Option Value) (base : Heap) (k : Nat) (f : Addr) (fd : FuncData) (ps : List Str) (sp : Sp) : Prop where
  len : ∀ vs H Q E, sp vs H Q E → vs.length = ps.length
  run : ∀ (A : Around) (outer : List Env) (s : Shared) (H : Hp) (args : Args) (us : List Value) (vs : List V) (Q : VK) (E : XK), Room k A → A.guards = some [] → Env0 P w K mg base A outer s H → BindsTo s fd args (ps.zip us) → Vals vs us → sp vs H Q E →
    codeAny (model P w) A (.call (.ref f) args) (CR CX0 outer P w H s Q E) s
theorem FnG.of {P : Program} {w : World} {K : PySem.W.Frag} {mg : Str → Option Value} {base : Heap} {k : Nat} {f : Addr} {fd : FuncData} {ps : List Str} {sp : Sp} (F : FnOk P w K mg base CX0 k f fd ps sp) : FnG P w K mg base k f fd ps sp :=
  ⟨F.len, fun A outer s H args us vs Q E hr _ => F.run A outer s H args us vs Q E hr⟩
section
variable {P : Program} {w : World} {K : PySem.W.Frag} {mg : Str → Option Value} {base : Heap}
theorem okG {x qual : Str} {st : Stmt} {f : Addr} {fd : FuncData} {N ps : List Str} {k : Nat} {sp : Sp} (F : Fun K x qual st f fd) (S : FnScope N ps (defScope st)) (len : ∀ vs H Q E, sp vs H Q E → vs.length = ps.length)
    (body : ∀ (cdv : Value) (A : Around) (outer : List Env) (s : Shared) (H : Hp) (vs : List V) (Q : VK) (E : XK), Room k (A.deeper (envOfC qual (defScope st) s.heap.objs.size f cdv)) → A.guards = some [] → sp vs H Q E →
      ∃ t, PSs (cxOf CX0 P w K mg base N qual (defScope st) f cdv A outer s H E).nox (defBody st) t ∧ t { nx := fun _ H' => Q .non H', rt := Q } (start N vs) H) : FnG P w K mg base (k + 1) f fd ps sp := by
  obtain ⟨oc, od, kV, doc, pm, an, cdv, ct, osl, rfl, look, hcd⟩ := F.ex
  refine ⟨len, fun A outer s H args us vs Q E room gu env bind rel prom => ?_⟩
  have here : K.In s.heap := env.mod.kin.keeps fun b o e => (env.bs b o e).1
  have free : s.heap.NoLimit := env.mod.nolimit.keeps fun b o e => (env.bs b o e).1
  have kinds : ∀ y ∈ ps.zip us, (defScope st).names.lookup y.1 = some .local ∨ ((defScope st).names.lookup y.1 = some .cell ∧ ((cellsFrom (s.heap.objs.size + 1) (defScope st).names []).lookup y.1).isSome = true) := fun y hy =>
    (S.par y.1 (List.of_mem_zip (show (y.1, y.2) ∈ ps.zip us from hy)).1).imp id fun z => ⟨z, PySem.W.cellsFrom_some _ _ _ (.inl z)⟩
  refine codeAny_call_function room.depth (here _ _ look) rfl S.co S.gen rfl (PySem.W.codeRec_of here hcd) (bind _ _ _ _ (wpAny_newFunctionEnv_cells S.kind kinds fun e he s1 ic => ?_))
  subst he
  obtain ⟨t, ht, hq⟩ := body cdv A outer s H vs Q E (room.deeper _) gu prom
  refine ⟨free.keeps ic.toInCall.keep, codeAny_func (wpAny_mono (ht.nox.run [] s1 (start N vs) H _ (inv_start S room.hd env (len _ _ _ _ prom) rel ic) hq) (fun fl s2 z => ?_) fun _ _ z => z)⟩
  cases fl with
  | ret u =>
    obtain ⟨v, _, H2, J, rv, qq⟩ := z
    exact ⟨v, H2, J.os, J.bare, J.base, J.hok, rv, qq⟩
  | next =>
    obtain ⟨_, H2, J, qq⟩ := z
    exact ⟨V.non, H2, J.os, J.bare, J.base, J.hok, rfl, qq⟩
  | brk =>
    obtain ⟨_, _, _, qq⟩ := z
    exact qq.elim
  | cont =>
    obtain ⟨_, _, _, qq⟩ := z
    exact qq.elim
end
section
variable {X : Cx} {k : Nat} {f : Addr} {fd : FuncData} {ps : List Str} {sp : Sp} {x : Str} {p pos : Pos} {e : Expr} {es : List Expr} {t : TA}
/-- a call of such a def where no list's text is being made -/
theorem pe_callG (F : FnG X.prog X.w X.K X.mg X.base k f fd ps sp) (room : Room k X.A) (gu : X.A.guards = some []) (gl : Gl X x) (hm : X.mg x = some (.ref f)) (kp : PySem.W.keepIn X.K (.ref f) = true) (bi : Binds X.K fd ps [])
    (ha : PA X (e :: es) t) (hdb : (x == ("__debug__" : Str)) = false := by decide) (he : starEach (e :: es) X.env = (false, eval e X.env) :: starEach es X.env := by rfl) (hpl : (backTo pos (starEach es X.env)).any (·.1) = false := by rfl) :
    PE X (.Call (.Name x p) (e :: es) [] pos) (tCall sp [] E0 t) := by
  refine ⟨fun pins s σ H Q I h => wpAny_Call_Name_kw (ld_glob I gl hm (PySem.W.callWith_K (h₀ := X.base) I.ok.mod.kin kp (thn (ha.run pos pins s σ H _ I h) fun us s1 ⟨vs, H1, I1, r, q⟩ => ⟨I1.kIn, ?_⟩) he hpl) hdb)⟩
  have q' : sp vs H1 Q E0 := by
    have z : sp (vs ++ []) H1 Q E0 := q
    rw [List.append_nil] at z
    exact z
  have many : us.length = ps.length := by rw [← r.length]; exact F.len _ _ _ _ q'
  refine wpAny_call (codeAny_mono (F.run X.A X.stack s1 H1 ⟨us, []⟩ us vs Q E0 room gu I1.env0 (by have z := bi s1 us I1.kIn (by rw [List.append_nil]; exact many); rw [List.append_nil] at z; exact z) r q') fun res s2 z => ?_)
  cases res with
  | error er => exact z.elim
  | ok fl =>
    cases fl with
    | ret u => exact I1.after z
    | next => exact z.elim
    | brk => exact z.elim
    | cont => exact z.elim
/-- repr of data: none of its lists is being shown around here -/
def rReprD (K : PySem.W.Frag) : List V → Hp → VK → Prop := fun xs H Q => ∃ a d, xs = [V.ref a] ∧ Dp K H (.ref a) d ∧ d.showable = true ∧ d.hasDict = false ∧ d.depth ≤ 60 ∧ d.shown.length ≤ sizeLine ∧ Q (.str d.shown) H
theorem call_reprD (gu : X.A.guards = some []) (hu : X.A.units + 64 < cLine) : CallR X (.builtin "repr") (rReprD X.K) := by
  intro pins s σ H xs us Q I r h
  obtain ⟨a, d, rfl, hd, sh, nd, dp, sz, q⟩ := h
  obtain ⟨u, rfl, rx⟩ := vals1 r
  obtain rfl : u = Value.ref a := rx
  obtain ⟨as, rd⟩ := Dp.reads I d (.ref a) (.ref a) hd rfl
  exact repr_of_reads' rd sh (fun z => by rw [nd] at z; cases z) gu (by omega) (fun _ _ e => e) (fun h' u tk keep => ⟨.str d.shown, H, I.kept keep, ⟨_, rfl⟩, q⟩) sz
end
end Cw
namespace Cw
open PySem PySem.Spec PyProof.Rows L2
/-- the law's call, its def being one of FnG; H tracks at most the script -/
theorem startG {P : Program} {w : World} {K : PySem.W.Frag} {mg mb : Str → Option Value} {k : Nat} {fa a : Addr} {fd : FuncData} {x : Str} {sp : Sp} {s1 : Shared} {vs : List Value} {ns : List Int}
    (kin : K.In s1.heap) (glob : s1.heap.Ns mainGlobals mg) (bns : s1.heap.Ns builtinsNs mb) (boot : ∀ y : Str, y ≠ "__name__" → mb y = bootBuiltins y) (lim : s1.heap.NoLimit) (gens : s1.gens = #[])
    (scr : s1.heap.get? a = some { cls := .type "list", data := .seq vs.toArray }) (room : Room k callerA)
    (F : ∀ base : Heap, K.In base → base.Ns mainGlobals mg → FnG P w K mg base k fa fd [x] sp) (bind : ∀ (s : Shared) (u : Value), BindsTo s fd ⟨[u], []⟩ [(x, u)])
    (H : Hp) (only : Only H) (prom : sp [.ref a] H (fun v _ => v = .bl true) E0) (hok : HOk P w H s1.heap) (at_ : ∀ b, H b ≠ none → b = a) (off : H a ≠ none → K.lookup a = none) :
    codeAny (model P w) callerA (.call (.ref fa) ⟨[.ref a], []⟩) (fun r s' => r = .ok (.ret (.bool true)) ∧ OldK s1.heap s'.heap ∧ s'.os = s1.os ∧ AllBare s'.gens) s1 := by
  have none_at : ∀ {b : Addr}, b ≠ a → H b = none := fun {b} nb => by
    cases z : H b with
    | none => rfl
    | some o => exact absurd (at_ b (by rw [z]; exact fun y => nomatch y)) nb
  have dicts : ∀ {b : Addr} {m : Str → Option Value}, s1.heap.Ns b m → (hidT s1.heap H).Ns b m := fun {b m} ⟨o, es, ep, e, d, r⟩ => by
    refine ⟨o, es, ep, hidT_get e (none_at fun z => ?_), d, r⟩
    rw [z, scr] at e
    cases e
    exact nomatch (show Data.seq vs.toArray _ = Data.dict es ep from d)
  have kin2 : K.In (hidT s1.heap H) := fun b o e => by
    refine hidT_get (kin b o e) ?_
    by_cases nb : b = a
    · subst nb
      cases z : H b with
      | none => rfl
      | some y =>
        rw [off (by rw [z]; exact fun y => nomatch y)] at e
        cases e
    · exact none_at nb
  obtain ⟨mc, lm1, lm2⟩ := lim
  have e0 : Env0 P w K mg (hidT s1.heap H) callerA [] s1 H := ⟨rfl, ⟨kin2, dicts glob, ⟨mb, dicts bns, boot⟩, ⟨mc, dicts lm1, lm2⟩⟩, fun _ _ e => of_hidT e, Nat.le_of_eq (hidT_size _ _), trivial, fun b hb => (List.not_mem_nil hb).elim, hok, .of_eq gens⟩
  refine codeAny_mono ((F _ kin2 (dicts glob)).run callerA [] s1 H ⟨[.ref a], []⟩ [.ref a] [.ref a] _ E0 room rfl e0 (bind s1 (.ref a)) (.cons rfl .nil) prom) fun res s2 z => ?_
  cases res with
  | error er => exact z.elim
  | ok fl =>
    cases fl with
    | next => exact z.elim
    | brk => exact z.elim
    | cont => exact z.elim
    | ret u =>
      obtain ⟨v, H2, os, bare, un, hok2, rel, q⟩ := z
      have qv : v = .bl true := q
      subst qv
      obtain rfl : u = Value.bool true := rel
      refine ⟨rfl, OldK.of_keep fun b o e => ?_, os, bare⟩
      rcases only b with nb | ⟨ob, xs, fz⟩
      · exact un.keep b o e nb (fun y => (List.not_mem_nil y).elim) (fun y => (List.not_mem_nil y).elim)
      · obtain ⟨h1, _⟩ := hok b _ fz
        obtain ⟨h2, _⟩ := hok2 b _ (un.frzs b ob _ fz)
        rw [e] at h1
        cases h1
        exact h2
theorem callG {P : Program} {w : World} {K : PySem.W.Frag} {mg mb : Str → Option Value} {k : Nat} {fa a : Addr} {fd : FuncData} {x : Str} {sp : Sp} {s1 : Shared} {vs : List Value} {ns : List Int}
    (kin : K.In s1.heap) (glob : s1.heap.Ns mainGlobals mg) (bns : s1.heap.Ns builtinsNs mb) (boot : ∀ y : Str, y ≠ "__name__" → mb y = bootBuiltins y) (lim : s1.heap.NoLimit) (gens : s1.gens = #[])
    (scr : s1.heap.get? a = some { cls := .type "list", data := .seq vs.toArray }) (nts : IntsAre vs ns) (few : ns.length ≤ sizeLine) (room : Room k callerA)
    (F : ∀ base : Heap, K.In base → base.Ns mainGlobals mg → FnG P w K mg base k fa fd [x] sp) (bind : ∀ (s : Shared) (u : Value), BindsTo s fd ⟨[u], []⟩ [(x, u)])
    (prom : ∀ H : Hp, Only H → SqL K H a (ns.map V.int) → sp [.ref a] H (fun v _ => v = .bl true) E0) :
    codeAny (model P w) callerA (.call (.ref fa) ⟨[.ref a], []⟩) (fun r s' => r = .ok (.ret (.bool true)) ∧ OldK s1.heap s'.heap ∧ s'.os = s1.os ∧ AllBare s'.gens) s1 := by
  have rel := vals_ints nts
  have many : vs.length = ns.length := nts.length
  cases hk : K.lookup a with
  | some o =>
    have e := kin a o hk
    rw [scr] at e
    cases e
    have on : Only fun _ => none := fun _ => .inl rfl
    exact startG (ns := ns) kin glob bns boot lim gens scr room F bind (fun _ => none) on (prom _ on (.inr ⟨_, vs.toArray, _, hk, rfl, rfl, rfl, by rw [List.size_toArray, many]; exact few, by simpa using rel⟩)) (fun _ _ z => nomatch z) (fun _ z => (z rfl).elim) fun z => (z rfl).elim
  | none =>
    obtain ⟨H, hH⟩ : ∃ H : Hp, H = fun b => if b = a then some (.frz { cls := .type "list", data := .seq vs.toArray } (.lst (ns.map V.int))) else none := ⟨_, rfl⟩
    have atA : H a = some (.frz { cls := .type "list", data := .seq vs.toArray } (.lst (ns.map V.int))) := by rw [hH]; exact if_pos rfl
    have els : ∀ b, b ≠ a → H b = none := fun b nb => by rw [hH]; exact if_neg nb
    have on : Only H := fun b => by
      by_cases nb : b = a
      · exact .inr ⟨_, _, by rw [nb]; exact atA⟩
      · exact .inl (els b nb)
    refine startG (ns := ns) kin glob bns boot lim gens scr room F bind H on (prom H on (.inl (.inr ⟨_, atA⟩))) (fun b u z => ?_) (fun b z => ?_) fun _ => hk
    · by_cases nb : b = a
      · subst nb
        rw [atA] at z
        cases z
        exact ⟨scr, by rw [List.length_map]; exact few, vs, _, rel, scr⟩
      · rw [els b nb] at z
        cases z
    · by_cases nb : b = a
      · exact nb
      · exact (z (els b nb)).elim
/-- the walk of a law whose def is one of FnG -/
theorem walkG {l : PySem.W.OpenLaw} {n k : Nat} {q : Program} {loose : List Str} {XP : (Str → Option Value) → Heap → Prop} {YP : World → Heap → Prop} {d : DefRec} {K : Params → PySem.W.Frag} {sp : World → Sp} {x : Str}
    (most : l.most = some n) (n2 : n ≤ sizeLine) (dfl : d.params.defaults = []) (room : Room k callerA) (hY : ∀ (w : World) (h : Heap), YP w h → (K w.params).In h)
    (F : ∀ (w : World) (mg : Str → Option Value) (fa : Addr) (h : Heap), (K w.params).In h → h.Ns mainGlobals mg → mg d.name = some (.ref fa) →
      ∃ fd : FuncData, (∀ (s : Shared) (u : Value), BindsTo s fd ⟨[u], []⟩ [(x, u)]) ∧ ∀ base : Heap, (K w.params).In base → base.Ns mainGlobals mg → FnG l.prog w (K w.params) mg base k fa fd [x] (sp w))
    (prom : ∀ (w : World) (H : Hp) (a : Addr) (ns : List Int), ns.length ≤ n → Only H → SqL (K w.params) H a (ns.map V.int) → sp w [.ref a] H (fun v _ => v = .bl true) E0) :
    PySem.W.WalkO q loose XP YP l.row.toRowW d [] (fun f vs => PySem.call f vs) := by
  refine Att.attach_call most dfl fun w s0 s1 mg mb fa o pm cd doc a vs ns G Y ho hd hcd hmg scr nts few gens => ?_
  have kin := hY w _ Y
  obtain ⟨fd, bi, FF⟩ := F w mg fa _ kin G.T.g hmg
  exact callG kin G.T.g G.T.b G.T.builtins G.T.nolimit gens scr nts (Nat.le_trans few n2) room FF bi fun H on hs => prom w H a ns few on hs
end Cw
namespace Cw
open PySem PySem.Spec L2 TL
abbrev sFr : Stmt := top 38
abbrev sL : Stmt := top 39
structure Eqs (P : Program) (w : World) (K : PySem.W.Frag) (mg : Str → Option Value) (base : Heap) (C fE : Addr) (fdE : FuncData) : Prop where
  ok : FnOk P w K mg base CX0 1 fE fdE ["self", "other"] (spEq (Alike C))
  hm : PySem.W.mroIn K C (.type "object") = some true
  hn : PySem.W.findIn K (.ref C) "__ne__" = some (some (.builtin "object.__ne__"))
  hs : PySem.W.findIn K (.ref C) "__eq__" = some (some (.ref fE))
  hf : PySem.W.isFn K (.ref fE) = true
  hb : Binds K fdE ["self", "other"] []
theorem alike_ins {C : Addr} {H : Hp} {a b : Addr} {n : Int} {ms ss : List Int} (r : RowAt C H a n ms ss) (q : RowAt C H b n ms ss) : DIns C (Alike C) (.ref a) (.ref b) H := by
  obtain ⟨dx, l1, l2, h1, h2, h3⟩ := id r
  obtain ⟨dy, m1, m2, g1, g2, g3⟩ := id q
  exact ⟨a, b, dx, dy, _, _, rfl, rfl, h1, g1, n, ms, ss, r, q⟩
section
variable {X : Cx} {CX : CXT} {k : Nat} {f : Addr} {fd : FuncData} {ps ks : List Str} {sp : Sp} {E : XK} {x : Str} {p pos : Pos} {kws : List Keyword} {tk : TA} {g : List Value → List Value → List Value} {gV : List V → List V → List V}
/-- f(k = v, ..) -/
theorem pe_callK0 (F : FnOk X.prog X.w X.K X.mg X.base CX k f fd ps sp) (hr : Room k X.A) (hg : Gl X x) (hm : X.mg x = some (.ref f)) (hk : PySem.W.keepIn X.K (.ref f) = true) (hb : KBinds X.K fd ps ks g gV) (hx : Passes CX X E)
    (hkw : PK X kws tk) (hall : (backToKw pos (keywordEach kws X.env)).all (·.1.isSome) = true := by rfl) (hks : (backToKw pos (keywordEach kws X.env)).filterMap (·.1) = ks := by rfl)
    (hdb : (x == ("__debug__" : Str)) = false := by decide)
    (hpl : ((backTo pos (starEach [] X.env)).any (·.1) || (backToKw pos (keywordEach kws X.env)).any (·.1.isNone)) = false := by rfl) :
    PE X (.Call (.Name x p) [] kws pos) (tCallK sp gV E tNil tk) := by
  refine ⟨fun pins s σ H Q I h => ?_⟩
  refine wpAny_Call_Name_kw (ld_glob I hg hm ?_ hdb)
  refine PySem.W.callWith_KW0 (h₀ := X.base) I.ok.mod.kin hk hall (thn (hkw.run pos pins s σ H _ I h) fun ws s2 ⟨zs, H2, I2, rz, q2⟩ => ⟨I2.kIn, ?_⟩) hpl
  rw [hks]
  exact run_fnk F hr hb hx I2 .nil rz q2
end
def spLaw (K : PySem.W.Frag) : Sp := fun vs H Q _ => ∃ (a : Addr) (ns : List Int), vs = [.ref a] ∧ SqL K H a (ns.map V.int) ∧ ns.length ≤ 63 ∧ ∀ H', Q (.bl true) H'
def spFr : Sp := fun vs H Q _ => vs = [] ∧ ∀ H', Q (.bl true) H'
/-- nothing is alike yet -/
def NoL : Hp → V → V → Prop := fun _ _ _ => False
def gR1 : List Value → List Value → List Value
  | [], [a] => [a]
  | _, _ => []
def gR1V : List V → List V → List V
  | [], [a] => [a]
  | _, _ => []
theorem up_s {L : Hp → V → V → Prop} {H : Hp} (s : Str) : Up L H (.str s) (.str s) := .inl ⟨.str _, rfl⟩
theorem up_e {L : Hp → V → V → Prop} {H : Hp} {s t : Str} (h : s = t) : Up L H (.str s) (.str t) := by
  subst h
  exact up_s s
theorem up_i {L : Hp → V → V → Prop} {H : Hp} (s : Int) : Up L H (.int s) (.int s) := .inl ⟨.int _, rfl⟩
theorem up_il {L : Hp → V → V → Prop} {H : Hp} {a b : Addr} {ns : List Int} (ha : IL H a ns) (hb : IL H b ns) (l : ns.length ≤ 1000) : Up (Up L) H (.ref a) (.ref b) :=
  .inr ⟨a, b, _, _, rfl, rfl, .inl ⟨ha, hb⟩, by rw [List.length_map]; exact l, rfl, fun i u v hu hv => by
    rw [hu] at hv
    cases hv
    rw [List.getElem?_map] at hu
    cases e : ns[i]? with
    | none => rw [e] at hu; cases hu
    | some z => rw [e] at hu; cases hu; exact up_i z⟩
theorem it_nil {L : V → V → Prop} : ∀ (i : Nat) (u v : V), ([] : List V)[i]? = some u → ([] : List V)[i]? = some v → L u v := fun _ _ _ h => nomatch h
theorem it_cons {L : V → V → Prop} {x y : V} {xs ys : List V} (h : L x y) (t : ∀ (i : Nat) (u v : V), xs[i]? = some u → ys[i]? = some v → L u v) :
    ∀ (i : Nat) (u v : V), (x :: xs)[i]? = some u → (y :: ys)[i]? = some v → L u v := fun i u v hu hv => by
  cases i with
  | zero => cases hu; cases hv; exact h
  | succ i => exact t i u v hu hv
theorem up_L {L : Hp → V → V → Prop} {H : Hp} {a b : Addr} {xs ys : List V} (ha : H a = some (.lst xs)) (hb : H b = some (.lst ys)) (l : xs.length ≤ 1000) (l2 : xs.length = ys.length)
    (h : ∀ (i : Nat) (u v : V), xs[i]? = some u → ys[i]? = some v → L H u v) : Up L H (.ref a) (.ref b) := .inr ⟨a, b, xs, ys, rfl, rfl, .inl ⟨ha, hb⟩, l, l2, h⟩
theorem up_T {L : Hp → V → V → Prop} {H : Hp} {a b : Addr} {xs ys : List V} (ha : H a = some (.tup xs)) (hb : H b = some (.tup ys)) (l : xs.length ≤ 1000) (l2 : xs.length = ys.length)
    (h : ∀ (i : Nat) (u v : V), xs[i]? = some u → ys[i]? = some v → L H u v) : Up L H (.ref a) (.ref b) := .inr ⟨a, b, xs, ys, rfl, rfl, .inr ⟨ha, hb⟩, l, l2, h⟩
theorem chg_is (b e n : Int) (ms ss : List Int) : num b ++ "-" ++ num e ++ " by " ++ num n ++ ":" ++ lawW ss ms = chgT b e n ms ss := by
  have z := txt_is (num b ++ "-" ++ num e ++ " by " ++ num n ++ ":") ss ms
  unfold lawW
  rw [z]
  unfold chgT
  apply ext_tl
  have e1 : tl (" by " : Str) = 32 :: tl ("by" : Str) ++ [32] := by decide +kernel
  rw [tl_txt, tl_txt, tl_append, tl_append, tl_append, tl_append, e1]
  simp [tl_append]
theorem row_is (n : Int) (ms ss : List Int) : num n ++ ":" ++ lawW ss ms = rowT n ms ss := txt_is (num n ++ ":") ss ms
/-- a test, a choice, an assignment, told -/
theorem go_asg {e : TE} {g : TG} {u : TS} {D : _} {σ : St} {H : Hp} (h : e σ H fun v H' => g v σ H' (u D)) : tSeq (tAsg e g) u D σ H := h
theorem go_op {r : R2} {a b : TE} {σ : St} {H : Hp} {Q : VK} (h : a σ H fun x H1 => b σ H1 fun y H2 => r x y H2 Q) : tOp r a b σ H Q := h
theorem go_call3 {sp : Sp} {E : XK} {i : Nat} {y c : V} {t : TE} {σ : St} {H : Hp} {Q : VK} (hσ : σ[i]? = some (some y)) (h : t σ H fun v H' => sp [y, c, v] H' Q E) : tCall sp [] E (tCons (tVar i) (tCons (tC c) (tCons t tNil))) σ H Q := ⟨y, hσ, h⟩
theorem draw_n {K : PySem.W.Frag} {E E' : XK} {σ : St} {H : Hp} {Q : VK} {b l : Addr} {x y : Int} {e2 : TE} (hσ : σ[1]? = some (some (.ref b))) (B : Bag H b l) (x0 : 0 < x) (xy : x ≤ y) (y1 : y < 2 ^ 120)
    (he : ∀ (H : Hp) (R : VK), R (.int y) H → e2 σ H R) (q : ∀ (v : Int) (H' : Hp), 0 ≤ v → v < y → Bag H' b l → But H H' b → Q (.int v) H') :
    tCall spDr [] E (tCons (tVar 1) (tCons (tOp (rIxL K) (tLst (tCons (tC (.int x)) (tCons e2 tNil))) (tCall spDr [] E' (tCons (tVar 1) (tCons (tC (.int 2)) tNil)))) tNil)) σ H Q := by
  refine ⟨_, hσ, ?_⟩
  refine he _ _ ?_
  refine ⟨small1000 (by show (1 : Nat) ≤ 1000; decide), fun c hc => ?_⟩
  obtain ⟨cb, cl⟩ := B.here hc
  have s2 : Same H (upd H c (.lst [.int x, .int y])) := same_new (Same.refl H) hc
  have kc : upd H c (.lst [.int x, .int y]) c = some (.lst [.int x, .int y]) := upd_same
  have B1 := B.same s2
  generalize upd H c (.lst [.int x, .int y]) = H2 at s2 kc B1 ⊢
  refine ⟨_, hσ, b, l, 2, rfl, B1, by decide, by decide, fun v H3 v0 v1 B3 By3 => ?_⟩
  obtain ⟨z, hz, az⟩ := pick2 (x := x) (y := y) v0 v1
  refine ⟨c, _, v, _, rfl, rfl, SqL.of (By3 _ _ kc (Ne.symm cb)), az, ?_⟩
  have zr : 0 < z ∧ z ≤ y := by
    rcases hz with rfl | rfl
    · exact ⟨x0, xy⟩
    · exact ⟨Int.lt_of_lt_of_le x0 xy, Int.le_refl _⟩
  exact ⟨b, l, z, rfl, B3, zr.1, Int.lt_of_le_of_lt zr.2 y1, fun u H4 u0 u1 B4 By4 => q u H4 u0 (Int.lt_of_lt_of_le u1 zr.2) B4 (((But.of s2).trans By3).trans By4)⟩
/-- the last of a list, or 0 -/
theorem last_or {K K' : PySem.W.Frag} {σ : St} {H : Hp} {Q : VK} {q : Addr} {ns : List Int} (hσ : σ[3]? = some (some (.ref q))) (I : IL H q ns) (h : ∀ H', Same H H' → Q (.int (ns.getLastD 0)) H') :
    tIf (tTest (tOp (rNeD K') (tVar 3) (tLst tNil))) (tOp (rIxL K) (tVar 3) (tUn (rU fun i => V.int (-i)) (tC (V.int 1)))) (tC (V.int 0)) σ H Q := by
  refine ⟨_, hσ, Nat.zero_le _, fun p hp => ?_⟩
  have s1 := same_new (o := .lst []) (Same.refl H) hp
  have kp : IL (upd H p (.lst [])) p [] := upd_same
  have I1 : IL (upd H p (.lst [])) q ns := s1 _ _ I
  generalize upd H p (.lst []) = H1 at s1 kp I1 ⊢
  refine ⟨_, _, dp_il I1, dp_il kp, shape_il _, shape_il [], _, rfl, ?_⟩
  cases ns with
  | nil => exact h H1 s1
  | cons x r =>
    have e : atI ((x :: r).map V.int) (-1) = some (.int ((x :: r).getLastD 0)) := by
      have a : ixN ((x :: r).map V.int).length (-1) = some r.length := by
        unfold ixN
        rw [List.length_map, List.length_cons, if_neg (by decide), if_pos (by omega)]
        congr 1
        omega
      unfold atI
      rw [a]
      show ((x :: r).map V.int)[r.length]? = _
      rw [List.getElem?_map, List.getLastD_eq_getLast?, List.getLast?_eq_getElem?]
      show Option.map _ (x :: r)[r.length]? = some (V.int (((x :: r)[r.length]?).getD 0))
      rw [List.getElem?_eq_getElem (by rw [List.length_cons]; omega)]
      rfl
    exact ⟨_, hσ, _, rfl, q, _, _, _, rfl, rfl, SqL.of I1, e, h H1 s1⟩
theorem go_opc {r : R2} {c : V} {b : TE} {σ : St} {H : Hp} {Q : VK} (h : b σ H fun y H2 => r c y H2 Q) : tOp r (tC c) b σ H Q := h
theorem go_opv {r : R2} {i : Nat} {x : V} {b : TE} {σ : St} {H : Hp} {Q : VK} (hσ : σ[i]? = some (some x)) (h : b σ H fun y H2 => r x y H2 Q) : tOp r (tVar i) b σ H Q := ⟨x, hσ, h⟩
theorem go_tup3 {i j : Nat} {x y : V} {e : TE} {σ : St} {H : Hp} {Q : VK} (h8 : σ[i]? = some (some x)) (h9 : σ[j]? = some (some y)) (h : e σ H fun v H' => [x, y, v].length ≤ sizeLine ∧ ∀ p, H' p = none → Q (.ref p) (upd H' p (.tup [x, y, v]))) :
    tTup (tCons (tVar i) (tCons (tVar j) (tCons e tNil))) σ H Q := ⟨x, h8, y, h9, h⟩
theorem last_top {ms : List Int} {lo hi : Int} (A : Asc ms) (h : ∀ x ∈ ms, lo < x ∧ x ≤ hi) (h0 : lo = 0) (hh : 0 ≤ hi) : 0 ≤ ms.getLastD 0 ∧ ms.getLastD 0 ≤ hi ∧ ∀ x ∈ ms, 1 ≤ x ∧ x ≤ ms.getLastD 0 := by
  subst h0
  cases ms with
  | nil => exact ⟨Int.le_refl _, hh, fun _ h => nomatch h⟩
  | cons a r =>
    have e : (a :: r).getLastD 0 = (a :: r).getLast (by simp) := rfl
    rw [e]
    have m := List.getLast_mem (l := a :: r) (by simp)
    refine ⟨by have := (h _ m).1; omega, (h _ m).2, fun x hx => ⟨by have := (h x hx).1; omega, ?_⟩⟩
    obtain ⟨i, hi, rfl⟩ := List.mem_iff_getElem.mp hx
    rw [List.getLast_eq_getElem]
    by_cases c : i = (a :: r).length - 1
    · subst c
      exact Int.le_refl _
    · exact Int.le_of_lt (List.pairwise_iff_getElem.mp A i _ hi (by omega) (by omega))
theorem rowT_len {n : Int} {ms ss : List Int} (N : Nm n) (h : ∀ x ∈ ms, Nm x) (l : ms.length ≤ 400) : (rowT n ms ss).length ≤ 16777216 := by
  have cl : (":" : Str).length = 1 := by decide +kernel
  have z := txt_len (a := num n ++ ":") (ws := ms.map (mw ss)) (n := 400) (by have := num1_len N ":" (by rw [cl]; decide); omega) (by rw [List.length_map]; exact l) fun w hw => by
    obtain ⟨x, hx, rfl⟩ := List.mem_map.mp hw
    exact mw_len (h x hx).lo (h x hx).hi
  unfold rowT
  omega
theorem chgT_len {b e n : Int} {ms ss : List Int} (NB : Nm b) (NE : Nm e) (N : Nm n) (h : ∀ x ∈ ms, Nm x) (l : ms.length ≤ 400) : (chgT b e n ms ss).length ≤ 16777216 := by
  rw [← chg_is]
  have cl : (":" : Str).length = 1 := by decide +kernel
  have hl : ("-" : Str).length = 1 := by decide +kernel
  have bl : (" by " : Str).length = 4 := by decide +kernel
  have z := txt_len (a := num b ++ "-" ++ num e ++ " by " ++ num n ++ ":") (ws := ms.map (mw ss)) (n := 400) (by
    have l1 : (Str.ofString (toString b)).length ≤ 30 := NB.len.2
    have l2 : (Str.ofString (toString e)).length ≤ 30 := NE.len.2
    have l3 : (Str.ofString (toString n)).length ≤ 30 := N.len.2
    simp only [PySem.strLen_append, cl, hl, bl]
    change (Str.ofString (toString b)).length + 1 + (Str.ofString (toString e)).length + 4 + (Str.ofString (toString n)).length + 1 ≤ 100
    omega) (by rw [List.length_map]; exact l) fun w hw => by
    obtain ⟨x, hx, rfl⟩ := List.mem_map.mp hw
    exact mw_len (h x hx).lo (h x hx).hi
  unfold lawW
  rw [txt_is]
  omega
section
variable {P : Program} {w : World} {K : PySem.W.Frag} {mg : Str → Option Value} {base : Heap}
theorem ok_alk4 {f : Addr} {fd : FuncData} (F : Fun K "_law_alike" "_law_alike" sAlike f fd) (T : Bl mg) (hST : mg "str" = none) (gA : mg "_law_alike" = some (.ref f)) (bA : Binds K fd ["found", "due"] []) :
    FnOk P w K mg base CX0 5 f fd ["found", "due"] (spA (Up (Up (Up (Up NoL))))) := by
  have st : Stab NoL := fun _ _ _ _ h _ => False.elim h
  have G0 : FnOk P w K mg base CX0 1 f fd ["found", "due"] (spA NoL) := by
    refine F.ok scAlk (fun vs H Q E h => ?_) (fun cdv A outer s H vs Q E hr h => ?_)
    · obtain ⟨x, y, rfl, _⟩ := h
      rfl
    · obtain ⟨x, y, _, hu, _⟩ := h
      exact False.elim hu
  exact ok_alike F T hST gA bA (stab_up (stab_up (stab_up st))) (ok_alike F T hST gA bA (stab_up (stab_up st)) (ok_alike F T hST gA bA (stab_up st) (ok_alike F T hST gA bA st G0)))
abbrev NFr : List Str := ["found", "told"]
theorem scFr : FnScope NFr [] (defScope sFr) := ⟨rfl, rfl, rfl, by decide +kernel, rfl, by decide +kernel, by decide +kernel⟩
theorem ok_fr {f C fRc fA fWr fWs fWc fI : Addr} {fd fdRc fdA fdWr fdWs fdWc fdI : FuncData} (F : Fun K "_law_fixed_right" "_law_fixed_right" sFr f fd) (T : Bl mg) (R : Cl K mg C) (M : Mk K C fI) (bI : Binds K fdI NI []) (GI : FnOk P w K mg base CX0 5 fI fdI NI (spInit C))
    (gRc : mg "read_change" = some (.ref fRc)) (kRc : PySem.W.keepIn K (.ref fRc) = true) (bRc : Binds K fdRc ["text"] []) (GRc : FnOk P w K mg base CX0 3 fRc fdRc ["text"] spRch)
    (gA : mg "_law_alike" = some (.ref fA)) (kA : PySem.W.keepIn K (.ref fA) = true) (bA : Binds K fdA ["found", "due"] []) (GA : FnOk P w K mg base CX0 5 fA fdA ["found", "due"] (spA (Up (Up (Up (Up NoL))))))
    (gWr : mg "write_row" = some (.ref fWr)) (kWr : PySem.W.keepIn K (.ref fWr) = true) (bWr : Binds K fdWr ["row"] []) (GWr : FnOk P w K mg base CX0 3 fWr fdWr ["row"] (spWr C))
    (gWs : mg "write_settings" = some (.ref fWs)) (kWs : PySem.W.keepIn K (.ref fWs) = true) (bWs : Binds K fdWs ["settings"] []) (GWs : FnOk P w K mg base CX0 1 fWs fdWs ["settings"] spWs)
    (gWc : mg "write_change" = some (.ref fWc)) (kWc : PySem.W.keepIn K (.ref fWc) = true) (bWc : Binds K fdWc ["change"] []) (GWc : FnOk P w K mg base CX0 2 fWc fdWc ["change"] spWc) :
    FnOk P w K mg base CX0 8 f fd [] (spFr) := by
  refine F.ok scFr (fun vs H Q E h => ?_) (fun cdv A outer s H vs Q E hr h => ?_)
  · obtain ⟨rfl, _⟩ := h
    rfl
  · obtain ⟨rfl, q⟩ := h
    refine ⟨_, (pss_cons (ps_set (i := 0) scFr.nd rfl (Or.inl rfl) (pe_lst (pa_cons (pe_call GRc (hr.mono (by decide)) rfl gRc kRc bRc .nil pass0 (pa_cons pe_str pa_nil)) (pa_cons (pe_call GRc (hr.mono (by decide)) rfl gRc kRc bRc .nil pass0 (pa_cons pe_str pa_nil)) pa_nil))))
        (pss_cons (ps_expr (pe_bm PySem.F.plainAttrs_list PySem.F.slot_list_append PySem.F.type_list_append mt_append (pe_ix (r := rIxT K) ix_tup (pe_ix (r := rIxL K) ix_list (pv 0) pe_int (fun _ _ => rfl)) pe_int (fun _ _ => rfl)) (pa_cons pe_int pa_nil)))
        (pss_cons (ps_expr (pe_bm PySem.F.plainAttrs_list PySem.F.slot_list_append PySem.F.type_list_append mt_append (pe_ix (r := rIxT K) ix_tup (pe_ix (r := rIxL K) ix_list (pv 0) pe_int (fun _ _ => rfl)) pe_int (fun _ _ => rfl)) (pa_cons pe_int pa_nil)))
        (pss_cons (ps_if (pt_not (pt_val (pe_call GA (hr.mono (by decide)) rfl gA kA bA .nil pass0 (pa_cons (pe_lst (pa_cons (pe_ix (r := rIxT K) ix_tup (pe_ix (r := rIxL K) ix_list (pv 0) pe_int (fun _ _ => rfl)) pe_int (fun _ _ => rfl)) (pa_cons (pe_ix (r := rIxT K) ix_tup (pe_ix (r := rIxL K) ix_list (pv 0) pe_int (fun _ _ => rfl)) pe_int (fun _ _ => rfl)) pa_nil))) (pa_cons (pe_lst (pa_cons (pe_lst (pa_cons pe_int (pa_cons pe_int pa_nil))) (pa_cons (pe_lst pa_nil) pa_nil))) pa_nil))))) (pss_one (ps_ret pe_bl)) pss_nil)
        (pss_cons (ps_set (i := 1) scFr.nd rfl (Or.inl rfl) (pe_lst (pa_cons (pe_call GWr (hr.mono (by decide)) rfl gWr kWr bWr .nil pass0 (pa_cons (pe_make M GI (hr.mono (by decide)) rfl R.mgR bI .nil pass0 (pa_cons pe_int (pa_cons (pe_lst (pa_cons pe_int (pa_cons pe_int (pa_cons pe_int (pa_cons pe_int pa_nil))))) (pa_cons (pe_lst (pa_cons pe_int (pa_cons pe_int pa_nil))) pa_nil)))) pa_nil)) (pa_cons (pe_call GWr (hr.mono (by decide)) rfl gWr kWr bWr .nil pass0 (pa_cons (pe_make M GI (hr.mono (by decide)) rfl R.mgR bI .nil pass0 (pa_cons pe_int (pa_cons (pe_lst pa_nil) (pa_cons (pe_lst pa_nil) pa_nil)))) pa_nil)) (pa_cons (pe_call GWs (hr.mono (by decide)) rfl gWs kWs bWs .nil pass0 (pa_cons (pe_tup (pa_cons pe_int (pa_cons pe_int (pa_cons pe_int pa_nil)))) pa_nil)) pa_nil)))))
        (pss_cons (ps_set (i := 1) scFr.nd rfl (Or.inl rfl) (pe_op op_cat (pv 1) (pe_lst (pa_cons (pe_call GWc (hr.mono (by decide)) rfl gWc kWc bWc .nil pass0 (pa_cons (pe_tup (pa_cons pe_int (pa_cons pe_int (pa_cons pe_int (pa_cons (pe_lst (pa_cons pe_int (pa_cons pe_int pa_nil))) (pa_cons (pe_lst (pa_cons pe_int pa_nil)) pa_nil)))))) pa_nil)) (pa_cons (pe_call GWc (hr.mono (by decide)) rfl gWc kWc bWc .nil pass0 (pa_cons (pe_tup (pa_cons pe_int (pa_cons pe_int (pa_cons pe_int (pa_cons (pe_lst pa_nil) (pa_cons (pe_lst pa_nil) pa_nil)))))) pa_nil)) pa_nil)))))
        (pss_one (ps_ret (pe_call GA (hr.mono (by decide)) rfl gA kA bA .nil pass0 (pa_cons (pv 1) (pa_cons (pe_lst (pa_cons pe_str (pa_cons pe_str (pa_cons pe_str (pa_cons pe_str (pa_cons pe_str pa_nil)))))) pa_nil))))))))))), ?_⟩
    refine ⟨4, 6, 3, [2, 3], [2, 3], congrArg (fun x => [V.str x]) (show ("4-6 by 3: 2! 3!" : Str) = chgT 4 6 3 [2, 3] [2, 3] by decide +kernel), ⟨by decide, by decide +kernel⟩, ⟨by decide, by decide +kernel⟩, by decide, ⟨by decide, by decide +kernel⟩, ⟨by decide, by decide, by decide, by decide, by decide, by decide +kernel⟩, fun Ha t1 x1 y1 sa nt1 nx1 ny1 nxy1 kt1 kx1 ky1 => ?_⟩
    have kx1 : Ha x1 = some (.lst [.int 2, .int 3]) := kx1
    have ky1 : Ha y1 = some (.lst [.int 2, .int 3]) := ky1
    refine ⟨4, 6, 0, [], [], congrArg (fun x => [V.str x]) (show ("4-6 by 0:" : Str) = chgT 4 6 0 [] [] by decide +kernel), ⟨by decide, by decide +kernel⟩, ⟨by decide, by decide +kernel⟩, by decide, ⟨by decide, by decide +kernel⟩, ⟨by decide, by decide, by decide, by decide, by decide, by decide +kernel⟩, fun Hb t2 x2 y2 sb nt2 nx2 ny2 nxy2 kt2 kx2 ky2 => ?_⟩
    have kx2 : Hb x2 = some (.lst []) := kx2
    have ky2 : Hb y2 = some (.lst []) := ky2
    have n1 := (ne_of_none kx1 nt2).symm
    have n2 := (ne_of_none kx1 nx2).symm
    have n3 := (ne_of_none kx1 ny2).symm
    have n4 := (ne_of_none kt1 nx2)
    have n5 := (ne_of_none ky1 nx2)
    have kt1 := sb _ _ kt1
    have kx1 := sb _ _ kx1
    have ky1 := sb _ _ ky1
    have n6 : t1 ≠ x1 := fun e => by rw [e] at kt1; cases kt1.symm.trans kx1
    have n7 : t2 ≠ x2 := fun e => by rw [e] at kt2; cases kt2.symm.trans kx2
    have c1 := kx1
    have c2 := kx2
    refine ⟨(small1000 (by show (1 : Nat) ≤ 1000; decide)), fun Jp1 hJp1 => ?_⟩
    have sJp1 := same_new (o := (.lst [.ref t1, .ref t2])) (Same.refl Hb) hJp1
    have kt1 := sJp1 _ _ kt1
    have kx1 := sJp1 _ _ kx1
    have ky1 := sJp1 _ _ ky1
    have kt2 := sJp1 _ _ kt2
    have kx2 := sJp1 _ _ kx2
    have ky2 := sJp1 _ _ ky2
    have kJp1 : upd Hb Jp1 (.lst [.ref t1, .ref t2]) Jp1 = some (.lst [.ref t1, .ref t2]) := upd_same
    generalize upd Hb Jp1 (.lst [.ref t1, .ref t2]) = J1 at sJp1 kt1 kx1 ky1 kt2 kx2 ky2 kJp1 ⊢
    have m1 := (ne_of_none c1 hJp1).symm
    have m2 := (ne_of_none c2 hJp1).symm
    try dsimp only [L2.start, List.set, List.map, List.append, List.replicate, List.length]
    have kt1 := kt1
    have kt1x := kt1
    refine ⟨_, rfl, Jp1, _, 0, _, rfl, rfl, SqL.of kJp1, at_of2 (j := 0) rfl rfl, t1, _, 3, _, rfl, rfl, SqT.of kt1, at_of2 (j := 3) rfl rfl, .inl ⟨rfl, _, SqL.of kx1⟩, x1, _, _, rfl, rfl, kx1, small1000 (by show (2 : Nat) ≤ 1000; decide), ?_⟩
    have kt1 := (upd_ne (H := J1) (o := (.lst ([V.int 2, V.int 3] ++ [V.int 9]))) n6).trans kt1
    have ky1 := (upd_ne (H := J1) (o := (.lst ([V.int 2, V.int 3] ++ [V.int 9]))) nxy1.symm).trans ky1
    have kt2 := (upd_ne (H := J1) (o := (.lst ([V.int 2, V.int 3] ++ [V.int 9]))) n1).trans kt2
    have kx2 := (upd_ne (H := J1) (o := (.lst ([V.int 2, V.int 3] ++ [V.int 9]))) n2).trans kx2
    have ky2 := (upd_ne (H := J1) (o := (.lst ([V.int 2, V.int 3] ++ [V.int 9]))) n3).trans ky2
    have kJp1 := (upd_ne (H := J1) (o := (.lst ([V.int 2, V.int 3] ++ [V.int 9]))) m1).trans kJp1
    generalize upd J1 x1 (.lst ([V.int 2, V.int 3] ++ [V.int 9])) = Hc at kt1 ky1 kt2 kx2 ky2 kJp1 ⊢
    have m3 : t2 ≠ x2 := n7
    refine ⟨_, rfl, Jp1, _, 1, _, rfl, rfl, SqL.of kJp1, at_of2 (j := 1) rfl rfl, t2, _, 3, _, rfl, rfl, SqT.of kt2, at_of2 (j := 3) rfl rfl, .inl ⟨rfl, _, SqL.of kx2⟩, x2, _, _, rfl, rfl, kx2, small1000 (by show (0 : Nat) ≤ 1000; decide), ?_⟩
    have kt1 := (upd_ne (H := Hc) (o := (.lst ([] ++ [V.int 9]))) n4).trans kt1
    have ky1 := (upd_ne (H := Hc) (o := (.lst ([] ++ [V.int 9]))) n5).trans ky1
    have kt2 := (upd_ne (H := Hc) (o := (.lst ([] ++ [V.int 9]))) n7).trans kt2
    have ky2 := (upd_ne (H := Hc) (o := (.lst ([] ++ [V.int 9]))) nxy2.symm).trans ky2
    have kJp1 := (upd_ne (H := Hc) (o := (.lst ([] ++ [V.int 9]))) m2).trans kJp1
    generalize upd Hc x2 (.lst ([] ++ [V.int 9])) = Hd at kt1 ky1 kt2 ky2 kJp1 ⊢
    try dsimp only [L2.start, List.set, List.map, List.append, List.replicate, List.length]
    refine ⟨_, rfl, Jp1, _, 0, _, rfl, rfl, SqL.of kJp1, at_of2 (j := 0) rfl rfl, t1, _, 4, _, rfl, rfl, SqT.of kt1, at_of2 (j := 4) rfl rfl, _, rfl, Jp1, _, 1, _, rfl, rfl, SqL.of kJp1, at_of2 (j := 1) rfl rfl, t2, _, 4, _, rfl, rfl, SqT.of kt2, at_of2 (j := 4) rfl rfl, ?_⟩
    refine ⟨(small1000 (by show (1 : Nat) ≤ 1000; decide)), fun Jp2 hJp2 => ?_⟩
    have sJp2 := same_new (o := (.lst [.ref y1, .ref y2])) (Same.refl Hd) hJp2
    have kt1 := sJp2 _ _ kt1
    have ky1 := sJp2 _ _ ky1
    have kt2 := sJp2 _ _ kt2
    have ky2 := sJp2 _ _ ky2
    have kJp1 := sJp2 _ _ kJp1
    have kJp2 : upd Hd Jp2 (.lst [.ref y1, .ref y2]) Jp2 = some (.lst [.ref y1, .ref y2]) := upd_same
    generalize upd Hd Jp2 (.lst [.ref y1, .ref y2]) = J2 at sJp2 kt1 ky1 kt2 ky2 kJp1 kJp2 ⊢
    refine ⟨(small1000 (by show (1 : Nat) ≤ 1000; decide)), fun Jp3 hJp3 => ?_⟩
    have sJp3 := same_new (o := (.lst [.int 2, .int 3])) (Same.refl J2) hJp3
    have kt1 := sJp3 _ _ kt1
    have ky1 := sJp3 _ _ ky1
    have kt2 := sJp3 _ _ kt2
    have ky2 := sJp3 _ _ ky2
    have kJp1 := sJp3 _ _ kJp1
    have kJp3 : upd J2 Jp3 (.lst [.int 2, .int 3]) Jp3 = some (.lst [.int 2, .int 3]) := upd_same
    generalize upd J2 Jp3 (.lst [.int 2, .int 3]) = J3 at sJp3 kt1 ky1 kt2 ky2 kJp1 kJp3 ⊢
    refine ⟨(Nat.zero_le _), fun Jp4 hJp4 => ?_⟩
    have sJp4 := same_new (o := (.lst [])) (Same.refl J3) hJp4
    have kt1 := sJp4 _ _ kt1
    have ky1 := sJp4 _ _ ky1
    have kt2 := sJp4 _ _ kt2
    have ky2 := sJp4 _ _ ky2
    have kJp1 := sJp4 _ _ kJp1
    have kJp4 : upd J3 Jp4 (.lst []) Jp4 = some (.lst []) := upd_same
    generalize upd J3 Jp4 (.lst []) = J4 at sJp4 kt1 ky1 kt2 ky2 kJp1 kJp4 ⊢
    refine ⟨(small1000 (by show (1 : Nat) ≤ 1000; decide)), fun Jp5 hJp5 => ?_⟩
    have sJp5 := same_new (o := (.lst [.ref Jp3, .ref Jp4])) (Same.refl J4) hJp5
    have kt1 := sJp5 _ _ kt1
    have ky1 := sJp5 _ _ ky1
    have kt2 := sJp5 _ _ kt2
    have ky2 := sJp5 _ _ ky2
    have kJp1 := sJp5 _ _ kJp1
    have kJp5 : upd J4 Jp5 (.lst [.ref Jp3, .ref Jp4]) Jp5 = some (.lst [.ref Jp3, .ref Jp4]) := upd_same
    generalize upd J4 Jp5 (.lst [.ref Jp3, .ref Jp4]) = J5 at sJp5 kt1 ky1 kt2 ky2 kJp1 kJp5 ⊢
    refine ⟨_, _, rfl, up_L (sJp5 _ _ (sJp4 _ _ (sJp3 _ _ kJp2))) kJp5 (by show 2 ≤ 1000; decide) rfl (it_cons (up_il (ns := [2, 3]) ky1 (sJp5 _ _ (sJp4 _ _ kJp3)) (by show 2 ≤ 1000; decide)) (it_cons (up_il (ns := []) ky2 (sJp5 _ _ kJp4) (Nat.zero_le _)) it_nil)), fun He se => ⟨_, rfl, ifF rfl ?_⟩⟩
    try dsimp only [L2.start, List.set, List.map, List.append, List.replicate, List.length]
    refine ⟨(small1000 (by show (3 : Nat) ≤ 1000; decide)), fun Jp6 hJp6 => ?_⟩
    have sJp6 := same_new (o := (.lst [.int 3, .int 7, .int 8, .int 13])) (Same.refl He) hJp6
    have kJp6 : upd He Jp6 (.lst [.int 3, .int 7, .int 8, .int 13]) Jp6 = some (.lst [.int 3, .int 7, .int 8, .int 13]) := upd_same
    generalize upd He Jp6 (.lst [.int 3, .int 7, .int 8, .int 13]) = J6 at sJp6  kJp6 ⊢
    refine ⟨(small1000 (by show (1 : Nat) ≤ 1000; decide)), fun Jp7 hJp7 => ?_⟩
    have sJp7 := same_new (o := (.lst [.int 3, .int 8])) (Same.refl J6) hJp7
    have kJp7 : upd J6 Jp7 (.lst [.int 3, .int 8]) Jp7 = some (.lst [.int 3, .int 8]) := upd_same
    generalize upd J6 Jp7 (.lst [.int 3, .int 8]) = J7 at sJp7  kJp7 ⊢
    refine fun za da nza nda nea => ?_
    have ga : Same J7 (upd (upd J7 da (.own za)) za (.ins C da [])) := same_new (same_new (Same.refl J7) nda) (by rw [upd_ne (Ne.symm nea)]; exact nza)
    refine ⟨za, da, Jp6, Jp7, 20, [3, 7, 8, 13], [3, 8], rfl, upd_same, ga _ _ (sJp7 _ _ kJp6), ga _ _ kJp7, ⟨by decide, by decide, by decide, by decide, by decide, by decide⟩, fun Ra rna kpa => ⟨rfl, ?_⟩⟩
    have sa := same_ins (Same.refl J7) nza nda kpa
    refine ⟨za, 20, [3, 7, 8, 13], [3, 8], rfl, rna.at, ⟨by decide, by decide +kernel⟩, ⟨by decide, by decide, by decide, by decide, by decide, by decide +kernel⟩, fun Wa wa => ?_⟩
    have swa := wa
    refine ⟨(Nat.zero_le _), fun Jp8 hJp8 => ?_⟩
    have sJp8 := same_new (o := (.lst [])) (Same.refl Wa) hJp8
    have kJp8 : upd Wa Jp8 (.lst []) Jp8 = some (.lst []) := upd_same
    generalize upd Wa Jp8 (.lst []) = J8 at sJp8  kJp8 ⊢
    refine ⟨(Nat.zero_le _), fun Jp9 hJp9 => ?_⟩
    have sJp9 := same_new (o := (.lst [])) (Same.refl J8) hJp9
    have kJp9 : upd J8 Jp9 (.lst []) Jp9 = some (.lst []) := upd_same
    generalize upd J8 Jp9 (.lst []) = J9 at sJp9  kJp9 ⊢
    refine fun zb db nzb ndb neb => ?_
    have gb : Same J9 (upd (upd J9 db (.own zb)) zb (.ins C db [])) := same_new (same_new (Same.refl J9) ndb) (by rw [upd_ne (Ne.symm neb)]; exact nzb)
    refine ⟨zb, db, Jp8, Jp9, 20, [], [], rfl, upd_same, gb _ _ (sJp9 _ _ kJp8), gb _ _ kJp9, ⟨by decide, by decide, by decide, by decide, by decide, by decide⟩, fun Rb rnb kpb => ⟨rfl, ?_⟩⟩
    have sb := same_ins (Same.refl J9) nzb ndb kpb
    refine ⟨zb, 20, [], [], rfl, rnb.at, ⟨by decide, by decide +kernel⟩, ⟨by decide, by decide, by decide, by decide, by decide, by decide +kernel⟩, fun Wb wb => ?_⟩
    have swb := wb
    refine ⟨(small1000 (by show (2 : Nat) ≤ 1000; decide)), fun Jp10 hJp10 => ?_⟩
    have sJp10 := same_new (o := (.tup [.int 2, .int 4, .int 5])) (Same.refl Wb) hJp10
    have kJp10 : upd Wb Jp10 (.tup [.int 2, .int 4, .int 5]) Jp10 = some (.tup [.int 2, .int 4, .int 5]) := upd_same
    generalize upd Wb Jp10 (.tup [.int 2, .int 4, .int 5]) = J10 at sJp10  kJp10 ⊢
    refine ⟨Jp10, 2, 4, 5, rfl, kJp10, ⟨by decide, by decide +kernel⟩, ⟨by decide, by decide +kernel⟩, ⟨by decide, by decide +kernel⟩, ?_⟩
    refine ⟨(small1000 (by show (2 : Nat) ≤ 1000; decide)), fun Jp11 hJp11 => ?_⟩
    have sJp11 := same_new (o := (.lst [.str (rowT 20 [3, 7, 8, 13] [3, 8]), .str (rowT 20 [] []), .str (setT 2 4 5)])) (Same.refl J10) hJp11
    have kJp11 : upd J10 Jp11 (.lst [.str (rowT 20 [3, 7, 8, 13] [3, 8]), .str (rowT 20 [] []), .str (setT 2 4 5)]) Jp11 = some (.lst [.str (rowT 20 [3, 7, 8, 13] [3, 8]), .str (rowT 20 [] []), .str (setT 2 4 5)]) := upd_same
    generalize upd J10 Jp11 (.lst [.str (rowT 20 [3, 7, 8, 13] [3, 8]), .str (rowT 20 [] []), .str (setT 2 4 5)]) = J11 at sJp11  kJp11 ⊢
    try dsimp only [L2.start, List.set, List.map, List.append, List.replicate, List.length]
    refine ⟨_, rfl, (small1000 (by show (1 : Nat) ≤ 1000; decide)), fun Jp12 hJp12 => ?_⟩
    have sJp12 := same_new (o := (.lst [.int 2, .int 3])) (Same.refl J11) hJp12
    have kJp12 : upd J11 Jp12 (.lst [.int 2, .int 3]) Jp12 = some (.lst [.int 2, .int 3]) := upd_same
    generalize upd J11 Jp12 (.lst [.int 2, .int 3]) = J12 at sJp12  kJp12 ⊢
    refine ⟨(small1000 (by show (0 : Nat) ≤ 1000; decide)), fun Jp13 hJp13 => ?_⟩
    have sJp13 := same_new (o := (.lst [.int 3])) (Same.refl J12) hJp13
    have kJp13 : upd J12 Jp13 (.lst [.int 3]) Jp13 = some (.lst [.int 3]) := upd_same
    generalize upd J12 Jp13 (.lst [.int 3]) = J13 at sJp13  kJp13 ⊢
    refine ⟨(small1000 (by show (4 : Nat) ≤ 1000; decide)), fun Jp14 hJp14 => ?_⟩
    have sJp14 := same_new (o := (.tup [.int 4, .int 6, .int 3, .ref Jp12, .ref Jp13])) (Same.refl J13) hJp14
    have kJp14 : upd J13 Jp14 (.tup [.int 4, .int 6, .int 3, .ref Jp12, .ref Jp13]) Jp14 = some (.tup [.int 4, .int 6, .int 3, .ref Jp12, .ref Jp13]) := upd_same
    generalize upd J13 Jp14 (.tup [.int 4, .int 6, .int 3, .ref Jp12, .ref Jp13]) = J14 at sJp14  kJp14 ⊢
    refine ⟨Jp14, Jp12, Jp13, 4, 6, 3, 3, [2, 3], [3], rfl, kJp14, (sJp14 _ _ (sJp13 _ _ kJp12)), (sJp14 _ _ kJp13), ⟨by decide, by decide +kernel⟩, ⟨by decide, by decide +kernel⟩, ⟨by decide, by decide +kernel⟩, ⟨by decide, by decide, by decide, by decide, by decide, by decide +kernel⟩, fun Wc swc => ?_⟩
    refine ⟨(Nat.zero_le _), fun Jp15 hJp15 => ?_⟩
    have sJp15 := same_new (o := (.lst [])) (Same.refl Wc) hJp15
    have kJp15 : upd Wc Jp15 (.lst []) Jp15 = some (.lst []) := upd_same
    generalize upd Wc Jp15 (.lst []) = J15 at sJp15  kJp15 ⊢
    refine ⟨(Nat.zero_le _), fun Jp16 hJp16 => ?_⟩
    have sJp16 := same_new (o := (.lst [])) (Same.refl J15) hJp16
    have kJp16 : upd J15 Jp16 (.lst []) Jp16 = some (.lst []) := upd_same
    generalize upd J15 Jp16 (.lst []) = J16 at sJp16  kJp16 ⊢
    refine ⟨(small1000 (by show (4 : Nat) ≤ 1000; decide)), fun Jp17 hJp17 => ?_⟩
    have sJp17 := same_new (o := (.tup [.int 4, .int 6, .int 0, .ref Jp15, .ref Jp16])) (Same.refl J16) hJp17
    have kJp17 : upd J16 Jp17 (.tup [.int 4, .int 6, .int 0, .ref Jp15, .ref Jp16]) Jp17 = some (.tup [.int 4, .int 6, .int 0, .ref Jp15, .ref Jp16]) := upd_same
    generalize upd J16 Jp17 (.tup [.int 4, .int 6, .int 0, .ref Jp15, .ref Jp16]) = J17 at sJp17  kJp17 ⊢
    refine ⟨Jp17, Jp15, Jp16, 4, 6, 0, 3, [], [], rfl, kJp17, (sJp17 _ _ (sJp16 _ _ kJp15)), (sJp17 _ _ kJp16), ⟨by decide, by decide +kernel⟩, ⟨by decide, by decide +kernel⟩, ⟨by decide, by decide +kernel⟩, ⟨by decide, by decide, by decide, by decide, by decide, by decide +kernel⟩, fun Wd swd => ?_⟩
    refine ⟨(small1000 (by show (1 : Nat) ≤ 1000; decide)), fun Jp18 hJp18 => ?_⟩
    have sJp18 := same_new (o := (.lst [.str (chgT 4 6 3 [2, 3] [3]), .str (chgT 4 6 0 [] [])])) (Same.refl Wd) hJp18
    have kJp18 : upd Wd Jp18 (.lst [.str (chgT 4 6 3 [2, 3] [3]), .str (chgT 4 6 0 [] [])]) Jp18 = some (.lst [.str (chgT 4 6 3 [2, 3] [3]), .str (chgT 4 6 0 [] [])]) := upd_same
    generalize upd Wd Jp18 (.lst [.str (chgT 4 6 3 [2, 3] [3]), .str (chgT 4 6 0 [] [])]) = J18 at sJp18  kJp18 ⊢
    refine ⟨Jp11, Jp18, _, _, rfl, rfl, (sJp18 _ _ (swd _ _ (sJp17 _ _ (sJp16 _ _ (sJp15 _ _ (swc _ _ (sJp14 _ _ (sJp13 _ _ (sJp12 _ _ kJp11))))))))), kJp18, (small1000 (by show (4 : Nat) ≤ 1000; decide)), fun Jp19 hJp19 => ?_⟩
    have sJp19 := same_new (o := (.lst ([.str (rowT 20 [3, 7, 8, 13] [3, 8]), .str (rowT 20 [] []), .str (setT 2 4 5)] ++ [.str (chgT 4 6 3 [2, 3] [3]), .str (chgT 4 6 0 [] [])]))) (Same.refl J18) hJp19
    have kJp19 : upd J18 Jp19 (.lst ([.str (rowT 20 [3, 7, 8, 13] [3, 8]), .str (rowT 20 [] []), .str (setT 2 4 5)] ++ [.str (chgT 4 6 3 [2, 3] [3]), .str (chgT 4 6 0 [] [])])) Jp19 = some (.lst ([.str (rowT 20 [3, 7, 8, 13] [3, 8]), .str (rowT 20 [] []), .str (setT 2 4 5)] ++ [.str (chgT 4 6 3 [2, 3] [3]), .str (chgT 4 6 0 [] [])])) := upd_same
    generalize upd J18 Jp19 (.lst ([.str (rowT 20 [3, 7, 8, 13] [3, 8]), .str (rowT 20 [] []), .str (setT 2 4 5)] ++ [.str (chgT 4 6 3 [2, 3] [3]), .str (chgT 4 6 0 [] [])])) = J19 at sJp19  kJp19 ⊢
    try dsimp only [L2.start, List.set, List.map, List.append, List.replicate, List.length]
    refine ⟨_, rfl, (small1000 (by show (4 : Nat) ≤ 1000; decide)), fun Jp20 hJp20 => ?_⟩
    have sJp20 := same_new (o := (.lst [.str "20: 3! 7 8! 13", .str "20:", .str "2-4-5", .str "4-6 by 3: 2 3!", .str "4-6 by 0:"])) (Same.refl J19) hJp20
    have kJp20 : upd J19 Jp20 (.lst [.str "20: 3! 7 8! 13", .str "20:", .str "2-4-5", .str "4-6 by 3: 2 3!", .str "4-6 by 0:"]) Jp20 = some (.lst [.str "20: 3! 7 8! 13", .str "20:", .str "2-4-5", .str "4-6 by 3: 2 3!", .str "4-6 by 0:"]) := upd_same
    generalize upd J19 Jp20 (.lst [.str "20: 3! 7 8! 13", .str "20:", .str "2-4-5", .str "4-6 by 3: 2 3!", .str "4-6 by 0:"]) = J20 at sJp20  kJp20 ⊢
    exact ⟨_, _, rfl, up_L (sJp20 _ _ kJp19) kJp20 (by show 5 ≤ 1000; decide) rfl (it_cons (up_e (by decide +kernel)) (it_cons (up_e (by decide +kernel)) (it_cons (up_e (by decide +kernel)) (it_cons (up_e (by decide +kernel)) (it_cons (up_e (by decide +kernel)) it_nil))))), fun Hz _ => q Hz⟩
abbrev NL : List Str := ["script", "bag", "turn", "marks", "strict", "size", "shown", "made", "low", "mid", "rule", "first", "last", "wide", "found", "spot"]
theorem scL : FnScope NL ["script"] (defScope sL) := ⟨rfl, rfl, rfl, by decide +kernel, rfl, by decide +kernel, by decide +kernel⟩
theorem ok_law {f C fB fD fNb fWo fA fRr fWr fRs fWs fRc fWc fFr fI pL fGL pM fGM pS fGS fE : Addr} {fd fdB fdD fdNb fdWo fdA fdRr fdWr fdRs fdWs fdRc fdWc fdFr fdI dL dM dS fdE : FuncData} (F : Fun K "law" "law" sL f fd) (T : Bl mg) (R : Cl K mg C) (M : Mk K C fI) (bI : Binds K fdI NI []) (GI : FnOk P w K mg base CX0 5 fI fdI NI (spInit C)) (Gs : Gets P w K mg base C pL fGL pM fGM pS fGS dL dM dS) (Z : Eqs P w K mg base C fE fdE) (hST : mg "str" = none)
    (gB : mg "_law_bag" = some (.ref fB)) (kB : PySem.W.keepIn K (.ref fB) = true) (bB : Binds K fdB ["script"] []) (GB : FnOk P w K mg base CX0 1 fB fdB ["script"] (spBag K))
    (gD : mg "_law_draw" = some (.ref fD)) (kD : PySem.W.keepIn K (.ref fD) = true) (bD : Binds K fdD ["bag", "wide"] []) (GD : FnOk P w K mg base CX0 2 fD fdD ["bag", "wide"] spDr)
    (gNb : mg "_law_numbers" = some (.ref fNb)) (kNb : PySem.W.keepIn K (.ref fNb) = true) (bNb : Binds K fdNb ["bag", "low", "many"] []) (GNb : FnOk P w K mg base CX0 3 fNb fdNb ["bag", "low", "many"] spNb)
    (gWo : mg "_law_words" = some (.ref fWo)) (kWo : PySem.W.keepIn K (.ref fWo) = true) (bWo : Binds K fdWo ["marks", "strict"] []) (GWo : FnOk P w K mg base CX0 1 fWo fdWo ["marks", "strict"] spWo)
    (gA : mg "_law_alike" = some (.ref fA)) (kA : PySem.W.keepIn K (.ref fA) = true) (bA : Binds K fdA ["found", "due"] []) (GA : FnOk P w K mg base CX0 5 fA fdA ["found", "due"] (spA (Up (Up (Up (Up NoL))))))
    (gRr : mg "read_row" = some (.ref fRr)) (kRr : PySem.W.keepIn K (.ref fRr) = true) (bRr : Binds K fdRr ["text"] []) (kbRr : KBinds K fdRr ["text"] ["text"] gR1 gR1V) (GRr : FnOk P w K mg base CX0 7 fRr fdRr ["text"] (spRr C))
    (gWr : mg "write_row" = some (.ref fWr)) (kWr : PySem.W.keepIn K (.ref fWr) = true) (bWr : Binds K fdWr ["row"] []) (kbWr : KBinds K fdWr ["row"] ["row"] gR1 gR1V) (GWr : FnOk P w K mg base CX0 3 fWr fdWr ["row"] (spWr C))
    (gRs : mg "read_settings" = some (.ref fRs)) (kRs : PySem.W.keepIn K (.ref fRs) = true) (bRs : Binds K fdRs ["text"] []) (kbRs : KBinds K fdRs ["text"] ["text"] gR1 gR1V) (GRs : FnOk P w K mg base CX0 3 fRs fdRs ["text"] spRg)
    (gWs : mg "write_settings" = some (.ref fWs)) (kWs : PySem.W.keepIn K (.ref fWs) = true) (bWs : Binds K fdWs ["settings"] []) (kbWs : KBinds K fdWs ["settings"] ["settings"] gR1 gR1V) (GWs : FnOk P w K mg base CX0 1 fWs fdWs ["settings"] spWs)
    (gRc : mg "read_change" = some (.ref fRc)) (kRc : PySem.W.keepIn K (.ref fRc) = true) (bRc : Binds K fdRc ["text"] []) (kbRc : KBinds K fdRc ["text"] ["text"] gR1 gR1V) (GRc : FnOk P w K mg base CX0 3 fRc fdRc ["text"] spRch)
    (gWc : mg "write_change" = some (.ref fWc)) (kWc : PySem.W.keepIn K (.ref fWc) = true) (bWc : Binds K fdWc ["change"] []) (kbWc : KBinds K fdWc ["change"] ["change"] gR1 gR1V) (GWc : FnOk P w K mg base CX0 2 fWc fdWc ["change"] spWc)
    (gFr : mg "_law_fixed_right" = some (.ref fFr)) (kFr : PySem.W.keepIn K (.ref fFr) = true) (bFr : Binds K fdFr [] []) (GFr : FnOk P w K mg base CX0 8 fFr fdFr [] spFr) :
    FnOk P w K mg base CX0 9 f fd ["script"] (spLaw K) := by
  refine F.ok scL (fun vs H Q E h => ?_) (fun cdv A outer s H vs Q E hr h => ?_)
  · obtain ⟨a, ns, rfl, _⟩ := h
    rfl
  · obtain ⟨a, ns, rfl, hS, hl, q⟩ := h
    refine ⟨_, (pss_cons (ps_set (i := 1) scL.nd rfl (Or.inr rfl) (pe_call GB (hr.mono (by decide)) rfl gB kB bB .nil pass0 (pa_cons (pv 0) pa_nil)))
        (pss_cons (ps_for PassesOwn.never rfl (pi_range1 (by rfl) T.range (pa_cons pe_int pa_nil)) (pg_name (i := 2) scL.nd rfl (Or.inl rfl))
        (pss_cons (ps_set (i := 3) scL.nd rfl (Or.inl rfl) (pe_call GNb (hr.mono (by decide)) rfl gNb kNb bNb .nil pass0 (pa_cons (pv 1) (pa_cons pe_int (pa_cons (pe_call GD (hr.mono (by decide)) rfl gD kD bD .nil pass0 (pa_cons (pv 1) (pa_cons (pe_ix (r := rIxL K) ix_list (pe_lst (pa_cons pe_int (pa_cons pe_int pa_nil))) (pe_call GD (hr.mono (by decide)) rfl gD kD bD .nil pass0 (pa_cons (pv 1) (pa_cons pe_int pa_nil))) (fun _ _ => rfl)) pa_nil))) pa_nil)))))
        (pss_cons (ps_setLc (i := 4) (own := [("spot", 15)]) (g := (gName 15)) rfl scL.nd rfl rfl (sw_true rfl rfl rfl (by decide +kernel)) (pi_list (pv 3)) (blkOk_by (own := [("spot", 15)]) (N := NL) (sc := defScope sL) (by decide +kernel)) (fun _ _ _ _ _ => (pg_name (i := 15) scL.nd rfl (Or.inl rfl))) (fun _ _ _ _ _ => (pts_one (pt_cmpR op_eq (pe_call GD (hr.mono (by decide)) rfl gD kD bD .nil pass0 (pa_cons (pv 1) (pa_cons pe_int pa_nil))) pe_int (nomark _)))) (fun _ _ _ _ _ => (pv 15)))
        (pss_cons (ps_set (i := 5) scL.nd rfl (Or.inl rfl) (pe_op op_add (pe_op op_add (pe_ifExp (pt_cmpR (op_neD hr.units) (pv 3) (pe_lst pa_nil) (nomark _)) (pe_ix (r := rIxL K) ix_list (pv 3) (pe_un un_neg pe_int) (fun _ _ => rfl)) pe_int) pe_int) (pe_call GD (hr.mono (by decide)) rfl gD kD bD .nil pass0 (pa_cons (pv 1) (pa_cons (pe_ix (r := rIxL K) ix_list (pe_lst (pa_cons pe_int (pa_cons (pe_op op_pow pe_int pe_int) pa_nil))) (pe_call GD (hr.mono (by decide)) rfl gD kD bD .nil pass0 (pa_cons (pv 1) (pa_cons pe_int pa_nil))) (fun _ _ => rfl)) pa_nil)))))
        (pss_cons (ps_set (i := 6) scL.nd rfl (Or.inl rfl) (pe_op op_add_str (pe_op op_add_str (pe_callTy call_str_int (by rfl) hST (by decide +kernel) (pa_cons (pv 5) pa_nil)) pe_str) (pe_call GWo (hr.mono (by decide)) rfl gWo kWo bWo .nil pass0 (pa_cons (pv 3) (pa_cons (pv 4) pa_nil)))))
        (pss_cons (ps_set (i := 7) scL.nd rfl (Or.inl rfl) (pe_make M GI (hr.mono (by decide)) rfl R.mgR bI .nil pass0 (pa_cons (pv 5) (pa_cons (pv 3) (pa_cons (pv 4) pa_nil)))))
        (pss_cons (ps_if (PW.pt (pw_or (pt_not (pt_val (pe_call GA (hr.mono (by decide)) rfl gA kA bA .nil pass0 (pa_cons (pe_call GWr (hr.mono (by decide)) rfl gWr kWr bWr .nil pass0 (pa_cons (pv 7) pa_nil)) (pa_cons (pv 6) pa_nil))))) (pw_or1 (pt_cmpR (op_neG Z.ok Z.hm Z.hn Z.hs Z.hf Z.hb pass0 (hr.mono (by decide))) (pe_callK0 GRr (hr.mono (by decide)) rfl gRr kRr kbRr pass0 (pk_cons (pv 6) pk_nil)) (pv 7) (nomark _))))) (pss_one (ps_ret pe_bl)) pss_nil)
        (pss_cons (ps_if (PW.pt (pw_or (pt_not (pt_val (pe_call GA (hr.mono (by decide)) rfl gA kA bA .nil pass0 (pa_cons (pe_prop (pe_call GRr (hr.mono (by decide)) rfl gRr kRr bRr .nil pass0 (pa_cons (pv 6) pa_nil)) R.cl Gs.hM Gs.GM (hr.mono (by decide)) Gs.bM .nil pass0 rfl) (pa_cons (pv 3) pa_nil))))) (pw_or1 (pt_cmpR op_ne (pe_callK0 GWr (hr.mono (by decide)) rfl gWr kWr kbWr pass0 (pk_cons (pe_call GRr (hr.mono (by decide)) rfl gRr kRr bRr .nil pass0 (pa_cons (pv 6) pa_nil)) pk_nil)) (pv 6) (nomark _))))) (pss_one (ps_ret pe_bl)) pss_nil)
        (pss_cons (ps_set (i := 8) scL.nd rfl (Or.inl rfl) (pe_op op_add pe_int (pe_call GD (hr.mono (by decide)) rfl gD kD bD .nil pass0 (pa_cons (pv 1) (pa_cons (pe_ix (r := rIxL K) ix_list (pe_lst (pa_cons pe_int (pa_cons (pe_op op_pow pe_int pe_int) pa_nil))) (pe_call GD (hr.mono (by decide)) rfl gD kD bD .nil pass0 (pa_cons (pv 1) (pa_cons pe_int pa_nil))) (fun _ _ => rfl)) pa_nil)))))
        (pss_cons (ps_set (i := 9) scL.nd rfl (Or.inl rfl) (pe_op op_add (pv 8) (pe_call GD (hr.mono (by decide)) rfl gD kD bD .nil pass0 (pa_cons (pv 1) (pa_cons (pe_ix (r := rIxL K) ix_list (pe_lst (pa_cons pe_int (pa_cons (pe_op op_pow pe_int pe_int) pa_nil))) (pe_call GD (hr.mono (by decide)) rfl gD kD bD .nil pass0 (pa_cons (pv 1) (pa_cons pe_int pa_nil))) (fun _ _ => rfl)) pa_nil)))))
        (pss_cons (ps_set (i := 10) scL.nd rfl (Or.inl rfl) (pe_tup (pa_cons (pv 8) (pa_cons (pv 9) (pa_cons (pe_op op_add (pv 9) (pe_call GD (hr.mono (by decide)) rfl gD kD bD .nil pass0 (pa_cons (pv 1) (pa_cons (pe_ix (r := rIxL K) ix_list (pe_lst (pa_cons pe_int (pa_cons (pe_op op_pow pe_int pe_int) pa_nil))) (pe_call GD (hr.mono (by decide)) rfl gD kD bD .nil pass0 (pa_cons (pv 1) (pa_cons pe_int pa_nil))) (fun _ _ => rfl)) pa_nil)))) pa_nil)))))
        (pss_cons (ps_set (i := 6) scL.nd rfl (Or.inl rfl) (pe_op op_add_str (pe_op op_add_str (pe_op op_add_str (pe_op op_add_str (pe_callTy call_str_int (by rfl) hST (by decide +kernel) (pa_cons (pe_ix (r := rIxT K) ix_tup (pv 10) pe_int (fun _ _ => rfl)) pa_nil)) pe_str) (pe_callTy call_str_int (by rfl) hST (by decide +kernel) (pa_cons (pe_ix (r := rIxT K) ix_tup (pv 10) pe_int (fun _ _ => rfl)) pa_nil))) pe_str) (pe_callTy call_str_int (by rfl) hST (by decide +kernel) (pa_cons (pe_ix (r := rIxT K) ix_tup (pv 10) pe_int (fun _ _ => rfl)) pa_nil))))
        (pss_cons (ps_if (pt_not (pt_val (pe_call GA (hr.mono (by decide)) rfl gA kA bA .nil pass0 (pa_cons (pe_lst (pa_cons (pe_callK0 GWs (hr.mono (by decide)) rfl gWs kWs kbWs pass0 (pk_cons (pv 10) pk_nil)) (pa_cons (pe_callK0 GRs (hr.mono (by decide)) rfl gRs kRs kbRs pass0 (pk_cons (pv 6) pk_nil)) pa_nil))) (pa_cons (pe_lst (pa_cons (pv 6) (pa_cons (pv 10) pa_nil))) pa_nil))))) (pss_one (ps_ret pe_bl)) pss_nil)
        (pss_cons (ps_set (i := 11) scL.nd rfl (Or.inl rfl) (pe_call GD (hr.mono (by decide)) rfl gD kD bD .nil pass0 (pa_cons (pv 1) (pa_cons (pe_ix (r := rIxL K) ix_list (pe_lst (pa_cons pe_int (pa_cons (pe_op op_pow pe_int pe_int) pa_nil))) (pe_call GD (hr.mono (by decide)) rfl gD kD bD .nil pass0 (pa_cons (pv 1) (pa_cons pe_int pa_nil))) (fun _ _ => rfl)) pa_nil))))
        (pss_cons (ps_set (i := 12) scL.nd rfl (Or.inl rfl) (pe_op op_add (pv 11) (pe_call GD (hr.mono (by decide)) rfl gD kD bD .nil pass0 (pa_cons (pv 1) (pa_cons (pe_ix (r := rIxL K) ix_list (pe_lst (pa_cons pe_int (pa_cons (pe_op op_pow pe_int pe_int) pa_nil))) (pe_call GD (hr.mono (by decide)) rfl gD kD bD .nil pass0 (pa_cons (pv 1) (pa_cons pe_int pa_nil))) (fun _ _ => rfl)) pa_nil)))))
        (pss_cons (ps_set (i := 13) scL.nd rfl (Or.inl rfl) (pe_op op_add (pe_ifExp (pt_cmpR (op_neD hr.units) (pv 3) (pe_lst pa_nil) (nomark _)) (pe_ix (r := rIxL K) ix_list (pv 3) (pe_un un_neg pe_int) (fun _ _ => rfl)) pe_int) (pe_call GD (hr.mono (by decide)) rfl gD kD bD .nil pass0 (pa_cons (pv 1) (pa_cons (pe_ix (r := rIxL K) ix_list (pe_lst (pa_cons pe_int (pa_cons (pe_op op_pow pe_int pe_int) pa_nil))) (pe_call GD (hr.mono (by decide)) rfl gD kD bD .nil pass0 (pa_cons (pv 1) (pa_cons pe_int pa_nil))) (fun _ _ => rfl)) pa_nil)))))
        (pss_cons (ps_set (i := 7) scL.nd rfl (Or.inl rfl) (pe_tup (pa_cons (pv 11) (pa_cons (pv 12) (pa_cons (pv 13) (pa_cons (pv 3) (pa_cons (pv 4) pa_nil)))))))
        (pss_cons (ps_set (i := 6) scL.nd rfl (Or.inl rfl) (pe_op op_add_str (pe_op op_add_str (pe_op op_add_str (pe_op op_add_str (pe_op op_add_str (pe_op op_add_str (pe_callTy call_str_int (by rfl) hST (by decide +kernel) (pa_cons (pv 11) pa_nil)) pe_str) (pe_callTy call_str_int (by rfl) hST (by decide +kernel) (pa_cons (pv 12) pa_nil))) pe_str) (pe_callTy call_str_int (by rfl) hST (by decide +kernel) (pa_cons (pv 13) pa_nil))) pe_str) (pe_call GWo (hr.mono (by decide)) rfl gWo kWo bWo .nil pass0 (pa_cons (pv 3) (pa_cons (pv 4) pa_nil)))))
        (pss_cons (ps_if (pt_not (pt_val (pe_call GA (hr.mono (by decide)) rfl gA kA bA .nil pass0 (pa_cons (pe_lst (pa_cons (pe_callK0 GWc (hr.mono (by decide)) rfl gWc kWc kbWc pass0 (pk_cons (pv 7) pk_nil)) (pa_cons (pe_callK0 GRc (hr.mono (by decide)) rfl gRc kRc kbRc pass0 (pk_cons (pv 6) pk_nil)) pa_nil))) (pa_cons (pe_lst (pa_cons (pv 6) (pa_cons (pv 7) pa_nil))) pa_nil))))) (pss_one (ps_ret pe_bl)) pss_nil)
        (pss_cons (ps_set (i := 14) scL.nd rfl (Or.inl rfl) (pe_call GRc (hr.mono (by decide)) rfl gRc kRc bRc .nil pass0 (pa_cons (pv 6) pa_nil)))
        (pss_cons (ps_expr (pe_bm PySem.F.plainAttrs_list PySem.F.slot_list_append PySem.F.type_list_append mt_append (pe_ix (r := rIxT K) ix_tup (pv 14) pe_int (fun _ _ => rfl)) (pa_cons pe_int pa_nil)))
        (pss_one (ps_if (pt_not (pt_val (pe_call GA (hr.mono (by decide)) rfl gA kA bA .nil pass0 (pa_cons (pe_ix (r := rIxT K) ix_tup (pv 14) pe_int (fun _ _ => rfl)) (pa_cons (pv 4) pa_nil))))) (pss_one (ps_ret pe_bl)) pss_nil)))))))))))))))))))))))
        (pss_one (ps_ret (pe_call0 GFr (hr.mono (by decide)) rfl gFr kFr bFr .nil pass0))))), ?_⟩
    refine ⟨_, rfl, a, ns, rfl, hS, hl, fun b l H1 B s1 => ?_⟩
    try dsimp only [L2.start, List.set, List.map, List.append, List.replicate, List.length]
    refine ⟨_, rfl, by decide, by decide, for_range (lo := 0) (n := Int.toNat _) (fun _ σ H' => ∃ u2 u3 u4 u5 u6 u7 u8 u9 u10 u11 u12 u13 u14 u15 : Option V, σ = [some (.ref a), some (.ref b), u2, u3, u4, u5, u6, u7, u8, u9, u10, u11, u12, u13, u14, u15] ∧ Bag H' b l) ⟨_, _, _, _, _, _, _, _, _, _, _, _, _, _, rfl, B⟩ ?_ ?_⟩
    · rintro i σ H0 hi ⟨u2, u3, u4, u5, u6, u7, u8, u9, u10, u11, u12, u13, u14, u15, rfl, B⟩
      dsimp only [gName, List.set]
      refine go_asg (go_call3 rfl (draw_n rfl B (by decide) (by decide) (by decide +kernel) (fun _ _ h => h) fun v1 H1 v10 v11 B1 y1 => ?_))
      refine ⟨b, l, 0, v1, rfl, B1, Int.le_refl _, v10, by omega, fun q H2 ms nq kq ln asc rg B2 y2 => ?_⟩
      have qb := (B1.here nq).1.symm
      have ql := (B1.here nq).2.symm
      try dsimp only [List.set]
      have kq0 := kq
      refine go_asg ⟨_, rfl, q, rfl, ⟨_, SqL.of kq⟩, fun D hD => ?_⟩
      have Db := (B2.here hD).1.symm
      have Dl := (B2.here hD).2.symm
      refine lc_list (K := K) (a := q) (xs := ms.map V.int) (fun i H' => Bag H' b l ∧ But H2 H' b ∧ IL H' q ms ∧ ∃ ss : List Int, IL H' D ss ∧ ss.Sublist (ms.take i)) ⟨B2.same (same_new (Same.refl H2) hD), But.of (same_new (Same.refl H2) hD), same_new (Same.refl H2) hD _ _ kq, [], upd_same, .slnil⟩ (fun i H' _ z => SqL.of z.2.2.1) ?_ ?_
      · rintro i x H' hx ⟨B3, y3, kq, ss, kD, sub⟩
        obtain ⟨z, rfl, hz⟩ := il_at hx
        have il : i < ms.length := (List.getElem?_eq_some_iff.mp hz).1
        have tk : ms.take (i + 1) = ms.take i ++ [z] := by
          rw [List.take_succ_eq_append_getElem il]
          rw [List.getElem?_eq_getElem il] at hz
          rw [Option.some.inj hz]
        have lss : ss.length ≤ 60 := by have z1 := sub.length_le; rw [List.length_take] at z1; omega
        refine ⟨rfl, ?_⟩
        refine ⟨_, rfl, b, l, 2, rfl, B3, by decide, by decide, fun v H5 v0 v1 B5 y5 => ⟨rfl, _, rfl, ?_⟩⟩
        have kq := y5 _ _ kq qb
        have kD := y5 _ _ kD Db
        by_cases c : v = 0
        · subst c
          refine ifT rfl ⟨_, rfl, _, kD, by rw [List.length_map]; exact small1000 (by omega), B5.put Db.symm Dl.symm, ((y3.trans y5).put hD), ?_, ss ++ [z], ?_, ?_⟩
          · show upd _ _ _ _ = _
            rw [upd_ne (ne_of_none kq0 hD)]
            exact kq
          · show upd _ _ _ _ = _
            rw [upd_same, List.map_append]
            rfl
          · rw [tk]
            exact sub.append (List.Sublist.refl _)
        · refine ifF (decide_eq_false fun z => c (V.int.inj z)) ⟨B5, y3.trans y5, kq, ss, kD, ?_⟩
          rw [tk]
          exact sub.trans (List.sublist_append_left _ _)
      rintro H3 ⟨B3, y3, kq, ss, kD, sub⟩
      rw [List.length_map, List.take_length] at sub
      dsimp only [gName, List.set]
      have lss : ss.length ≤ 60 := by have z1 := sub.length_le; omega
      have kq := kq
      obtain ⟨t0, t1, rg⟩ := last_top asc rg rfl (by decide)
      have aS : Asc ss := List.Pairwise.sublist sub asc
      refine go_asg (go_op (go_op (last_or rfl kq fun H4 s4 => ⟨_, _, rfl, rfl, (draw_n (y := 10 ^ 28) rfl (B3.same s4) (by decide) (by decide +kernel) (by decide +kernel) (fun _ _ h => ⟨_, _, rfl, rfl, ⟨by decide, by decide, by decide⟩, h⟩) fun d Hd d0 d1 Bd yd => ⟨_, _, rfl, rfl, ?_⟩)⟩)))
      have kq := s4 _ _ kq
      have kD := s4 _ _ kD
      have B3 := B3.same s4
      have kq := yd _ _ kq qb
      have kD := yd _ _ kD Db
      have B3 := Bd
      dsimp only [gName, List.set]
      generalize hT : ms.getLastD 0 = top at t0 t1 rg ⊢
      obtain ⟨size, hsz⟩ : ∃ z, z = top + 1 + d := ⟨_, rfl⟩
      rw [← hsz]
      have NS : Nm size := ⟨by omega, by omega⟩
      have M3 : Mk3 ms ss (size - 1) := ⟨by omega, asc, aS, fun x hx => by have := rg x hx; omega, fun x hx => sub.subset hx, by have := NS.hi; omega⟩
      have hl : ("-" : Str).length = 1 := by decide +kernel
      have cl : (":" : Str).length = 1 := by decide +kernel
      have bl : (" by " : Str).length = 4 := by decide +kernel
      refine go_asg ⟨_, rfl, size, rfl, NS.log, _, _, rfl, rfl, ?_, _, rfl, _, rfl, q, D, ms, ss, rfl, kq, kD, M3.nm, by omega, fun H6 s6 => ⟨_, _, rfl, rfl, ?_, ?_⟩⟩
      · have l1 : (Str.ofString (toString size)).length ≤ 30 := NS.len.2
        rw [cl, sizeLine_eq]
        omega
      · rw [← PySem.strLen_append, show Str.ofString (toString size) ++ ":" ++ lawW ss ms = rowT size ms ss from row_is _ _ _, sizeLine_eq]
        exact rowT_len NS M3.nm M3.len
      rw [show Str.ofString (toString size) ++ ":" ++ lawW ss ms = rowT size ms ss from row_is _ _ _]
      have kq := s6 _ _ kq
      have kD := s6 _ _ kD
      have B3 := B3.same s6
      dsimp only [gName, List.set]
      refine go_asg ⟨_, rfl, _, rfl, _, rfl, fun z dz nz nd ne => ?_⟩
      have g9 : Same H6 (upd (upd H6 dz (.own z)) z (.ins C dz [])) := same_new (same_new (Same.refl H6) nd) (by rw [upd_ne (Ne.symm ne)]; exact nz)
      refine ⟨z, dz, q, D, size, ms, ss, rfl, upd_same, g9 _ _ kq, g9 _ _ kD, ⟨by omega, M3.len, M3.rng, M3.asc, M3.asc2, M3.sub⟩, fun H7 rn kz => ⟨rfl, ?_⟩⟩
      have s7 := same_ins (Same.refl H6) nz nd kz
      have kq := s7 _ _ kq
      have kD := s7 _ _ kD
      have B3 := B3.same s7
      have row := rn.at
      dsimp only [gName, List.set]
      refine ⟨_, rfl, z, size, ms, ss, rfl, row, NS, M3, fun H8 s8 => ⟨_, rfl, _, _, rfl, up_s _, fun H9 s9 => ⟨_, rfl, ifF rfl ?_⟩⟩⟩
      have kq := s8 _ _ kq
      have kD := s8 _ _ kD
      have B3 := B3.same s8
      have kq := s9 _ _ kq
      have kD := s9 _ _ kD
      have B3 := B3.same s9
      have row := (row.same s8).same s9
      refine ⟨_, rfl, size, ms, ss, rfl, NS, M3, by omega, fun H10 p s10 rp => ⟨_, rfl, alike_ins rp.at (row.same s10), fun H11 e11 => ⟨_, rfl, ifF rfl ?_⟩⟩⟩
      have kq := s10 _ _ kq
      have kD := s10 _ _ kD
      have B3 := B3.same s10
      have kq := e11 _ _ kq
      have kD := e11 _ _ kD
      have B3 := B3.same e11
      have row := (row.same s10).same e11
      refine ⟨_, rfl, size, ms, ss, rfl, NS, M3, by omega, fun H12 p2 s12 rp2 => ?_⟩
      have kq := s12 _ _ kq
      have kD := s12 _ _ kD
      have B3 := B3.same s12
      obtain ⟨dx2, l21, l22, ho2, _⟩ := id rp2.at
      refine ⟨p2, dx2, _, rfl, ho2, p2, size, ms, ss, rfl, rp2.at, fun c H13 s13 nc kc => ?_⟩
      have kq := s13 _ _ kq
      have kD := s13 _ _ kD
      have B3 := B3.same s13
      refine ⟨_, rfl, _, _, rfl, up_il kc kq (by omega), fun H14 s14 => ⟨_, rfl, ifF rfl ?_⟩⟩
      have kq := s14 _ _ kq
      have kD := s14 _ _ kD
      have B3 := B3.same s14
      refine ⟨_, rfl, size, ms, ss, rfl, NS, M3, by omega, fun H15 p3 s15 rp3 => ⟨p3, size, ms, ss, rfl, rp3.at, NS, M3, fun H16 s16 => ⟨_, rfl, rfl, _, rfl, ifF (by rw [decide_eq_true rfl]; rfl) ?_⟩⟩⟩
      have kq := s15 _ _ kq
      have kD := s15 _ _ kD
      have B3 := B3.same s15
      have kq := s16 _ _ kq
      have kD := s16 _ _ kD
      have B3 := B3.same s16
      refine go_asg (go_opc (draw_n (y := 10 ^ 29) rfl B3 (by decide) (by decide +kernel) (by decide +kernel) (fun _ _ h => ⟨_, _, rfl, rfl, ⟨by decide, by decide, by decide⟩, h⟩) fun e He e0 e1 Be ye => ⟨_, _, rfl, rfl, ?_⟩))
      have kq := ye _ _ kq qb
      have kD := ye _ _ kD Db
      have B3 := Be
      dsimp only [gName, List.set]
      obtain ⟨low, hlow⟩ : ∃ z, z = 1 + e := ⟨_, rfl⟩
      rw [← hlow]
      refine go_asg (go_opv rfl (draw_n (y := 10 ^ 29) rfl B3 (by decide) (by decide +kernel) (by decide +kernel) (fun _ _ h => ⟨_, _, rfl, rfl, ⟨by decide, by decide, by decide⟩, h⟩) fun f1 Hf1 f10 f11 Bf1 yf1 => ⟨_, _, rfl, rfl, ?_⟩))
      have kq := yf1 _ _ kq qb
      have kD := yf1 _ _ kD Db
      have B3 := Bf1
      dsimp only [gName, List.set]
      obtain ⟨mid, hmid⟩ : ∃ z, z = low + f1 := ⟨_, rfl⟩
      rw [← hmid]
      refine go_asg (go_tup3 rfl rfl (go_opv rfl (draw_n (y := 10 ^ 29) rfl B3 (by decide) (by decide +kernel) (by decide +kernel) (fun _ _ h => ⟨_, _, rfl, rfl, ⟨by decide, by decide, by decide⟩, h⟩) fun g1 Hg1 g10 g11 Bg1 yg1 => ⟨_, _, rfl, rfl, small1000 (by show (2 : Nat) ≤ 1000; decide), fun t nt => ?_⟩)))
      have kq := yg1 _ _ kq qb
      have kD := yg1 _ _ kD Db
      have B3 := Bg1
      obtain ⟨far, hfar⟩ : ∃ z, z = mid + g1 := ⟨_, rfl⟩
      rw [show (fun (i j : Int) => V.int (i + j)) mid g1 = V.int far from by rw [hfar]]
      have swt := same_new (o := (.tup [.int low, .int mid, .int far])) (Same.refl Hg1) nt
      have kwt : upd Hg1 t (.tup [.int low, .int mid, .int far]) t = some (.tup [.int low, .int mid, .int far]) := upd_same
      have kq := swt _ _ kq
      have kD := swt _ _ kD
      have nbt := (B3.here nt).1.symm
      have B3 := B3.same swt
      generalize upd Hg1 t (.tup [.int low, .int mid, .int far]) = H20 at swt kwt B3 kq kD ⊢
      dsimp only [gName, List.set]
      have N1 : Nm low := ⟨by omega, by omega⟩
      have N2 : Nm mid := ⟨by omega, by omega⟩
      have N3 : Nm far := ⟨by omega, by omega⟩
      have SO : SetOk low mid far := ⟨by omega, by omega, by omega⟩
      have l1 : (Str.ofString (toString low)).length ≤ 30 := N1.len.2
      have l2 : (Str.ofString (toString mid)).length ≤ 30 := N2.len.2
      have l3 : (Str.ofString (toString far)).length ≤ 30 := N3.len.2
      refine go_asg ⟨_, rfl, t, _, 0, _, rfl, rfl, SqT.of kwt, at_of2 (j := 0) rfl rfl, low, rfl, N1.log, _, _, rfl, rfl, ?_, _, rfl, t, _, 1, _, rfl, rfl, SqT.of kwt, at_of2 (j := 1) rfl rfl, mid, rfl, N2.log, _, _, rfl, rfl, ?_, _, _, rfl, rfl, ?_, _, rfl, t, _, 2, _, rfl, rfl, SqT.of kwt, at_of2 (j := 2) rfl rfl, far, rfl, N3.log, _, _, rfl, rfl, ?_, ?_⟩
      iterate 4
        · rw [sizeLine_eq]
          simp only [PySem.strLen_append, hl]
          omega
      rw [show Str.ofString (toString low) ++ "-" ++ Str.ofString (toString mid) ++ "-" ++ Str.ofString (toString far) = setT low mid far from rfl]
      dsimp only [gName, List.set]
      refine ⟨_, rfl, t, low, mid, far, rfl, kwt, N1, N2, N3, _, rfl, low, mid, far, rfl, N1, N2, N3, SO, fun H21 p4 s21 np4 k4 => ⟨small1000 (by show (1 : Nat) ≤ 1000; decide), fun c4 nc4 => ?_⟩⟩
      have kq := s21 _ _ kq
      have kD := s21 _ _ kD
      have kwt := s21 _ _ kwt
      have B3 := B3.same s21
      have swc4 := same_new (o := (.lst [.str (setT low mid far), .ref p4])) (Same.refl H21) nc4
      have kwc4 : upd H21 c4 (.lst [.str (setT low mid far), .ref p4]) c4 = some (.lst [.str (setT low mid far), .ref p4]) := upd_same
      have kq := swc4 _ _ kq
      have kD := swc4 _ _ kD
      have kwt := swc4 _ _ kwt
      have k4 := swc4 _ _ k4
      have nbc4 := (B3.here nc4).1.symm
      have B3 := B3.same swc4
      generalize upd H21 c4 (.lst [.str (setT low mid far), .ref p4]) = H22 at swc4 kwc4 B3 kq kD kwt k4 ⊢
      refine ⟨_, rfl, _, rfl, small1000 (by show (1 : Nat) ≤ 1000; decide), fun c5 nc5 => ?_⟩
      have swc5 := same_new (o := (.lst [.str (setT low mid far), .ref t])) (Same.refl H22) nc5
      have kwc5 : upd H22 c5 (.lst [.str (setT low mid far), .ref t]) c5 = some (.lst [.str (setT low mid far), .ref t]) := upd_same
      have kq := swc5 _ _ kq
      have kD := swc5 _ _ kD
      have kwt := swc5 _ _ kwt
      have k4 := swc5 _ _ k4
      have kwc4 := swc5 _ _ kwc4
      have nbc5 := (B3.here nc5).1.symm
      have B3 := B3.same swc5
      generalize upd H22 c5 (.lst [.str (setT low mid far), .ref t]) = H23 at swc5 kwc5 B3 kq kD kwt k4 kwc4 ⊢
      refine ⟨_, _, rfl, up_L kwc4 kwc5 (by show 2 ≤ 1000; decide) rfl (it_cons (up_s _) (it_cons (up_T k4 kwt (by show 3 ≤ 1000; decide) rfl (it_cons (up_i _) (it_cons (up_i _) (it_cons (up_i _) it_nil)))) it_nil)), fun H24 s24 => ⟨_, rfl, ifF rfl ?_⟩⟩
      have kq := s24 _ _ kq
      have kD := s24 _ _ kD
      have B3 := B3.same s24
      refine go_asg (draw_n (y := 10 ^ 29) rfl B3 (by decide) (by decide +kernel) (by decide +kernel) (fun _ _ h => ⟨_, _, rfl, rfl, ⟨by decide, by decide, by decide⟩, h⟩) fun h1 Hh1 h10 h11 Bh1 yh1 => ?_)
      have kq := yh1 _ _ kq qb
      have kD := yh1 _ _ kD Db
      have B3 := Bh1
      dsimp only [gName, List.set]
      refine go_asg (go_opv rfl (draw_n (y := 10 ^ 29) rfl B3 (by decide) (by decide +kernel) (by decide +kernel) (fun _ _ h => ⟨_, _, rfl, rfl, ⟨by decide, by decide, by decide⟩, h⟩) fun i1 Hi1 i10 i11 Bi1 yi1 => ⟨_, _, rfl, rfl, ?_⟩))
      have kq := yi1 _ _ kq qb
      have kD := yi1 _ _ kD Db
      have B3 := Bi1
      dsimp only [gName, List.set]
      obtain ⟨fin, hfin⟩ : ∃ z, z = h1 + i1 := ⟨_, rfl⟩
      rw [← hfin]
      refine go_asg (go_op (last_or rfl kq fun H4 s4 => (draw_n (y := 10 ^ 28) rfl (B3.same s4) (by decide) (by decide +kernel) (by decide +kernel) (fun _ _ h => ⟨_, _, rfl, rfl, ⟨by decide, by decide, by decide⟩, h⟩) fun w1 Hw1 w10 w11 Bw1 yw1 => ⟨_, _, rfl, rfl, ?_⟩)))
      have kq := s4 _ _ kq
      have kD := s4 _ _ kD
      have B3 := B3.same s4
      have kq := yw1 _ _ kq qb
      have kD := yw1 _ _ kD Db
      have B3 := Bw1
      dsimp only [gName, List.set]
      rw [hT]
      obtain ⟨wide, hw⟩ : ∃ z, z = top + w1 := ⟨_, rfl⟩
      rw [← hw]
      have NF : Nm h1 := ⟨by omega, by omega⟩
      have NL : Nm fin := ⟨by omega, by omega⟩
      have NW : Nm wide := ⟨by omega, by omega⟩
      have M4 : Mk3 ms ss wide := ⟨by omega, asc, aS, fun x hx => by have := rg x hx; omega, fun x hx => sub.subset hx, NW.hi⟩
      refine go_asg ⟨_, rfl, _, rfl, _, rfl, _, rfl, _, rfl, small1000 (by show (4 : Nat) ≤ 1000; decide), fun t5 nt5 => ?_⟩
      have swt5 := same_new (o := (.tup [.int h1, .int fin, .int wide, .ref q, .ref D])) (Same.refl Hw1) nt5
      have kwt5 : upd Hw1 t5 (.tup [.int h1, .int fin, .int wide, .ref q, .ref D]) t5 = some (.tup [.int h1, .int fin, .int wide, .ref q, .ref D]) := upd_same
      have kq := swt5 _ _ kq
      have kD := swt5 _ _ kD
      have nbt5 := (B3.here nt5).1.symm
      have B3 := B3.same swt5
      generalize upd Hw1 t5 (.tup [.int h1, .int fin, .int wide, .ref q, .ref D]) = H30 at swt5 kwt5 B3 kq kD ⊢
      dsimp only [gName, List.set]
      have f1 : (Str.ofString (toString h1)).length ≤ 30 := NF.len.2
      have f2 : (Str.ofString (toString fin)).length ≤ 30 := NL.len.2
      have f3 : (Str.ofString (toString wide)).length ≤ 30 := NW.len.2
      refine go_asg ⟨_, rfl, h1, rfl, NF.log, _, _, rfl, rfl, ?_, _, rfl, fin, rfl, NL.log, _, _, rfl, rfl, ?_, _, _, rfl, rfl, ?_, _, rfl, wide, rfl, NW.log, _, _, rfl, rfl, ?_, _, _, rfl, rfl, ?_, _, rfl, _, rfl, q, D, ms, ss, rfl, kq, kD, M4.nm, by omega, fun H31 s31 => ⟨_, _, rfl, rfl, ?_, ?_⟩⟩
      iterate 5
        · rw [sizeLine_eq]
          simp only [PySem.strLen_append, hl, bl, cl]
          omega
      · rw [← PySem.strLen_append, show Str.ofString (toString h1) ++ "-" ++ Str.ofString (toString fin) ++ " by " ++ Str.ofString (toString wide) ++ ":" ++ lawW ss ms = chgT h1 fin wide ms ss from chg_is _ _ _ _ _, sizeLine_eq]
        exact chgT_len NF NL NW M4.nm M4.len
      rw [show Str.ofString (toString h1) ++ "-" ++ Str.ofString (toString fin) ++ " by " ++ Str.ofString (toString wide) ++ ":" ++ lawW ss ms = chgT h1 fin wide ms ss from chg_is _ _ _ _ _]
      have kq := s31 _ _ kq
      have kD := s31 _ _ kD
      have kwt5 := s31 _ _ kwt5
      have B3 := B3.same s31
      dsimp only [gName, List.set]
      refine ⟨_, rfl, t5, q, D, h1, fin, wide, wide, ms, ss, rfl, kwt5, kq, kD, NF, NL, NW, M4, fun H32 s32 => ?_⟩
      have kq := s32 _ _ kq
      have kD := s32 _ _ kD
      have kwt5 := s32 _ _ kwt5
      have B3 := B3.same s32
      refine ⟨_, rfl, h1, fin, wide, ms, ss, rfl, NF, NL, by omega, NW, M4, fun H33 t6 x6 y6 s33 nt6 nx6 ny6 nxy6 kt6 kx6 ky6 => ?_⟩
      have kq := s33 _ _ kq
      have kD := s33 _ _ kD
      have kwt5 := s33 _ _ kwt5
      have B3 := B3.same s33
      refine ⟨small1000 (by show (1 : Nat) ≤ 1000; decide), fun c6 nc6 => ?_⟩
      have swc6 := same_new (o := (.lst [.str (chgT h1 fin wide ms ss), .ref t6])) (Same.refl H33) nc6
      have kwc6 : upd H33 c6 (.lst [.str (chgT h1 fin wide ms ss), .ref t6]) c6 = some (.lst [.str (chgT h1 fin wide ms ss), .ref t6]) := upd_same
      have kq := swc6 _ _ kq
      have kD := swc6 _ _ kD
      have kwt5 := swc6 _ _ kwt5
      have kt6 := swc6 _ _ kt6
      have kx6 := swc6 _ _ kx6
      have ky6 := swc6 _ _ ky6
      have nbc6 := (B3.here nc6).1.symm
      have B3 := B3.same swc6
      generalize upd H33 c6 (.lst [.str (chgT h1 fin wide ms ss), .ref t6]) = H34 at swc6 kwc6 B3 kq kD kwt5 kt6 kx6 ky6 ⊢
      refine ⟨_, rfl, _, rfl, small1000 (by show (1 : Nat) ≤ 1000; decide), fun c7 nc7 => ?_⟩
      have swc7 := same_new (o := (.lst [.str (chgT h1 fin wide ms ss), .ref t5])) (Same.refl H34) nc7
      have kwc7 : upd H34 c7 (.lst [.str (chgT h1 fin wide ms ss), .ref t5]) c7 = some (.lst [.str (chgT h1 fin wide ms ss), .ref t5]) := upd_same
      have kq := swc7 _ _ kq
      have kD := swc7 _ _ kD
      have kwt5 := swc7 _ _ kwt5
      have kt6 := swc7 _ _ kt6
      have kx6 := swc7 _ _ kx6
      have ky6 := swc7 _ _ ky6
      have kwc6 := swc7 _ _ kwc6
      have nbc7 := (B3.here nc7).1.symm
      have B3 := B3.same swc7
      generalize upd H34 c7 (.lst [.str (chgT h1 fin wide ms ss), .ref t5]) = H35 at swc7 kwc7 B3 kq kD kwt5 kt6 kx6 ky6 kwc6 ⊢
      refine ⟨_, _, rfl, up_L kwc6 kwc7 (by show 2 ≤ 1000; decide) rfl (it_cons (up_s _) (it_cons (up_T kt6 kwt5 (by show 5 ≤ 1000; decide) rfl (it_cons (up_i _) (it_cons (up_i _) (it_cons (up_i _) (it_cons (up_il kx6 kq (by omega)) (it_cons (up_il ky6 kD (by omega)) it_nil)))))) it_nil)), fun H36 s36 => ⟨_, rfl, ifF rfl ?_⟩⟩
      have kq := s36 _ _ kq
      have kD := s36 _ _ kD
      have B3 := B3.same s36
      dsimp only [tNext, gName, List.set]
      refine go_asg ⟨_, rfl, h1, fin, wide, ms, ss, rfl, NF, NL, by omega, NW, M4, fun H37 t7 x7 y7 s37 nt7 nx7 ny7 nxy7 kt7 kx7 ky7 => ?_⟩
      have bx7 := (B3.here nx7)
      have n7 := ne_of_none kD nx7
      have n8 : t7 ≠ x7 := fun e => by rw [e] at kt7; cases kt7.symm.trans kx7
      have kq := s37 _ _ kq
      have kD := s37 _ _ kD
      have B3 := B3.same s37
      have B9 := B3.put (o := .lst (ms.map V.int ++ [.int 9])) bx7.1 bx7.2
      dsimp only [gName, List.set]
      refine ⟨_, rfl, t7, _, 3, _, rfl, rfl, SqT.of kt7, at_of2 (j := 3) rfl rfl, .inl ⟨rfl, _, SqL.of kx7⟩, x7, _, _, rfl, rfl, kx7, by rw [List.length_map]; exact small1000 (by omega), ?_⟩
      have kt7 := (upd_ne (H := H37) (o := .lst (ms.map V.int ++ [.int 9])) n8).trans kt7
      have ky7 := (upd_ne (H := H37) (o := .lst (ms.map V.int ++ [.int 9])) nxy7.symm).trans ky7
      have kD := (upd_ne (H := H37) (o := .lst (ms.map V.int ++ [.int 9])) n7).trans kD
      refine ⟨_, rfl, t7, _, 4, _, rfl, rfl, SqT.of kt7, at_of2 (j := 4) rfl rfl, _, rfl, _, _, rfl, up_il ky7 kD (by omega), fun H38 s38 => ⟨_, rfl, ifF rfl ?_⟩⟩
      exact ⟨_, _, _, _, _, _, _, _, _, _, _, _, _, _, rfl, B9.same s38⟩
    · rintro σ H0 ⟨u2, u3, u4, u5, u6, u7, u8, u9, u10, u11, u12, u13, u14, u15, rfl, B⟩
      exact ⟨rfl, fun H9 => q H9⟩
end
end Cw
namespace Cw
open PySem L2
theorem kb_x15_gR1 {K : PySem.W.Frag} {f : Addr} {fd : FuncData} (F : Fun K "read_row" "read_row" sRr f fd) : KBinds K fd ["text"] ["text"] gR1 gR1V := by
  obtain ⟨oc, od, kV, doc, pm, an, cdv, ct, osl, rfl, lk, hcd⟩ := F.ex
  refine ⟨fun s us ws _ hl => ?_, fun {vs us zs ws} r z => ?_⟩
  · match us, ws, hl with
    | [], [a0], _ => exact .of_eq rfl
  · cases r with
    | cons a b => exact .nil
    | nil =>
      cases z with
      | nil => exact .nil
      | cons a0 z =>
        cases z with
        | nil => exact (.cons a0 .nil)
        | cons e z => exact .nil
theorem kb_x20_gR1 {K : PySem.W.Frag} {f : Addr} {fd : FuncData} (F : Fun K "write_row" "write_row" sWr f fd) : KBinds K fd ["row"] ["row"] gR1 gR1V := by
  obtain ⟨oc, od, kV, doc, pm, an, cdv, ct, osl, rfl, lk, hcd⟩ := F.ex
  refine ⟨fun s us ws _ hl => ?_, fun {vs us zs ws} r z => ?_⟩
  · match us, ws, hl with
    | [], [a0], _ => exact .of_eq rfl
  · cases r with
    | cons a b => exact .nil
    | nil =>
      cases z with
      | nil => exact .nil
      | cons a0 z =>
        cases z with
        | nil => exact (.cons a0 .nil)
        | cons e z => exact .nil
theorem kb_x22_gR1 {K : PySem.W.Frag} {f : Addr} {fd : FuncData} (F : Fun K "read_settings" "read_settings" sRg f fd) : KBinds K fd ["text"] ["text"] gR1 gR1V := by
  obtain ⟨oc, od, kV, doc, pm, an, cdv, ct, osl, rfl, lk, hcd⟩ := F.ex
  refine ⟨fun s us ws _ hl => ?_, fun {vs us zs ws} r z => ?_⟩
  · match us, ws, hl with
    | [], [a0], _ => exact .of_eq rfl
  · cases r with
    | cons a b => exact .nil
    | nil =>
      cases z with
      | nil => exact .nil
      | cons a0 z =>
        cases z with
        | nil => exact (.cons a0 .nil)
        | cons e z => exact .nil
theorem kb_x23_gR1 {K : PySem.W.Frag} {f : Addr} {fd : FuncData} (F : Fun K "write_settings" "write_settings" sWs f fd) : KBinds K fd ["settings"] ["settings"] gR1 gR1V := by
  obtain ⟨oc, od, kV, doc, pm, an, cdv, ct, osl, rfl, lk, hcd⟩ := F.ex
  refine ⟨fun s us ws _ hl => ?_, fun {vs us zs ws} r z => ?_⟩
  · match us, ws, hl with
    | [], [a0], _ => exact .of_eq rfl
  · cases r with
    | cons a b => exact .nil
    | nil =>
      cases z with
      | nil => exact .nil
      | cons a0 z =>
        cases z with
        | nil => exact (.cons a0 .nil)
        | cons e z => exact .nil
theorem kb_x24_gR1 {K : PySem.W.Frag} {f : Addr} {fd : FuncData} (F : Fun K "read_change" "read_change" sRch f fd) : KBinds K fd ["text"] ["text"] gR1 gR1V := by
  obtain ⟨oc, od, kV, doc, pm, an, cdv, ct, osl, rfl, lk, hcd⟩ := F.ex
  refine ⟨fun s us ws _ hl => ?_, fun {vs us zs ws} r z => ?_⟩
  · match us, ws, hl with
    | [], [a0], _ => exact .of_eq rfl
  · cases r with
    | cons a b => exact .nil
    | nil =>
      cases z with
      | nil => exact .nil
      | cons a0 z =>
        cases z with
        | nil => exact (.cons a0 .nil)
        | cons e z => exact .nil
theorem kb_x25_gR1 {K : PySem.W.Frag} {f : Addr} {fd : FuncData} (F : Fun K "write_change" "write_change" sWc f fd) : KBinds K fd ["change"] ["change"] gR1 gR1V := by
  obtain ⟨oc, od, kV, doc, pm, an, cdv, ct, osl, rfl, lk, hcd⟩ := F.ex
  refine ⟨fun s us ws _ hl => ?_, fun {vs us zs ws} r z => ?_⟩
  · match us, ws, hl with
    | [], [a0], _ => exact .of_eq rfl
  · cases r with
    | cons a b => exact .nil
    | nil =>
      cases z with
      | nil => exact .nil
      | cons a0 z =>
        cases z with
        | nil => exact (.cons a0 .nil)
        | cons e z => exact .nil
/-! ## what the top has written -/
theorem all_mk {l : PySem.W.OpenLaw} {w : World} {K : PySem.W.Frag} {h : Heap} {mg : Str → Option Value} {fa : Addr} (X : K.In h) (G : h.Ns mainGlobals mg) (hfa : mg "law" = some (.ref fa))
    {C fx0 fx1 fx2 fx3 fx4 fx5 fx6 fx7 fx8 fx9 fx10 fx11 fx12 fx13 fx14 fx15 fx16 fx17 pL fx18 pM fx19 pS fx20 fx21 fx22 fx23 fx24 fx25 fx26 fx27 fLW : Addr} {t_MOST_MARKS t_MOST_DIGITS t_DIGITS : Tok} {restpL restpM restpS : List Value}
    {ocx0 kVx0 dcx0 pmx0 cdx0 ctx0 : Value} {odx0 anx0 : Option Addr} {slx0 : Array (Option Value)}
    {ocx1 kVx1 dcx1 pmx1 cdx1 ctx1 : Value} {odx1 anx1 : Option Addr} {slx1 : Array (Option Value)}
    {ocx2 kVx2 dcx2 pmx2 cdx2 ctx2 : Value} {odx2 anx2 : Option Addr} {slx2 : Array (Option Value)}
    {ocx3 kVx3 dcx3 pmx3 cdx3 ctx3 : Value} {odx3 anx3 : Option Addr} {slx3 : Array (Option Value)}
    {ocx4 kVx4 dcx4 pmx4 cdx4 ctx4 : Value} {odx4 anx4 : Option Addr} {slx4 : Array (Option Value)}
    {ocx5 kVx5 dcx5 pmx5 cdx5 ctx5 : Value} {odx5 anx5 : Option Addr} {slx5 : Array (Option Value)}
    {ocx6 kVx6 dcx6 pmx6 cdx6 ctx6 : Value} {odx6 anx6 : Option Addr} {slx6 : Array (Option Value)}
    {ocx7 kVx7 dcx7 pmx7 cdx7 ctx7 : Value} {odx7 anx7 : Option Addr} {slx7 : Array (Option Value)}
    {ocx8 kVx8 dcx8 pmx8 cdx8 ctx8 : Value} {odx8 anx8 : Option Addr} {slx8 : Array (Option Value)}
    {ocx9 kVx9 dcx9 pmx9 cdx9 ctx9 : Value} {odx9 anx9 : Option Addr} {slx9 : Array (Option Value)}
    {ocx10 kVx10 dcx10 pmx10 cdx10 ctx10 : Value} {odx10 anx10 : Option Addr} {slx10 : Array (Option Value)}
    {ocx11 kVx11 dcx11 pmx11 cdx11 ctx11 : Value} {odx11 anx11 : Option Addr} {slx11 : Array (Option Value)}
    {ocx12 kVx12 dcx12 pmx12 cdx12 ctx12 : Value} {odx12 anx12 : Option Addr} {slx12 : Array (Option Value)}
    {ocx13 kVx13 dcx13 pmx13 cdx13 ctx13 : Value} {odx13 anx13 : Option Addr} {slx13 : Array (Option Value)}
    {ocx14 kVx14 dcx14 pmx14 cdx14 ctx14 : Value} {odx14 anx14 : Option Addr} {slx14 : Array (Option Value)}
    {ocx15 kVx15 dcx15 pmx15 cdx15 ctx15 : Value} {odx15 anx15 : Option Addr} {slx15 : Array (Option Value)}
    {ocx16 kVx16 dcx16 pmx16 cdx16 ctx16 : Value} {odx16 anx16 : Option Addr} {slx16 : Array (Option Value)}
    {ocx17 kVx17 dcx17 pmx17 cdx17 ctx17 : Value} {odx17 anx17 : Option Addr} {slx17 : Array (Option Value)}
    {ocx18 kVx18 dcx18 pmx18 cdx18 ctx18 : Value} {odx18 anx18 : Option Addr} {slx18 : Array (Option Value)}
    {ocx19 kVx19 dcx19 pmx19 cdx19 ctx19 : Value} {odx19 anx19 : Option Addr} {slx19 : Array (Option Value)}
    {ocx20 kVx20 dcx20 pmx20 cdx20 ctx20 : Value} {odx20 anx20 : Option Addr} {slx20 : Array (Option Value)}
    {ocx21 kVx21 dcx21 pmx21 cdx21 ctx21 : Value} {odx21 anx21 : Option Addr} {slx21 : Array (Option Value)}
    {ocx22 kVx22 dcx22 pmx22 cdx22 ctx22 : Value} {odx22 anx22 : Option Addr} {slx22 : Array (Option Value)}
    {ocx23 kVx23 dcx23 pmx23 cdx23 ctx23 : Value} {odx23 anx23 : Option Addr} {slx23 : Array (Option Value)}
    {ocx24 kVx24 dcx24 pmx24 cdx24 ctx24 : Value} {odx24 anx24 : Option Addr} {slx24 : Array (Option Value)}
    {ocx25 kVx25 dcx25 pmx25 cdx25 ctx25 : Value} {odx25 anx25 : Option Addr} {slx25 : Array (Option Value)}
    {ocx26 kVx26 dcx26 pmx26 cdx26 ctx26 : Value} {odx26 anx26 : Option Addr} {slx26 : Array (Option Value)}
    {ocx27 kVx27 dcx27 pmx27 cdx27 ctx27 : Value} {odx27 anx27 : Option Addr} {slx27 : Array (Option Value)}
    {ocLW kVLW dcLW pmLW cdLW ctLW : Value} {odLW anLW : Option Addr} {slLW : Array (Option Value)}
    (aC : PySem.W.nsIn K mainGlobals "Row" = some (some (.ref C)))
    (a_MOST_MARKS : PySem.W.nsIn K mainGlobals "MOST_MARKS" = some (some (.int 400 t_MOST_MARKS)))
    (a_MOST_DIGITS : PySem.W.nsIn K mainGlobals "MOST_DIGITS" = some (some (.int 30 t_MOST_DIGITS)))
    (a_DIGITS : PySem.W.nsIn K mainGlobals "DIGITS" = some (some (.str "0123456789" t_DIGITS)))
    (n_int : PySem.W.nsIn K mainGlobals "int" = some none)
    (n_bool : PySem.W.nsIn K mainGlobals "bool" = some none)
    (n_list : PySem.W.nsIn K mainGlobals "list" = some none)
    (n_tuple : PySem.W.nsIn K mainGlobals "tuple" = some none)
    (n_range : PySem.W.nsIn K mainGlobals "range" = some none)
    (n_len : PySem.W.nsIn K mainGlobals "len" = some none)
    (n_abs : PySem.W.nsIn K mainGlobals "abs" = some none)
    (n_all : PySem.W.nsIn K mainGlobals "all" = some none)
    (n_isinstance : PySem.W.nsIn K mainGlobals "isinstance" = some none)
    (n_zip : PySem.W.nsIn K mainGlobals "zip" = some none)
    (n_max : PySem.W.nsIn K mainGlobals "max" = some none)
    (n_min : PySem.W.nsIn K mainGlobals "min" = some none)
    (n_set : PySem.W.nsIn K mainGlobals "set" = some none)
    (n_sorted : PySem.W.nsIn K mainGlobals "sorted" = some none)
    (n_dict : PySem.W.nsIn K mainGlobals "dict" = some none)
    (n_str : PySem.W.nsIn K mainGlobals "str" = some none)
    (ax0 : PySem.W.nsIn K mainGlobals "is_integer" = some (some (.ref fx0)))
    (lx0 : K.lookup fx0 = some ⟨ocx0, odx0, .func (PySem.W.fnOf "is_integer" "is_integer" (defArgs sIsInt) (defBody sIsInt) (defScope sIsInt) .none kVx0 dcx0 pmx0 anx0 cdx0 ctx0), slx0⟩)
    (cox0 : PySem.W.codeIn K cdx0 "is_integer" = true)
    (kx0 : PySem.W.keepIn K (.ref fx0) = true)
    (ax1 : PySem.W.nsIn K mainGlobals "are_places" = some (some (.ref fx1)))
    (lx1 : K.lookup fx1 = some ⟨ocx1, odx1, .func (PySem.W.fnOf "are_places" "are_places" (defArgs sPlaces) (defBody sPlaces) (defScope sPlaces) .none kVx1 dcx1 pmx1 anx1 cdx1 ctx1), slx1⟩)
    (cox1 : PySem.W.codeIn K cdx1 "are_places" = true)
    (kx1 : PySem.W.keepIn K (.ref fx1) = true)
    (ax2 : PySem.W.nsIn K mainGlobals "are_ascending" = some (some (.ref fx2)))
    (lx2 : K.lookup fx2 = some ⟨ocx2, odx2, .func (PySem.W.fnOf "are_ascending" "are_ascending" (defArgs sAsc) (defBody sAsc) (defScope sAsc) .none kVx2 dcx2 pmx2 anx2 cdx2 ctx2), slx2⟩)
    (cox2 : PySem.W.codeIn K cdx2 "are_ascending" = true)
    (kx2 : PySem.W.keepIn K (.ref fx2) = true)
    (ax3 : PySem.W.nsIn K mainGlobals "are_marks" = some (some (.ref fx3)))
    (lx3 : K.lookup fx3 = some ⟨ocx3, odx3, .func (PySem.W.fnOf "are_marks" "are_marks" (defArgs sMarks) (defBody sMarks) (defScope sMarks) .none kVx3 dcx3 pmx3 anx3 cdx3 ctx3), slx3⟩)
    (cox3 : PySem.W.codeIn K cdx3 "are_marks" = true)
    (kx3 : PySem.W.keepIn K (.ref fx3) = true)
    (ax4 : PySem.W.nsIn K mainGlobals "are_some_of" = some (some (.ref fx4)))
    (lx4 : K.lookup fx4 = some ⟨ocx4, odx4, .func (PySem.W.fnOf "are_some_of" "are_some_of" (defArgs sSome) (defBody sSome) (defScope sSome) .none kVx4 dcx4 pmx4 anx4 cdx4 ctx4), slx4⟩)
    (cox4 : PySem.W.codeIn K cdx4 "are_some_of" = true)
    (kx4 : PySem.W.keepIn K (.ref fx4) = true)
    (ax5 : PySem.W.findIn K (.ref C) "__init__" = some (some (.ref fx5)))
    (ix5 : PySem.W.isFn K (.ref fx5) = true)
    (lx5 : K.lookup fx5 = some ⟨ocx5, odx5, .func (PySem.W.fnOf "__init__" "Row.__init__" (defArgs sInit) (defBody sInit) (defScope sInit) .none kVx5 dcx5 pmx5 anx5 cdx5 ctx5), slx5⟩)
    (cox5 : PySem.W.codeIn K cdx5 "Row.__init__" = true)
    (kx5 : PySem.W.keepIn K (.ref fx5) = true)
    (ax6 : PySem.W.nsIn K mainGlobals "_law_bag" = some (some (.ref fx6)))
    (lx6 : K.lookup fx6 = some ⟨ocx6, odx6, .func (PySem.W.fnOf "_law_bag" "_law_bag" (defArgs sBag) (defBody sBag) (defScope sBag) .none kVx6 dcx6 pmx6 anx6 cdx6 ctx6), slx6⟩)
    (cox6 : PySem.W.codeIn K cdx6 "_law_bag" = true)
    (kx6 : PySem.W.keepIn K (.ref fx6) = true)
    (ax7 : PySem.W.nsIn K mainGlobals "_law_stirred" = some (some (.ref fx7)))
    (lx7 : K.lookup fx7 = some ⟨ocx7, odx7, .func (PySem.W.fnOf "_law_stirred" "_law_stirred" (defArgs sStir) (defBody sStir) (defScope sStir) .none kVx7 dcx7 pmx7 anx7 cdx7 ctx7), slx7⟩)
    (cox7 : PySem.W.codeIn K cdx7 "_law_stirred" = true)
    (kx7 : PySem.W.keepIn K (.ref fx7) = true)
    (ax8 : PySem.W.nsIn K mainGlobals "_law_draw" = some (some (.ref fx8)))
    (lx8 : K.lookup fx8 = some ⟨ocx8, odx8, .func (PySem.W.fnOf "_law_draw" "_law_draw" (defArgs sDraw) (defBody sDraw) (defScope sDraw) .none kVx8 dcx8 pmx8 anx8 cdx8 ctx8), slx8⟩)
    (cox8 : PySem.W.codeIn K cdx8 "_law_draw" = true)
    (kx8 : PySem.W.keepIn K (.ref fx8) = true)
    (ax9 : PySem.W.nsIn K mainGlobals "_law_numbers" = some (some (.ref fx9)))
    (lx9 : K.lookup fx9 = some ⟨ocx9, odx9, .func (PySem.W.fnOf "_law_numbers" "_law_numbers" (defArgs sNb) (defBody sNb) (defScope sNb) .none kVx9 dcx9 pmx9 anx9 cdx9 ctx9), slx9⟩)
    (cox9 : PySem.W.codeIn K cdx9 "_law_numbers" = true)
    (kx9 : PySem.W.keepIn K (.ref fx9) = true)
    (ax10 : PySem.W.nsIn K mainGlobals "_law_words" = some (some (.ref fx10)))
    (lx10 : K.lookup fx10 = some ⟨ocx10, odx10, .func (PySem.W.fnOf "_law_words" "_law_words" (defArgs sWo) (defBody sWo) (defScope sWo) .none kVx10 dcx10 pmx10 anx10 cdx10 ctx10), slx10⟩)
    (cox10 : PySem.W.codeIn K cdx10 "_law_words" = true)
    (kx10 : PySem.W.keepIn K (.ref fx10) = true)
    (ax11 : PySem.W.nsIn K mainGlobals "_law_alike" = some (some (.ref fx11)))
    (lx11 : K.lookup fx11 = some ⟨ocx11, odx11, .func (PySem.W.fnOf "_law_alike" "_law_alike" (defArgs sAlike) (defBody sAlike) (defScope sAlike) .none kVx11 dcx11 pmx11 anx11 cdx11 ctx11), slx11⟩)
    (cox11 : PySem.W.codeIn K cdx11 "_law_alike" = true)
    (kx11 : PySem.W.keepIn K (.ref fx11) = true)
    (ax12 : PySem.W.nsIn K mainGlobals "read_number" = some (some (.ref fx12)))
    (lx12 : K.lookup fx12 = some ⟨ocx12, odx12, .func (PySem.W.fnOf "read_number" "read_number" (defArgs sRn) (defBody sRn) (defScope sRn) .none kVx12 dcx12 pmx12 anx12 cdx12 ctx12), slx12⟩)
    (cox12 : PySem.W.codeIn K cdx12 "read_number" = true)
    (kx12 : PySem.W.keepIn K (.ref fx12) = true)
    (ax13 : PySem.W.nsIn K mainGlobals "read_count" = some (some (.ref fx13)))
    (lx13 : K.lookup fx13 = some ⟨ocx13, odx13, .func (PySem.W.fnOf "read_count" "read_count" (defArgs sRc) (defBody sRc) (defScope sRc) .none kVx13 dcx13 pmx13 anx13 cdx13 ctx13), slx13⟩)
    (cox13 : PySem.W.codeIn K cdx13 "read_count" = true)
    (kx13 : PySem.W.keepIn K (.ref fx13) = true)
    (ax14 : PySem.W.nsIn K mainGlobals "read_marks" = some (some (.ref fx14)))
    (lx14 : K.lookup fx14 = some ⟨ocx14, odx14, .func (PySem.W.fnOf "read_marks" "read_marks" (defArgs sRm) (defBody sRm) (defScope sRm) .none kVx14 dcx14 pmx14 anx14 cdx14 ctx14), slx14⟩)
    (cox14 : PySem.W.codeIn K cdx14 "read_marks" = true)
    (kx14 : PySem.W.keepIn K (.ref fx14) = true)
    (ax15 : PySem.W.nsIn K mainGlobals "read_row" = some (some (.ref fx15)))
    (lx15 : K.lookup fx15 = some ⟨ocx15, odx15, .func (PySem.W.fnOf "read_row" "read_row" (defArgs sRr) (defBody sRr) (defScope sRr) .none kVx15 dcx15 pmx15 anx15 cdx15 ctx15), slx15⟩)
    (cox15 : PySem.W.codeIn K cdx15 "read_row" = true)
    (kx15 : PySem.W.keepIn K (.ref fx15) = true)
    (ax16 : PySem.W.nsIn K mainGlobals "mark_words" = some (some (.ref fx16)))
    (lx16 : K.lookup fx16 = some ⟨ocx16, odx16, .func (PySem.W.fnOf "mark_words" "mark_words" (defArgs sMw) (defBody sMw) (defScope sMw) .none kVx16 dcx16 pmx16 anx16 cdx16 ctx16), slx16⟩)
    (cox16 : PySem.W.codeIn K cdx16 "mark_words" = true)
    (kx16 : PySem.W.keepIn K (.ref fx16) = true)
    (apL : PySem.W.findIn K (.ref C) "length" = some (some (.ref pL)))
    (gpL : PySem.W.specialIn K (.ref pL) "__get__" = some (some (.builtin "property.__get__")))
    (tpL : PySem.W.takesIn K (.ref pL) = some true)
    (rpL : PySem.W.recIn K pL "property" = some (.ref fx17 :: restpL))
    (lx17 : K.lookup fx17 = some ⟨ocx17, odx17, .func (PySem.W.fnOf "length" "Row.length" (defArgs sGetL) (defBody sGetL) (defScope sGetL) .none kVx17 dcx17 pmx17 anx17 cdx17 ctx17), slx17⟩)
    (cox17 : PySem.W.codeIn K cdx17 "Row.length" = true)
    (kx17 : PySem.W.keepIn K (.ref fx17) = true)
    (apM : PySem.W.findIn K (.ref C) "marks" = some (some (.ref pM)))
    (gpM : PySem.W.specialIn K (.ref pM) "__get__" = some (some (.builtin "property.__get__")))
    (tpM : PySem.W.takesIn K (.ref pM) = some true)
    (rpM : PySem.W.recIn K pM "property" = some (.ref fx18 :: restpM))
    (lx18 : K.lookup fx18 = some ⟨ocx18, odx18, .func (PySem.W.fnOf "marks" "Row.marks" (defArgs sGetM) (defBody sGetM) (defScope sGetM) .none kVx18 dcx18 pmx18 anx18 cdx18 ctx18), slx18⟩)
    (cox18 : PySem.W.codeIn K cdx18 "Row.marks" = true)
    (kx18 : PySem.W.keepIn K (.ref fx18) = true)
    (apS : PySem.W.findIn K (.ref C) "strict" = some (some (.ref pS)))
    (gpS : PySem.W.specialIn K (.ref pS) "__get__" = some (some (.builtin "property.__get__")))
    (tpS : PySem.W.takesIn K (.ref pS) = some true)
    (rpS : PySem.W.recIn K pS "property" = some (.ref fx19 :: restpS))
    (lx19 : K.lookup fx19 = some ⟨ocx19, odx19, .func (PySem.W.fnOf "strict" "Row.strict" (defArgs sGetS) (defBody sGetS) (defScope sGetS) .none kVx19 dcx19 pmx19 anx19 cdx19 ctx19), slx19⟩)
    (cox19 : PySem.W.codeIn K cdx19 "Row.strict" = true)
    (kx19 : PySem.W.keepIn K (.ref fx19) = true)
    (ax20 : PySem.W.nsIn K mainGlobals "write_row" = some (some (.ref fx20)))
    (lx20 : K.lookup fx20 = some ⟨ocx20, odx20, .func (PySem.W.fnOf "write_row" "write_row" (defArgs sWr) (defBody sWr) (defScope sWr) .none kVx20 dcx20 pmx20 anx20 cdx20 ctx20), slx20⟩)
    (cox20 : PySem.W.codeIn K cdx20 "write_row" = true)
    (kx20 : PySem.W.keepIn K (.ref fx20) = true)
    (ax21 : PySem.W.nsIn K mainGlobals "read_numbers" = some (some (.ref fx21)))
    (lx21 : K.lookup fx21 = some ⟨ocx21, odx21, .func (PySem.W.fnOf "read_numbers" "read_numbers" (defArgs sRs) (defBody sRs) (defScope sRs) .none kVx21 dcx21 pmx21 anx21 cdx21 ctx21), slx21⟩)
    (cox21 : PySem.W.codeIn K cdx21 "read_numbers" = true)
    (kx21 : PySem.W.keepIn K (.ref fx21) = true)
    (ax22 : PySem.W.nsIn K mainGlobals "read_settings" = some (some (.ref fx22)))
    (lx22 : K.lookup fx22 = some ⟨ocx22, odx22, .func (PySem.W.fnOf "read_settings" "read_settings" (defArgs sRg) (defBody sRg) (defScope sRg) .none kVx22 dcx22 pmx22 anx22 cdx22 ctx22), slx22⟩)
    (cox22 : PySem.W.codeIn K cdx22 "read_settings" = true)
    (kx22 : PySem.W.keepIn K (.ref fx22) = true)
    (ax23 : PySem.W.nsIn K mainGlobals "write_settings" = some (some (.ref fx23)))
    (lx23 : K.lookup fx23 = some ⟨ocx23, odx23, .func (PySem.W.fnOf "write_settings" "write_settings" (defArgs sWs) (defBody sWs) (defScope sWs) .none kVx23 dcx23 pmx23 anx23 cdx23 ctx23), slx23⟩)
    (cox23 : PySem.W.codeIn K cdx23 "write_settings" = true)
    (kx23 : PySem.W.keepIn K (.ref fx23) = true)
    (ax24 : PySem.W.nsIn K mainGlobals "read_change" = some (some (.ref fx24)))
    (lx24 : K.lookup fx24 = some ⟨ocx24, odx24, .func (PySem.W.fnOf "read_change" "read_change" (defArgs sRch) (defBody sRch) (defScope sRch) .none kVx24 dcx24 pmx24 anx24 cdx24 ctx24), slx24⟩)
    (cox24 : PySem.W.codeIn K cdx24 "read_change" = true)
    (kx24 : PySem.W.keepIn K (.ref fx24) = true)
    (ax25 : PySem.W.nsIn K mainGlobals "write_change" = some (some (.ref fx25)))
    (lx25 : K.lookup fx25 = some ⟨ocx25, odx25, .func (PySem.W.fnOf "write_change" "write_change" (defArgs sWc) (defBody sWc) (defScope sWc) .none kVx25 dcx25 pmx25 anx25 cdx25 ctx25), slx25⟩)
    (cox25 : PySem.W.codeIn K cdx25 "write_change" = true)
    (kx25 : PySem.W.keepIn K (.ref fx25) = true)
    (ax26 : PySem.W.nsIn K mainGlobals "_law_fixed_right" = some (some (.ref fx26)))
    (lx26 : K.lookup fx26 = some ⟨ocx26, odx26, .func (PySem.W.fnOf "_law_fixed_right" "_law_fixed_right" (defArgs sFr) (defBody sFr) (defScope sFr) .none kVx26 dcx26 pmx26 anx26 cdx26 ctx26), slx26⟩)
    (cox26 : PySem.W.codeIn K cdx26 "_law_fixed_right" = true)
    (kx26 : PySem.W.keepIn K (.ref fx26) = true)
    (ax27 : PySem.W.findIn K (.ref C) "__eq__" = some (some (.ref fx27)))
    (ix27 : PySem.W.isFn K (.ref fx27) = true)
    (lx27 : K.lookup fx27 = some ⟨ocx27, odx27, .func (PySem.W.fnOf "__eq__" "Row.__eq__" (defArgs sEq) (defBody sEq) (defScope sEq) .none kVx27 dcx27 pmx27 anx27 cdx27 ctx27), slx27⟩)
    (cox27 : PySem.W.codeIn K cdx27 "Row.__eq__" = true)
    (kx27 : PySem.W.keepIn K (.ref fx27) = true)
    (aLW : PySem.W.nsIn K mainGlobals "law" = some (some (.ref fLW)))
    (lLW : K.lookup fLW = some ⟨ocLW, odLW, .func (PySem.W.fnOf "law" "law" (defArgs sL) (defBody sL) (defScope sL) .none kVLW dcLW pmLW anLW cdLW ctLW), slLW⟩)
    (coLW : PySem.W.codeIn K cdLW "law" = true)
    (kLW : PySem.W.keepIn K (.ref fLW) = true)
    (pg : PySem.W.plainGet K C Str.empty = true)
    (hd : PySem.W.hasDictIn K C = true)
    (po : PySem.W.plainOver K C = true)
    (sa : PySem.W.findIn K (.ref C) "__setattr__" = some (some (.builtin "object.__setattr__")))
    (mk : PySem.W.makesIn K C = true)
    (kc : PySem.W.keepIn K (.ref C) = true)
    (nL : PySem.W.findIn K (.ref C) "_length" = some none)
    (nM : PySem.W.findIn K (.ref C) "_marks" = some none)
    (nS : PySem.W.findIn K (.ref C) "_strict" = some none)
    (kt : PySem.W.kitOne K (.ref C) (.ref C) = some true)
    (ca : PySem.W.findIn K (.ref C) "__class__" = some (some (.builtin "object.__class__")))
    (cn : PySem.W.specialIn K (.builtin "object.__class__") "__get__" = some (some (.builtin "getset_descriptor.__get__")))
    (ct : PySem.W.takesIn K (.builtin "object.__class__") = some true)
    (cm : PySem.W.mroIn K C (.type "object") = some true)
    (en : PySem.W.findIn K (.ref C) "__ne__" = some (some (.builtin "object.__ne__")))
    : ∃ fd : FuncData, (∀ (s : Shared) (v : Value), BindsTo s fd ⟨[v], []⟩ [("script", v)]) ∧ ∀ base : Heap, K.In base → base.Ns mainGlobals mg → FnG l.prog w K mg base 9 fa fd ["script"] (spLaw K) := by
  have e := hfa.symm.trans (PySem.W.mg_of X G aLW)
  cases e
  have T : Bl mg := ⟨PySem.W.mg_none_of X G n_int, PySem.W.mg_none_of X G n_bool, PySem.W.mg_none_of X G n_list, PySem.W.mg_none_of X G n_tuple, PySem.W.mg_none_of X G n_range, PySem.W.mg_none_of X G n_len, PySem.W.mg_none_of X G n_abs, PySem.W.mg_none_of X G n_all, PySem.W.mg_none_of X G n_isinstance, PySem.W.mg_none_of X G n_zip, PySem.W.mg_none_of X G n_max, PySem.W.mg_none_of X G n_min, PySem.W.mg_none_of X G n_set, PySem.W.mg_none_of X G n_sorted, PySem.W.mg_none_of X G n_dict⟩
  have R : Cl K mg C := ⟨⟨pg, hd, po, sa⟩, nL, nM, nS, PySem.W.mg_of X G aC, kt⟩
  have N : Ci K C := ⟨ca, cn, ct, cm⟩
  have M : Mk K C fx5 := ⟨mk, ax5, ix5, kc⟩
  have Fx0 := fun_mk (st := sIsInt) lx0 cox0 kx0
  have bx0 := Fx0.binds (ps := ["thing"]) fun _ _ _ _ _ _ us hl => match us, hl with | [_], _ => rfl
  have gx0 := PySem.W.mg_of X G ax0
  have Fx1 := fun_mk (st := sPlaces) lx1 cox1 kx1
  have bx1 := Fx1.binds (ps := ["thing", "low", "high"]) fun _ _ _ _ _ _ us hl => match us, hl with | [_, _, _], _ => rfl
  have gx1 := PySem.W.mg_of X G ax1
  have Fx2 := fun_mk (st := sAsc) lx2 cox2 kx2
  have bx2 := Fx2.binds (ps := ["thing", "low", "high"]) fun _ _ _ _ _ _ us hl => match us, hl with | [_, _, _], _ => rfl
  have gx2 := PySem.W.mg_of X G ax2
  have Fx3 := fun_mk (st := sMarks) lx3 cox3 kx3
  have bx3 := Fx3.binds (ps := ["thing", "high"]) fun _ _ _ _ _ _ us hl => match us, hl with | [_, _], _ => rfl
  have gx3 := PySem.W.mg_of X G ax3
  have Fx4 := fun_mk (st := sSome) lx4 cox4 kx4
  have bx4 := Fx4.binds (ps := ["thing", "marks"]) fun _ _ _ _ _ _ us hl => match us, hl with | [_, _], _ => rfl
  have gx4 := PySem.W.mg_of X G ax4
  have Fx5 := fun_mk (st := sInit) lx5 cox5 kx5
  have bx5 := Fx5.binds (ps := ["self", "length", "marks", "strict"]) fun _ _ _ _ _ _ us hl => match us, hl with | [_, _, _, _], _ => rfl
  have Fx6 := fun_mk (st := sBag) lx6 cox6 kx6
  have bx6 := Fx6.binds (ps := ["script"]) fun _ _ _ _ _ _ us hl => match us, hl with | [_], _ => rfl
  have gx6 := PySem.W.mg_of X G ax6
  have Fx7 := fun_mk (st := sStir) lx7 cox7 kx7
  have bx7 := Fx7.binds (ps := ["bag", "wide"]) fun _ _ _ _ _ _ us hl => match us, hl with | [_, _], _ => rfl
  have gx7 := PySem.W.mg_of X G ax7
  have Fx8 := fun_mk (st := sDraw) lx8 cox8 kx8
  have bx8 := Fx8.binds (ps := ["bag", "wide"]) fun _ _ _ _ _ _ us hl => match us, hl with | [_, _], _ => rfl
  have gx8 := PySem.W.mg_of X G ax8
  have Fx9 := fun_mk (st := sNb) lx9 cox9 kx9
  have bx9 := Fx9.binds (ps := ["bag", "low", "many"]) fun _ _ _ _ _ _ us hl => match us, hl with | [_, _, _], _ => rfl
  have gx9 := PySem.W.mg_of X G ax9
  have Fx10 := fun_mk (st := sWo) lx10 cox10 kx10
  have bx10 := Fx10.binds (ps := ["marks", "strict"]) fun _ _ _ _ _ _ us hl => match us, hl with | [_, _], _ => rfl
  have gx10 := PySem.W.mg_of X G ax10
  have Fx11 := fun_mk (st := sAlike) lx11 cox11 kx11
  have bx11 := Fx11.binds (ps := ["found", "due"]) fun _ _ _ _ _ _ us hl => match us, hl with | [_, _], _ => rfl
  have gx11 := PySem.W.mg_of X G ax11
  have Fx12 := fun_mk (st := sRn) lx12 cox12 kx12
  have bx12 := Fx12.binds (ps := ["word"]) fun _ _ _ _ _ _ us hl => match us, hl with | [_], _ => rfl
  have gx12 := PySem.W.mg_of X G ax12
  have Fx13 := fun_mk (st := sRc) lx13 cox13 kx13
  have bx13 := Fx13.binds (ps := ["word"]) fun _ _ _ _ _ _ us hl => match us, hl with | [_], _ => rfl
  have gx13 := PySem.W.mg_of X G ax13
  have Fx14 := fun_mk (st := sRm) lx14 cox14 kx14
  have bx14 := Fx14.binds (ps := ["words", "begin", "high"]) fun _ _ _ _ _ _ us hl => match us, hl with | [_, _, _], _ => rfl
  have gx14 := PySem.W.mg_of X G ax14
  have Fx15 := fun_mk (st := sRr) lx15 cox15 kx15
  have bx15 := Fx15.binds (ps := ["text"]) fun _ _ _ _ _ _ us hl => match us, hl with | [_], _ => rfl
  have gx15 := PySem.W.mg_of X G ax15
  have Fx16 := fun_mk (st := sMw) lx16 cox16 kx16
  have bx16 := Fx16.binds (ps := ["marks", "strict"]) fun _ _ _ _ _ _ us hl => match us, hl with | [_, _], _ => rfl
  have gx16 := PySem.W.mg_of X G ax16
  have Fx17 := fun_mk (st := sGetL) lx17 cox17 kx17
  have bx17 := Fx17.binds (ps := ["self"]) fun _ _ _ _ _ _ us hl => match us, hl with | [_], _ => rfl
  have Fx18 := fun_mk (st := sGetM) lx18 cox18 kx18
  have bx18 := Fx18.binds (ps := ["self"]) fun _ _ _ _ _ _ us hl => match us, hl with | [_], _ => rfl
  have Fx19 := fun_mk (st := sGetS) lx19 cox19 kx19
  have bx19 := Fx19.binds (ps := ["self"]) fun _ _ _ _ _ _ us hl => match us, hl with | [_], _ => rfl
  have Fx20 := fun_mk (st := sWr) lx20 cox20 kx20
  have bx20 := Fx20.binds (ps := ["row"]) fun _ _ _ _ _ _ us hl => match us, hl with | [_], _ => rfl
  have gx20 := PySem.W.mg_of X G ax20
  have Fx21 := fun_mk (st := sRs) lx21 cox21 kx21
  have bx21 := Fx21.binds (ps := ["word", "many"]) fun _ _ _ _ _ _ us hl => match us, hl with | [_, _], _ => rfl
  have gx21 := PySem.W.mg_of X G ax21
  have Fx22 := fun_mk (st := sRg) lx22 cox22 kx22
  have bx22 := Fx22.binds (ps := ["text"]) fun _ _ _ _ _ _ us hl => match us, hl with | [_], _ => rfl
  have gx22 := PySem.W.mg_of X G ax22
  have Fx23 := fun_mk (st := sWs) lx23 cox23 kx23
  have bx23 := Fx23.binds (ps := ["settings"]) fun _ _ _ _ _ _ us hl => match us, hl with | [_], _ => rfl
  have gx23 := PySem.W.mg_of X G ax23
  have Fx24 := fun_mk (st := sRch) lx24 cox24 kx24
  have bx24 := Fx24.binds (ps := ["text"]) fun _ _ _ _ _ _ us hl => match us, hl with | [_], _ => rfl
  have gx24 := PySem.W.mg_of X G ax24
  have Fx25 := fun_mk (st := sWc) lx25 cox25 kx25
  have bx25 := Fx25.binds (ps := ["change"]) fun _ _ _ _ _ _ us hl => match us, hl with | [_], _ => rfl
  have gx25 := PySem.W.mg_of X G ax25
  have Fx26 := fun_mk (st := sFr) lx26 cox26 kx26
  have bx26 := Fx26.binds (ps := []) fun _ _ _ _ _ _ us hl => match us, hl with | [], _ => rfl
  have gx26 := PySem.W.mg_of X G ax26
  have Fx27 := fun_mk (st := sEq) lx27 cox27 kx27
  have bx27 := Fx27.binds (ps := ["self", "other"]) fun _ _ _ _ _ _ us hl => match us, hl with | [_, _], _ => rfl
  have FLW := fun_mk (st := sL) lLW coLW kLW
  have gLW := PySem.W.mg_of X G aLW
  refine ⟨PySem.W.fnOf "law" "law" (defArgs sL) (defBody sL) (defScope sL) .none kVLW dcLW pmLW anLW cdLW ctLW, fun s v => .of_eq rfl, fun base _ _ => ?_⟩
  have Gx0_spOne := ok_int (P := l.prog) (w := w) (K := K) (mg := mg) (base := base) Fx0 T
  have Gx1_spPlaces := ok_places (P := l.prog) (w := w) (K := K) (mg := mg) (base := base) Fx1 T gx0 kx0 bx0 Gx0_spOne
  have Gx2_spAsc := ok_asc (P := l.prog) (w := w) (K := K) (mg := mg) (base := base) Fx2 T gx1 kx1 bx1 Gx1_spPlaces
  have Gx3_spMarks := ok_marks (P := l.prog) (w := w) (K := K) (mg := mg) (base := base) Fx3 T (PySem.W.mg_of X G a_MOST_MARKS) gx2 kx2 bx2 Gx2_spAsc
  have Gx4_spSome := ok_some (P := l.prog) (w := w) (K := K) (mg := mg) (base := base) Fx4 T gx2 kx2 bx2 Gx2_spAsc
  have Gx5_spInit := ok_init (P := l.prog) (w := w) (K := K) (mg := mg) (base := base) Fx5 T R gx0 kx0 bx0 Gx0_spOne gx3 kx3 bx3 Gx3_spMarks gx4 kx4 bx4 Gx4_spSome
  have Gx17_spGetL := ok_getL (P := l.prog) (w := w) (K := K) (mg := mg) (base := base) Fx17 R
  have Gx18_spGetM := ok_getM (P := l.prog) (w := w) (K := K) (mg := mg) (base := base) Fx18 T R
  have Gx19_spGetS := ok_getS (P := l.prog) (w := w) (K := K) (mg := mg) (base := base) Fx19 T R
  have Gx27_spEq := ok_eq (P := l.prog) (w := w) (K := K) (mg := mg) (base := base) Fx27 T R N
  have Z : Eqs l.prog w K mg base C fx27 _ := ⟨Gx27_spEq, cm, en, ax27, ix27, bx27⟩
  have Gx6_spBag := ok_bag (P := l.prog) (w := w) (K := K) (mg := mg) (base := base) Fx6 T
  have Gx8_spDr := ok_drw (P := l.prog) (w := w) (K := K) (mg := mg) (base := base) Fx8 T Fx7 gx7 bx7
  have Gx9_spNb := ok_nb (P := l.prog) (w := w) (K := K) (mg := mg) (base := base) Fx9 T gx8 kx8 bx8 Gx8_spDr
  have Gx10_spWo := ok_wo (P := l.prog) (w := w) (K := K) (mg := mg) (base := base) Fx10 T (PySem.W.mg_none_of X G n_str)
  have Gx11_spA := ok_alk4 (P := l.prog) (w := w) (K := K) (mg := mg) (base := base) Fx11 T (PySem.W.mg_none_of X G n_str) gx11 bx11
  have Gx12_spRn := ok_rn (P := l.prog) (w := w) (K := K) (mg := mg) (base := base) Fx12 T (PySem.W.mg_of X G a_MOST_DIGITS) (PySem.W.mg_of X G a_DIGITS)
  have Gx13_spRc := ok_rc (P := l.prog) (w := w) (K := K) (mg := mg) (base := base) Fx13 gx12 kx12 bx12 Gx12_spRn
  have Gx14_spRm := ok_rm (P := l.prog) (w := w) (K := K) (mg := mg) (base := base) Fx14 T (PySem.W.mg_of X G a_MOST_MARKS) gx12 kx12 bx12 Gx12_spRn
  have Gx15_spRr := ok_rr (P := l.prog) (w := w) (K := K) (mg := mg) (base := base) Fx15 T R M bx5 Gx5_spInit gx13 kx13 bx13 Gx13_spRc gx14 kx14 bx14 Gx14_spRm
  have Gx16_spMw := ok_mwd (P := l.prog) (w := w) (K := K) (mg := mg) (base := base) Fx16 T
  have Gs : Gets l.prog w K mg base C pL fx17 pM fx18 pS fx19 _ _ _ := ⟨⟨apL, gpL, tpL, ⟨restpL, rpL⟩⟩, bx17, Gx17_spGetL, ⟨apM, gpM, tpM, ⟨restpM, rpM⟩⟩, bx18, Gx18_spGetM, ⟨apS, gpS, tpS, ⟨restpS, rpS⟩⟩, bx19, Gx19_spGetS⟩
  have Gx20_spWr := ok_wr (P := l.prog) (w := w) (K := K) (mg := mg) (base := base) Fx20 T R Gs gx16 kx16 bx16 Gx16_spMw
  have Gx21_spRs := ok_rs (P := l.prog) (w := w) (K := K) (mg := mg) (base := base) Fx21 T gx12 kx12 bx12 Gx12_spRn
  have Gx22_spRg := ok_rg (P := l.prog) (w := w) (K := K) (mg := mg) (base := base) Fx22 T gx21 kx21 bx21 Gx21_spRs
  have Gx23_spWs := ok_ws (P := l.prog) (w := w) (K := K) (mg := mg) (base := base) Fx23
  have Gx24_spRch := ok_rch (P := l.prog) (w := w) (K := K) (mg := mg) (base := base) Fx24 T gx21 kx21 bx21 Gx21_spRs gx13 kx13 bx13 Gx13_spRc gx14 kx14 bx14 Gx14_spRm
  have Gx25_spWc := ok_wc (P := l.prog) (w := w) (K := K) (mg := mg) (base := base) Fx25 T gx16 kx16 bx16 Gx16_spMw
  have Gx26_spFr := ok_fr (P := l.prog) (w := w) (K := K) (mg := mg) (base := base) Fx26 T R M bx5 Gx5_spInit gx24 kx24 bx24 Gx24_spRch gx11 kx11 bx11 Gx11_spA gx20 kx20 bx20 Gx20_spWr gx23 kx23 bx23 Gx23_spWs gx25 kx25 bx25 Gx25_spWc
  exact FnG.of (ok_law (P := l.prog) (w := w) (K := K) (mg := mg) (base := base) FLW T R M bx5 Gx5_spInit Gs Z (PySem.W.mg_none_of X G n_str) gx6 kx6 bx6 Gx6_spBag gx8 kx8 bx8 Gx8_spDr gx9 kx9 bx9 Gx9_spNb gx10 kx10 bx10 Gx10_spWo gx11 kx11 bx11 Gx11_spA gx15 kx15 bx15 (kb_x15_gR1 Fx15) Gx15_spRr gx20 kx20 bx20 (kb_x20_gR1 Fx20) Gx20_spWr gx22 kx22 bx22 (kb_x22_gR1 Fx22) Gx22_spRg gx23 kx23 bx23 (kb_x23_gR1 Fx23) Gx23_spWs gx24 kx24 bx24 (kb_x24_gR1 Fx24) Gx24_spRch gx25 kx25 bx25 (kb_x25_gR1 Fx25) Gx25_spWc gx26 kx26 bx26 Gx26_spFr)
theorem walk_here {l : PySem.W.OpenLaw} {q : Program} {loose : List Str} {XP : (Str → Option Value) → Heap → Prop} {YP : World → Heap → Prop} {d : DefRec} {K : Params → PySem.W.Frag} (hn : l.most = some 63) (hdf : d.params.defaults = [])
    (hY : ∀ (w : World) (h : Heap), YP w h → (K w.params).In h)
    (F : ∀ (w : World) (mg : Str → Option Value) (fa : Addr) (h : Heap), (K w.params).In h → h.Ns mainGlobals mg → mg d.name = some (.ref fa) →
      ∃ fd : FuncData, (∀ (s : Shared) (u : Value), BindsTo s fd ⟨[u], []⟩ [("script", u)]) ∧ ∀ base : Heap, (K w.params).In base → base.Ns mainGlobals mg → FnG l.prog w (K w.params) mg base 9 fa fd ["script"] (spLaw (K w.params))) :
    PySem.W.WalkO q loose XP YP l.row.toRowW d [] (fun f vs => PySem.call f vs) :=
  walkG (n := 63) (k := 9) (x := "script") (sp := fun w => spLaw (K w.params)) hn (by decide) hdf ⟨rfl, by decide, by decide⟩ hY F fun _ _ a ns hl _ hS => ⟨a, ns, rfl, hS, hl, fun _ => rfl⟩
end Cw
open PySem PySem.W PyProof.Rows
set_option maxRecDepth 100000 in
set_option maxHeartbeats 0 in
theorem PySem.Challenge.cw_cutwalks_k57_texts_written_and_read_holds : PySem.Challenge.rw_cutwalks_k57_texts_written_and_read.Holds := by
  w_on; o_law; k_head; (case hw => w_witness2)
  k_fill
  refine Cw.walk_here (l := PySem.Challenge.rw_cutwalks_k57_texts_written_and_read) rfl rfl (fun w h Y => PySem.W.kIn_of Y) ?F
  case F =>
    intro w mg fa h KX G hmg
    refine' Cw.all_mk KX G hmg ?aC ?a_MOST_MARKS ?a_MOST_DIGITS ?a_DIGITS ?n_int ?n_bool ?n_list ?n_tuple ?n_range ?n_len ?n_abs ?n_all ?n_isinstance ?n_zip ?n_max ?n_min ?n_set ?n_sorted ?n_dict ?n_str ?ax0 ?lx0 ?cox0 ?kx0 ?ax1 ?lx1 ?cox1 ?kx1 ?ax2 ?lx2 ?cox2 ?kx2 ?ax3 ?lx3 ?cox3 ?kx3 ?ax4 ?lx4 ?cox4 ?kx4 ?ax5 ?ix5 ?lx5 ?cox5 ?kx5 ?ax6 ?lx6 ?cox6 ?kx6 ?ax7 ?lx7 ?cox7 ?kx7 ?ax8 ?lx8 ?cox8 ?kx8 ?ax9 ?lx9 ?cox9 ?kx9 ?ax10 ?lx10 ?cox10 ?kx10 ?ax11 ?lx11 ?cox11 ?kx11 ?ax12 ?lx12 ?cox12 ?kx12 ?ax13 ?lx13 ?cox13 ?kx13 ?ax14 ?lx14 ?cox14 ?kx14 ?ax15 ?lx15 ?cox15 ?kx15 ?ax16 ?lx16 ?cox16 ?kx16 ?apL ?gpL ?tpL ?rpL ?lx17 ?cox17 ?kx17 ?apM ?gpM ?tpM ?rpM ?lx18 ?cox18 ?kx18 ?apS ?gpS ?tpS ?rpS ?lx19 ?cox19 ?kx19 ?ax20 ?lx20 ?cox20 ?kx20 ?ax21 ?lx21 ?cox21 ?kx21 ?ax22 ?lx22 ?cox22 ?kx22 ?ax23 ?lx23 ?cox23 ?kx23 ?ax24 ?lx24 ?cox24 ?kx24 ?ax25 ?lx25 ?cox25 ?kx25 ?ax26 ?lx26 ?cox26 ?kx26 ?ax27 ?ix27 ?lx27 ?cox27 ?kx27 ?aLW ?lLW ?coLW ?kLW ?pg ?hd ?po ?sa ?mk ?kc ?nL ?nM ?nS ?kt ?ca ?cn ?ct ?cm ?en
    (case aC => k_is)
    (case a_MOST_MARKS => k_is)
    (case a_MOST_DIGITS => k_is)
    (case a_DIGITS => k_is)
    (case n_int => k_is)
    (case n_bool => k_is)
    (case n_list => k_is)
    (case n_tuple => k_is)
    (case n_range => k_is)
    (case n_len => k_is)
    (case n_abs => k_is)
    (case n_all => k_is)
    (case n_isinstance => k_is)
    (case n_zip => k_is)
    (case n_max => k_is)
    (case n_min => k_is)
    (case n_set => k_is)
    (case n_sorted => k_is)
    (case n_dict => k_is)
    (case n_str => k_is)
    (case ax0 => k_is)
    (case lx0 => k_is)
    (case cox0 => k_is)
    (case kx0 => k_is)
    (case ax1 => k_is)
    (case lx1 => k_is)
    (case cox1 => k_is)
    (case kx1 => k_is)
    (case ax2 => k_is)
    (case lx2 => k_is)
    (case cox2 => k_is)
    (case kx2 => k_is)
    (case ax3 => k_is)
    (case lx3 => k_is)
    (case cox3 => k_is)
    (case kx3 => k_is)
    (case ax4 => k_is)
    (case lx4 => k_is)
    (case cox4 => k_is)
    (case kx4 => k_is)
    (case ax5 => k_is)
    (case ix5 => k_is)
    (case lx5 => k_is)
    (case cox5 => k_is)
    (case kx5 => k_is)
    (case ax6 => k_is)
    (case lx6 => k_is)
    (case cox6 => k_is)
    (case kx6 => k_is)
    (case ax7 => k_is)
    (case lx7 => k_is)
    (case cox7 => k_is)
    (case kx7 => k_is)
    (case ax8 => k_is)
    (case lx8 => k_is)
    (case cox8 => k_is)
    (case kx8 => k_is)
    (case ax9 => k_is)
    (case lx9 => k_is)
    (case cox9 => k_is)
    (case kx9 => k_is)
    (case ax10 => k_is)
    (case lx10 => k_is)
    (case cox10 => k_is)
    (case kx10 => k_is)
    (case ax11 => k_is)
    (case lx11 => k_is)
    (case cox11 => k_is)
    (case kx11 => k_is)
    (case ax12 => k_is)
    (case lx12 => k_is)
    (case cox12 => k_is)
    (case kx12 => k_is)
    (case ax13 => k_is)
    (case lx13 => k_is)
    (case cox13 => k_is)
    (case kx13 => k_is)
    (case ax14 => k_is)
    (case lx14 => k_is)
    (case cox14 => k_is)
    (case kx14 => k_is)
    (case ax15 => k_is)
    (case lx15 => k_is)
    (case cox15 => k_is)
    (case kx15 => k_is)
    (case ax16 => k_is)
    (case lx16 => k_is)
    (case cox16 => k_is)
    (case kx16 => k_is)
    (case apL => k_is)
    (case gpL => first | k_is | kernel_rfl)
    (case tpL => first | k_is | kernel_rfl)
    (case rpL => k_is)
    (case lx17 => k_is)
    (case cox17 => k_is)
    (case kx17 => k_is)
    (case apM => k_is)
    (case gpM => first | k_is | kernel_rfl)
    (case tpM => first | k_is | kernel_rfl)
    (case rpM => k_is)
    (case lx18 => k_is)
    (case cox18 => k_is)
    (case kx18 => k_is)
    (case apS => k_is)
    (case gpS => first | k_is | kernel_rfl)
    (case tpS => first | k_is | kernel_rfl)
    (case rpS => k_is)
    (case lx19 => k_is)
    (case cox19 => k_is)
    (case kx19 => k_is)
    (case ax20 => k_is)
    (case lx20 => k_is)
    (case cox20 => k_is)
    (case kx20 => k_is)
    (case ax21 => k_is)
    (case lx21 => k_is)
    (case cox21 => k_is)
    (case kx21 => k_is)
    (case ax22 => k_is)
    (case lx22 => k_is)
    (case cox22 => k_is)
    (case kx22 => k_is)
    (case ax23 => k_is)
    (case lx23 => k_is)
    (case cox23 => k_is)
    (case kx23 => k_is)
    (case ax24 => k_is)
    (case lx24 => k_is)
    (case cox24 => k_is)
    (case kx24 => k_is)
    (case ax25 => k_is)
    (case lx25 => k_is)
    (case cox25 => k_is)
    (case kx25 => k_is)
    (case ax26 => k_is)
    (case lx26 => k_is)
    (case cox26 => k_is)
    (case kx26 => k_is)
    (case ax27 => k_is)
    (case ix27 => k_is)
    (case lx27 => k_is)
    (case cox27 => k_is)
    (case kx27 => k_is)
    (case aLW => k_is)
    (case lLW => k_is)
    (case coLW => k_is)
    (case kLW => k_is)
    (case pg => k_is)
    (case hd => k_is)
    (case po => k_is)
    (case sa => k_is)
    (case mk => k_is)
    (case kc => k_is)
    (case nL => k_is)
    (case nM => k_is)
    (case nS => k_is)
    (case kt => first | k_is | kernel_rfl)
    (case ca => first | k_is | kernel_rfl)
    (case cn => first | k_is | kernel_rfl)
    (case ct => first | k_is | kernel_rfl)
    (case cm => first | k_is | kernel_rfl)
    (case en => first | k_is | kernel_rfl)
#print axioms PySem.Challenge.cw_cutwalks_k57_texts_written_and_read_holds
