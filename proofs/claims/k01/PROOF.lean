import PyProof.Rows.All
import Wide.All
import OpenK.AllK
import Wide.FinOn
import HandS.ForMost
import HandS.Strs
import HandS.SetFor
import HandS.SortKw
import KE.DataMinMax
import HandS.OwnEq
import PyProof.InstNe
import HandS.IsInst
import HandS.Walk
import HandS.Exc
import PySem.Challenge.RW_cutwalks_k01_rows_made
import HandS.Property
import HandS.WideBits
import HandS.Flt
import PyProof.MaxThree
import PyProof.SeqI3
import HandS.Style
import HandS.Words
import PyProof.ReprRoads
import OpenK.KMeth
import OpenK.KOps
import HandS.Deep
import HandS.RaiseMore
import HandS.MakeKwOnly
import HandS.Conv
set_option Elab.async false
set_option maxRecDepth 100000
set_option maxHeartbeats 8000000
namespace Cw
open PySem PySem.Spec PyProof.Rows L2
/-! ## set(xs) of a list of nts -/
section
variable {P : Program} {w : World} {A : Around} {E : Value → Shared → Prop} {s : Shared}
abbrev newS (w : World) : Obj := { cls := .type "set", dict := none, data := .set #[] 0 (.fresh 0 0 (!w.params.followText "set-order")) }
theorem set_list {l : Addr} {its : Array Value} (ns : List Int) {Q : Value → Shared → Prop} (hand : A.handled = none) (isl : s.heap.IsList l its) (nts : IntsAre its.toList ns) (room : ns.length + 1 < scanBound)
    (q : ∀ (g' : Heap) (tk c : Nat), SetR w g' s.heap.objs.size (fun j => decide (j ∈ ns)) c → c ≤ ns.length → (∀ b o, s.heap.get? b = some o → g'.get? b = some o) → Q (.ref s.heap.objs.size) { s with heap := g', toks := tk }) :
    wpAny (model P w) A (call (.type "set") [.ref l]) Q E s := by
  have len : its.size = ns.length := by rw [← IntsAre.length nts, Array.length_toList]
  obtain ⟨c, tl, hmro⟩ := F.called_set.mro; have hmade := F.called_set.made; have hsub := F.called_set.sub
  refine wpAny_call (codeAny_of_tree ?_); show wpAny _ _ (callAny (.type "set") _) _ _ _
  refine wpAny_pure ⟨Code.quiet_builtin _ (by decide +kernel), codeAny_builtin F.entry_type_call ?_⟩; rw [Around.under_plain (weight_type_call_type "set" [.ref l] []) rfl]
  have h1 := F.called_set.notType; have h2 := F.called_set.canCreate; have hct := F.typeCall_set_1 (.ref l)
  repeat (any_goals (first | assumption | wp_step))
  refine codeAny_mono (code_set_led1 (.ref l) (E := E) (Q₁ := fun ob t₁ => ob = .ref s.heap.objs.size ∧ t₁ = { s with heap := s.heap.push (newS w) }) ⟨rfl, rfl⟩) fun r t₁ hr => ?_
  cases r with
  | error e => exact hr
  | ok fl =>
    cases fl with
    | ret ob =>
      obtain ⟨rfl, rfl⟩ := hr
      have at0 : (s.heap.push (newS w)).get? s.heap.objs.size = some (newS w) := Heap.get?_push_size _ rfl
      have ty0 : Shared.TypeIs { s with heap := s.heap.push (newS w) } (.ref s.heap.objs.size) "set" := ⟨_, at0, rfl⟩
      have hli := F.called_set.init.lookup; have hbi := F.called_set.init.bind (.ref s.heap.objs.size)
      repeat (any_goals (first | assumption | wp_step))
      refine codeAny_mono (codeAny_call_builtin (R := wants (fun r t₂ => r = .none ∧ ∃ g' tk c, t₂ = { s with heap := g', toks := tk } ∧ SetR w g' s.heap.objs.size (fun j => decide (j ∈ ns)) c ∧ c ≤ ns.length ∧ (∀ b o, s.heap.get? b = some o → g'.get? b = some o)) E)
        F.called_set.init.plain F.entry_set_init (check_set_init_1 ty0 ?_)) fun r₂ t₂ hr₂ => ?_
      · obtain ⟨ol, lo, lc, nl, ld⟩ := isl
        obtain ⟨oc, odi, oda, osl⟩ := ol
        simp only at lc ld; subst lc; subst ld
        have lo' : (s.heap.push (newS w)).get? l = some { cls := .type "list", dict := odi, data := .seq its nl, slots := osl } := Heap.get?_push_of_some _ lo
        have u1 := F.sub_list_set; have u2 := F.sub_list_frozenset
        have u3 : (Value.type "list" == Value.type "dict") = false := by decide
        have il : (s.heap.push (newS w)).IsList l its := ⟨_, lo', rfl, nl, rfl⟩
        unfold Builtin.«set.__init__» noKeywords Builtin.Frozenset.updateFrom
        generalize hPI : pyIter = PI; wp_walk; subst hPI
        refine wpAny_pyIter_list il ?_; refine wpAny_bind (wpAny_runValue ?_)
        have lt : l < s.heap.objs.size := Heap.lt_size lo
        have hand3 : A.in1.in1.in1.handled = none := by simp [hand]
        have ne1 : l ≠ (s.heap.push (newS w)).objs.size := by rw [Heap.size_push]; exact Nat.ne_of_lt (Nat.lt_succ_of_lt lt)
        have nin : s.heap.objs.size ∉ [(s.heap.push (newS w)).objs.size, l] := by
          rw [Heap.size_push]
          simp only [List.mem_cons, List.mem_singleton, List.not_mem_nil, or_false, not_or]
          exact ⟨Nat.ne_of_lt (Nat.lt_succ_self _), Nat.ne_of_gt lt⟩
        have val : ∀ (i : Nat) (v : Value), its[i]? = some v → ∃ k t, ns[i]? = some k ∧ v = .int k t := fun i v hv => by
          have hi : i < ns.length := by rw [← len]; exact (Array.getElem?_eq_some_iff.mp hv).1
          obtain ⟨t, e⟩ := PyProof.Rows.IntsAre.int_at nts i v (by rw [Array.getElem?_toList]; exact hv)
          exact ⟨ns[i], t, List.getElem?_eq_getElem hi, by rw [e, List.getD_eq_getElem?_getD, List.getElem?_eq_getElem hi] <;> rfl⟩
        refine set_update_ints ((Walks.list hand3 _ l ne1 its).toS) s.heap.objs.size nin ns len room val (its.size - 0) 0 _ (by omega) (Nat.zero_le _) ⟨⟨_, Heap.get?_push_size _ rfl, rfl, rfl⟩, (il.push _)⟩ ?z0 ?zR
        case z0 => exact ⟨0, Nat.le_refl 0, setR_new_at (Heap.get?_push_of_some _ at0)⟩
        case zR =>
          intro t' c' hm hc' hS'
          obtain ⟨g', g2, d', tk', os'⟩ := t'
          have eg : g2 = s.gens := hm.gens; have ed : d' = s.drawn := hm.drawn; have eo : os' = s.os := hm.os
          subst eg; subst ed; subst eo
          show wpAny _ _ _ _ _ _
          refine wpAny_pure ?_; show wpAny _ _ (ret Value.none) _ _ _
          rw [len] at hc'
          refine wpAny_pure ⟨rfl, g', tk', c', rfl, hS', hc', fun b o e => ?_⟩
          have b0 : b < s.heap.objs.size := Heap.lt_size e
          have b2 : b ≠ (s.heap.push (newS w)).objs.size := by rw [Heap.size_push]; exact Nat.ne_of_lt (Nat.lt_succ_of_lt b0)
          exact hm.heap b o (by simp only [List.mem_cons, List.mem_singleton, List.not_mem_nil, or_false, not_or]; exact ⟨Nat.ne_of_lt b0, b2⟩) (Heap.get?_push_of_some _ (Heap.get?_push_of_some _ e))
      · cases r₂ with
        | error e => exact hr₂
        | ok fl₂ =>
          cases fl₂ with
          | ret r =>
            obtain ⟨rfl, g', tk, c', rfl, hS', hc', hk'⟩ := hr₂
            repeat (any_goals (first | assumption | wp_step))
            exact q _ _ _ hS' hc' hk'
          | _ => exact hr₂.elim
    | _ => exact hr.elim
end
section
variable {P : Program} {w : World} {A : Around} {E : Value → Shared → Prop} {s : Shared}
theorem entry_sub : entryFor table "set.__sub__" = some Builtin.«frozenset.__sub__» := entryFor_alias (id' := "frozenset.__sub__") (by kernel_rfl) rfl (by decide +kernel) (by kernel_rfl)
theorem sub_form (a b : Value) : Builtin.«frozenset.__sub__» ⟨[a, b], []⟩ = (do
    let p ← Builtin.Frozenset.slot1 "__sub__" ⟨[a, b], []⟩
    if !(← (Builtin.Frozenset.isAnySet p.1 <&&> Builtin.Frozenset.isAnySet p.2)) then
      rule "frozenset.__sub__.declined"
      ret .notImplemented
    else ret (← Builtin.Frozenset.difference "frozenset.__sub__" (← Builtin.Frozenset.addrOf p.1) p.2)) := by
  rfl
variable {a b : Addr} {S T : Int → Bool} {n m : Nat}
theorem isSet_at {s : Shared} {Q : Bool → Shared → Prop} {a : Addr} (ty : s.TypeIs (.ref a) "set") (q : Q true s) : wpAny (model P w) A (Builtin.Frozenset.isAnySet (.ref a)) Q E s := by
  unfold Builtin.Frozenset.isAnySet isInstance
  have z := sub_set_self
  wp_walk
  exact q
/-- what is walked: all of the set's members -/
def Mem (xs : Array (Int × Value)) (S : Int → Bool) : Prop := ∀ e ∈ xs.toList, GoodE e ∧ S (keyOf e) = true
section
variable {o : Obj} {es : Array (Int × Value)} {ep : Nat} {t : SetTable}
theorem walk_at (ho : s.heap.get? a = some o) (hd : o.data = .set es ep t) (hf : t.fits es.size = true) (hl : w.params.followText "set-order" = true ∨ t.led = true) (hp : w.params.followText "set-order" = true ∨ (!t.plain && decide (es.size > 1)) = false)
    {Q : Array (Int × Value) → Shared → Prop} (q : ∀ xs, (∀ e ∈ xs.toList, e ∈ es.toList) → Q xs s) : wpAny (model P w) A (setWalk a) Q E s := by
  unfold setWalk
  refine wpAny_bind (wpAny_setState_of ho hd hf ?_)
  dsimp only
  refine wpAny_bind (wpAny_byText ?_)
  by_cases c : w.params.followText "set-order" = true
  · refine wp_if_pos c ?_
    refine wpAny_bind (wpAny_askSetting (wpAny_pure (q _ fun e he => ?_)))
    exact (pick_perm _ es).mem_iff.mp he
  · refine wp_if_neg c ?_
    have p1 := hp.resolve_left c
    have p2 := hl.resolve_left c
    try refine wpAny_bind (wpAny_pure ?_)
    refine wp_if_neg (by show ¬ ((!t.plain && decide (es.size > 1)) = true); rw [p1]; exact Bool.false_ne_true) ?_
    try refine wpAny_bind (wpAny_pure ?_)
    refine wpAny_bind (wpAny_of_eq (a := ()) ?_ (wpAny_pure (q es fun _ h => h)))
    show (if (!t.led && decide (es.size > 1)) = true then unsupported "set:maker-not-led" else pure ()) = pure ()
    rw [p2]
    rfl
end
theorem forIn_keep {α β : Type} {M : Model} {f : α → β → Sem (ForInStep β)} {b : β} (I : Shared → Prop) : ∀ (l : List α) {s : Shared} {Q : β → Shared → Prop},
    (∀ x ∈ l, ∀ (s : Shared) (Q' : ForInStep β → Shared → Prop), I s → (∀ s', I s' → Q' (.yield b) s') → wpAny M A (f x b) Q' E s) → I s → (∀ s', I s' → Q b s') → wpAny M A (forIn l b f) Q E s
  | [], s, Q, _, i, q => by
    rw [List.forIn_nil]
    exact wpAny_pure (q s i)
  | x :: l, s, Q, h, i, q => by
    rw [List.forIn_cons]
    exact wpAny_bind (h x (List.mem_cons_self ..) s _ i fun s' i' => forIn_keep I l (fun y hy => h y (List.mem_cons_of_mem _ hy)) i' q)
theorem forIn_keepA {α β : Type} {M : Model} {f : α → β → Sem (ForInStep β)} {b : β} (I : Shared → Prop) (l : Array α) {s : Shared} {Q : β → Shared → Prop}
    (h : ∀ x ∈ l.toList, ∀ (s : Shared) (Q' : ForInStep β → Shared → Prop), I s → (∀ s', I s' → Q' (.yield b) s') → wpAny M A (f x b) Q' E s) (i : I s) (q : ∀ s', I s' → Q b s') : wpAny M A (forIn l b f) Q E s := by
  rw [← Array.forIn_toList]
  exact forIn_keep I l.toList h i q
theorem quiet_at : ∀ (l : List Addr) {s : Shared} {Q : Bool → Shared → Prop}, (∀ c ∈ l, ∃ S n, SetR w s.heap c S n) → Q true s → wpAny (model P w) A (setsQuiet l) Q E s := by
  intro l s Q h q
  unfold setsQuiet
  refine wpAny_bind (forIn_keep (fun s' => s' = s) l (fun c hc s' Q' hs k => ?_) rfl fun s' hs => ?_)
  · subst hs
    obtain ⟨S, n, o, es, ep, t, ho, hx, hd, g, nd, hm, hb, hf, _⟩ := h c hc
    refine wpAny_bind (wpAny_setEntries_of ho hd hf ?_)
    refine wpAny_bind (forIn_keepA (fun s'' => s'' = s') es (fun e he s'' Q'' hs k' => ?_) rfl fun s'' hs => ?_)
    · subst hs
      obtain ⟨i, tk, h1, h2⟩ := g e he
      obtain ⟨e1, e2⟩ := e
      dsimp only at h1
      subst h1
      exact wpAny_pure (k' _ rfl)
    · subst hs
      exact wpAny_pure (k _ rfl)
  · subst hs
    exact wpAny_pure q
/-- the set at a walked while the empty set at r is filled -/
theorem unseen_at {r : Addr} (R : SetR w s.heap a S n) (Rr : SetR w s.heap r (fun _ => false) 0) {l : List Addr} (hall : ∀ c ∈ a :: l, ∃ S n, SetR w s.heap c S n) {Q : Array (Int × Value) → Shared → Prop}
    (q : ∀ xs h', Mem xs S → (∀ c o, c ≠ r → s.heap.get? c = some o → h'.get? c = some o) → SetR w h' r (fun _ => false) 0 → Q xs { s with heap := h' }) : wpAny (model P w) A (setWalkUnseen a l (some r)) Q E s := by
  obtain ⟨o, es, ep, t, ho, hx, hd, g, nd, hm, hb, hf, hn, hr, hl⟩ := R
  have mem : ∀ xs : Array (Int × Value), (∀ e ∈ xs.toList, e ∈ es.toList) → Mem xs S := fun xs h e he => ⟨g e (h e he), (hm _).mpr (List.mem_map_of_mem (h e he))⟩
  unfold setWalkUnseen
  refine wpAny_bind (wpAny_setState_of ho hd hf ?_)
  dsimp only
  refine wpAny_bind (wpAny_byText ?_)
  by_cases c : (w.params.followText "set-order" || t.led && t.plain || decide (es.size ≤ 1)) = true
  · refine wp_if_pos c ?_
    refine walk_at ho hd hf hl ?_ fun xs h => ?_
    · simp only [Bool.or_eq_true, Bool.and_eq_true, decide_eq_true_eq] at c
      rcases c with (c | c) | c
      · exact .inl c
      · exact .inr (by rw [c.2]; rfl)
      · exact .inr (by rw [decide_eq_false (by omega), Bool.and_false])
    · exact q xs s.heap (mem xs h) (fun _ _ _ e => e) Rr
  · refine wp_if_neg c ?_
    try refine wpAny_bind (wpAny_pure ?_)
    refine wpAny_bind (quiet_at (a :: l) hall ?_)
    refine wp_if_neg (by decide) ?_
    try refine wpAny_bind (wpAny_pure ?_)
    refine wpAny_bind (wpAny_rule ?_)
    obtain ⟨o2, es2, ep2, t2, ho2, hx2, hd2, g2, nd2, hm2, hb2, hf2, hn2, hr2, hl2⟩ := Rr
    try dsimp only
    refine wpAny_bind (wpAny_setState_of ho2 hd2 hf2 ?_)
    dsimp only
    have nb : w.params.followText "set-order" = false := by
      cases z : w.params.followText "set-order" with
      | false => rfl
      | true => rw [z] at c; simp at c
    have l1 : t.led = true := hl.resolve_left (by rw [nb]; exact Bool.false_ne_true)
    have l2 : t2.led = true := hl2.resolve_left (by rw [nb]; exact Bool.false_ne_true)
    by_cases c2 : (t2.led && !t.led || t2.plain && !t.plain) = true
    · refine wp_if_pos c2 ?_
      refine wpAny_bind (wpAny_storeSet_of ho2 hd2 ?_ (fits_of_scanBound hb2))
      refine wpAny_pure (q es _ (mem es fun _ h => h) (fun y o' hy e => by rw [Heap.get?_update_other _ _ (Ne.symm hy)]; exact e) ?_)
      exact ⟨_, es2, _, _, store_at ho2 hd2, hx2, rfl, g2, nd2, hm2, hb2, by exact hf2, hn2, hr2, .inr (by rw [l1, l2]; rfl)⟩
    · refine wp_if_neg c2 ?_
      try refine wpAny_bind (wpAny_pure ?_)
      exact wpAny_pure (q es s.heap (mem es fun _ h => h) (fun _ _ _ e => e) ⟨o2, es2, ep2, t2, ho2, hx2, hd2, g2, nd2, hm2, hb2, hf2, hn2, hr2, hl2⟩)
theorem sub_none (R1 : SetR w s.heap a S n) (R2 : SetR w s.heap b T m) (sub : ∀ k, S k = true → T k = true) (le : n ≤ m) {Q : Value → Shared → Prop}
    (q : ∀ h', (∀ c o, s.heap.get? c = some o → h'.get? c = some o) → SetR w h' s.heap.objs.size (fun _ => false) 0 → Q (.ref s.heap.objs.size) { s with heap := h' }) : wpAny (model P w) A (binaryOp .Sub (.ref a) (.ref b)) Q E s := by
  have ta : s.TypeIs (.ref a) "set" := (R1.setOf (P := P)).typeIs
  have tb : s.TypeIs (.ref b) "set" := (R2.setOf (P := P)).typeIs
  refine wpAny_binaryOp_same (T := "set") ta tb F.fills_set_sub F.slot_set_sub ?_
  refine wpAny_call_entry F.slot_set_sub ta entry_sub ?_ (F.args_set_sub_2 _ _)
  rw [sub_form]
  unfold Builtin.Frozenset.slot1 slotArgs
  refine wpAny_bind (wpAny_bind (wpAny_of_eq (a := (Value.ref a, [Value.ref b])) rfl (wpAny_pure ?_)))
  dsimp only
  refine wpAny_bind (m := _ <&&> _) ?_
  unfold andM
  refine wpAny_bind (isSet_at ta ?_)
  show wpAny _ _ (Builtin.Frozenset.isAnySet (.ref b)) _ _ _
  refine isSet_at tb (wp_if_neg (by decide) ?_)
  refine wpAny_bind (wpAny_pure (wpAny_bind ?_))
  obtain ⟨o, es, ep, t, ho, hx, hd, g, nd, hm, hb, hf, hn, hr, hl⟩ := id R1
  obtain ⟨o2, es2, ep2, t2, ho2, hx2, hd2, g2, nd2, hm2, hb2, hf2, hn2, hr2, hl2⟩ := id R2
  unfold Builtin.Frozenset.difference
  dsimp only
  refine wpAny_bind (isSet_at tb ?_)
  refine wp_if_neg (by decide) ?_
  try refine wpAny_bind (m := Builtin.Frozenset.addrOf (.ref b)) (wpAny_pure ?_)
  refine wp_if_neg (by simp) ?_
  refine wp_if_pos rfl ?_
  unfold Builtin.Frozenset.sizeOf
  refine wpAny_bind (wpAny_bind (wpAny_setEntries_of ho2 hd2 hf2 (wpAny_pure ?_)))
  refine wpAny_bind (wpAny_bind (wpAny_setEntries_of ho hd hf (wpAny_pure ?_)))
  refine wp_if_neg (by rw [hn, hn2]; omega) ?_
  unfold Builtin.Frozenset.baseOf isInstance
  have z := sub_set_self
  obtain ⟨hp, gg, dr, tk, os⟩ := s
  wp_walk
  dsimp only at ho ho2 q R1 R2
  refine wpAny_askSetting (wpAny_pure ?_)
  simp only [newObj, if_true]
  refine wpAny_bind (wpAny_alloc (wpAny_pure ?_))
  dsimp only
  have k1 : ∀ c o, hp.get? c = some o → (hp.push (newS w)).get? c = some o := fun c o e => Heap.get?_push_of_some _ e
  have fr := setR_fresh (h := hp) w
  have na : a ≠ hp.objs.size := Nat.ne_of_lt (Heap.lt_size ho)
  have nb : b ≠ hp.objs.size := Nat.ne_of_lt (Heap.lt_size ho2)
  refine wpAny_bind (m := Builtin.Frozenset.addrOf (.ref hp.objs.size)) (wpAny_pure ?_)
  refine wpAny_bind (wpAny_setEpoch_of (k1 _ _ ho) hd hf ?_)
  refine wpAny_bind (wpAny_holding (wpAny_bind ?_))
  refine unseen_at (R1.at fun o e => k1 _ _ e) fr (fun c hc => ?_) fun xs h' hxs k2 R' => ?_
  · rcases List.mem_cons.mp hc with rfl | hc
    · exact ⟨_, _, R1.at fun o e => k1 _ _ e⟩
    rcases List.mem_cons.mp hc with rfl | hc
    · exact ⟨_, _, R2.at fun o e => k1 _ _ e⟩
    rcases List.mem_cons.mp hc with rfl | hc
    · exact ⟨_, _, fr⟩
    · cases hc
  · have k3 : ∀ c o, hp.get? c = some o → h'.get? c = some o := fun c o e => k2 c o (Nat.ne_of_lt (Heap.lt_size e)) (k1 c o e)
    refine wpAny_bind (forIn_keepA (fun s' => s' = ⟨h', gg, dr, tk, os⟩) xs (fun e he s' Q' hs kk => ?_) rfl fun s' hs => ?_)
    · subst hs
      obtain ⟨⟨i, ti, h1, h2⟩, h3⟩ := hxs e he
      obtain ⟨e1, e2⟩ := e
      dsimp only at h1 h2
      subst h1 h2
      refine wpAny_bind (wpAny_holding (wpAny_bind ?_))
      refine wpAny_setFind_of (knd := intKind P w) (k := i) (intKind_is P w i ti) rfl ((R2.at fun o e => k3 _ _ e).setOf (P := P)) fun r hr => ?_
      refine wpAny_bind (wpAny_pure ?_)
      have hs : r.isSome = true := by rw [hr]; exact sub i h3
      refine wp_if_neg (by rw [hs]; decide) ?_
      refine wpAny_pure ?_
      unfold Builtin.Frozenset.unchanged
      refine wpAny_bind (wpAny_bind (wpAny_setEpoch_of (k3 _ _ ho) hd hf ?_))
      refine wp_if_neg (by simp) (wpAny_pure (wpAny_pure (kk _ rfl)))
    · subst hs
      refine wpAny_pure (wpAny_pure (wpAny_pure ⟨_, rfl, (fun z => nomatch z), q h' k3 R'⟩))
end
end Cw
namespace Cw
open PySem PySem.Spec PyProof.Rows L2
theorem nodup_len : ∀ {l m : List Int}, l.Nodup → (∀ x ∈ l, x ∈ m) → l.length ≤ m.length
  | [], m, _, _ => Nat.zero_le _
  | x :: l, m, nd, h => by
    obtain ⟨nx, nd'⟩ := List.nodup_cons.mp nd
    have hx : x ∈ m := h x (List.mem_cons_self ..)
    have z := nodup_len (l := l) (m := m.erase x) nd' fun y hy => by
      have ne : y ≠ x := fun e => nx (by rw [← e]; exact hy)
      exact (List.mem_erase_of_ne ne).mpr (h y (List.mem_cons_of_mem _ hy))
    rw [List.length_erase_of_mem hx] at z
    have p : 0 < m.length := List.length_pos_of_mem hx
    rw [List.length_cons]
    omega
section
variable {X : Cx}
theorem setR_le {w : World} {h : Heap} {a b : Addr} {S T : Int → Bool} {n m : Nat} (R1 : SetR w h a S n) (R2 : SetR w h b T m) (sub : ∀ k, S k = true → T k = true) : n ≤ m := by
  obtain ⟨o, es, ep, t, ho, hx, hd, g, nd, hm, hb, hf, hn, _⟩ := R1
  obtain ⟨o2, es2, ep2, t2, ho2, hx2, hd2, g2, nd2, hm2, hb2, hf2, hn2, _⟩ := R2
  have z := nodup_len (l := es.toList.map keyOf) (m := es2.toList.map keyOf) nd fun x hx => (hm2 x).mp (sub x ((hm x).mpr hx))
  rw [List.length_map, List.length_map, Array.length_toList, Array.length_toList, hn, hn2] at z
  exact z
/-- set(xs) -/
def rSetOf (X : Cx) : List V → Hp → VK → Prop := fun xs H Q => ∃ (l : Addr) (ns : List Int), xs = [.ref l] ∧ SqL X.K H l (ns.map V.int) ∧ ns.length ≤ 4000 ∧ ∀ p c, c ≤ ns.length → H p = none → Q (.ref p) (upd H p (SetO X.w p (fun j => decide (j ∈ ns)) c))
theorem cr_setOf (hc : X.calm = true) : CallR X (.type "set") (rSetOf X) := by
  intro pins s σ H vs us Q I r h
  obtain ⟨l, ns, rfl, hs, hl, q⟩ := h
  obtain ⟨its, rv, pl, _⟩ := I.list hs
  rw [Vals.ref1 r]
  refine set_list (its := its.toArray) ns (I.ok.hd hc) pl.isList rv.ints (by show ns.length + 1 < 4096; omega) fun g' tk c R hc' k => ?_
  exact ⟨.ref s.heap.objs.size, _, I.laid (t' := tk) k (Nat.le_refl _) (setO_new R), rfl, q _ c hc' (I.hok.fresh (Nat.le_refl _))⟩
/-- a - b, all of a's being b's: a new empty set -/
def rSubN (w : World) : R2 := fun x y H Q => ∃ (a b : Addr) (S T : Int → Bool) (n m : Nat), x = .ref a ∧ y = .ref b ∧ H a = some (SetO w a S n) ∧ H b = some (SetO w b T m) ∧ (∀ k, S k = true → T k = true) ∧ ∀ p, H p = none → Q (.ref p) (upd H p (SetO w p (fun _ => false) 0))
theorem op_subN : OpR X (binaryOp .Sub) (rSubN X.w) := by
  intro pins s σ H x y v u Q I rx ry h
  obtain ⟨a, b, S, T, n, m, rfl, rfl, ha, hb, sub, q⟩ := h
  cases rx
  cases ry
  have R1 := setO_get I ha
  have R2 := setO_get I hb
  refine sub_none R1 R2 sub (setR_le R1 R2 sub) fun h' k R => ?_
  exact ⟨.ref s.heap.objs.size, _, I.laid (t' := s.toks) k (Nat.le_refl _) (setO_new R), rfl, q _ (I.hok.fresh (Nat.le_refl _))⟩
/-- len(s) -/
theorem cr_lenS : CallR X (.builtin "len") (fun xs H Q => ∃ (a : Addr) (S : Int → Bool) (n : Nat), xs = [.ref a] ∧ H a = some (SetO X.w a S n) ∧ Q (.int n) H) := by
  intro pins s σ H vs us Q I r h
  obtain ⟨a, S, n, rfl, ha, q⟩ := h
  rw [Vals.ref1 r]
  obtain ⟨o, es, ep, t, ho, hx, hd, g, nd, hm, hb, hf, hn, _⟩ := setO_get I ha
  have e : scanBound = 4096 := rfl
  refine call_len_set ho hx hd hf (by rw [e] at hb; omega) ?_
  rw [hn]
  exact ⟨.int n, H, I.tok _, ⟨_, rfl⟩, q⟩
/-- max(xs, default=k) -/
def rMaxD (K : PySem.W.Frag) : List V → List V → Hp → VK → Prop := fun xs zs H Q => ∃ (a : Addr) (ns : List Int) (k : Int), xs = [.ref a] ∧ SqL K H a (ns.map V.int) ∧ zs = [.int k] ∧ ∀ M, (ns = [] → M = k) → (∀ y ∈ ns, y ≤ M) → Q (.int M) H
theorem fold_max (n : Int) : ∀ (ns : List Int), n ≤ ns.foldl max n ∧ ∀ y ∈ ns, y ≤ ns.foldl max n := by
  intro ns
  induction ns generalizing n with
  | nil => exact ⟨Int.le_refl _, fun _ h => nomatch h⟩
  | cons k r ih =>
    rw [List.foldl_cons]
    obtain ⟨h1, h2⟩ := ih (max n k)
    refine ⟨Int.le_trans (Int.le_max_left _ _) h1, fun y hy => ?_⟩
    rcases List.mem_cons.mp hy with rfl | hy
    · exact Int.le_trans (Int.le_max_right _ _) h1
    · exact h2 y hy
theorem alike_ints (ns : List Int) : PySem.W.AlikeAll (ns.map PyData.int) := by
  constructor
  · intro x hx y hy
    obtain ⟨i, _, rfl⟩ := List.mem_map.mp hx
    obtain ⟨j, _, rfl⟩ := List.mem_map.mp hy
    rfl
  · intro x hx
    obtain ⟨i, _, rfl⟩ := List.mem_map.mp hx
    exact fun z => nomatch z
theorem cr_maxD (hc : X.calm = true) (hu : X.A.units + 3 < cLine) : CallRK X (.builtin "max") ["default"] (rMaxD X.K) := by
  intro pins s σ H xs zs us ws Q I r rz h
  obtain ⟨a, ns, k, rfl, hs, rfl, q⟩ := h
  obtain ⟨its, rv, pl, _⟩ := I.list hs
  rw [Vals.ref1 r]
  obtain ⟨u, rfl, tk0, rfl⟩ := vals1 rz
  have dpi : ∀ ns : List Int, DpAll X.K H (ns.map V.int) (ns.map PyData.int) := fun ns => by
    induction ns with
    | nil => exact .nil
    | cons n r ih => exact .cons (.int n) ih
  have dpt : ∀ ns : List Int, PyData.depthAll (ns.map PyData.int) ≤ 1 := fun ns => by
    induction ns with
    | nil => exact Nat.zero_le _
    | cons n r ih =>
      rw [List.map_cons]
      unfold PyData.depthAll PyData.depth
      omega
  obtain ⟨as, hr⟩ := Dp.readsAll I _ _ _ (dpi ns) rv
  have hd := dpt ns
  refine PySem.W.max_list_default (vs := its.toArray) (I.ok.hd hc) pl.isList (by rw [List.toList_toArray]; exact hr) (alike_ints ns) (by omega) (fun e h' tk k' => ?_) (fun y ys i v h' tk bs e _ rd k' => ?_)
  · exact ⟨.int k, H, I.kept k', ⟨_, rfl⟩, q k (fun _ => rfl) fun y hy => by rw [List.map_eq_nil_iff.mp e] at hy; cases hy⟩
  · cases ns with
    | nil => cases e
    | cons n r =>
      rw [List.map_cons] at e
      injection e with e1 e2
      subst e1 e2
      rw [PySem.W.maxD_ints] at rd
      cases rd with
      | int i t =>
        obtain ⟨f1, f2⟩ := fold_max n r
        refine ⟨.int (r.foldl max n), H, I.kept k', ⟨t, rfl⟩, q _ (fun z => nomatch z) fun y hy => ?_⟩
        rcases List.mem_cons.mp hy with rfl | hy
        · exact f1
        · exact f2 y hy
end
end Cw
namespace Cw
open PySem PySem.Spec PyProof.Rows PySem.SeqAt L2
/-! ## != by an own __eq__ -/
section
variable {M : Model} {prog : Program} {w : World} {A : Around} {E : Value → Shared → Prop} {s : Shared} {K : PySem.W.Frag} {x y f C : Addr} {ox oy : Obj} {od oe : Option Obj}
theorem objNe_entry (X : K.In s.heap) (I : PySem.W.InstAt s.heap x ox C od) (hs : PySem.W.findIn K (.ref C) "__eq__" = some (some (.ref f))) (hf : PySem.W.isFn K (.ref f) = true) (hu : A.units < cLine) {Q : Fin → Shared → Prop}
    (hcall : wpAny (model prog w) A (call (.ref f) [.ref x, .ref y]) (fun v s' => ∃ b, v = .bool b ∧ Q (.done (.ret (.bool (!b)))) s') E s) :
    wpAny (model prog w) A (Builtin.«object.__ne__» ⟨[.ref x, .ref y], []⟩) Q E s := by
  unfold Builtin.«object.__ne__»
  repeat (first
    | with_reducible refine wpAny_cRoomFor hu ?_
    | (refine wpAny_bind (m := callSpecialIfBound? (.ref x) (Str.ofString "__eq__") [.ref y])
        (PySem.W.ifBound_K X I hs hf (wpAny_mono hcall (fun r s' hr => by
          obtain ⟨b, rfl, hq⟩ := hr
          repeat (first | exact hq | exact wpAny_pure hq | exact wpAny_truthy_bool hq | (refine wpAny_bind (m := truthy (.bool _)) (wpAny_truthy_bool ?_)) | wp_step)) fun _ _ e => e)))
    | wp_step)
theorem ifBound_objNe {args : List Value} {Q : Option Value → Shared → Prop} (X : K.In s.heap) (I : PySem.W.InstAt s.heap x ox C od) (hs : PySem.W.findIn K (.ref C) "__ne__" = some (some (.builtin "object.__ne__")))
    (h : wpAny M A (call (.builtin "object.__ne__") (.ref x :: args)) (fun v => Q (some v)) E s) : wpAny M A (callSpecialIfBound? (.ref x) "__ne__" args) Q E s := by
  simp only [callSpecialIfBound?, bindSpecialIfBound?]
  refine wpAny_holding (wpAny_bind (wpAny_bind (wpAny_bind (I.type.here ((PySem.W.looks_findIn X hs).here ?_)))))
  refine wpAny_bind (wpAny_askSetting (wpAny_ite ?_))
  have fin : wpAny M A (call (.builtin "object.__ne__") ([.ref x] ++ args) >>= fun v => pure (some v)) Q E s := wpAny_bind (wpAny_mono h (fun v s' h' => wpAny_pure h') fun _ _ h' => h')
  split
  · exact wpAny_bind (wpAny_of_eq (F.cmp_object.ne.bind _) (wpAny_pure (by exact fin)))
  · exact wpAny_tryCatch (wpAny_bind (wpAny_of_eq (F.cmp_object.ne.bind _) (wpAny_pure (by exact fin))))
theorem rc_ne (hu : A.units + 1 < cLine) (X : K.In s.heap) (I : PySem.W.InstAt s.heap x ox C od) (J : PySem.W.InstAt s.heap y oy C oe) (hm : PySem.W.mroIn K C (.type "object") = some true) (hn : PySem.W.findIn K (.ref C) "__ne__" = some (some (.builtin "object.__ne__")))
    (hs : PySem.W.findIn K (.ref C) "__eq__" = some (some (.ref f))) (hf : PySem.W.isFn K (.ref f) = true) {Q : Value → Shared → Prop}
    (hcall : wpAny (model prog w) A.in1 (call (.ref f) [.ref x, .ref y]) (fun v s' => ∃ b, v = .bool b ∧ Q (.bool (!b)) s') E s) :
    wpAny (model prog w) A (richCompare .NotEq (.ref x) (.ref y)) Q E s := by
  have one : wpAny (model prog w) A (tryCompare (.ref x) "__ne__" (.ref y)) (fun r s' => ∃ b, r = some (.bool b) ∧ Q (.bool b) s') E s := by
    unfold tryCompare
    refine wpAny_bind (ifBound_objNe X I hn (wpAny_call (codeAny_call_builtin F.cmp_object.ne.plain F.cmpEntry_ne (PySem.W.check_slot F.cmpKind_ne F.cmpSplit_ne (I.type.andThen (PySem.W.looks_mroIn X hm)) (F.cmpArgs_ne _ _)
      (objNe_entry (A := A.in1) X I hs hf (by exact hu) (wpAny_mono hcall (fun v s' hv => ?_) fun _ _ e => e))))))
    obtain ⟨b, rfl, hq⟩ := hv
    first | exact ⟨b, rfl, wpAny_pure ⟨_, rfl, hq⟩⟩ | exact ⟨b, rfl, wpAny_pure (wpAny_pure ⟨_, rfl, hq⟩)⟩
  unfold richCompare
  simp only [oneThing_ref]
  refine wpAny_holding (wpAny_bind (wpAny_cRoomFor (Nat.lt_of_succ_lt hu) ?_))
  rw [cmpInfo_NotEq]
  dsimp only
  refine wpAny_bind (I.type.here (wpAny_bind (J.type.here ?_)))
  rw [show (Value.ref C != Value.ref C) = false from by simp]
  simp only [Bool.false_eq_true, if_false]
  refine wpAny_bind (wpAny_pure ?_)
  simp only [Bool.false_eq_true, if_false]
  refine wpAny_bind (wpAny_mono one (fun v s' hv => ?_) fun _ _ e => e)
  obtain ⟨b, rfl, hq⟩ := hv
  first | exact wpAny_pure hq | exact wpAny_pure (wpAny_pure hq)
end
/-- x != y, equal by the own == -/
def rNeG (D : Eqv) : R2 := fun x y H Q => D x y H ∧ ∀ H', Ext H H' → Q (.bl false) H'
section
variable {X : Cx} {n : Nat}
theorem op_neG {CX : CXT} {C f : Addr} {fd : FuncData} {ps : List Str} {R : Addr → Addr → Hp → Prop} {E : XK} (F : FnOk X.prog X.w X.K X.mg X.base CX n f fd ps (spEq R))
    (hm : PySem.W.mroIn X.K C (.type "object") = some true) (hn : PySem.W.findIn X.K (.ref C) "__ne__" = some (some (.builtin "object.__ne__")))
    (hs : PySem.W.findIn X.K (.ref C) "__eq__" = some (some (.ref f))) (hf : PySem.W.isFn X.K (.ref f) = true) (hb : Binds X.K fd ps []) (hx : Passes CX X E) (hr : Room (n + 1) X.A) : OpR X (compareOp .NotEq) (rNeG (DIns C R)) := by
  intro pins s σ H x y u v Q I rx ry hq
  obtain ⟨⟨a, b, dx, dy, fs, gs, rfl, rfl, ha, hb', hR⟩, q⟩ := hq
  cases rx
  cases ry
  obtain ⟨mA, J, _⟩ := ins_get I.hok ha
  obtain ⟨mB, J', _⟩ := ins_get I.hok hb'
  obtain ⟨od, J, _⟩ := J.look
  obtain ⟨od', J', _⟩ := J'.look
  show wpAny (model X.prog X.w) X.A (richCompare .NotEq (.ref a) (.ref b)) (EP X pins σ Q) X.xe s
  refine rc_ne (hr.mono (Nat.succ_le_succ (Nat.zero_le n)) |>.in1.units0) I.kIn J J' hm hn hs hf ?_
  have hsp : spEq R [.ref a, .ref b] H (fun v H' => v = .bl true ∧ Ext H H') E := ⟨a, b, rfl, hR, fun H' e => ⟨rfl, e⟩⟩
  have hl := F.len _ _ _ _ hsp
  have r2 : Vals [V.ref a, V.ref b] [Value.ref a, Value.ref b] := .cons rfl (.cons rfl .nil)
  have e0 : Env0 X.prog X.w X.K X.mg X.base X.A.in1 X.stack s H := I.env0.in1
  refine wpAny_call (codeAny_mono (F.run X.A.in1 X.stack s H ⟨[.ref a, .ref b], []⟩ [.ref a, .ref b] [.ref a, .ref b] _ E hr.in1 e0 (by
    have := hb s [.ref a, .ref b] I.kIn (by simpa using hl)
    simpa using this) r2 hsp) fun r s' hq => ?_)
  cases r with
  | error e => exact hx pins σ H s e s' I hq
  | ok fl =>
    cases fl with
    | ret w =>
      obtain ⟨z, H', I', rz, ez, ex⟩ := I.after hq
      subst ez
      cases rz
      exact ⟨true, rfl, .bl false, H', I', rfl, q H' ex⟩
    | next => exact False.elim hq
    | brk => exact False.elim hq
    | cont => exact False.elim hq
end
end Cw
namespace Cw
open PySem L2
def top (i : Nat) : Stmt := PySem.Challenge.pw_cutwalks_k01_rows_made.main.body.getD i (.Pass ⟨0, 0, 0, 0⟩)
abbrev sIsInt : Stmt := top 8
abbrev sPlaces : Stmt := top 9
abbrev sAsc : Stmt := top 10
abbrev sMarks : Stmt := top 11
abbrev sSome : Stmt := top 12
abbrev sChange : Stmt := top 0
abbrev sRepl : Stmt := top 0
abbrev sRow : Stmt := top 14
theorem ifT {c : Bool} {A B : Prop} (h : c = true) (x : A) : if c = true then A else B := by
  rw [if_pos h]
  exact x
theorem ifF {c : Bool} {A B : Prop} (h : c = false) (x : B) : if c = true then A else B := by
  rw [h, if_neg Bool.false_ne_true]
  exact x
theorem same_new {H H1 : Hp} {p : Addr} {o : HO} (s : Same H H1) (h : H1 p = none) : Same H (upd H1 p o) := fun b u e => by
  rw [upd_ne (ne_of_none (s b u e) h)]
  exact s b u e
/-- what stands at D is replaced, D being new since H -/
theorem same_put {H H1 : Hp} {p : Addr} {o : HO} (s : Same H H1) (h : H p = none) : Same H (upd H1 p o) := fun b u e => by
  rw [upd_ne (ne_of_none e h)]
  exact s b u e
theorem all_true (n : Nat) : (List.replicate n true).all id = true := by
  induction n with
  | zero => rfl
  | succ n ih => rw [List.replicate_succ, List.all_cons, ih]; rfl
abbrev Asc (ns : List Int) : Prop := ns.Pairwise (· < ·)
/-- a list of ints stands at a -/
abbrev IL (H : Hp) (a : Addr) (ns : List Int) : Prop := H a = some (.lst (ns.map V.int))
theorem il_at {ns : List Int} {i : Nat} {x : V} (h : (ns.map V.int)[i]? = some x) : ∃ z, x = V.int z ∧ ns[i]? = some z := by
  rw [List.getElem?_map] at h
  cases e : ns[i]? with
  | none => rw [e] at h; cases h
  | some z => rw [e] at h; exact ⟨z, (Option.some.inj h).symm, rfl⟩
/-- what the names of the built-ins hold -/
structure Bl (mg : Str → Option Value) : Prop where
  int : mg "int" = none
  bool : mg "bool" = none
  list : mg "list" = none
  tuple : mg "tuple" = none
  range : mg "range" = none
  len : mg "len" = none
  abs : mg "abs" = none
  all : mg "all" = none
  isi : mg "isinstance" = none
  zip : mg "zip" = none
  max : mg "max" = none
  min : mg "min" = none
  set : mg "set" = none
  sorted : mg "sorted" = none
  dict : mg "dict" = none
def spOne : Sp := fun vs H Q _ => ∃ i : Int, vs = [.int i] ∧ Q (.bl true) H
/-- places from low to high -/
def spPlaces : Sp := fun vs H Q _ => ∃ (a : Addr) (ns : List Int) (lo hi : Int), vs = [.ref a, .int lo, .int hi] ∧ IL H a ns ∧ ns.length ≤ 1000 ∧ (∀ x ∈ ns, lo ≤ x ∧ x ≤ hi) ∧ ∀ H', Same H H' → Q (.bl true) H'
def spAsc : Sp := fun vs H Q _ => ∃ (a : Addr) (ns : List Int) (lo hi : Int), vs = [.ref a, .int lo, .int hi] ∧ IL H a ns ∧ ns.length ≤ 1000 ∧ (∀ x ∈ ns, lo ≤ x ∧ x ≤ hi) ∧ Asc ns ∧ ∀ H', Same H H' → Q (.bl true) H'
def spMarks : Sp := fun vs H Q _ => ∃ (a : Addr) (ns : List Int) (hi : Int), vs = [.ref a, .int hi] ∧ IL H a ns ∧ ns.length ≤ 400 ∧ (∀ x ∈ ns, 1 ≤ x ∧ x ≤ hi) ∧ Asc ns ∧ ∀ H', Same H H' → Q (.bl true) H'
def spSome : Sp := fun vs H Q _ => ∃ (a b : Addr) (ns ms : List Int), vs = [.ref a, .ref b] ∧ IL H a ns ∧ IL H b ms ∧ ns.length ≤ 400 ∧ ms.length ≤ 400 ∧ Asc ns ∧ (∀ x ∈ ns, 1 ≤ x) ∧ (∀ x ∈ ns, x ∈ ms) ∧ ∀ H', Same H H' → Q (.bl true) H'
section
variable {P : Program} {w : World} {K : PySem.W.Frag} {mg : Str → Option Value} {base : Heap}
theorem scI : FnScope ["thing"] ["thing"] (defScope sIsInt) := ⟨rfl, rfl, rfl, by decide +kernel, rfl, by decide +kernel, by decide +kernel⟩
theorem ok_int {f : Addr} {fd : FuncData} (F : Fun K "is_integer" "is_integer" sIsInt f fd) (T : Bl mg) : FnOk P w K mg base CX0 1 f fd ["thing"] spOne := by
  refine F.ok scI (fun vs H Q E h => ?_) (fun cdv A outer s H vs Q E hr h => ?_)
  · obtain ⟨i, rfl, _⟩ := h
    rfl
  · obtain ⟨i, rfl, k⟩ := h
    refine ⟨_, pss_one (ps_ret (pe_and (pe_callB call_isi (by rfl) T.isi (by decide +kernel) (pa_cons (pv 0) (pa_cons (pe_bltn (by rfl) T.int (by decide +kernel) (v := V.ty "int") rfl) pa_nil)))
      (pe_one (pe_not (pe_callB call_isi (by rfl) T.isi (by decide +kernel) (pa_cons (pv 0) (pa_cons (pe_bltn (by rfl) T.bool (by decide +kernel) (v := V.ty "bool") rfl) pa_nil))))))), ?_⟩
    refine ⟨_, rfl, _, _, _, _, true, rfl, ClsV.ty _, .base (.int i), kit_ty (by decide +kernel), _, rfl, ?_⟩
    refine ifT rfl ?_
    refine ⟨_, rfl, _, _, _, _, false, rfl, ClsV.ty _, .base (.int i), kit_ty (by decide +kernel), _, rfl, ?_⟩
    exact k
theorem scP : FnScope ["thing", "low", "high", "place"] ["thing", "low", "high"] (defScope sPlaces) := ⟨rfl, rfl, rfl, by decide +kernel, rfl, by decide +kernel, by decide +kernel⟩
theorem ok_places {f fI : Addr} {fd fdI : FuncData} (F : Fun K "are_places" "are_places" sPlaces f fd) (T : Bl mg) (gI : mg "is_integer" = some (.ref fI)) (kI : PySem.W.keepIn K (.ref fI) = true) (bI : Binds K fdI ["thing"] []) (GI : FnOk P w K mg base CX0 1 fI fdI ["thing"] spOne) :
    FnOk P w K mg base CX0 2 f fd ["thing", "low", "high"] spPlaces := by
  refine F.ok scP (fun vs H Q E h => ?_) (fun cdv A outer s H vs Q E hr h => ?_)
  · obtain ⟨a, ns, lo, hi, rfl, _⟩ := h
    rfl
  · obtain ⟨a, ns, lo, hi, rfl, hS, hl, hb, k⟩ := h
    refine ⟨_, pss_cons (ps_if (pt_not (pt_val (pe_callB call_isi (by rfl) T.isi (by decide +kernel) (pa_cons (pv 0) (pa_cons (pe_bltn (by rfl) T.list (by decide +kernel) (v := V.ty "list") rfl) pa_nil))))) (pss_one (ps_ret pe_bl)) pss_nil)
      (pss_one (ps_ret (pe_callB (cr_all rfl) (by rfl) T.all (by decide +kernel) (pa_cons (pe_lc (own := [("place", 3)]) (g := gName 3) (tt := tYes) rfl scP.nd
        (pi_list (pv 0)) (blkOk_by (own := [("place", 3)]) (N := ["thing", "low", "high", "place"]) (sc := defScope sPlaces) (by decide +kernel)) (fun _ _ _ _ _ => pg_name (i := 3) scP.nd rfl (Or.inl rfl)) (fun _ _ _ _ _ => pts_nil)
        (fun _ _ _ _ _ => pe_and (pe_call GI hr rfl gI kI bI .nil pass0 (pa_cons (pv 3) pa_nil)) (pe_one (pe_chain op_le op_le (pv 1) (pv 3) (pv 2))))) pa_nil)))), ?_⟩
    refine ⟨_, rfl, _, _, _, _, true, rfl, ClsV.ty _, .base (.lst hS), kit_ty (by decide +kernel), _, rfl, ?_⟩
    refine ifF rfl ?_
    refine ⟨_, rfl, a, rfl, ⟨_, SqL.of hS⟩, fun D hD => ?_⟩
    refine lc_list (K := K) (a := a) (xs := ns.map V.int) (fun i H' => Same H H' ∧ H' D = some (.lst (List.replicate i (V.bl true)))) ⟨same_new (Same.refl H) hD, upd_same⟩ (fun i H' _ q => SqL.of (q.1 _ _ hS)) ?_ ?_
    · rintro i x H' hx ⟨s1, hD'⟩
      obtain ⟨z, rfl, hz⟩ := il_at hx
      have hil : i < ns.length := (List.getElem?_eq_some_iff.mp hz).1
      obtain ⟨b1, b2⟩ := hb z (List.mem_of_getElem? hz)
      refine ⟨rfl, ?_⟩
      unfold tYes
      refine iteT ?_
      refine ⟨_, rfl, _, rfl, _, rfl, ?_⟩
      refine ifT rfl ?_
      refine ⟨_, rfl, _, rfl, _, _, rfl, rfl, _, rfl, ?_⟩
      refine ifT (by simp [b1]) ?_
      refine ⟨_, rfl, _, _, rfl, rfl, ?_⟩
      refine ⟨_, hD', by rw [List.length_replicate]; exact small1000 (by omega), same_put s1 hD, ?_⟩
      rw [upd_same, List.replicate_succ']
      simp [b2]
    · rintro H' ⟨s1, hD'⟩
      refine ⟨D, List.replicate ns.length true, rfl, SqL.of (by rw [hD', List.map_replicate, List.length_map]), ?_⟩
      rw [all_true]
      exact k _ s1
end
end Cw
namespace Cw
open PySem L2
theorem cut_one (xs : List V) : cutV xs (some 1) none = xs.drop 1 := by
  unfold cutV
  have e1 : HT.sIx xs.length 0 (some 1) = min 1 xs.length := HT.sIx_nat xs.length 0 1
  rw [e1, HT.sIx_none]
  cases xs with
  | nil => rfl
  | cons x r =>
    have e2 : min 1 (x :: r).length = 1 := by
      rw [List.length_cons]
      omega
    rw [e2, List.drop_succ_cons, List.drop_zero, List.length_cons, Nat.add_sub_cancel]
    exact List.take_length
section
variable {P : Program} {w : World} {K : PySem.W.Frag} {mg : Str → Option Value} {base : Heap}
abbrev NA : List Str := ["thing", "low", "high", "before", "place"]
theorem scA : FnScope NA ["thing", "low", "high"] (defScope sAsc) := ⟨rfl, rfl, rfl, by decide +kernel, rfl, by decide +kernel, by decide +kernel⟩
theorem ok_asc {f fP : Addr} {fd fdP : FuncData} (F : Fun K "are_ascending" "are_ascending" sAsc f fd) (T : Bl mg) (gP : mg "are_places" = some (.ref fP)) (kP : PySem.W.keepIn K (.ref fP) = true) (bP : Binds K fdP ["thing", "low", "high"] []) (GP : FnOk P w K mg base CX0 2 fP fdP ["thing", "low", "high"] spPlaces) :
    FnOk P w K mg base CX0 3 f fd ["thing", "low", "high"] spAsc := by
  refine F.ok scA (fun vs H Q E h => ?_) (fun cdv A outer s H vs Q E hr h => ?_)
  · obtain ⟨a, ns, lo, hi, rfl, _⟩ := h
    rfl
  · obtain ⟨a, ns, lo, hi, rfl, hS, hl, hb, ha, k⟩ := h
    refine ⟨_, pss_cons (ps_if (pt_not (pt_val (pe_call GP hr rfl gP kP bP .nil pass0 (pa_cons (pv 0) (pa_cons (pv 1) (pa_cons (pv 2) pa_nil)))))) (pss_one (ps_ret pe_bl)) pss_nil)
      (pss_one (ps_ret (pe_callB (cr_all rfl) (by rfl) T.all (by decide +kernel) (pa_cons (pe_lc (own := [("before", 3), ("place", 4)]) (g := gTup K 2 (gCons (gName 3) (gCons (gName 4) gNil))) (tt := tYes) rfl scA.nd
        (pi_zip (by rfl) T.zip (pa_cons (pv 0) (pa_cons (pe_slice sl_list (pv 0) (po_some pe_int) po_none) pa_nil))) (blkOk_by (own := [("before", 3), ("place", 4)]) (N := NA) (sc := defScope sAsc) (by decide +kernel))
        (fun _ _ _ _ _ => pg_tup rfl (pgs_cons (pg_name (i := 3) scA.nd rfl (Or.inl rfl)) (pgs_cons (pg_name (i := 4) scA.nd rfl (Or.inl rfl)) pgs_nil))) (fun _ _ _ _ _ => pts_nil)
        (fun _ _ _ _ _ => pe_cmpR op_lt (pv 3) (pv 4) (nomark _))) pa_nil)))), ?_⟩
    refine ⟨_, rfl, _, rfl, _, rfl, a, ns, lo, hi, rfl, hS, hl, hb, fun H1 s1 => ⟨_, rfl, ?_⟩⟩
    refine ifF rfl ?_
    refine ⟨_, rfl, _, rfl, 1, rfl, a, _, rfl, SqL.of (s1 _ _ hS), fun c nc => ?_⟩
    have s2 := same_new (o := .lst (cutV (ns.map V.int) (some 1) none)) s1 nc
    rw [cut_one] at s2
    rw [cut_one]
    refine ⟨a, c, _, _, rfl, SqL.of (s2 _ _ hS), SqL.of upd_same, fun D hD => ?_⟩
    have nc' : H c = none := s1.free nc
    have ncD : c ≠ D := ne_of_none upd_same hD
    have hn : ns.length - 1 = min (ns.map V.int).length ((ns.map V.int).drop 1).length := by
      rw [List.length_drop, List.length_map]
      omega
    refine lc_it (walk_zip hn) (fun i H' => Same H H' ∧ H' c = some (.lst ((ns.map V.int).drop 1)) ∧ H' D = some (.lst (List.replicate i (V.bl true)))) ⟨same_new s2 hD, by rw [upd_ne ncD]; exact upd_same, upd_same⟩ (fun i H' _ q => ⟨SqL.of (q.1 _ _ hS), SqL.of q.2.1⟩) ?_ ?_
    · rintro i x H' H'' hi ⟨s3, hc, hD'⟩ ⟨t, x1, x2, rfl, nt, rfl, e1, e2⟩
      have h1 : i < ns.length := by omega
      have h2 : i + 1 < ns.length := by omega
      have g1 : x1 = .int ns[i] := by
        dsimp only at e1
        rw [List.getElem?_map, List.getElem?_eq_getElem h1] at e1
        exact (Option.some.inj e1).symm
      have g2 : x2 = .int ns[i + 1] := by
        dsimp only at e2
        rw [List.getElem?_drop, List.getElem?_map, Nat.add_comm 1 i, List.getElem?_eq_getElem h2] at e2
        exact (Option.some.inj e2).symm
      subst g1 g2
      have hlt : ns[i] < ns[i + 1] := List.pairwise_iff_getElem.mp ha i (i + 1) h1 h2 (Nat.lt_succ_self i)
      have ntc : c ≠ t := ne_of_none hc nt
      have ntD : D ≠ t := ne_of_none hD' nt
      refine ⟨t, _, rfl, SqT.of upd_same, rfl, _, _, rfl, _, _, rfl, rfl, rfl, ?_⟩
      unfold tYes
      refine iteT ?_
      refine ⟨_, rfl, _, rfl, _, _, rfl, rfl, ?_⟩
      refine ⟨_, (by rw [upd_ne ntD]; exact hD'), by rw [List.length_replicate]; exact small1000 (by omega), same_put (same_new s3 nt) (s2.trans (Same.refl _) |>.free hD), ?_, ?_⟩
      · rw [upd_ne ncD, upd_ne ntc]
        exact hc
      · rw [upd_same, List.replicate_succ']
        simp [hlt]
    · rintro H' ⟨s3, hc, hD'⟩
      refine ⟨D, List.replicate (ns.length - 1) true, rfl, SqL.of (by rw [hD', List.map_replicate]), ?_⟩
      rw [all_true]
      exact k _ s3
theorem scM : FnScope ["thing", "high"] ["thing", "high"] (defScope sMarks) := ⟨rfl, rfl, rfl, by decide +kernel, rfl, by decide +kernel, by decide +kernel⟩
theorem ok_marks {f fA : Addr} {fd fdA : FuncData} {t : Tok} (F : Fun K "are_marks" "are_marks" sMarks f fd) (T : Bl mg) (gN : mg "MOST_MARKS" = some (.int 400 t)) (gA : mg "are_ascending" = some (.ref fA)) (kA : PySem.W.keepIn K (.ref fA) = true) (bA : Binds K fdA ["thing", "low", "high"] []) (GA : FnOk P w K mg base CX0 3 fA fdA ["thing", "low", "high"] spAsc) :
    FnOk P w K mg base CX0 4 f fd ["thing", "high"] spMarks := by
  refine F.ok scM (fun vs H Q E h => ?_) (fun cdv A outer s H vs Q E hr h => ?_)
  · obtain ⟨a, ns, hi, rfl, _⟩ := h
    rfl
  · obtain ⟨a, ns, hi, rfl, hS, hl, hb, ha, k⟩ := h
    refine ⟨_, pss_one (ps_ret (pe_and (pe_call GA hr rfl gA kA bA .nil pass0 (pa_cons (pv 0) (pa_cons pe_int (pa_cons (pv 1) pa_nil))))
      (pe_one (pe_cmpR op_le (pe_callB call_len_seq (by rfl) T.len PySem.boot_len (pa_cons (pv 0) pa_nil)) (pe_glob rfl gN (v := V.int 400) ⟨_, rfl⟩) (nomark _))))), ?_⟩
    refine ⟨_, rfl, _, rfl, a, ns, 1, hi, rfl, hS, by omega, hb, ha, fun H1 s1 => ⟨_, rfl, ?_⟩⟩
    refine ifT rfl ?_
    refine ⟨_, rfl, a, _, rfl, .inl (SqL.of (s1 _ _ hS)), _, _, rfl, rfl, ?_⟩
    have e : decide (((ns.map V.int).length : Int) ≤ 400) = true := by
      rw [List.length_map]
      exact decide_eq_true (by omega)
    have z := k _ s1
    rw [← e] at z
    exact z
theorem scSo : FnScope ["thing", "marks"] ["thing", "marks"] (defScope sSome) := ⟨rfl, rfl, rfl, by decide +kernel, rfl, by decide +kernel, by decide +kernel⟩
theorem ok_some {f fA : Addr} {fd fdA : FuncData} (F : Fun K "are_some_of" "are_some_of" sSome f fd) (T : Bl mg) (gA : mg "are_ascending" = some (.ref fA)) (kA : PySem.W.keepIn K (.ref fA) = true) (bA : Binds K fdA ["thing", "low", "high"] []) (GA : FnOk P w K mg base CX0 3 fA fdA ["thing", "low", "high"] spAsc) :
    FnOk P w K mg base CX0 4 f fd ["thing", "marks"] spSome := by
  refine F.ok scSo (fun vs H Q E h => ?_) (fun cdv A outer s H vs Q E hr h => ?_)
  · obtain ⟨a, b, ns, ms, rfl, _⟩ := h
    rfl
  · obtain ⟨a, b, ns, ms, rfl, hS, hM, hl, hm, ha, h1, hsub, k⟩ := h
    have hu := hr.units
    refine ⟨_, pss_cons (ps_if (pt_not (pt_val (pe_call GA hr rfl gA kA bA .nil pass0 (pa_cons (pv 0) (pa_cons pe_int (pa_cons (pe_callBK (cr_maxD rfl (Nat.lt_of_le_of_lt (Nat.add_le_add_left (by decide : 3 ≤ 64) _) hu)) (by rfl) T.max (by decide +kernel) (pa_cons (pv 1) pa_nil) (pk_cons pe_int pk_nil)) pa_nil)))))) (pss_one (ps_ret pe_bl)) pss_nil)
      (pss_one (ps_ret (pe_cmpR op_eq (pe_callB cr_lenS (by rfl) T.len PySem.boot_len (pa_cons (pe_op op_subN (pe_callTy (cr_setOf rfl) (by rfl) T.set (by decide +kernel) (pa_cons (pv 0) pa_nil)) (pe_callTy (cr_setOf rfl) (by rfl) T.set (by decide +kernel) (pa_cons (pv 1) pa_nil))) pa_nil)) pe_int (nomark _)))), ?_⟩
    refine ⟨_, rfl, _, rfl, b, ms, 0, rfl, SqL.of hM, rfl, fun M _ hM2 => ?_⟩
    refine ⟨a, ns, 0, M, rfl, hS, by omega, fun x hx => ⟨Int.le_trans (by decide) (h1 x hx), hM2 x (hsub x hx)⟩, ha, fun H1 s1 => ⟨_, rfl, ?_⟩⟩
    refine ifF rfl ?_
    refine ⟨_, rfl, a, ns, rfl, SqL.of (s1 _ _ hS), by omega, fun p c _ hp => ?_⟩
    have s2 := same_new (o := SetO w p (fun j => decide (j ∈ ns)) c) s1 hp
    refine ⟨_, rfl, b, ms, rfl, SqL.of (s2 _ _ hM), by omega, fun p2 c2 _ hp2 => ?_⟩
    have s3 := same_new (o := SetO w p2 (fun j => decide (j ∈ ms)) c2) s2 hp2
    have n12 : p ≠ p2 := ne_of_none upd_same hp2
    refine ⟨p, p2, _, _, _, _, rfl, rfl, by rw [upd_ne n12]; exact upd_same, upd_same, fun j hj => decide_eq_true (hsub j (of_decide_eq_true hj)), fun p3 hp3 => ?_⟩
    refine ⟨p3, _, 0, rfl, upd_same, rfl, ?_⟩
    have e : decide (V.int ((0 : Nat) : Int) = V.int 0) = true := by simp
    have z := k _ (same_new (o := SetO w p3 (fun _ => false) 0) s3 hp3)
    rw [← e] at z
    exact z
end
end Cw
namespace Cw
open PySem L2
abbrev sInit : Stmt := inClass sRow 0
abbrev sGetM : Stmt := inClass sRow 2
abbrev sEq : Stmt := inClass sRow 6
abbrev sChanged : Stmt := inClass sRow 11
theorem k12 : ¬ (("_length" : Str) = "_marks") := by decide +kernel
theorem k13 : ¬ (("_length" : Str) = "_strict") := by decide +kernel
theorem k23 : ¬ (("_marks" : Str) = "_strict") := by decide +kernel
def flds (n : Int) (l1 l2 : Addr) : List (Str × V) := putF "_strict" (.ref l2) (putF "_marks" (.ref l1) (putF "_length" (.int n) []))
theorem flds_eq (n : Int) (l1 l2 : Addr) : flds n l1 l2 = ([("_length", V.int n), ("_marks", V.ref l1), ("_strict", V.ref l2)] : List (Str × V)) := by
  unfold flds
  rw [show putF "_length" (V.int n) [] = ([("_length", V.int n)] : List (Str × V)) from rfl]
  rw [show putF "_marks" (V.ref l1) ([("_length", V.int n)] : List (Str × V)) = (if ("_length" : Str) = "_marks" then ([("_length", V.ref l1)] : List (Str × V)) else ("_length", V.int n) :: putF "_marks" (V.ref l1) []) from rfl, if_neg k12]
  rw [show putF "_marks" (V.ref l1) [] = ([("_marks", V.ref l1)] : List (Str × V)) from rfl]
  rw [show putF "_strict" (V.ref l2) ([("_length", V.int n), ("_marks", V.ref l1)] : List (Str × V)) = (if ("_length" : Str) = "_strict" then ([("_length", V.ref l2), ("_marks", V.ref l1)] : List (Str × V)) else ("_length", V.int n) :: (if ("_marks" : Str) = "_strict" then ([("_marks", V.ref l2)] : List (Str × V)) else ("_marks", V.ref l1) :: putF "_strict" (V.ref l2) [])) from rfl, if_neg k13, if_neg k23]
  rfl
theorem fl_L (n : Int) (l1 l2 : Addr) : (flds n l1 l2).lookup ("_length" : Str) = some (.int n) := by
  unfold flds
  rw [lookup_putF, if_neg k13, lookup_putF, if_neg k12, lookup_putF, if_pos rfl]
theorem fl_M (n : Int) (l1 l2 : Addr) : (flds n l1 l2).lookup ("_marks" : Str) = some (.ref l1) := by
  unfold flds
  rw [lookup_putF, if_neg k23, lookup_putF, if_pos rfl]
theorem fl_S (n : Int) (l1 l2 : Addr) : (flds n l1 l2).lookup ("_strict" : Str) = some (.ref l2) := by
  unfold flds
  rw [lookup_putF, if_pos rfl]
theorem fl_no (n : Int) (l1 l2 : Addr) {m : Str} (h1 : ¬ m = "_length") (h2 : ¬ m = "_marks") (h3 : ¬ m = "_strict") : (flds n l1 l2).lookup m = none := by
  unfold flds
  rw [lookup_putF, if_neg h3, lookup_putF, if_neg h2, lookup_putF, if_neg h1]
  rfl
/-- what a row is -/
structure Good (n : Int) (ms ss : List Int) : Prop where
  pos : 1 ≤ n
  len : ms.length ≤ 400
  rng : ∀ x ∈ ms, 1 ≤ x ∧ x ≤ n - 1
  asc : Asc ms
  asc2 : Asc ss
  sub : ∀ x ∈ ss, x ∈ ms
theorem Good.len2 {n : Int} {ms ss : List Int} (g : Good n ms ss) : ss.length ≤ 400 :=
  Nat.le_trans (nodup_len (g.asc2.imp fun h e => by omega) g.sub) g.len
/-- a row stands at p -/
def RowAt (C : Addr) (H : Hp) (p : Addr) (n : Int) (ms ss : List Int) : Prop := ∃ dx l1 l2, H p = some (.ins C dx (flds n l1 l2)) ∧ IL H l1 ms ∧ IL H l2 ss
theorem RowAt.same {C : Addr} {H H' : Hp} {p : Addr} {n : Int} {ms ss : List Int} (r : RowAt C H p n ms ss) (s : Same H H') : RowAt C H' p n ms ss := by
  obtain ⟨dx, l1, l2, a, b, c⟩ := r
  exact ⟨dx, l1, l2, s _ _ a, s _ _ b, s _ _ c⟩
/-- a row has been made at p, its lists are new since H -/
def RowNew (C : Addr) (H H' : Hp) (p : Addr) (n : Int) (ms ss : List Int) : Prop := ∃ dx l1 l2, H' p = some (.ins C dx (flds n l1 l2)) ∧ IL H' l1 ms ∧ IL H' l2 ss ∧ H l1 = none ∧ H l2 = none
theorem RowNew.at {C : Addr} {H H' : Hp} {p : Addr} {n : Int} {ms ss : List Int} (r : RowNew C H H' p n ms ss) : RowAt C H' p n ms ss := by
  obtain ⟨dx, l1, l2, a, b, c, _⟩ := r
  exact ⟨dx, l1, l2, a, b, c⟩
theorem none_of {H H' : Hp} {l : Addr} (k : ∀ c o, H c = some o → ∃ o', H' c = some o') (h : H' l = none) : H l = none := by
  cases e : H l with
  | none => rfl
  | some o =>
    obtain ⟨o', z⟩ := k _ _ e
    rw [h] at z
    cases z
theorem RowNew.mono {C : Addr} {H0 H H' : Hp} {p : Addr} {n : Int} {ms ss : List Int} (r : RowNew C H H' p n ms ss) (k : ∀ c o, H0 c = some o → ∃ o', H c = some o') : RowNew C H0 H' p n ms ss := by
  obtain ⟨dx, l1, l2, a, b, c, d, e⟩ := r
  exact ⟨dx, l1, l2, a, b, c, none_of k d, none_of k e⟩
structure Cl (K : PySem.W.Frag) (mg : Str → Option Value) (C : Addr) : Prop where
  cl : Cls K C
  nL : NoAttr K C "_length"
  nM : NoAttr K C "_marks"
  nS : NoAttr K C "_strict"
  mgR : mg "Row" = some (.ref C)
  kit : PySem.W.kitOne K (.ref C) (.ref C) = some true
/-- Row(n, marks, strict): from the new instance on -/
def spInit (C : Addr) : Sp := fun vs H Q _ => ∃ (x dx a b : Addr) (n : Int) (ms ss : List Int), vs = [.ref x, .int n, .ref a, .ref b] ∧ H x = some (.ins C dx []) ∧ IL H a ms ∧ IL H b ss ∧ Good n ms ss ∧
  ∀ H', RowNew C H H' x n ms ss → (∀ c o, H c = some o → c ≠ x → H' c = some o) → Q .non H'
section
variable {P : Program} {w : World} {K : PySem.W.Frag} {mg : Str → Option Value} {base : Heap}
abbrev NI : List Str := ["self", "length", "marks", "strict"]
theorem scIn : FnScope NI NI (defScope sInit) := ⟨rfl, rfl, rfl, by decide +kernel, rfl, by decide +kernel, by decide +kernel⟩
theorem ok_init {f C fI fM fS : Addr} {fd fdI fdM fdS : FuncData} (F : Fun K "__init__" "Row.__init__" sInit f fd) (T : Bl mg) (R : Cl K mg C)
    (gI : mg "is_integer" = some (.ref fI)) (kI : PySem.W.keepIn K (.ref fI) = true) (bI : Binds K fdI ["thing"] []) (GI : FnOk P w K mg base CX0 1 fI fdI ["thing"] spOne)
    (gM : mg "are_marks" = some (.ref fM)) (kM : PySem.W.keepIn K (.ref fM) = true) (bM : Binds K fdM ["thing", "high"] []) (GM : FnOk P w K mg base CX0 4 fM fdM ["thing", "high"] spMarks)
    (gS : mg "are_some_of" = some (.ref fS)) (kS : PySem.W.keepIn K (.ref fS) = true) (bS : Binds K fdS ["thing", "marks"] []) (GS : FnOk P w K mg base CX0 4 fS fdS ["thing", "marks"] spSome) :
    FnOk P w K mg base CX0 5 f fd NI (spInit C) := by
  refine F.ok scIn (fun vs H Q E h => ?_) (fun cdv A outer s H vs Q E hr h => ?_)
  · obtain ⟨x, dx, a, b, n, ms, ss, rfl, _⟩ := h
    rfl
  · obtain ⟨x, dx, a, b, n, ms, ss, rfl, hx, hM, hS, G, k⟩ := h
    have hr1 : Room 1 (A.deeper (PyProof.Rows.envOfC "Row.__init__" (defScope sInit) s.heap.objs.size f cdv)) := hr.mono (by decide)
    refine ⟨_, pss_cons (ps_if (PW.pt (pw_or (pt_not (pt_val (pe_call GI hr1 rfl gI kI bI .nil pass0 (pa_cons (pv 1) pa_nil)))) (pw_or1 (pt_cmpR op_lt (pv 1) pe_int (nomark _))))) pss_never pss_nil)
      (pss_cons (ps_if (pt_not (pt_val (pe_call GM hr rfl gM kM bM .nil pass0 (pa_cons (pv 2) (pa_cons (pe_op op_sub (pv 1) pe_int) pa_nil))))) pss_never pss_nil)
      (pss_cons (ps_if (pt_not (pt_val (pe_call GS hr rfl gS kS bS .nil pass0 (pa_cons (pv 3) (pa_cons (pv 2) pa_nil))))) pss_never pss_nil)
      (pss_cons (ps_fld (pv 0) (pv 1) rfl)
      (pss_cons (ps_fld (pv 0) (pe_callTy call_list_of (by rfl) T.list (by decide +kernel) (pa_cons (pv 2) pa_nil)) rfl)
      (pss_one (ps_fld (pv 0) (pe_callTy call_list_of (by rfl) T.list (by decide +kernel) (pa_cons (pv 3) pa_nil)) rfl)))))), ?_⟩
    have hp := G.pos
    refine ⟨_, rfl, n, rfl, _, rfl, ?_⟩
    refine ifF rfl ?_
    refine ⟨_, rfl, _, _, rfl, rfl, _, rfl, ?_⟩
    refine ifF (decide_eq_false (by omega)) ?_
    refine ⟨_, rfl, _, rfl, _, _, rfl, rfl, a, ms, n - 1, rfl, hM, G.len, G.rng, G.asc, fun H1 s1 => ⟨_, rfl, ?_⟩⟩
    refine ifF rfl ?_
    refine ⟨_, rfl, _, rfl, b, a, ss, ms, rfl, s1 _ _ hS, s1 _ _ hM, G.len2, G.len, G.asc2, (fun y hy => (G.rng y (G.sub y hy)).1), G.sub, fun H2 s2 => ⟨_, rfl, ?_⟩⟩
    refine ifF rfl ?_
    have s12 := s1.trans s2
    refine ⟨_, rfl, _, rfl, x, C, dx, _, rfl, s12 _ _ hx, R.cl, R.nL, (by show 0 < 1000; decide), ?_⟩
    have na : a ≠ x := ne_of hM hx (by intro z; cases z)
    have nb : b ≠ x := ne_of hS hx (by intro z; cases z)
    have hM3 : ∀ o, IL (upd H2 x o) a ms := fun o => by
      show upd H2 x o a = _
      rw [upd_ne na]
      exact s12 _ _ hM
    have hS3 : ∀ o, IL (upd H2 x o) b ss := fun o => by
      show upd H2 x o b = _
      rw [upd_ne nb]
      exact s12 _ _ hS
    refine ⟨_, rfl, a, _, rfl, .inl (SqL.of (hM3 _)), fun l1 h1 => ?_⟩
    have nx1 : x ≠ l1 := ne_of_none upd_same h1
    have nb1 : b ≠ l1 := ne_of_none (hS3 _) h1
    refine ⟨_, rfl, x, C, dx, _, rfl, (by rw [upd_ne nx1]; exact upd_same), R.cl, R.nM, (by show 1 < 1000; decide), ?_⟩
    refine ⟨_, rfl, b, ss.map V.int, rfl, .inl (SqL.of (by rw [upd_ne nb, upd_ne nb1]; exact hS3 _)), fun l2 h2 => ?_⟩
    have nx2 : x ≠ l2 := ne_of_none upd_same h2
    have n12 : l1 ≠ l2 := ne_of_none (show _ = some (HO.lst (ms.map V.int)) by rw [upd_ne (Ne.symm nx1)]; exact upd_same) h2
    refine ⟨_, rfl, x, C, dx, _, rfl, (by rw [upd_ne nx2]; exact upd_same), R.cl, R.nS, (by show 2 < 1000; decide), ?_⟩
    have up : ∀ (H : Hp) (x : Addr) (o' : HO) (c : Addr) (o : HO), H c = some o → ∃ o'', upd H x o' c = some o'' := fun H x o' c o e => by
      by_cases z : c = x
      · exact ⟨o', by rw [z]; exact upd_same⟩
      · exact ⟨o, by rw [upd_ne z]; exact e⟩
    have f1 : H l1 = none := none_of (fun c o e => up _ _ _ _ _ (s12 _ _ e)) h1
    have f2 : H l2 = none := none_of (fun c o e => by
      obtain ⟨o1, e1⟩ := up H2 x (.ins C dx (putF "_length" (V.int n) [])) _ _ (s12 _ _ e)
      obtain ⟨o2, e2⟩ := up _ l1 (.lst (ms.map V.int)) _ _ e1
      exact up _ _ _ _ _ e2) h2
    refine k _ ⟨dx, l1, l2, upd_same, ?_, ?_, f1, f2⟩ ?_
    · show upd _ _ _ l1 = _
      rw [upd_ne (Ne.symm nx1), upd_ne n12, upd_ne (Ne.symm nx1)]
      exact upd_same
    · show upd _ _ _ l2 = _
      rw [upd_ne (Ne.symm nx2)]
      exact upd_same
    · intro c o ec nc
      have e3 : ∀ o', upd H2 x o' c = some o := fun o' => by
        rw [upd_ne nc]
        exact s12 _ _ ec
      have e4 := e3 (.ins C dx (putF "_length" (V.int n) []))
      have ne1 : c ≠ l1 := ne_of_none e4 h1
      rw [upd_ne nc]
      have e5 : upd (upd (upd H2 x (.ins C dx (putF "_length" (V.int n) []))) l1 (.lst (ms.map V.int))) x (.ins C dx (putF "_marks" (V.ref l1) (putF "_length" (V.int n) []))) c = some o := by
        rw [upd_ne nc, upd_ne ne1]
        exact e4
      rw [upd_ne (ne_of_none e5 h2)]
      exact e5
end
end Cw
namespace Cw
open PySem PySem.Spec PyProof.Rows L2
theorem dps_ints {K : PySem.W.Frag} {H : Hp} : ∀ ns : List Int, DpAll K H (ns.map V.int) (ns.map PyData.int)
  | [] => .nil
  | n :: r => .cons (.int n) (dps_ints r)
theorem dp_il {K : PySem.W.Frag} {H : Hp} {a : Addr} {ns : List Int} (h : IL H a ns) : Dp K H (.ref a) (.list (ns.map PyData.int)) := .lst (SqL.of h) (dps_ints ns)
theorem depth_ints : ∀ ns : List Int, PyData.depthAll (ns.map PyData.int) ≤ 1 := fun ns => by
  induction ns with
  | nil => exact Nat.zero_le _
  | cons n r ih =>
    rw [List.map_cons]
    unfold PyData.depthAll PyData.depth
    omega
theorem lay_ints : ∀ ns : List Int, PyData.canLayAll0 (ns.map PyData.int) = true := fun ns => by
  induction ns with
  | nil => rfl
  | cons n r ih =>
    rw [List.map_cons]
    unfold PyData.canLayAll0 PyData.canLay0
    rw [ih]
    rfl
theorem shape_il (ns : List Int) : SeqAt.shaped (.list (ns.map PyData.int)) = true := by
  have h1 : PyData.canLay0 (.list (ns.map PyData.int)) = true := by
    unfold PyData.canLay0
    exact lay_ints ns
  have h2 : PyData.depth (.list (ns.map PyData.int)) ≤ 64 := by
    have z := depth_ints ns
    unfold PyData.depth
    omega
  unfold SeqAt.shaped
  rw [h1, decide_eq_true h2]
  rfl
theorem eqv_il (ns : List Int) : PyData.eqv (.list (ns.map PyData.int)) (.list (ns.map PyData.int)) = true := SeqAt.eqv_refl _ (SeqAt.canLay_of_shaped (shape_il ns))
section
variable {X : Cx} {a b c d : Expr} {ta tb tc td : TE} {pos : Pos}
/-- a op1 b op2 c op3 d -/
def tChain3 (r1 r2 r3 : R2) (ta tb tc td : TE) : TE := fun σ H Q => ta σ H fun x H1 => tb σ H1 fun y H2 => r1 x y H2 fun z H3 => ∃ k, z = .bl k ∧
  (if k = true then tc σ H3 fun u H4 => r2 y u H4 fun z2 H5 => ∃ k2, z2 = .bl k2 ∧ (if k2 = true then td σ H5 fun v H6 => r3 u v H6 Q else Q (.bl false) H5) else Q (.bl false) H3)
theorem pt_chain3 {o1 o2 o3 : CmpOp} {r1 r2 r3 : R2} (h1 : OpR X (compareOp o1) r1) (h2 : OpR X (compareOp o2) r2) (h3 : OpR X (compareOp o3) r3) (ha : PE X a ta) (hb : PE X b tb) (hc : PE X c tc) (hd : PE X d td)
    (hm : lastMarks [o1, o2, o3] [b, c, d] = false := by with_unfolding_all rfl) : PT X (.Compare a [o1, o2, o3] [b, c, d] pos) (tTest (tChain3 r1 r2 r3 ta tb tc td)) := by
  refine ⟨fun pins s σ H Q I h => ?_⟩
  refine isTrue_chain (thn (ha.run pins s σ H _ I h) fun v s1 ⟨x, H1, I1, e1, q1⟩ => test_link (thn (hb.run pins s1 σ H1 _ I1 q1) fun u s2 ⟨y, H2, I2, e2, q2⟩ =>
    thn (h1 pins s2 σ H2 x y v u _ I2 e1 e2 q2) fun d1 s3 ⟨z, H3, I3, e3, k, e, q3⟩ => ?_)) hm
  subst e
  cases e3
  refine wpAny_truthy_bool ?_
  cases k with
  | false =>
    obtain ⟨k', e', q'⟩ := q3
    cases e'
    exact ite_ff ⟨H3, I3, q'⟩
  | true =>
    refine ite_tt (test_link (thn (hc.run pins s3 σ H3 _ I3 q3) fun w' s4 ⟨z', H4, I4, e4, q4⟩ => thn (h2 pins s4 σ H4 y z' u w' _ I4 e2 e4 q4) fun d' s5 ⟨z2, H5, I5, e5, k2, f2, q5⟩ => ?_))
    subst f2
    cases e5
    refine wpAny_truthy_bool ?_
    cases k2 with
    | false =>
      obtain ⟨k', e', q'⟩ := q5
      cases e'
      exact ite_ff ⟨H5, I5, q'⟩
    | true =>
      refine ite_tt (test_last (thn (hd.run pins s5 σ H5 _ I5 q5) fun w2 s6 ⟨y2, H6, I6, e6, q6⟩ => thn (h3 pins s6 σ H6 z' y2 w' w2 _ I6 e4 e6 q6) fun d2 s7 ⟨y3, H7, I7, e7, k3, f3, q7⟩ => ?_))
      subst f3
      cases e7
      exact wpAny_truthy_bool ⟨H7, I7, q7⟩
end
/-- two rows alike -/
def Alike (C : Addr) : Addr → Addr → Hp → Prop := fun a b H => ∃ n ms ss, RowAt C H a n ms ss ∧ RowAt C H b n ms ss
/-- what a row's .marks promises -/
def spGetM (C : Addr) : Sp := fun vs H Q _ => ∃ (a : Addr) (n : Int) (ms ss : List Int), vs = [.ref a] ∧ RowAt C H a n ms ss ∧ ∀ p H', Same H H' → H p = none → IL H' p ms → Q (.ref p) H'
/-- what isinstance asks of the class -/
structure Ci (K : PySem.W.Frag) (C : Addr) : Prop where
  ha : PySem.W.findIn K (.ref C) "__class__" = some (some (.builtin "object.__class__"))
  hn : PySem.W.specialIn K (.builtin "object.__class__") "__get__" = some (some (.builtin "getset_descriptor.__get__"))
  ht : PySem.W.takesIn K (.builtin "object.__class__") = some true
  hm : PySem.W.mroIn K C (.type "object") = some true
section
variable {P : Program} {w : World} {K : PySem.W.Frag} {mg : Str → Option Value} {base : Heap}
theorem scG : FnScope ["self"] ["self"] (defScope sGetM) := ⟨rfl, rfl, rfl, by decide +kernel, rfl, by decide +kernel, by decide +kernel⟩
theorem ok_getM {f C : Addr} {fd : FuncData} (F : Fun K "marks" "Row.marks" sGetM f fd) (T : Bl mg) (R : Cl K mg C) : FnOk P w K mg base CX0 1 f fd ["self"] (spGetM C) := by
  refine F.ok scG (fun vs H Q E h => ?_) (fun cdv A outer s H vs Q E hr h => ?_)
  · obtain ⟨a, n, ms, ss, rfl, _⟩ := h
    rfl
  · obtain ⟨a, n, ms, ss, rfl, ⟨dx, l1, l2, ho, h1, h2⟩, k⟩ := h
    refine ⟨_, pss_one (ps_ret (pe_callTy call_list_of (by rfl) T.list (by decide +kernel) (pa_cons (pe_fld (pv 0) rfl) pa_nil))), ?_⟩
    refine ⟨_, rfl, a, C, dx, _, _, rfl, ho, R.cl, R.nM, fl_M _ _ _, l1, _, rfl, .inl (SqL.of h1), fun p hp => ?_⟩
    exact k p _ (same_new (Same.refl H) hp) hp upd_same
theorem scE : FnScope ["self", "other"] ["self", "other"] (defScope sEq) := ⟨rfl, rfl, rfl, by decide +kernel, rfl, by decide +kernel, by decide +kernel⟩
theorem ok_eq {f C : Addr} {fd : FuncData} (F : Fun K "__eq__" "Row.__eq__" sEq f fd) (T : Bl mg) (R : Cl K mg C) (N : Ci K C) : FnOk P w K mg base CX0 1 f fd ["self", "other"] (spEq (Alike C)) := by
  refine F.ok scE (fun vs H Q E h => ?_) (fun cdv A outer s H vs Q E hr h => ?_)
  · obtain ⟨a, b, rfl, _⟩ := h
    rfl
  · obtain ⟨a, b, rfl, ⟨n, ms, ss, ⟨dx, l1, l2, ho, h1, h2⟩, ⟨dy, m1, m2, hp, g1, g2⟩⟩, k⟩ := h
    refine ⟨_, pss_cons (ps_if (pt_not (pt_val (pe_callB call_isi (by rfl) T.isi (by decide +kernel) (pa_cons (pv 1) (pa_cons (pe_glob (by rfl) R.mgR (v := V.ref C) rfl) pa_nil))))) (pss_one (ps_ret pe_bl)) pss_nil)
      (pss_cons (ps_if (pt_cmpR op_ne (pe_fld (pv 0) rfl) (pe_fld (pv 1) rfl) (nomark _)) (pss_one (ps_ret pe_bl)) pss_nil)
      (pss_one (ps_ret (pe_and (pe_cmpR (op_eqD hr.units) (pe_fld (pv 0) rfl) (pe_fld (pv 1) rfl) (nomark _)) (pe_one (pe_cmpR (op_eqD hr.units) (pe_fld (pv 0) rfl) (pe_fld (pv 1) rfl) (nomark _))))))), ?_⟩
    refine ⟨_, rfl, _, _, _, _, true, rfl, ClsV.own _, .base (.ins hp R.cl N.ha N.hn N.ht N.hm), R.kit, _, rfl, ?_⟩
    refine ifF rfl ?_
    refine ⟨_, rfl, a, C, dx, _, _, rfl, ho, R.cl, R.nL, fl_L _ _ _, _, rfl, b, C, dy, _, _, rfl, hp, R.cl, R.nL, fl_L _ _ _, rfl, _, rfl, ?_⟩
    refine ifF (by simp) ?_
    refine ⟨_, rfl, a, C, dx, _, _, rfl, ho, R.cl, R.nM, fl_M _ _ _, _, rfl, b, C, dy, _, _, rfl, hp, R.cl, R.nM, fl_M _ _ _, _, _, dp_il h1, dp_il g1, shape_il _, shape_il _, _, rfl, ?_⟩
    refine ifT (eqv_il ms) ?_
    refine ⟨_, rfl, a, C, dx, _, _, rfl, ho, R.cl, R.nS, fl_S _ _ _, _, rfl, b, C, dy, _, _, rfl, hp, R.cl, R.nS, fl_S _ _ _, _, _, dp_il h2, dp_il g2, shape_il _, shape_il _, ?_⟩
    have z := k H Ext.rfl'
    rw [← eqv_il ss] at z
    exact z
end
end Cw
namespace Cw
open PySem L2
theorem same_ins {H H1 H' : Hp} {x dx C : Addr} (s : Same H H1) (nx : H1 x = none) (nd : H1 dx = none) (k : ∀ c o, upd (upd H1 dx (.own x)) x (.ins C dx []) c = some o → c ≠ x → H' c = some o) : Same H H' := fun c o e => by
  have z := s _ _ e
  refine k c o ?_ (ne_of_none z nx)
  rw [upd_ne (ne_of_none z nx), upd_ne (ne_of_none z nd)]
  exact z
theorem ints_app {ns : List Int} {z : Int} : ns.map V.int ++ [V.int z] = (ns ++ [z]).map V.int := by rw [List.map_append]; rfl
abbrev sJar : Stmt := top 18
abbrev sDip : Stmt := top 19
abbrev sThree : Stmt := top 20
abbrev sSmall : Stmt := top 21
abbrev sGreat : Stmt := top 22
def But (H H' : Hp) (b : Addr) : Prop := ∀ a o, H a = some o → a ≠ b → H' a = some o
theorem But.refl (H : Hp) (b : Addr) : But H H b := fun _ _ e _ => e
theorem But.trans {H H1 H2 : Hp} {b : Addr} (x : But H H1 b) (y : But H1 H2 b) : But H H2 b := fun a o e n => y a o (x a o e n) n
theorem But.of {H H1 : Hp} {b : Addr} (x : Same H H1) : But H H1 b := fun a o e _ => x a o e
theorem But.upd {H H1 : Hp} {b : Addr} {o : HO} (x : But H H1 b) : But H (upd H1 b o) b := fun a u e n => by
  rw [upd_ne n]
  exact x a u e n
theorem But.put {H H1 : Hp} {b p : Addr} {o : HO} (x : But H H1 b) (h : H p = none) : But H (L2.upd H1 p o) b := fun a u e n => by
  rw [upd_ne (ne_of_none e h)]
  exact x a u e n
theorem But.new {H H1 : Hp} {b p : Addr} {o : HO} (x : But H H1 b) (h : H1 p = none) : But H (L2.upd H1 p o) b := fun a u e n => by
  rw [upd_ne (ne_of_none (x a u e n) h)]
  exact x a u e n
def CPowW (i j : Int) : Prop := 0 ≤ j ∧ ((Builtin.Int.intBits i : Nat) : Int) * j ≤ 2 ^ 27
theorem op_powW {X : Cx} : OpR X (binaryOp .Pow) (rI CPowW fun i j => .int (i ^ j.toNat)) := opI fun _ _ _ _ _ _ _ hc q => PyProof.Rows.pow_int hc.1 hc.2 q
theorem cube_ok {i : Int} (h0 : 0 ≤ i) (h1 : i < 2 ^ 250) : CPowW i 3 := by
  have z : Builtin.Int.intBits i ≤ 250 := PyProof.Rows.intBits_le (k := 250) (by
    have e : ((2 ^ 250 : Nat) : Int) = 2 ^ 250 := by norm_cast
    omega)
  refine ⟨by decide, ?_⟩
  have e : (2 : Int) ^ 27 = 134217728 := by decide
  omega
/-- the draws: what is left of the cell, the stirred number, the turns; k more draws are surely allowed -/
def JarAt (H : Hp) (a : Addr) (k : Nat) : Prop := ∃ r m n : Int, H a = some (.lst [.int r, .int m, .int n]) ∧ 0 ≤ m ∧ m < 2 ^ 200 ∧ 0 ≤ n ∧ n + k ≤ 5000
theorem JarAt.mono {H : Hp} {a : Addr} {k j : Nat} (h : JarAt H a k) (l : j ≤ k) : JarAt H a j := by
  obtain ⟨r, m, n, e, h0, h1, h2, h3⟩ := h
  exact ⟨r, m, n, e, h0, h1, h2, by omega⟩
theorem JarAt.same {H H' : Hp} {a : Addr} {k : Nat} (h : JarAt H a k) (s : Same H H') : JarAt H' a k := by
  obtain ⟨r, m, n, e, q⟩ := h
  exact ⟨r, m, n, s _ _ e, q⟩
theorem JarAt.put {H : Hp} {a p : Addr} {o : HO} {k : Nat} (h : JarAt H a k) (n : a ≠ p) : JarAt (upd H p o) a k := by
  obtain ⟨r, m, i, e, q⟩ := h
  exact ⟨r, m, i, by rw [upd_ne n]; exact e, q⟩
theorem JarAt.ne {H : Hp} {a p : Addr} {k : Nat} (h : JarAt H a k) (n : H p = none) : a ≠ p := by
  obtain ⟨r, m, i, e, q⟩ := h
  exact ne_of_none e n
theorem JarAt.no {H : Hp} {a p : Addr} {o : HO} {k : Nat} (h : JarAt H a k) (e : H p = some o) (z : ∀ r m n : Int, o ≠ .lst [.int r, .int m, .int n]) : p ≠ a := fun x => by
  obtain ⟨r, m, i, f, q⟩ := h
  rw [x, f] at e
  exact z r m i (Option.some.inj e).symm
theorem pos47 : (0 : Int) < 10 ^ Int.toNat 47 + 91 := by decide +kernel
theorem pos46 : (0 : Int) < 10 ^ Int.toNat 46 + 79 := by decide +kernel
def spDip : Sp := fun vs H Q _ => ∃ (a : Addr) (k : Nat) (w : Int), vs = [.ref a, .int w] ∧ JarAt H a (k + 1) ∧ 0 < w ∧ w < 2 ^ 120 ∧ ∀ (v : Int) (H' : Hp), 0 ≤ v → v < w → JarAt H' a k → But H H' a → Q (.int v) H'
/-- the script's jar -/
def spJar (K : PySem.W.Frag) : Sp := fun vs H Q _ => ∃ (a : Addr) (ns : List Int) (i : Nat), vs = [.ref a, .int i] ∧ SqL K H a (ns.map V.int) ∧ i ≤ ns.length ∧ ns.length ≤ 63 ∧ ∀ p H', Same H H' → H p = none → JarAt H' p 5000 → Q (.ref p) H'
section
variable {P : Program} {w : World} {K : PySem.W.Frag} {mg : Str → Option Value} {base : Heap}
theorem scD : FnScope ["jar", "many", "digit", "mixed"] ["jar", "many"] (defScope sDip) := ⟨rfl, rfl, rfl, by decide +kernel, rfl, by decide +kernel, by decide +kernel⟩
theorem ok_dip {f : Addr} {fd : FuncData} (F : Fun K "_law_dip" "_law_dip" sDip f fd) (T : Bl mg) : FnOk P w K mg base CX0 1 f fd ["jar", "many"] spDip := by
  refine F.ok scD (fun vs H Q E h => ?_) (fun cdv A outer s H vs Q E hr h => ?_)
  · obtain ⟨a, k, w, rfl, _⟩ := h
    rfl
  · obtain ⟨a, k, w, rfl, ⟨r, m, n, hj, m0, m1, n0, n1⟩, w0, w1, q⟩ := h
    have wn : w.natAbs < 2 ^ 120 := by
      have e : ((2 ^ 120 : Nat) : Int) = 2 ^ 120 := by norm_cast
      omega
    have dv : ∀ i, CDivW i w := fun i => wide_div w0 wn (by decide) (by decide)
    refine ⟨_, pss_cons (ps_if (pt_cmpR op_gt (pe_ix ix_list (pv 0) pe_int (fun _ _ => rfl)) pe_int (nomark _))
        (pss_cons (ps_set (i := 2) scD.nd rfl (Or.inl rfl) (pe_op op_mod (pe_callTy call_int1 (by rfl) T.int (by decide +kernel) (pa_cons (pe_ix ix_list (pv 0) pe_int (fun _ _ => rfl)) pa_nil)) (pv 1)))
        (pss_cons (ps_asg (pe_op op_fdivW (pe_ix ix_list (pv 0) pe_int (fun _ _ => rfl)) (pv 1)) (pg_sub (pv 0) pe_int L2.set_list))
        (pss_one (ps_ret (pv 2))))) pss_nil)
      (pss_cons (ps_asg (pe_op op_add (pe_ix ix_list (pv 0) pe_int (fun _ _ => rfl)) pe_int) (pg_sub (pv 0) pe_int L2.set_list))
      (pss_cons (ps_set (i := 3) scD.nd rfl (Or.inl rfl) (pe_op op_mod (pe_callTy call_int1 (by rfl) T.int (by decide +kernel) (pa_cons (pe_op op_powW (pe_op op_add (pe_ix ix_list (pv 0) pe_int (fun _ _ => rfl)) (pe_op op_mul pe_int (pe_ix ix_list (pv 0) pe_int (fun _ _ => rfl)))) pe_int) pa_nil)) (pe_op op_add (pe_op op_pow pe_int pe_int) pe_int)))
      (pss_cons (ps_set (i := 3) scD.nd rfl (Or.inl rfl) (pe_op op_mod (pe_callTy call_int1 (by rfl) T.int (by decide +kernel) (pa_cons (pe_op op_powW (pe_op op_add (pv 3) (pe_op op_mul pe_int (pe_ix ix_list (pv 0) pe_int (fun _ _ => rfl)))) pe_int) pa_nil)) (pe_op op_add (pe_op op_pow pe_int pe_int) pe_int)))
      (pss_one (ps_ret (pe_op op_mod (pe_callTy call_int1 (by rfl) T.int (by decide +kernel) (pa_cons (pe_op op_fdivW (pv 3) pe_int) pa_nil)) (pv 1))))))), ?_⟩
    refine ⟨_, rfl, a, _, 0, _, rfl, rfl, SqL.of hj, rfl, _, _, rfl, rfl, _, rfl, ?_⟩
    by_cases hr0 : r > 0
    · refine ifT (decide_eq_true hr0) ?_
      refine ⟨_, rfl, a, _, 0, _, rfl, rfl, SqL.of hj, rfl, .inl ⟨_, rfl, _, rfl, _, _, rfl, rfl, w0, ?_⟩⟩
      refine ⟨_, rfl, a, _, 0, _, rfl, rfl, SqL.of hj, rfl, _, rfl, _, _, rfl, rfl, dv _, _, rfl, a, _, 0, 0, rfl, rfl, hj, rfl, ?_⟩
      refine ⟨_, rfl, ?_⟩
      exact q _ _ (Int.emod_nonneg _ (by omega)) (Int.emod_lt_of_pos _ w0) ⟨_, m, n, upd_same, m0, m1, n0, by omega⟩ (But.refl H a).upd
    · refine ifF (decide_eq_false hr0) ?_
      refine ⟨_, rfl, a, _, 2, _, rfl, rfl, SqL.of hj, rfl, _, _, rfl, rfl, _, rfl, a, _, 2, 2, rfl, rfl, hj, rfl, ?_⟩
      have hj2 : upd H a (.lst [.int r, .int m, .int (n + 1)]) a = some (.lst [.int r, .int m, .int (n + 1)]) := upd_same
      refine ⟨_, rfl, a, _, 1, _, rfl, rfl, SqL.of hj2, rfl, _, rfl, a, _, 2, _, rfl, rfl, SqL.of hj2, rfl, _, _, rfl, rfl, .inl ⟨by decide, by decide⟩, _, _, rfl, rfl, ?_⟩
      have e200 : (2 : Int) ^ 200 + 60000049 * 5001 < 2 ^ 250 := by decide +kernel
      refine ⟨_, _, rfl, rfl, cube_ok (by omega) (by omega), .inl ⟨_, rfl, _, _, rfl, rfl, ⟨by decide, by decide, by decide⟩, _, _, rfl, rfl, _, _, rfl, rfl, pos47, ?_⟩⟩
      generalize hx : ((m + 60000049 * (n + 1)) ^ Int.toNat 3) % (10 ^ Int.toNat 47 + 91) = x
      have x0 : 0 ≤ x := by
        rw [← hx]
        exact Int.emod_nonneg _ (by decide +kernel)
      have x1 : x < 10 ^ Int.toNat 47 + 91 := by
        rw [← hx]
        exact Int.emod_lt_of_pos _ (by decide +kernel)
      have e47 : (10 : Int) ^ Int.toNat 47 + 91 + 35000021 * 5001 < 2 ^ 250 := by decide +kernel
      refine ⟨_, rfl, _, rfl, a, _, 2, _, rfl, rfl, SqL.of hj2, rfl, _, _, rfl, rfl, .inl ⟨by decide, by decide⟩, _, _, rfl, rfl, _, _, rfl, rfl, cube_ok (by omega) (by omega), .inl ⟨_, rfl, _, _, rfl, rfl, ⟨by decide, by decide, by decide⟩, _, _, rfl, rfl, _, _, rfl, rfl, pos46, ?_⟩⟩
      refine ⟨_, rfl, _, _, rfl, rfl, wide_div (b := 31) (by decide) (by decide) (by decide) (by decide), .inl ⟨_, rfl, _, rfl, _, _, rfl, rfl, w0, ?_⟩⟩
      exact q _ _ (Int.emod_nonneg _ (by omega)) (Int.emod_lt_of_pos _ w0) ⟨r, m, n + 1, upd_same, m0, m1, by omega, by omega⟩ (But.refl H a).upd
end
end Cw
namespace Cw
open PySem L2
theorem at_of2 {α : Type} {xs : List α} {z : Int} {j : Nat} {v : α} (e : z = (j : Int)) (h : xs[j]? = some v) : atI xs z = some v := by
  rw [e]
  exact atI_nat h
theorem at_lt {α : Type} {xs : List α} {z : Int} (h0 : 0 ≤ z) (h1 : z < xs.length) : ∃ v, atI xs z = some v ∧ v ∈ xs := by
  have hz : z.toNat < xs.length := by omega
  have hj : z = ((z.toNat : Nat) : Int) := by omega
  exact ⟨xs[z.toNat], at_of2 hj (List.getElem?_eq_getElem hz), List.getElem_mem hz⟩
/-- one of three ints -/
theorem at3 {z x y u : Int} (h0 : 0 ≤ z) (h1 : z < 3) : ∃ v, atI [V.int x, V.int y, V.int u] z = some (V.int v) ∧ (v = x ∨ v = y ∨ v = u) := by
  obtain ⟨v, e, m⟩ := at_lt (xs := [V.int x, V.int y, V.int u]) h0 (by simpa using h1)
  simp only [List.mem_cons, List.not_mem_nil, or_false] at m
  rcases m with rfl | rfl | rfl
  · exact ⟨x, e, .inl rfl⟩
  · exact ⟨y, e, .inr (.inl rfl)⟩
  · exact ⟨u, e, .inr (.inr rfl)⟩
def spThree : Sp := fun vs H Q _ => ∃ (a : Addr) (k : Nat) (w : Int), vs = [.ref a, .int w] ∧ JarAt H a (k + 7) ∧ 0 < w ∧ w < 2 ^ 120 ∧
  ∀ (p : Addr) (H' : Hp) (l n g : Int), 1 ≤ l → l ≤ w → l ≤ n → n ≤ 2 * w + 3 → n ≤ g → g ≤ 3 * w + 6 → JarAt H' a k → But H H' a → H' p = some (.tup [.int l, .int n, .int g]) → H p = none → Q (.ref p) H'
theorem pos43 : (0 : Int) < 10 ^ Int.toNat 43 + 57 := by decide +kernel
section
variable {P : Program} {w : World} {K : PySem.W.Frag} {mg : Str → Option Value} {base : Heap}
theorem scJ : FnScope ["script", "k", "cell_here"] ["script", "k"] (defScope sJar) := ⟨rfl, rfl, rfl, by decide +kernel, rfl, by decide +kernel, by decide +kernel⟩
theorem ok_jar {f : Addr} {fd : FuncData} (F : Fun K "_law_jar" "_law_jar" sJar f fd) (T : Bl mg) : FnOk P w K mg base CX0 1 f fd ["script", "k"] (spJar K) := by
  refine F.ok scJ (fun vs H Q E h => ?_) (fun cdv A outer s H vs Q E hr h => ?_)
  · obtain ⟨a, ns, i, rfl, _⟩ := h
    rfl
  · obtain ⟨a, ns, i, rfl, hS, hi, hl, q⟩ := h
    refine ⟨_, pss_cons (ps_set (i := 2) scJ.nd rfl (Or.inl rfl) (pe_ifExp (pt_cmpR op_lt (pv 1) (pe_callB call_len_seq (by rfl) T.len PySem.boot_len (pa_cons (pv 0) pa_nil)) (nomark _))
        (pe_callB call_abs (by rfl) T.abs (by decide +kernel) (pa_cons (pe_ix ix_list (pv 0) (pv 1) (fun _ _ => rfl)) pa_nil)) pe_int))
      (pss_one (ps_ret (pe_lst (pa_cons (pe_callB (call_max2 rfl) (by rfl) T.max (by decide +kernel) (pa_cons pe_int (pa_cons (pe_op op_sub (pv 2) (pe_op op_pow pe_int pe_int)) pa_nil)))
        (pa_cons (pe_op op_add (pe_op op_mul (pe_op op_mod (pe_callTy call_int1 (by rfl) T.int (by decide +kernel) (pa_cons (pv 2) pa_nil)) (pe_op op_add (pe_op op_pow pe_int pe_int) pe_int)) pe_int) (pe_op op_mul pe_int (pv 1)))
        (pa_cons pe_int pa_nil)))))), ?_⟩
    have main : ∀ c : Int, 0 ≤ (c % (10 ^ Int.toNat 43 + 57)) * 101 + 70001 * (i : Int) ∧ (c % (10 ^ Int.toNat 43 + 57)) * 101 + 70001 * (i : Int) < 2 ^ 200 := fun c => by
      have x0 := Int.emod_nonneg c (b := 10 ^ Int.toNat 43 + 57) (by decide +kernel)
      have x1 := Int.emod_lt_of_pos c pos43
      have e : ((10 : Int) ^ Int.toNat 43 + 57) * 101 + 70001 * 64 < 2 ^ 200 := by decide +kernel
      omega
    refine ⟨_, rfl, _, rfl, a, _, rfl, .inl hS, _, _, rfl, rfl, _, rfl, ?_⟩
    by_cases hi2 : i < ns.length
    · refine ifT (decide_eq_true (by rw [List.length_map]; omega)) ?_
      have e1 : (ns.map V.int)[i]? = some (V.int ns[i]) := by
        rw [List.getElem?_map, List.getElem?_eq_getElem hi2]
        rfl
      refine ⟨_, rfl, _, rfl, a, _, _, _, rfl, rfl, hS, at_of2 (j := i) rfl e1, _, rfl, ?_⟩
      generalize (if ns[i] < 0 then -ns[i] else ns[i]) = c
      refine ⟨_, rfl, _, _, rfl, rfl, ⟨by decide, by decide, by decide⟩, _, _, rfl, rfl, _, _, rfl, ?_⟩
      refine ⟨_, rfl, .inl ⟨_, rfl, _, _, rfl, rfl, ⟨by decide, by decide, by decide⟩, _, _, rfl, rfl, _, _, rfl, rfl, pos43, _, _, rfl, rfl, .inr ⟨by decide, by decide⟩, _, rfl, _, _, rfl, rfl, .inl ⟨by decide, by decide⟩, _, _, rfl, rfl, ?_⟩⟩
      refine ⟨(by show 3 ≤ sizeLine; decide), fun p hp => ?_⟩
      exact q p _ (same_new (Same.refl H) hp) hp ⟨_, _, 0, upd_same, (main c).1, (main c).2, by decide, by decide⟩
    · refine ifF (decide_eq_false (by rw [List.length_map]; omega)) ?_
      refine ⟨_, rfl, _, _, rfl, rfl, ⟨by decide, by decide, by decide⟩, _, _, rfl, rfl, _, _, rfl, ?_⟩
      refine ⟨_, rfl, .inl ⟨_, rfl, _, _, rfl, rfl, ⟨by decide, by decide, by decide⟩, _, _, rfl, rfl, _, _, rfl, rfl, pos43, _, _, rfl, rfl, .inr ⟨by decide, by decide⟩, _, rfl, _, _, rfl, rfl, .inl ⟨by decide, by decide⟩, _, _, rfl, rfl, ?_⟩⟩
      refine ⟨(by show 3 ≤ sizeLine; decide), fun p hp => ?_⟩
      exact q p _ (same_new (Same.refl H) hp) hp ⟨_, _, 0, upd_same, (main 0).1, (main 0).2, by decide, by decide⟩
theorem scT : FnScope ["jar", "wide", "least", "normal"] ["jar", "wide"] (defScope sThree) := ⟨rfl, rfl, rfl, by decide +kernel, rfl, by decide +kernel, by decide +kernel⟩
theorem ok_three {f fD : Addr} {fd fdD : FuncData} (F : Fun K "_law_three" "_law_three" sThree f fd) (gD : mg "_law_dip" = some (.ref fD)) (kD : PySem.W.keepIn K (.ref fD) = true) (bD : Binds K fdD ["jar", "many"] []) (GD : FnOk P w K mg base CX0 1 fD fdD ["jar", "many"] spDip) :
    FnOk P w K mg base CX0 2 f fd ["jar", "wide"] spThree := by
  refine F.ok scT (fun vs H Q E h => ?_) (fun cdv A outer s H vs Q E hr h => ?_)
  · obtain ⟨a, k, w, rfl, _⟩ := h
    rfl
  · obtain ⟨a, k, w, rfl, J, w0, w1, q⟩ := h
    refine ⟨_, pss_cons (ps_set (i := 2) scT.nd rfl (Or.inl rfl) (pe_op op_add pe_int (pe_call GD hr rfl gD kD bD .nil pass0 (pa_cons (pv 0) (pa_cons (pv 1) pa_nil)))))
      (pss_cons (ps_set (i := 3) scT.nd rfl (Or.inl rfl) (pe_op op_add (pv 2) (pe_ix ix_list (pe_lst (pa_cons pe_int (pa_cons (pe_call GD hr rfl gD kD bD .nil pass0 (pa_cons (pv 0) (pa_cons (pv 1) pa_nil))) (pa_cons (pe_call GD hr rfl gD kD bD .nil pass0 (pa_cons (pv 0) (pa_cons pe_int pa_nil))) pa_nil))))
        (pe_call GD hr rfl gD kD bD .nil pass0 (pa_cons (pv 0) (pa_cons pe_int pa_nil))) (fun _ _ => rfl))))
      (pss_one (ps_ret (pe_tup (pa_cons (pv 2) (pa_cons (pv 3) (pa_cons (pe_op op_add (pv 3) (pe_ix ix_list (pe_lst (pa_cons pe_int (pa_cons (pe_call GD hr rfl gD kD bD .nil pass0 (pa_cons (pv 0) (pa_cons (pv 1) pa_nil))) (pa_cons (pe_op op_add pe_int (pe_call GD hr rfl gD kD bD .nil pass0 (pa_cons (pv 0) (pa_cons pe_int pa_nil)))) pa_nil))))
        (pe_call GD hr rfl gD kD bD .nil pass0 (pa_cons (pv 0) (pa_cons pe_int pa_nil))) (fun _ _ => rfl))) pa_nil))))))), ?_⟩
    have t3 : (0 : Int) < 3 ∧ (3 : Int) < 2 ^ 120 := ⟨by decide, by decide⟩
    refine ⟨_, rfl, _, rfl, a, k + 6, w, rfl, J, w0, w1, fun v1 H1 a1 b1 J1 B1 => ⟨_, _, rfl, rfl, ?_⟩⟩
    refine ⟨_, rfl, _, rfl, _, rfl, a, k + 5, w, rfl, J1, w0, w1, fun v2 H2 a2 b2 J2 B2 => ?_⟩
    refine ⟨_, rfl, a, k + 4, 3, rfl, J2, t3.1, t3.2, fun v3 H3 a3 b3 J3 B3 => ⟨(by show 3 ≤ sizeLine; decide), fun p hp => ?_⟩⟩
    have np : a ≠ p := J3.ne hp
    have Bp := ((B1.trans B2).trans B3).new (o := .lst [.int 0, .int v2, .int v3]) hp
    refine ⟨_, rfl, a, k + 3, 3, rfl, J3.put np, t3.1, t3.2, fun v4 H4 a4 b4 J4 B4 => ?_⟩
    obtain ⟨i1, e1, c1⟩ := at3 (x := 0) (y := v2) (u := v3) a4 b4
    refine ⟨p, _, _, _, rfl, rfl, SqL.of (B4 _ _ upd_same np.symm), e1, _, _, rfl, rfl, ?_⟩
    refine ⟨_, rfl, _, rfl, _, rfl, _, rfl, _, rfl, a, k + 2, w, rfl, J4, w0, w1, fun v5 H5 a5 b5 J5 B5 => ?_⟩
    refine ⟨_, rfl, a, k + 1, 3, rfl, J5, t3.1, t3.2, fun v6 H6 a6 b6 J6 B6 => ⟨_, _, rfl, rfl, (by show 3 ≤ sizeLine; decide), fun p2 hp2 => ?_⟩⟩
    have np2 : a ≠ p2 := J6.ne hp2
    have Bq := (((Bp.trans B4).trans B5).trans B6).new (o := .lst [.int 0, .int v5, .int (1 + v6)]) hp2
    refine ⟨_, rfl, a, k, 3, rfl, J6.put np2, t3.1, t3.2, fun v7 H7 a7 b7 J7 B7 => ?_⟩
    obtain ⟨i2, e2, c2⟩ := at3 (x := 0) (y := v5) (u := 1 + v6) a7 b7
    refine ⟨p2, _, _, _, rfl, rfl, SqL.of (B7 _ _ upd_same np2.symm), e2, _, _, rfl, rfl, (by show 3 ≤ sizeLine; decide), fun p3 hp3 => ?_⟩
    have Bz := (Bq.trans B7).new (o := .tup [.int (1 + v1), .int (1 + v1 + i1), .int (1 + v1 + i1 + i2)]) hp3
    have hH : H p3 = none := by
      cases e : H p3 with
      | none => rfl
      | some o =>
        have n : p3 ≠ a := fun x => by
          have z := J7.ne hp3
          exact z x.symm
        have z := (Bq.trans B7) _ _ e n
        rw [hp3] at z
        cases z
    refine q p3 _ (1 + v1) (1 + v1 + i1) (1 + v1 + i1 + i2) (by omega) (by omega) (by omega) (by omega) (by omega) (by omega) (J7.put (J7.ne hp3)) Bz upd_same hH
end
end Cw
namespace Cw
open PySem L2
abbrev sHeap : Stmt := top 23
/-! ## raw rows: a length, pairs of a place and a kind, three numbers -/
abbrev PrAt (H : Hp) : List Addr → List (Int × Int) → Prop := Paired (fun t (p : Int × Int) => H t = some (.tup [.int p.1, .int p.2]))
theorem PrAt.imp {H H' : Hp} : ∀ {ts : List Addr} {ps : List (Int × Int)}, PrAt H ts ps → (∀ t (p : Int × Int), H t = some (.tup [.int p.1, .int p.2]) → H' t = some (.tup [.int p.1, .int p.2])) → PrAt H' ts ps
  | _, _, .nil, _ => .nil
  | _, _, .cons h r, k => .cons (k _ _ h) (PrAt.imp r k)
theorem PrAt.app {H : Hp} : ∀ {ts us : List Addr} {ps qs : List (Int × Int)}, PrAt H ts ps → PrAt H us qs → PrAt H (ts ++ us) (ps ++ qs)
  | _, _, _, _, .nil, h => h
  | _, _, _, _, .cons a r, h => .cons a (PrAt.app r h)
theorem PrAt.len {H : Hp} : ∀ {ts : List Addr} {ps : List (Int × Int)}, PrAt H ts ps → ts.length = ps.length
  | _, _, .nil => rfl
  | _, _, .cons _ r => by rw [List.length_cons, List.length_cons, PrAt.len r]
theorem PrAt.get {H : Hp} : ∀ {ts : List Addr} {ps : List (Int × Int)} {i : Nat} {v : V}, PrAt H ts ps → (ts.map V.ref)[i]? = some v → ∃ t p, v = .ref t ∧ ps[i]? = some p ∧ H t = some (.tup [.int p.1, .int p.2])
  | _, _, 0, v, .cons (a := t) (b := p) a _, e => ⟨t, p, (Option.some.inj e).symm, rfl, a⟩
  | _, _, i + 1, v, .cons _ r, e => by
    obtain ⟨t, p, h1, h2, h3⟩ := PrAt.get (i := i) r e
    exact ⟨t, p, h1, h2, h3⟩
  | _, _, _, _, .nil, e => by simp at e
def RawAt (H : Hp) (p : Addr) (n : Int) (prs : List (Int × Int)) : Prop := ∃ l t ts, H p = some (.tup [.int n, .ref l, .ref t]) ∧ H l = some (.lst (ts.map V.ref)) ∧ PrAt H ts prs
theorem RawAt.imp {H H' : Hp} {p : Addr} {n : Int} {prs : List (Int × Int)} (r : RawAt H p n prs) (k : ∀ c o, H c = some o → (∀ r m n : Int, o ≠ .lst [.int r, .int m, .int n]) → H' c = some o) : RawAt H' p n prs := by
  obtain ⟨l, t, ts, h1, h2, h3⟩ := r
  refine ⟨l, t, ts, k _ _ h1 (fun _ _ _ z => nomatch z), k _ _ h2 (fun r m n z => ?_), h3.imp fun t p h => k _ _ h (fun _ _ _ z => nomatch z)⟩
  injection z with z
  cases ts with
  | nil => cases z
  | cons t ts => cases z
theorem RawAt.same {H H' : Hp} {p : Addr} {n : Int} {prs : List (Int × Int)} (r : RawAt H p n prs) (s : Same H H') : RawAt H' p n prs := r.imp fun c o e _ => s c o e
theorem RawAt.but {H H' : Hp} {p a : Addr} {k : Nat} {n : Int} {prs : List (Int × Int)} (r : RawAt H p n prs) (J : JarAt H a k) (s : But H H' a) : RawAt H' p n prs := r.imp fun c o e z => s c o e (J.no e z)
structure GoodP (n : Int) (prs : List (Int × Int)) : Prop where
  pos : 1 ≤ n
  len : prs.length ≤ 400
  rng : ∀ q ∈ prs, 1 ≤ q.1 ∧ q.1 ≤ n - 1 ∧ (q.2 = 1 ∨ q.2 = 2)
  asc : Asc (prs.map (·.1))
abbrev marksOf (prs : List (Int × Int)) : List Int := prs.map (·.1)
abbrev strictOf (prs : List (Int × Int)) : List Int := (prs.filter fun q => decide (q.2 = 2)).map (·.1)
theorem GoodP.good {n : Int} {prs : List (Int × Int)} (g : GoodP n prs) : Good n (marksOf prs) (strictOf prs) := by
  refine ⟨g.pos, by rw [List.length_map]; have := g.len; omega, fun x hx => ?_, g.asc, ?_, fun x hx => ?_⟩
  · obtain ⟨q, hq, rfl⟩ := List.mem_map.mp hx
    have := g.rng q hq
    exact ⟨this.1, this.2.1⟩
  · have z : List.Sublist (strictOf prs) (marksOf prs) := (List.filter_sublist).map _
    exact g.asc.sublist z
  · obtain ⟨q, hq, rfl⟩ := List.mem_map.mp hx
    exact List.mem_map.mpr ⟨q, (List.mem_filter.mp hq).1, rfl⟩
def spHeap (C : Addr) : Sp := fun vs H Q _ => ∃ (p : Addr) (n : Int) (prs : List (Int × Int)), vs = [.ref p] ∧ RawAt H p n prs ∧ GoodP n prs ∧ ∀ q H', Same H H' → RowNew C H H' q n (marksOf prs) (strictOf prs) → Q (.ref q) H'
theorem ref_at {ts : List Addr} {i : Nat} {x : V} (h : (ts.map V.ref)[i]? = some x) : i < ts.length := by
  have := (List.getElem?_eq_some_iff.mp h).1
  rwa [List.length_map] at this
theorem take_map2 {ps : List (Int × Int)} {i : Nat} {z : Int × Int} (h : ps[i]? = some z) : marksOf (ps.take (i + 1)) = marksOf (ps.take i) ++ [z.1] := by
  rw [List.take_add_one, h, marksOf, List.map_append]
  rfl
theorem take_fil2 {ps : List (Int × Int)} {i : Nat} {z : Int × Int} (h : ps[i]? = some z) : strictOf (ps.take (i + 1)) = strictOf (ps.take i) ++ (if z.2 = 2 then [z.1] else []) := by
  rw [List.take_add_one, h, strictOf, List.filter_append, List.map_append]
  congr 1
  show List.map _ (List.filter _ [z]) = _
  rw [List.filter_cons]
  by_cases c : z.2 = 2 <;> simp [c]
section
variable {P : Program} {w : World} {K : PySem.W.Frag} {mg : Str → Option Value} {base : Heap}
abbrev NH : List Str := ["raw", "spot", "kind"]
theorem scH : FnScope NH ["raw"] (defScope sHeap) := ⟨rfl, rfl, rfl, by decide +kernel, rfl, by decide +kernel, by decide +kernel⟩
theorem ok_heap {f C fI : Addr} {fd fdI : FuncData} (F : Fun K "_law_heap" "_law_heap" sHeap f fd) (R : Cl K mg C) (M : Mk K C fI) (bI : Binds K fdI NI []) (GI : FnOk P w K mg base CX0 5 fI fdI NI (spInit C)) :
    FnOk P w K mg base CX0 7 f fd ["raw"] (spHeap C) := by
  refine F.ok scH (fun vs H Q E h => ?_) (fun cdv A outer s H vs Q E hr h => ?_)
  · obtain ⟨p, n, prs, rfl, _⟩ := h
    rfl
  · obtain ⟨p, n, prs, rfl, ⟨l, t, ts, h1, h2, h3⟩, G, q⟩ := h
    refine ⟨_, pss_one (ps_ret (pe_make M GI hr rfl R.mgR bI .nil pass0 (pa_cons (pe_ix ix_tup (pv 0) pe_int (fun _ _ => rfl))
      (pa_cons (pe_lc (own := [("spot", 1), ("kind", 2)]) (g := gTup K 2 (gCons (gName 1) (gCons (gName 2) gNil))) (tt := tYes) rfl scH.nd (pi_list (pe_ix ix_tup (pv 0) pe_int (fun _ _ => rfl))) (blkOk_by (own := [("spot", 1), ("kind", 2)]) (N := NH) (sc := defScope sHeap) (by decide +kernel))
          (fun _ _ _ _ _ => pg_tup rfl (pgs_cons (pg_name (i := 1) scH.nd rfl (Or.inl rfl)) (pgs_cons (pg_name (i := 2) scH.nd rfl (Or.inl rfl)) pgs_nil))) (fun _ _ _ _ _ => pts_nil) (fun _ _ _ _ _ => pv 1))
      (pa_cons (pe_lc (own := [("spot", 1), ("kind", 2)]) (g := gTup K 2 (gCons (gName 1) (gCons (gName 2) gNil))) rfl scH.nd (pi_list (pe_ix ix_tup (pv 0) pe_int (fun _ _ => rfl))) (blkOk_by (own := [("spot", 1), ("kind", 2)]) (N := NH) (sc := defScope sHeap) (by decide +kernel))
          (fun _ _ _ _ _ => pg_tup rfl (pgs_cons (pg_name (i := 1) scH.nd rfl (Or.inl rfl)) (pgs_cons (pg_name (i := 2) scH.nd rfl (Or.inl rfl)) pgs_nil))) (fun _ _ _ _ _ => pts_one (pt_cmpR op_eq (pv 2) pe_int (nomark _))) (fun _ _ _ _ _ => pv 1)) pa_nil))))), ?_⟩
    have hl := G.len
    have lt := h3.len
    refine ⟨_, rfl, p, _, _, _, rfl, rfl, SqT.of h1, at_of2 (j := 0) rfl rfl, ?_⟩
    refine ⟨_, rfl, p, _, _, _, rfl, rfl, SqT.of h1, at_of2 (j := 1) rfl rfl, l, rfl, ⟨_, SqL.of h2⟩, fun D hD => ?_⟩
    refine lc_list (K := K) (a := l) (xs := ts.map V.ref) (fun i H' => Same H H' ∧ IL H' D (marksOf (prs.take i))) ⟨same_new (Same.refl H) hD, upd_same⟩ (fun i H' _ z => SqL.of (z.1 _ _ h2)) ?_ ?_
    · rintro i x H' hx ⟨s1, hD'⟩
      obtain ⟨u, z, rfl, hz, hu⟩ := h3.get hx
      have hil := ref_at hx
      refine ⟨u, _, rfl, SqT.of (s1 _ _ hu), rfl, _, _, rfl, _, _, rfl, rfl, rfl, ?_⟩
      unfold tYes
      refine iteT ?_
      refine ⟨_, rfl, _, hD', by rw [List.length_map, List.length_map, List.length_take]; exact small1000 (by omega), same_put s1 hD, ?_⟩
      show upd _ _ _ D = _
      rw [upd_same, ints_app, take_map2 hz]
    · rintro H1 ⟨s1, hD'⟩
      rw [List.length_map, lt, List.take_length] at hD'
      refine ⟨_, rfl, p, _, _, _, rfl, rfl, SqT.of (s1 _ _ h1), at_of2 (j := 1) rfl rfl, l, rfl, ⟨_, SqL.of (s1 _ _ h2)⟩, fun D2 hD2 => ?_⟩
      have nDD : D ≠ D2 := ne_of_none hD' hD2
      refine lc_list (K := K) (a := l) (xs := ts.map V.ref) (fun i H' => Same H1 H' ∧ IL H' D2 (strictOf (prs.take i))) ⟨same_new (Same.refl H1) hD2, upd_same⟩ (fun i H' _ z => SqL.of (z.1 _ _ (s1 _ _ h2))) ?_ ?_
      · rintro i x H' hx ⟨s2, hE⟩
        obtain ⟨u, z, rfl, hz, hu⟩ := h3.get hx
        have hil := ref_at hx
        have tf := take_fil2 hz
        refine ⟨u, _, rfl, SqT.of (s2 _ _ (s1 _ _ hu)), rfl, _, _, rfl, _, _, rfl, rfl, rfl, ?_⟩
        refine ⟨_, rfl, rfl, _, rfl, ?_⟩
        by_cases c : z.2 = 2
        · refine ifT (by simp [c]) ?_
          refine ⟨_, rfl, _, hE, ?_, same_put s2 hD2, ?_⟩
          · have z1 := List.length_filter_le (fun q : Int × Int => decide (q.2 = 2)) (prs.take i)
            rw [List.length_take] at z1
            rw [List.length_map, List.length_map]
            exact small1000 (by omega)
          · show upd _ _ _ D2 = _
            rw [upd_same, ints_app, tf, if_pos c]
        · refine ifF (by simp [c]) ?_
          refine ⟨s2, ?_⟩
          show H' D2 = _
          rw [hE, tf, if_neg c, List.append_nil]
      · rintro H2 ⟨s2, hE⟩
        rw [List.length_map, lt, List.take_length] at hE
        refine fun x dx nx nd ne => ?_
        have s3 : Same H2 (upd (upd H2 dx (.own x)) x (.ins C dx [])) := same_new (same_new (Same.refl H2) nd) (by rw [upd_ne (Ne.symm ne)]; exact nx)
        refine ⟨x, dx, D, D2, n, _, _, rfl, upd_same, s3 _ _ (s2 _ _ hD'), s3 _ _ hE, G.good, fun H5 row kp => ⟨rfl, ?_⟩⟩
        exact q x H5 (same_ins (s1.trans s2) nx nd kp) (row.mono fun c o e => ⟨o, s3 _ _ (s2 _ _ (s1 _ _ e))⟩)
end
end Cw
namespace Cw
open PySem L2
/-! ## min of four whole numbers -/
theorem min4_args (vs : List Value) (h : vs.length = 4) : argsOk "min" ⟨vs, []⟩ := by
  match vs, h with
  | [p, q, r, s], _ => unfold argsOk; kernel_rfl
section
variable {P : Program} {w : World} {A : Around} {E : Value → Shared → Prop} {s : Shared}
/-- min of four values whose tuple is walked -/
theorem min4_walked {vs : List Value} (h4 : vs.length = 4) {Q : Value → Shared → Prop}
    (go : wpAny (model P w) A.in1 (pyIter (.ref s.heap.objs.size)) (fun it s1 => ∃ J fs ws k Pv Sv less, it = .ref J ∧ Walks P w A.in1 J fs ws k Pv Sv ∧ Sv 0 s1.heap ∧ (∀ d ∈ fs, d < s1.heap.objs.size) ∧ 0 < k ∧ CmpOf P w A.in1 .Lt Pv less ∧
      ∀ v h1 t1, Pv (argBest less (k - 1)) v → (∀ d o, d ∉ ws → s1.heap.get? d = some o → h1.get? d = some o) → Q v { s1 with heap := h1, toks := t1 }) E
      { s with heap := s.heap.push { cls := .type "tuple", data := .seq vs.toArray } }) :
    wpAny (model P w) A (call (.builtin "min") vs) Q E s := by
  match vs, h4 with
  | [p, q, r, u], _ =>
    refine call_function_tree F.kind_min F.plain_min F.entry_min (min4_args [p, q, r, u] rfl) (wpAny_bind (wpAny_of_eq (a := [none, none]) rfl (wpAny_bind (wpAny_newObj_type (wpAny_bind (wpAny_mono go (fun it s1 g => ?_) fun _ _ e => e))))))
    obtain ⟨J, fs, ws, k, Pv, Sv, less, e, wk, st, fr, k0, cmp, out⟩ := g
    subst e
    have new : s1.heap.objs.size ∉ fs := fun m => absurd (fr _ m) (Nat.lt_irrefl _)
    have nm : (toString "min" ++ toString ".loop" : String) = "min.loop" := by decide
    refine wpAny_bind (wpAny_newObj_type ?_)
    rw [nm]
    refine wpAny_pure ⟨plainId_quiet F.plain_min_loop _, codeAny_min_loop_first wk less cmp s1.heap.objs.size new k0 (wk.frame _ _ _ st fun d _ o e => Heap.get?_push_of_some _ e) (Heap.get?_push_size _ rfl) fun v h1 t1 pv keep =>
      out v h1 t1 pv fun d o nd e => keep d o nd (Nat.ne_of_lt (Heap.lt_size e)) (Heap.get?_push_of_some _ e)⟩
theorem min4_ints {a b c d : Int} {t u x y : Tok} {Q : Value → Shared → Prop} (nh : A.handled = none)
    (out : ∀ m r h1 t1, (∀ z o, s.heap.get? z = some o → h1.get? z = some o) → (m = a ∨ m = b ∨ m = c ∨ m = d) → m ≤ a → m ≤ b → m ≤ c → m ≤ d → Q (.int m r) { s with heap := h1, toks := t1 }) :
    wpAny (model P w) A (call (.builtin "min") [.int a t, .int b u, .int c x, .int d y]) Q E s := by
  obtain ⟨xs, hxs⟩ : ∃ xs : Array (Int × Tok), xs = #[(a, t), (b, u), (c, x), (d, y)] := ⟨_, rfl⟩
  have items : intItems xs = #[.int a t, .int b u, .int c x, .int d y] := by rw [hxs]; simp [intItems]
  have tup : (s.heap.push { cls := .type "tuple", data := .seq #[.int a t, .int b u, .int c x, .int d y] }).IsTuple s.heap.objs.size (intItems xs) := ⟨_, Heap.get?_push_size _ rfl, rfl, 0, by rw [items]⟩
  have size1 : (s.heap.push { cls := .type "tuple", data := .seq #[.int a t, .int b u, .int c x, .int d y] }).objs.size = s.heap.objs.size + 1 := Heap.size_push ..
  have four : (intItems xs).size = 4 := by rw [items]; rfl
  have lt0 : s.heap.objs.size < s.heap.objs.size + 1 := Nat.lt_succ_self _
  refine min4_walked (vs := [.int a t, .int b u, .int c x, .int d y]) rfl (wpAny_pyIter_tuple tup ⟨_, [_, s.heap.objs.size], [_], _, _, _, _, rfl, Walks.tuple (A := A.in1) nh _ s.heap.objs.size (by rw [size1]; exact Nat.ne_of_lt lt0) (intItems xs),
    ⟨⟨_, Heap.get?_push_size _ rfl, rfl, rfl⟩, tup.push _⟩, fun z hz => ?_, by rw [four]; decide, CmpOf.ints_lt (numAt xs) (fun _ _ => intItems_at), fun v h1 t1 pv keep => ?_⟩)
  · show z < ((s.heap.push _).push _).objs.size
    rw [Heap.size_push, size1]
    simp only [List.mem_cons, List.not_mem_nil, or_false] at hz
    rcases hz with rfl | rfl
    · rw [size1]; exact Nat.lt_succ_self _
    · exact Nat.lt_succ_of_lt lt0
  have kept : ∀ z o, s.heap.get? z = some o → h1.get? z = some o := fun z o e => keep z o (fun m => by
    have l := Heap.lt_size e
    rw [List.mem_singleton.mp m, size1] at l
    exact Nat.lt_irrefl _ (Nat.lt_of_succ_lt l)) (Heap.get?_push_of_some _ (Heap.get?_push_of_some _ e))
  have pv3 : (intItems xs)[argBest (fun i j => decide (numAt xs i < numAt xs j)) 3]? = some v := by
    have e3 : (intItems xs).size - 1 = 3 := by rw [four]
    rw [← e3]
    exact pv
  obtain ⟨j3, least⟩ := argBest_lt (numAt xs) 3
  obtain ⟨r, rfl⟩ := intItems_at pv3
  have at0 : numAt xs 0 = a := by rw [hxs]; rfl
  have at1 : numAt xs 1 = b := by rw [hxs]; rfl
  have at2 : numAt xs 2 = c := by rw [hxs]; rfl
  have at3 : numAt xs 3 = d := by rw [hxs]; rfl
  refine out _ r h1 t1 kept ?_ (at0 ▸ least 0 (by decide)) (at1 ▸ least 1 (by decide)) (at2 ▸ least 2 (by decide)) (at3 ▸ least 3 (by decide))
  generalize argBest (fun i j => decide (numAt xs i < numAt xs j)) 3 = j at j3 ⊢
  match j, j3 with
  | 0, _ => exact .inl at0
  | 1, _ => exact .inr (.inl at1)
  | 2, _ => exact .inr (.inr (.inl at2))
  | 3, _ => exact .inr (.inr (.inr at3))
  | j + 4, h => omega
end
theorem vals4 {x y z u : V} {us : List Value} (r : Vals [x, y, z, u] us) : ∃ a b c d, us = [a, b, c, d] ∧ RelV x a ∧ RelV y b ∧ RelV z c ∧ RelV u d := by
  cases r with
  | cons r1 r2 =>
    obtain ⟨b, c, d, rfl, r3, r4, r5⟩ := vals3 r2
    exact ⟨_, b, c, d, rfl, r1, r3, r4, r5⟩
theorem call_min4 {X : Cx} (hc : X.calm = true) : CallR X (.builtin "min") (fun xs H Q => ∃ a b c d, xs = [.int a, .int b, .int c, .int d] ∧ ∀ m, (m = a ∨ m = b ∨ m = c ∨ m = d) → m ≤ a → m ≤ b → m ≤ c → m ≤ d → Q (.int m) H) := by
  intro pins s σ H xs us Q I r h
  obtain ⟨a, b, c, d, rfl, q⟩ := h
  obtain ⟨u1, u2, u3, u4, rfl, ⟨t, rfl⟩, ⟨t2, rfl⟩, ⟨t3, rfl⟩, ⟨t4, rfl⟩⟩ := vals4 r
  exact min4_ints (I.ok.hd hc) fun m r h2 tk k e1 l1 l2 l3 l4 => ⟨.int m, H, I.kept k, ⟨_, rfl⟩, q m e1 l1 l2 l3 l4⟩
end Cw
namespace Cw
open PySem L2
abbrev sCSet : Stmt := top 0
abbrev sCPl : Stmt := top 0
abbrev sCSz : Stmt := top 0
abbrev sCLen : Stmt := top 0
abbrev sNext : Stmt := top 0
abbrev sWalk : Stmt := top 0
abbrev sWithin : Stmt := top 0
abbrev sCWk : Stmt := top 0
abbrev sStep : Stmt := top 0
abbrev sCuts : Stmt := top 0
abbrev sFM : Stmt := top 0
abbrev sCB : Stmt := top 0
abbrev sMeet : Stmt := top 0
/-! ## how many are before -/
def cb (ns : List Int) (z : Int) : Nat := (ns.filter fun x => decide (x < z)).length
def fm (ns : List Int) (z e : Int) : Int := (ns[cb ns z]?).getD e
theorem cb_le {ns : List Int} {z : Int} : cb ns z ≤ ns.length := List.length_filter_le _ _
theorem cb_at {ns : List Int} {z : Int} {k : Nat} (hk : k ≤ ns.length) (h1 : ∀ i, i < k → ∀ x, ns[i]? = some x → x < z) (h2 : ∀ i, k ≤ i → ∀ x, ns[i]? = some x → z ≤ x) : cb ns z = k := by
  have e : ns = ns.take k ++ ns.drop k := (List.take_append_drop k ns).symm
  unfold cb
  rw [e, List.filter_append, List.length_append]
  have a1 : (ns.take k).filter (fun x => decide (x < z)) = ns.take k := List.filter_eq_self.mpr fun x hx => by
    obtain ⟨i, hi, rfl⟩ := List.mem_iff_getElem.mp hx
    rw [List.length_take] at hi
    refine decide_eq_true (h1 i (by omega) _ ?_)
    rw [List.getElem_take]
    exact List.getElem?_eq_getElem (by omega)
  have a2 : (ns.drop k).filter (fun x => decide (x < z)) = [] := List.filter_eq_nil_iff.mpr fun x hx => by
    obtain ⟨i, hi, rfl⟩ := List.mem_iff_getElem.mp hx
    rw [List.length_drop] at hi
    have := h2 (k + i) (by omega) (ns.drop k)[i] (by rw [List.getElem_drop]; exact List.getElem?_eq_getElem (by omega))
    simp only [decide_eq_true_eq]
    omega
  rw [a1, a2, List.length_take]
  simp
  omega
theorem asc_ix {ns : List Int} (h : Asc ns) {i j : Nat} {x y : Int} (hij : i < j) (hx : ns[i]? = some x) (hy : ns[j]? = some y) : x < y := by
  obtain ⟨li, rfl⟩ := List.getElem?_eq_some_iff.mp hx
  obtain ⟨lj, rfl⟩ := List.getElem?_eq_some_iff.mp hy
  exact List.pairwise_iff_getElem.mp h i j li lj hij
/-- what stands on both sides of the number of those before -/
theorem cb_split {ns : List Int} (h : Asc ns) (z : Int) : (∀ i, i < cb ns z → ∀ x, ns[i]? = some x → x < z) ∧ (∀ i, cb ns z ≤ i → ∀ x, ns[i]? = some x → z ≤ x) := by
  induction ns with
  | nil => exact ⟨fun i _ x e => by simp at e, fun i _ x e => by simp at e⟩
  | cons a r ih =>
    obtain ⟨ha, hr⟩ := List.pairwise_cons.mp h
    obtain ⟨i1, i2⟩ := ih hr
    by_cases c : a < z
    · have e : cb (a :: r) z = cb r z + 1 := by
        unfold cb
        rw [List.filter_cons, if_pos (decide_eq_true c)]
        rfl
      rw [e]
      refine ⟨fun i hi x hx => ?_, fun i hi x hx => ?_⟩
      · cases i with
        | zero => cases hx; exact c
        | succ i => exact i1 i (by omega) x hx
      · cases i with
        | zero => omega
        | succ i => exact i2 i (by omega) x hx
    · have e : cb (a :: r) z = 0 := by
        unfold cb
        rw [List.filter_eq_nil_iff.mpr fun x hx => ?_]
        · rfl
        · rcases List.mem_cons.mp hx with rfl | hx
          · simpa using c
          · have := ha x hx
            simp only [decide_eq_true_eq]
            omega
      rw [e]
      refine ⟨fun i hi => by omega, fun i _ x hx => ?_⟩
      cases i with
      | zero => cases hx; omega
      | succ i =>
        have := ha x (List.mem_of_getElem? hx)
        omega
theorem fm_or {ns : List Int} (h : Asc ns) (z e : Int) : (fm ns z e ∈ ns ∧ z ≤ fm ns z e) ∨ (fm ns z e = e ∧ ∀ x ∈ ns, x < z) := by
  obtain ⟨h1, h2⟩ := cb_split h z
  unfold fm
  by_cases c : cb ns z < ns.length
  · have hg := List.getElem?_eq_getElem c
    rw [hg]
    exact .inl ⟨List.getElem_mem c, h2 _ (Nat.le_refl _) _ hg⟩
  · rw [List.getElem?_eq_none (by omega)]
    refine .inr ⟨rfl, fun x hx => ?_⟩
    obtain ⟨i, hi, rfl⟩ := List.mem_iff_getElem.mp hx
    exact h1 i (by omega) _ (List.getElem?_eq_getElem hi)
theorem fm_le {ns : List Int} (h : Asc ns) {z e x : Int} (hx : x ∈ ns) (hz : z ≤ x) : fm ns z e ≤ x := by
  obtain ⟨h1, h2⟩ := cb_split h z
  obtain ⟨i, hi, rfl⟩ := List.mem_iff_getElem.mp hx
  have hg := List.getElem?_eq_getElem hi
  have c : cb ns z ≤ i := by
    by_cases c : i < cb ns z
    · have := h1 i c _ hg
      omega
    · omega
  unfold fm
  by_cases d : cb ns z = i
  · rw [d, hg]
    exact Int.le_refl _
  · have l : cb ns z < ns.length := by omega
    rw [List.getElem?_eq_getElem l]
    have := asc_ix h (by omega : cb ns z < i) (List.getElem?_eq_getElem l) hg
    show ns[cb ns z] ≤ ns[i]
    omega
theorem fm_top {ns : List Int} (h : Asc ns) {z e : Int} (k : ∀ x ∈ ns, x ≤ e) : fm ns z e ≤ e := by
  rcases fm_or h z e with ⟨m, _⟩ | ⟨m, _⟩
  · exact k _ m
  · omega
theorem fm_mono {ns : List Int} (h : Asc ns) {z y e : Int} (k : ∀ x ∈ ns, x ≤ e) (hz : z ≤ y) : fm ns z e ≤ fm ns y e := by
  rcases fm_or h y e with ⟨m, l⟩ | ⟨m, _⟩
  · exact fm_le h m (by omega)
  · rw [m]
    exact fm_top h k
def spCB : Sp := fun vs H Q _ => ∃ (a : Addr) (ns : List Int) (z : Int), vs = [.ref a, .int z] ∧ IL H a ns ∧ ns.length ≤ 1000 ∧ Asc ns ∧ Q (.int (cb ns z)) H
def spFM : Sp := fun vs H Q _ => ∃ (a : Addr) (ns : List Int) (z e : Int), vs = [.ref a, .int z, .int e] ∧ IL H a ns ∧ ns.length ≤ 1000 ∧ Asc ns ∧ Q (.int (fm ns z e)) H
def muCB : St → Hp → Nat := fun σ _ => match σ with | [_, _, some (.int lo), some (.int hi), _] => (hi - lo).toNat | _ => 0
section
variable {P : Program} {w : World} {K : PySem.W.Frag} {mg : Str → Option Value} {base : Heap}
abbrev NCB : List Str := ["places", "place", "low", "high", "middle"]
abbrev NFM : List Str := ["marks", "place", "end", "at"]
end
end Cw
namespace Cw
open PySem L2
abbrev sGetL : Stmt := inClass sRow 1
abbrev sGetS : Stmt := inClass sRow 3
def spGetL (C : Addr) : Sp := fun vs H Q _ => ∃ (a : Addr) (n : Int) (ms ss : List Int), vs = [.ref a] ∧ RowAt C H a n ms ss ∧ Q (.int n) H
def spGetS (C : Addr) : Sp := fun vs H Q _ => ∃ (a : Addr) (n : Int) (ms ss : List Int), vs = [.ref a] ∧ RowAt C H a n ms ss ∧ ∀ p H', Same H H' → H p = none → IL H' p ss → Q (.ref p) H'
/-! ## the next cut -/
def nx (n : Int) (ms ss : List Int) (l m g p : Int) : Int := min (min (fm ss (p + l) n) (fm ms (p + m) n)) (min (p + g) n)
/-- settings -/
structure SetOk (l m g : Int) : Prop where
  l1 : 1 ≤ l
  lm : l ≤ m
  mg : m ≤ g
/-- what a step does -/
structure Stp (F : Int → Int) (n l : Int) : Prop where
  l1 : 1 ≤ l
  le : ∀ p, F p ≤ n
  ge : ∀ p, p + l ≤ F p ∨ F p = n
  mono : ∀ p q, p ≤ q → F p ≤ F q
theorem Stp.gt {F : Int → Int} {n l p : Int} (S : Stp F n l) (h : p < n) : p < F p := by
  have := S.ge p
  have := S.l1
  omega
theorem nx_stp {n l m g : Int} {ms ss : List Int} (G : Good n ms ss) (S : SetOk l m g) : Stp (nx n ms ss l m g) n l := by
  have k1 : ∀ x ∈ ms, x ≤ n := fun x hx => by have := G.rng x hx; omega
  have k2 : ∀ x ∈ ss, x ≤ n := fun x hx => k1 x (G.sub x hx)
  have s1 := S.l1
  have s2 := S.lm
  have s3 := S.mg
  refine ⟨s1, fun p => ?_, fun p => ?_, fun p q h => ?_⟩
  · unfold nx
    omega
  · have a := fm_or G.asc2 (p + l) n
    have b := fm_or G.asc (p + m) n
    unfold nx
    omega
  · have a := fm_mono G.asc2 k2 (z := p + l) (y := q + l) (by omega)
    have b := fm_mono G.asc k1 (z := p + m) (y := q + m) (by omega)
    unfold nx
    omega
/-! ## walks -/
def kc (F : Int → Int) (n s : Int) : Nat → Int
  | 0 => s
  | k + 1 => if kc F n s k < n then F (kc F n s k) else kc F n s k
def wl (F : Int → Int) (n s : Int) (m : Nat) : List Int := (List.range (m + 1)).map (kc F n s)
theorem wl_succ {F : Int → Int} {n s : Int} {m : Nat} : wl F n s (m + 1) = wl F n s m ++ [kc F n s (m + 1)] := by
  unfold wl
  rw [List.range_succ, List.map_append]
  rfl
theorem wl_len {F : Int → Int} {n s : Int} {m : Nat} : (wl F n s m).length = m + 1 := by
  unfold wl
  rw [List.length_map, List.length_range]
theorem kc_le {F : Int → Int} {n l s : Int} (S : Stp F n l) (h : s ≤ n) : ∀ k, kc F n s k ≤ n
  | 0 => h
  | k + 1 => by
    have i := kc_le S h k
    unfold kc
    by_cases c : kc F n s k < n
    · rw [if_pos c]
      exact S.le _
    · rw [if_neg c]
      exact i
theorem kc_ge {F : Int → Int} {n l s : Int} (S : Stp F n l) : ∀ k : Nat, kc F n s k < n → s + k * l ≤ kc F n s k
  | 0, _ => by
    show s + ((0 : Nat) : Int) * l ≤ s
    simp
  | k + 1, h => by
    by_cases c : kc F n s k < n
    · have e : kc F n s (k + 1) = F (kc F n s k) := if_pos c
      have i := kc_ge S k c
      have z := S.ge (kc F n s k)
      rw [e] at h ⊢
      have w : ((k + 1 : Nat) : Int) * l = k * l + l := by
        rw [Int.natCast_add, Int.add_mul]
        simp
      rw [w]
      omega
    · have e : kc F n s (k + 1) = kc F n s k := if_neg c
      omega
theorem kc_few {F : Int → Int} {n l s : Int} (S : Stp F n l) (h0 : 0 ≤ s) (b : n ≤ 200 * l) {k : Nat} (h : kc F n s k < n) : k < 200 := by
  have z := kc_ge S k h
  have l1 := S.l1
  by_cases c : k < 200
  · exact c
  · have w : (200 : Int) * l ≤ k * l := Int.mul_le_mul_of_nonneg_right (by omega) (by omega)
    omega
theorem kc_at {F : Int → Int} {n s : Int} {k : Nat} (h : kc F n s k < n) : kc F n s (k + 1) = F (kc F n s k) := if_pos h
theorem kc_end {F : Int → Int} {n s : Int} {m : Nat} (h : ¬ kc F n s m < n) : ∀ j, kc F n s (m + j) = kc F n s m
  | 0 => rfl
  | j + 1 => by
    have i := kc_end h j
    show (if kc F n s (m + j) < n then F (kc F n s (m + j)) else kc F n s (m + j)) = _
    rw [i, if_neg h]
/-- how many cuts a walk has -/
structure WkOk (F : Int → Int) (n s : Int) (m : Nat) : Prop where
  few : m ≤ 200
  fin : kc F n s m = n
  bef : ∀ i, i < m → kc F n s i < n
def spStep (C : Addr) : Sp := fun vs H Q _ => ∃ (r t : Addr) (n l m g p : Int) (ms ss : List Int), vs = [.ref r, .ref t, .int p] ∧ RowAt C H r n ms ss ∧ H t = some (.tup [.int l, .int m, .int g]) ∧ Good n ms ss ∧ ∀ H', Same H H' → Q (.int (nx n ms ss l m g p)) H'
def spCuts (C : Addr) : Sp := fun vs H Q _ => ∃ (r t : Addr) (n l m g p : Int) (ms ss : List Int), vs = [.ref r, .ref t, .int p] ∧ RowAt C H r n ms ss ∧ H t = some (.tup [.int l, .int m, .int g]) ∧ Good n ms ss ∧ SetOk l m g ∧ n ≤ 200 * l ∧ 0 ≤ p ∧ p ≤ n ∧
  ∀ q H' k, Same H H' → H q = none → WkOk (nx n ms ss l m g) n p k → IL H' q (wl (nx n ms ss l m g) n p k) → Q (.ref q) H'
/-- the getters -/
structure Gets (P : Program) (w : World) (K : PySem.W.Frag) (mg : Str → Option Value) (base : Heap) (C pL fL pM fM pS fS : Addr) (dL dM dS : FuncData) : Prop where
  hL : PropOf K C "length" pL fL
  bL : Binds K dL ["self"] []
  GL : FnOk P w K mg base CX0 1 fL dL ["self"] (spGetL C)
  hM : PropOf K C "marks" pM fM
  bM : Binds K dM ["self"] []
  GM : FnOk P w K mg base CX0 1 fM dM ["self"] (spGetM C)
  hS : PropOf K C "strict" pS fS
  bS : Binds K dS ["self"] []
  GS : FnOk P w K mg base CX0 1 fS dS ["self"] (spGetS C)
section
variable {P : Program} {w : World} {K : PySem.W.Frag} {mg : Str → Option Value} {base : Heap}
theorem scGL : FnScope ["self"] ["self"] (defScope sGetL) := ⟨rfl, rfl, rfl, by decide +kernel, rfl, by decide +kernel, by decide +kernel⟩
theorem ok_getL {f C : Addr} {fd : FuncData} (F : Fun K "length" "Row.length" sGetL f fd) (R : Cl K mg C) : FnOk P w K mg base CX0 1 f fd ["self"] (spGetL C) := by
  refine F.ok scGL (fun vs H Q E h => ?_) (fun cdv A outer s H vs Q E hr h => ?_)
  · obtain ⟨a, n, ms, ss, rfl, _⟩ := h
    rfl
  · obtain ⟨a, n, ms, ss, rfl, ⟨dx, l1, l2, ho, h1, h2⟩, k⟩ := h
    refine ⟨_, pss_one (ps_ret (pe_fld (pv 0) rfl)), ?_⟩
    exact ⟨_, rfl, a, C, dx, _, _, rfl, ho, R.cl, R.nL, fl_L _ _ _, k⟩
theorem scGS : FnScope ["self"] ["self"] (defScope sGetS) := ⟨rfl, rfl, rfl, by decide +kernel, rfl, by decide +kernel, by decide +kernel⟩
theorem ok_getS {f C : Addr} {fd : FuncData} (F : Fun K "strict" "Row.strict" sGetS f fd) (T : Bl mg) (R : Cl K mg C) : FnOk P w K mg base CX0 1 f fd ["self"] (spGetS C) := by
  refine F.ok scGS (fun vs H Q E h => ?_) (fun cdv A outer s H vs Q E hr h => ?_)
  · obtain ⟨a, n, ms, ss, rfl, _⟩ := h
    rfl
  · obtain ⟨a, n, ms, ss, rfl, ⟨dx, l1, l2, ho, h1, h2⟩, k⟩ := h
    refine ⟨_, pss_one (ps_ret (pe_callTy call_list_of (by rfl) T.list (by decide +kernel) (pa_cons (pe_fld (pv 0) rfl) pa_nil))), ?_⟩
    refine ⟨_, rfl, a, C, dx, _, _, rfl, ho, R.cl, R.nS, fl_S _ _ _, l2, _, rfl, .inl (SqL.of h2), fun p hp => ?_⟩
    exact k p _ (same_new (Same.refl H) hp) hp upd_same
abbrev NSt : List Str := ["row", "settings", "place", "least", "normal", "greatest", "strict", "either"]
end
end Cw
namespace Cw
open PySem L2
def spCSet : Sp := fun vs H Q _ => ∃ (t : Addr) (l m g : Int), vs = [.ref t] ∧ H t = some (.tup [.int l, .int m, .int g]) ∧ SetOk l m g ∧ ∀ H', Same H H' → Q .non H'
def spPl : Sp := fun vs H Q _ => ∃ p lo hi : Int, vs = [.int p, .int lo, .int hi] ∧ lo ≤ p ∧ p ≤ hi ∧ Q .non H
def spSz (C : Addr) : Sp := fun vs H Q _ => ∃ (r t : Addr) (n l m g : Int) (ms ss : List Int), vs = [.ref r, .ref t] ∧ RowAt C H r n ms ss ∧ H t = some (.tup [.int l, .int m, .int g]) ∧ n ≤ 200 * l ∧ Q .non H
def spLen : Sp := fun vs H Q _ => ∃ (t : Addr) (n l m g : Int), vs = [.int n, .ref t] ∧ H t = some (.tup [.int l, .int m, .int g]) ∧ n ≤ 200 * l ∧ Q .non H
def lastZ : List V → Int
  | [.int z] => z
  | _ :: x :: r => lastZ (x :: r)
  | _ => 0
theorem lastZ_app (z : Int) : ∀ xs : List V, lastZ (xs ++ [.int z]) = z
  | [] => rfl
  | [x] => by cases x <;> rfl
  | x :: y :: r => by
    have i := lastZ_app z (y :: r)
    show lastZ (x :: y :: (r ++ [V.int z])) = z
    cases x <;> exact i
def muCu (n : Int) (D : Addr) : St → Hp → Nat := fun _ H => (n - (match H D with | some (.lst xs) => lastZ xs | _ => 0)).toNat
theorem muCu_at {n z : Int} {D : Addr} {H : Hp} {σ : St} {xs : List V} (h : H D = some (.lst (xs ++ [.int z]))) : muCu n D σ H = (n - z).toNat := by
  unfold muCu
  rw [h]
  show (n - lastZ (xs ++ [V.int z])).toNat = _
  rw [lastZ_app]
section
variable {P : Program} {w : World} {K : PySem.W.Frag} {mg : Str → Option Value} {base : Heap}
abbrev NCS : List Str := ["settings", "least", "normal", "greatest", "number"]
abbrev NCu : List Str := ["row", "settings", "start", "cuts"]
end
end Cw
namespace Cw
open PySem L2
theorem kc_lt {F : Int → Int} {n l s : Int} {m : Nat} (S : Stp F n l) (w : WkOk F n s m) {i j : Nat} (hij : i < j) (hj : j ≤ m) : kc F n s i < kc F n s j := by
  induction j with
  | zero => omega
  | succ j ih =>
    have c := w.bef j (by omega)
    have e := S.gt c
    rw [kc_at c]
    by_cases d : i = j
    · rw [d]
      exact e
    · have := ih (by omega) (by omega)
      omega
theorem wl_asc {F : Int → Int} {n l s : Int} {m : Nat} (S : Stp F n l) (w : WkOk F n s m) : Asc (wl F n s m) := by
  unfold wl
  refine List.pairwise_map.mpr ?_
  refine (List.pairwise_lt_range (n := m + 1)).imp_of_mem fun {i j} hi hj hij => ?_
  rw [List.mem_range] at hj
  exact kc_lt S w hij (by omega)
theorem kc_mem {F : Int → Int} {n s : Int} {m : Nat} {x : Int} : x ∈ wl F n s m ↔ ∃ i, i ≤ m ∧ kc F n s i = x := by
  unfold wl
  rw [List.mem_map]
  constructor
  · rintro ⟨i, hi, rfl⟩
    exact ⟨i, by rw [List.mem_range] at hi; omega, rfl⟩
  · rintro ⟨i, hi, rfl⟩
    exact ⟨i, by rw [List.mem_range]; omega, rfl⟩
/-- all that the calls of a row with settings want -/
structure RwS (C : Addr) (H : Hp) (r t : Addr) (n l m g : Int) (ms ss : List Int) : Prop where
  row : RowAt C H r n ms ss
  tup : H t = some (.tup [.int l, .int m, .int g])
  good : Good n ms ss
  set : SetOk l m g
  big : n ≤ 200 * l
theorem RwS.same {C : Addr} {H H' : Hp} {r t : Addr} {n l m g : Int} {ms ss : List Int} (R : RwS C H r t n l m g ms ss) (s : Same H H') : RwS C H' r t n l m g ms ss := ⟨R.row.same s, s _ _ R.tup, R.good, R.set, R.big⟩
def spCW (C : Addr) : Sp := fun vs H Q _ => ∃ (r t c : Addr) (n l m g : Int) (ms ss ps : List Int), vs = [.ref r, .ref t, .ref c] ∧ RwS C H r t n l m g ms ss ∧ IL H c ps ∧ ps.length ≤ 1000 ∧ (∀ i, i < ps.length → (0 :: ps).getD i 0 ≤ ps.getD i 0 ∧ ps.getD i 0 ≤ n) ∧ ∀ H', Same H H' → Q .non H'
def spNext (C : Addr) : Sp := fun vs H Q _ => ∃ (r t : Addr) (n l m g p : Int) (ms ss : List Int), vs = [.ref r, .ref t, .int p] ∧ RwS C H r t n l m g ms ss ∧ 0 ≤ p ∧ p < n ∧ ∀ H', Same H H' → Q (.int (nx n ms ss l m g p)) H'
def spWalk (C : Addr) : Sp := fun vs H Q _ => ∃ (r t : Addr) (n l m g p : Int) (ms ss : List Int), vs = [.ref r, .ref t, .int p] ∧ RwS C H r t n l m g ms ss ∧ 0 ≤ p ∧ p ≤ n ∧
  ∀ q H' k, Same H H' → H q = none → WkOk (nx n ms ss l m g) n p k → IL H' q (wl (nx n ms ss l m g) n p k) → Q (.ref q) H'
def spWithin (C : Addr) : Sp := fun vs H Q _ => ∃ (r t : Addr) (n l m g p lo hi : Int) (ms ss : List Int), vs = [.ref r, .ref t, .int p, .int lo, .int hi] ∧ RwS C H r t n l m g ms ss ∧ 0 ≤ p ∧ p ≤ lo ∧ lo ≤ hi ∧ hi ≤ n ∧
  ∀ H' k, Same H H' → WkOk (nx n ms ss l m g) n p k → Q (.int ((cb (wl (nx n ms ss l m g) n p k) hi : Nat) - (cb (wl (nx n ms ss l m g) n p k) lo : Nat) : Int)) H'
section
variable {P : Program} {w : World} {K : PySem.W.Frag} {mg : Str → Option Value} {base : Heap}
abbrev NCW : List Str := ["row", "settings", "places", "low", "place"]
abbrev NWi : List Str := ["row", "settings", "start", "low", "high", "cuts"]
end
end Cw
namespace Cw
open PySem L2
theorem kc_up {F : Int → Int} {n l s : Int} (S : Stp F n l) {i : Nat} : ∀ j : Nat, kc F n s i ≤ kc F n s (i + j)
  | 0 => Int.le_refl _
  | j + 1 => by
    have h := kc_up S (i := i) (s := s) j
    by_cases c : kc F n s (i + j) < n
    · have e := S.gt c
      have k : kc F n s (i + (j + 1)) = F (kc F n s (i + j)) := kc_at c
      omega
    · have k : kc F n s (i + (j + 1)) = kc F n s (i + j) := if_neg c
      omega
theorem kc_wk {F : Int → Int} {n l s : Int} (S : Stp F n l) {i j : Nat} (h : i ≤ j) : kc F n s i ≤ kc F n s j := by
  have := kc_up S (s := s) (i := i) (j - i)
  rw [Nat.add_sub_cancel' h] at this
  exact this
structure Met (F : Int → Int) (n a b : Int) (i j : Nat) (x y : Int) : Prop where
  ex : kc F n a i = x
  ey : kc F n b j = y
  na : ∀ i', i' < i → ∀ j', kc F n a i' ≠ kc F n b j'
  nb : ∀ j', j' < j → ∀ i', kc F n b j' ≠ kc F n a i'
  pa : 0 < i → kc F n a (i - 1) < y
  pb : 0 < j → kc F n b (j - 1) < x
theorem Met.swap {F : Int → Int} {n a b : Int} {i j : Nat} {x y : Int} (M : Met F n a b i j x y) : Met F n b a j i y x := ⟨M.ey, M.ex, M.nb, M.na, M.pb, M.pa⟩
theorem Met.start {F : Int → Int} {n a b : Int} : Met F n a b 0 0 a b := ⟨rfl, rfl, fun _ h => absurd h (Nat.not_lt_zero _), fun _ h => absurd h (Nat.not_lt_zero _), fun h => absurd h (Nat.lt_irrefl _), fun h => absurd h (Nat.lt_irrefl _)⟩
theorem Met.next {F : Int → Int} {n l a b : Int} {i j : Nat} {x y : Int} (S : Stp F n l) (M : Met F n a b i j x y) (h : x < y) (hy : y ≤ n) : Met F n a b (i + 1) j (F x) y := by
  have c : kc F n a i < n := by rw [M.ex]; omega
  have e := S.gt c
  rw [M.ex] at e
  refine ⟨by rw [kc_at c, M.ex], M.ey, fun i' hi' j' z => ?_, M.nb, fun _ => by rw [Nat.add_sub_cancel, M.ex]; exact h, fun hj => by have := M.pb hj; omega⟩
  by_cases d : i' = i
  · rw [d, M.ex] at z
    by_cases f : j' < j
    · have w := kc_wk S (s := b) (show j' ≤ j - 1 by omega)
      have := M.pb (by omega)
      omega
    · have w := kc_wk S (s := b) (show j ≤ j' by omega)
      rw [M.ey] at w
      omega
  · exact M.na i' (by omega) j' z
/-- where two walks meet -/
def Mt (F : Int → Int) (n a b v : Int) : Prop := ∃ i j, kc F n a i = v ∧ kc F n b j = v ∧ (∀ i', i' < i → ∀ j', kc F n a i' ≠ kc F n b j') ∧ (∀ j', j' < j → ∀ i', kc F n b j' ≠ kc F n a i')
def spMeet (C : Addr) : Sp := fun vs H Q _ => ∃ (r t : Addr) (n l m g a b : Int) (ms ss : List Int), vs = [.ref r, .ref t, .int a, .int b] ∧ RwS C H r t n l m g ms ss ∧ 0 ≤ a ∧ a ≤ n ∧ 0 ≤ b ∧ b ≤ n ∧ ∀ H' v, Same H H' → Mt (nx n ms ss l m g) n a b v → Q (.int v) H'
def muMe (n : Int) : St → Hp → Nat := fun σ _ => match σ with | [_, _, some (.int x), some (.int y)] => (n - x).toNat + (n - y).toNat | _ => 0
section
variable {P : Program} {w : World} {K : PySem.W.Frag} {mg : Str → Option Value} {base : Heap}
abbrev NMe : List Str := ["row", "settings", "first", "second"]
end
end Cw
namespace Cw
open PySem L2
theorem take_fil {ns : List Int} {i : Nat} {z : Int} (h : ns[i]? = some z) (p : Int → Bool) : (ns.take (i + 1)).filter p = (ns.take i).filter p ++ (if p z = true then [z] else []) := by
  rw [List.take_add_one, h, List.filter_append]
  congr 1
  show List.filter p [z] = _
  rw [List.filter_cons]
  rfl
/-- a raw row with its three numbers -/
def RawS (H : Hp) (p : Addr) (n : Int) (prs : List (Int × Int)) (l m g : Int) : Prop := ∃ lp t ts, H p = some (.tup [.int n, .ref lp, .ref t]) ∧ H lp = some (.lst (ts.map V.ref)) ∧ PrAt H ts prs ∧ H t = some (.tup [.int l, .int m, .int g])
theorem RawS.raw {H : Hp} {p : Addr} {n : Int} {prs : List (Int × Int)} {l m g : Int} (r : RawS H p n prs l m g) : RawAt H p n prs := by
  obtain ⟨lp, t, ts, h1, h2, h3, _⟩ := r
  exact ⟨lp, t, ts, h1, h2, h3⟩
theorem RawS.but {H H' : Hp} {p a : Addr} {k : Nat} {n : Int} {prs : List (Int × Int)} {l m g : Int} (r : RawS H p n prs l m g) (J : JarAt H a k) (s : But H H' a) : RawS H' p n prs l m g := by
  obtain ⟨lp, t, ts, h1, h2, h3, h4⟩ := r
  refine ⟨lp, t, ts, s _ _ h1 (J.no h1 fun _ _ _ z => nomatch z), s _ _ h2 (J.no h2 fun r m n z => ?_), h3.imp fun t p h => s _ _ h (J.no h fun _ _ _ z => nomatch z), s _ _ h4 (J.no h4 fun _ _ _ z => nomatch z)⟩
  injection z with z
  cases ts with
  | nil => cases z
  | cons t ts => cases z
def spSmall : Sp := fun vs H Q _ => ∃ (a : Addr) (k : Nat) (mo : Int), vs = [.ref a, .int mo] ∧ 1 ≤ mo ∧ mo ≤ 40 ∧ JarAt H a (k + 60) ∧ ∀ (p : Addr) (H' : Hp) (n l m g : Int) (prs : List (Int × Int)), n ≤ mo → GoodP n prs → prs.length ≤ 39 → RawS H' p n prs l m g → SetOk l m g → n ≤ 200 * l → g ≤ 10000000000000000000000000000 → JarAt H' a k → But H H' a → Q (.ref p) H'
theorem asc_snoc {ms : List Int} {z : Int} (h : Asc ms) (k : ∀ x ∈ ms, x < z) : Asc (ms ++ [z]) := by
  rw [Asc, List.pairwise_append]
  refine ⟨h, List.pairwise_singleton _ _, fun x hx y hy => ?_⟩
  rw [List.mem_singleton.mp hy]
  exact k x hx
/-- what the loop has found: the pairs, all below the place i -/
structure Found (i : Int) (prs : List (Int × Int)) : Prop where
  rng : ∀ q ∈ prs, 1 ≤ q.1 ∧ q.1 < i ∧ (q.2 = 1 ∨ q.2 = 2)
  asc : Asc (prs.map (·.1))
theorem Found.nil (i : Int) : Found i [] := ⟨fun _ h => (nomatch h), List.Pairwise.nil⟩
theorem Found.up {i : Int} {prs : List (Int × Int)} (h : Found i prs) : Found (i + 1) prs := by
  refine ⟨fun q hq => ?_, h.asc⟩
  have := h.rng q hq
  omega
theorem Found.snoc {i : Int} {prs : List (Int × Int)} {z : Int} (h : Found i prs) (h0 : 1 ≤ i) (hz : z = 1 ∨ z = 2) : Found (i + 1) (prs ++ [(i, z)]) := by
  refine ⟨fun q hq => ?_, ?_⟩
  · rcases List.mem_append.mp hq with hq | hq
    · have := h.rng q hq
      omega
    · rw [List.mem_singleton.mp hq]
      refine ⟨h0, ?_, hz⟩
      show i < i + 1
      omega
  · rw [List.map_append]
    refine asc_snoc h.asc fun x hx => ?_
    obtain ⟨q, hq, rfl⟩ := List.mem_map.mp hx
    exact (h.rng q hq).2.1
section
variable {P : Program} {w : World} {K : PySem.W.Frag} {mg : Str → Option Value} {base : Heap}
abbrev NSm : List Str := ["jar", "most", "size_here", "way", "found", "spot", "kind"]
theorem scSm : FnScope NSm ["jar", "most"] (defScope sSmall) := ⟨rfl, rfl, rfl, by decide +kernel, rfl, by decide +kernel, by decide +kernel⟩
theorem ok_small {f fD fT : Addr} {fd fdD fdT : FuncData} (F : Fun K "_law_small" "_law_small" sSmall f fd) (T : Bl mg)
    (gD : mg "_law_dip" = some (.ref fD)) (kD : PySem.W.keepIn K (.ref fD) = true) (bD : Binds K fdD ["jar", "many"] []) (GD : FnOk P w K mg base CX0 1 fD fdD ["jar", "many"] spDip)
    (gT : mg "_law_three" = some (.ref fT)) (kT : PySem.W.keepIn K (.ref fT) = true) (bT : Binds K fdT ["jar", "wide"] []) (GT : FnOk P w K mg base CX0 2 fT fdT ["jar", "wide"] spThree) :
    FnOk P w K mg base CX0 3 f fd ["jar", "most"] spSmall := by
  refine F.ok scSm (fun vs H Q E h => ?_) (fun cdv A outer s H vs Q E hr h => ?_)
  · obtain ⟨a, k, mo, rfl, _⟩ := h
    rfl
  · obtain ⟨a, k, mo, rfl, mo1, mo2, J, q⟩ := h
    have hr1 : Room 1 (A.deeper (PyProof.Rows.envOfC "_law_small" (defScope sSmall) s.heap.objs.size f cdv)) := hr.mono (by decide)
    refine ⟨_, pss_cons (ps_par3 (i := 2) (j := 3) (l := 4) rfl scSm.nd rfl rfl rfl (by decide) (by decide) (by decide) rfl rfl rfl (pa_cons (pe_op op_add pe_int (pe_call GD hr1 rfl gD kD bD .nil pass0 (pa_cons (pv 0) (pa_cons (pv 1) pa_nil)))) (pa_cons (pe_call GD hr1 rfl gD kD bD .nil pass0 (pa_cons (pv 0) (pa_cons pe_int pa_nil))) (pa_cons (pe_lst pa_nil) pa_nil))) (by rfl))
      (pss_cons (ps_for PassesOwn.never rfl (pi_range2 (by rfl) T.range (pa_cons pe_int (pa_cons (pv 2) pa_nil))) (pg_name (i := 5) scSm.nd rfl (Or.inl rfl))
        (pss_cons (ps_set (i := 6) scSm.nd rfl (Or.inl rfl) (pe_ifExp (pt_cmpR op_eq (pv 3) pe_int (nomark _)) (pe_op op_add pe_int (pe_call GD hr1 rfl gD kD bD .nil pass0 (pa_cons (pv 0) (pa_cons pe_int pa_nil))))
            (pe_callB (call_max2 rfl) (by rfl) T.max (by decide +kernel) (pa_cons pe_int (pa_cons (pe_op op_sub (pe_call GD hr1 rfl gD kD bD .nil pass0 (pa_cons (pv 0) (pa_cons pe_int pa_nil))) pe_int) pa_nil)))))
        (pss_one (ps_if (PW.pt (pw_and (pt_cmpR op_gt (pv 6) pe_int (nomark _)) (pw_and1 (pt_cmpR op_ne (pv 3) pe_int (nomark _)))))
          (pss_one (ps_expr (pe_bm PySem.F.plainAttrs_list PySem.F.slot_list_append PySem.F.type_list_append mt_append (pv 4) (pa_cons (pe_tup (pa_cons (pv 5) (pa_cons (pv 6) pa_nil))) pa_nil)))) pss_nil))))
      (pss_one (ps_ret (pe_tup (pa_cons (pv 2) (pa_cons (pv 4) (pa_cons (pe_call GT hr rfl gT kT bT .nil pass0 (pa_cons (pv 0) (pa_cons pe_int pa_nil))) pa_nil))))))), ?_⟩
    refine ⟨_, rfl, _, rfl, a, k + 59, mo, rfl, J, by omega, by omega, fun v1 H1 a1 b1 J1 B1 => ⟨_, _, rfl, rfl, ?_⟩⟩
    refine ⟨_, rfl, a, k + 58, 5, rfl, J1, by decide, by decide, fun v2 H2 a2 b2 J2 B2 => ⟨Nat.zero_le _, fun l hl => ⟨_, _, _, rfl, ?_⟩⟩⟩
    have nla : a ≠ l := J2.ne hl
    have nl : H l = none := none_of (fun c o e => by
      by_cases z : c = a
      · obtain ⟨r, m, n, e', _⟩ := J2
        exact ⟨_, by rw [z]; exact e'⟩
      · exact ⟨o, (B1.trans B2) _ _ e z⟩) hl
    refine ⟨_, rfl, _, _, rfl, ⟨by decide, by decide, by omega, by omega⟩, for_range (lo := 1) (n := (1 + v1 - 1).toNat) (fun i σ H' => ∃ (v5 v6 : Option V) (ts : List Addr) (prs : List (Int × Int)),
        σ = [some (.ref a), some (.int mo), some (.int (1 + v1)), some (.int v2), some (.ref l), v5, v6] ∧ JarAt H' a (k + 7 + (50 - i)) ∧ But H H' a ∧ H' l = some (.lst (ts.map V.ref)) ∧ PrAt H' ts prs ∧ Found (1 + i) prs ∧ prs.length ≤ i)
      ⟨none, none, [], [], rfl, (J2.put nla).mono (by omega), (B1.trans B2).new hl, upd_same, .nil, Found.nil _, Nat.le_refl _⟩ ?_ ?_⟩
    · rintro i σ H' hi ⟨v5, v6, ts, prs, rfl, J', B', hL, hP, hF, hlen⟩
      have Jd : JarAt H' a (k + 7 + (50 - (i + 1)) + 1) := J'.mono (by omega)
      refine ⟨_, rfl, rfl, _, rfl, ?_⟩
      refine ite2 (fun hv => ?ga) (fun hv => ?gb)
      case' ga =>
        refine ⟨_, rfl, a, _, 2, rfl, Jd, by decide, by decide, fun v3 H3 a3 b3 J3 B3 => ⟨_, _, rfl, rfl, ?_⟩⟩
        have z0 : 0 ≤ 1 + v3 := by omega
        have z2 : 1 + v3 ≤ 2 := by omega
        dsimp only
        generalize 1 + v3 = z at z0 z2 ⊢
      case' gb =>
        refine ⟨_, rfl, a, _, 5, rfl, Jd, by decide, by decide, fun v3 H3 a3 b3 J3 B3 => ⟨_, _, rfl, rfl, _, _, rfl, ?_⟩⟩
        have z0 : 0 ≤ (if v3 - 2 > 0 then v3 - 2 else 0) := by split <;> omega
        have z2 : (if v3 - 2 > 0 then v3 - 2 else 0) ≤ 2 := by split <;> omega
        dsimp only
        generalize (if v3 - 2 > 0 then v3 - 2 else 0) = z at z0 z2 ⊢
      all_goals
        have hL3 : H3 l = some (.lst (ts.map V.ref)) := B3 _ _ hL nla.symm
        have hP3 : PrAt H3 ts prs := hP.imp fun t p h => B3 _ _ h (J'.no h (fun _ _ _ y => nomatch y))
        have stay : ∃ (v5 v6 : Option V) (ts : List Addr) (prs : List (Int × Int)), [some (V.ref a), some (V.int mo), some (V.int (1 + v1)), some (V.int v2), some (V.ref l), some (V.int (1 + (i : Int))), some (V.int z)] = [some (V.ref a), some (V.int mo), some (V.int (1 + v1)), some (V.int v2), some (V.ref l), v5, v6] ∧ JarAt H3 a (k + 7 + (50 - (i + 1))) ∧ But H H3 a ∧ H3 l = some (.lst (ts.map V.ref)) ∧ PrAt H3 ts prs ∧ Found (1 + ((i + 1 : Nat) : Int)) prs ∧ prs.length ≤ i + 1 :=
          ⟨_, _, ts, prs, rfl, J3, B'.trans B3, hL3, hP3, by have := hF.up; rwa [show (1 : Int) + ((i + 1 : Nat) : Int) = 1 + i + 1 by omega], by omega⟩
        refine ⟨_, rfl, _, _, rfl, rfl, _, rfl, ?_⟩
        by_cases c1 : z > 0
        · refine ifT (decide_eq_true c1) ?_
          refine ⟨_, rfl, rfl, _, rfl, ?_⟩
          by_cases c2 : v2 = 1
          · refine ifF (by simp [c2]) ?_
            exact stay
          · refine ifT (by simp [c2]) ?_
            refine ⟨_, rfl, .inl ⟨rfl, _, SqL.of hL3⟩, _, rfl, _, rfl, (by show 2 ≤ sizeLine; decide), fun t ht => ?_⟩
            have nlt : l ≠ t := ne_of_none hL3 ht
            have hts := hP3.len
            refine ⟨l, _, _, rfl, rfl, by rw [upd_ne nlt]; exact hL3, by rw [List.length_map]; exact small1000 (by omega), ?_⟩
            refine ⟨_, _, ts ++ [t], prs ++ [(1 + (i : Int), z)], rfl, ((J3.put (J3.ne ht)).put nla), ?_, ?_, ?_, ?_, ?_⟩
            · exact ((B'.trans B3).new ht).put nl
            · rw [upd_same, List.map_append]
              rfl
            · refine PrAt.app (hP3.imp fun u p h => ?_) (.cons ?_ .nil)
              · rw [upd_ne (ne_of h hL3 (by intro y; cases y)), upd_ne (ne_of_none h ht)]
                exact h
              · rw [upd_ne (Ne.symm nlt)]
                exact upd_same
            · have := hF.snoc (z := z) (by omega) (by omega)
              rwa [show (1 : Int) + ((i + 1 : Nat) : Int) = 1 + i + 1 by omega]
            · rw [List.length_append]
              exact Nat.succ_le_succ hlen
        · refine ifF (decide_eq_false c1) ?_
          refine ifF rfl ?_
          exact stay
    · rintro σ H' ⟨v5, v6, ts, prs, rfl, J', B', hL, hP, hF, hlen⟩
      have hlen' : prs.length ≤ 39 := by omega
      refine ⟨_, rfl, _, rfl, _, rfl, a, k, 4, rfl, J'.mono (by omega), by decide, by decide, fun p H3 x y g x1 x2 y1 y2 g1 g2 J3 B3 hp _ => ⟨(by show 3 ≤ sizeLine; decide), fun r hr' => ?_⟩⟩
      have s3 : Same H3 (upd H3 r (.tup [.int (1 + v1), .ref l, .ref p])) := same_new (Same.refl H3) hr'
      refine q r _ (1 + v1) x y g prs (by omega) ⟨by omega, by omega, fun w hw => ?_, hF.asc⟩ hlen' ⟨l, p, ts, upd_same, s3 _ _ (B3 _ _ hL nla.symm), hP.imp fun t w h => s3 _ _ (B3 _ _ h (J'.no h (fun _ _ _ y => nomatch y))), s3 _ _ hp⟩ ⟨x1, y1, g1⟩ (by omega) (by omega) (J3.put (J3.ne hr')) ((B'.trans B3).new hr')
      have z := hF.rng w hw
      exact ⟨z.1, by omega, z.2.2⟩
end
end Cw
namespace Cw
open PySem L2
def spGreat : Sp := fun vs H Q _ => ∃ (a : Addr) (k : Nat) (mo : Int), vs = [.ref a, .int mo] ∧ 1 ≤ mo ∧ mo ≤ 40 ∧ JarAt H a (k + 120) ∧ ∀ (p : Addr) (H' : Hp) (n l m g : Int) (prs : List (Int × Int)), GoodP n prs → prs.length ≤ 16 → RawS H' p n prs l m g → SetOk l m g → n ≤ 200 * l → g ≤ 10000000000000000000000000000 → JarAt H' a k → But H H' a → Q (.ref p) H'
theorem none_but {H H' : Hp} {a l : Addr} {k : Nat} (J : JarAt H' a k) (B : But H H' a) (h : H' l = none) : H l = none := none_of (fun c o e => by
  by_cases z : c = a
  · obtain ⟨r, m, n, e', _⟩ := J
    exact ⟨_, by rw [z]; exact e'⟩
  · exact ⟨o, B _ _ e z⟩) h
theorem at4 {z x y u v : Int} (h0 : 0 ≤ z) (h1 : z < 4) : ∃ r, atI [V.int x, V.int y, V.int u, V.int v] z = some (V.int r) := by
  obtain ⟨r, e, m⟩ := at_lt (xs := [V.int x, V.int y, V.int u, V.int v]) h0 (by simpa using h1)
  simp only [List.mem_cons, List.not_mem_nil, or_false] at m
  rcases m with rfl | rfl | rfl | rfl <;> exact ⟨_, e⟩
theorem at2b {x y : Int} (c : Bool) : ∃ r, atI [V.int x, V.int y] (if c = true then 1 else 0) = some (V.int r) := by
  cases c
  · exact ⟨x, rfl⟩
  · exact ⟨y, rfl⟩
section
variable {P : Program} {w : World} {K : PySem.W.Frag} {mg : Str → Option Value} {base : Heap}
abbrev NG : List Str := ["jar", "most", "three", "size_here", "spots", "spot", "turn", "gap", "inner", "one"]
theorem scGr : FnScope NG ["jar", "most"] (defScope sGreat) := ⟨rfl, rfl, rfl, by decide +kernel, rfl, by decide +kernel, by decide +kernel⟩
theorem ok_great {f fD fT : Addr} {fd fdD fdT : FuncData} (F : Fun K "_law_great" "_law_great" sGreat f fd) (T : Bl mg)
    (gD : mg "_law_dip" = some (.ref fD)) (kD : PySem.W.keepIn K (.ref fD) = true) (bD : Binds K fdD ["jar", "many"] []) (GD : FnOk P w K mg base CX0 1 fD fdD ["jar", "many"] spDip)
    (gT : mg "_law_three" = some (.ref fT)) (kT : PySem.W.keepIn K (.ref fT) = true) (bT : Binds K fdT ["jar", "wide"] []) (GT : FnOk P w K mg base CX0 2 fT fdT ["jar", "wide"] spThree) :
    FnOk P w K mg base CX0 3 f fd ["jar", "most"] spGreat := by
  refine F.ok scGr (fun vs H Q E h => ?_) (fun cdv A outer s H vs Q E hr h => ?_)
  · obtain ⟨a, k, mo, rfl, _⟩ := h
    rfl
  · obtain ⟨a, k, mo, rfl, mo1, mo2, J, q⟩ := h
    have hr1 : Room 1 (A.deeper (PyProof.Rows.envOfC "_law_great" (defScope sGreat) s.heap.objs.size f cdv)) := hr.mono (by decide)
    refine ⟨_, pss_cons (ps_set (i := 2) scGr.nd rfl (Or.inl rfl) (pe_call GT hr rfl gT kT bT .nil pass0 (pa_cons (pv 0) (pa_cons (pe_ix ix_list (pe_lst (pa_cons (pe_op op_pow pe_int pe_int) (pa_cons (pe_op op_pow pe_int pe_int) (pa_cons (pe_op op_pow pe_int pe_int) pa_nil))))
          (pe_call GD hr1 rfl gD kD bD .nil pass0 (pa_cons (pv 0) (pa_cons pe_int pa_nil))) (fun _ _ => rfl)) pa_nil))))
      (pss_cons (ps_set (i := 3) scGr.nd rfl (Or.inr rfl) (pe_op op_add pe_int (pe_call GD hr1 rfl gD kD bD .nil pass0 (pa_cons (pv 0) (pa_cons (pe_op op_mul (pe_op op_add pe_int (pe_call GD hr1 rfl gD kD bD .nil pass0 (pa_cons (pv 0) (pa_cons (pv 1) pa_nil)))) (pe_ix ix_tup (pv 2) pe_int (fun _ _ => rfl))) pa_nil)))))
      (pss_cons (ps_par (i := 4) (j := 5) rfl scGr.nd rfl rfl (by decide) rfl rfl (pa_cons (pe_lst pa_nil) (pa_cons pe_int pa_nil)) (by rfl))
      (pss_cons (ps_for PassesOwn.never rfl (pi_range1 (by rfl) T.range (pa_cons (pe_call GD hr1 rfl gD kD bD .nil pass0 (pa_cons (pv 0) (pa_cons pe_int pa_nil))) pa_nil)) (pg_name (i := 6) scGr.nd rfl (Or.inl rfl))
        (pss_cons (ps_set (i := 7) scGr.nd rfl (Or.inl rfl) (pe_ix ix_list (pe_lst (pa_cons (pe_ix ix_tup (pv 2) pe_int (fun _ _ => rfl)) (pa_cons (pe_ix ix_tup (pv 2) pe_int (fun _ _ => rfl)) (pa_cons (pe_ix ix_tup (pv 2) pe_int (fun _ _ => rfl))
            (pa_cons (pe_op op_add pe_int (pe_call GD hr1 rfl gD kD bD .nil pass0 (pa_cons (pv 0) (pa_cons (pe_op op_mul pe_int (pe_ix ix_tup (pv 2) pe_int (fun _ _ => rfl))) pa_nil)))) pa_nil)))))
            (pe_call GD hr1 rfl gD kD bD .nil pass0 (pa_cons (pv 0) (pa_cons pe_int pa_nil))) (fun _ _ => rfl)))
        (pss_cons (ps_set (i := 5) scGr.nd rfl (Or.inl rfl) (pe_op op_add (pe_ix ix_list (pe_lst (pa_cons (pv 5) (pa_cons (pe_call GD hr1 rfl gD kD bD .nil pass0 (pa_cons (pv 0) (pa_cons (pv 3) pa_nil))) pa_nil)))
            (pe_callTy call_int1 (by rfl) T.int (by decide +kernel) (pa_cons (pe_cmpR op_eq (pe_call GD hr1 rfl gD kD bD .nil pass0 (pa_cons (pv 0) (pa_cons pe_int pa_nil))) pe_int (nomark _)) pa_nil)) (fun _ _ => rfl))
            (pe_callB (call_max2 rfl) (by rfl) T.max (by decide +kernel) (pa_cons pe_int (pa_cons (pe_op op_sub (pe_op op_add (pv 7) (pe_call GD hr1 rfl gD kD bD .nil pass0 (pa_cons (pv 0) (pa_cons pe_int pa_nil)))) pe_int) pa_nil)))))
        (pss_one (ps_expr (pe_bm PySem.F.plainAttrs_list PySem.F.slot_list_append PySem.F.type_list_append mt_append (pv 4) (pa_cons (pv 5) pa_nil)))))))
      (pss_cons (ps_setLc (i := 8) (own := [("one", 9)]) (g := gName 9) rfl scGr.nd rfl rfl (sw_true rfl rfl rfl (by decide +kernel)) (pi_list (pe_callB (cr_sortedSet rfl) (by rfl) T.sorted (by decide +kernel) (pa_cons (pe_callTy (cr_setOf rfl) (by rfl) T.set (by decide +kernel) (pa_cons (pv 4) pa_nil)) pa_nil)))
          (blkOk_by (own := [("one", 9)]) (N := NG) (sc := defScope sGreat) (by decide +kernel)) (fun _ _ _ _ _ => pg_name (i := 9) scGr.nd rfl (Or.inl rfl)) (fun _ _ _ _ _ => pts_one (pt_chain op_lt op_lt pe_int (pv 9) (pv 3))) (fun _ _ _ _ _ => pv 9))
      (pss_one (ps_ret (pe_tup (pa_cons (pv 3) (pa_cons (pe_lc (own := [("one", 9)]) (g := gName 9) (tt := tYes) rfl scGr.nd (pi_list (pv 8)) (blkOk_by (own := [("one", 9)]) (N := NG) (sc := defScope sGreat) (by decide +kernel)) (fun _ _ _ _ _ => pg_name (i := 9) scGr.nd rfl (Or.inl rfl)) (fun _ _ _ _ _ => pts_nil)
          (fun _ _ _ _ _ => pe_tup (pa_cons (pv 9) (pa_cons (pe_op op_add pe_int (pe_call GD hr1 rfl gD kD bD .nil pass0 (pa_cons (pv 0) (pa_cons pe_int pa_nil)))) pa_nil)))) (pa_cons (pv 2) pa_nil)))))))))), ?_⟩
    have t3 : (0 : Int) < 3 ∧ (3 : Int) < 2 ^ 120 := ⟨by decide, by decide⟩
    refine ⟨_, rfl, _, _, rfl, rfl, ⟨by decide, by decide, by decide⟩, _, _, rfl, rfl, ⟨by decide, by decide, by decide⟩, _, _, rfl, rfl, ⟨by decide, by decide, by decide⟩, (by show 3 ≤ sizeLine; decide), fun p hp => ?_⟩
    have np : a ≠ p := J.ne hp
    refine ⟨_, rfl, a, k + 119, 3, rfl, J.put np, t3.1, t3.2, fun v1 H1 a1 b1 J1 B1 => ?_⟩
    obtain ⟨W, e1, c1⟩ := at3 (x := 10 ^ Int.toNat 3) (y := 10 ^ Int.toNat 15) (u := 10 ^ Int.toNat 27) a1 b1
    refine ⟨p, _, _, _, rfl, rfl, SqL.of (B1 _ _ upd_same np.symm), e1, ?_⟩
    have w0 : 1000 ≤ W ∧ W ≤ 10 ^ 27 := by
      have z1 : (10 : Int) ^ Int.toNat 3 = 1000 := by decide +kernel
      have z2 : (10 : Int) ^ Int.toNat 15 = 1000000000000000 := by decide +kernel
      have z3 : (10 : Int) ^ Int.toNat 27 = 1000000000000000000000000000 := by decide +kernel
      have z4 : (10 : Int) ^ 27 = 1000000000000000000000000000 := by decide +kernel
      omega
    have z4 : (10 : Int) ^ 27 = 1000000000000000000000000000 := by decide +kernel
    have z5 : (2 : Int) ^ 120 = 1329227995784915872903807060280344576 := by decide +kernel
    refine ⟨a, k + 112, W, rfl, J1, by omega, by omega, fun p3 H2 x y g hx1 hx2 hy1 hy2 hg1 hg2 J2 B2 hp3 _ => ?_⟩
    have B02 := ((But.refl H a).new hp).trans (B1.trans B2)
    have npa : p3 ≠ a := J2.no hp3 (fun _ _ _ z => nomatch z)
    refine ⟨_, rfl, _, rfl, _, rfl, a, k + 111, mo, rfl, J2, by omega, by omega, fun v2 H3 a2 b2 J3 B3 => ⟨_, _, rfl, rfl, ?_⟩⟩
    have hp3' : H3 p3 = some (.tup [.int x, .int y, .int g]) := B3 _ _ hp3 npa
    have mp : 0 < (1 + v2) * x := Int.mul_pos (by omega) (by omega)
    have mu : (1 + v2) * x ≤ 40 * x := Int.mul_le_mul_of_nonneg_right (by omega) (by omega)
    refine ⟨_, rfl, p3, _, _, _, rfl, rfl, SqT.of hp3', at_of2 (j := 0) rfl rfl, _, _, rfl, rfl, .inl ⟨by omega, by omega⟩, ?_⟩
    refine ⟨a, k + 110, (1 + v2) * x, rfl, J3, mp, by omega, fun v3 H4 a3 b3 J4 B4 => ⟨_, _, rfl, rfl, ?_⟩⟩
    have B04 := (B02.trans B3).trans B4
    have hp4 := B4 _ _ hp3' npa
    refine ⟨Nat.zero_le _, fun l hl => ⟨_, _, rfl, ?_⟩⟩
    have nla : a ≠ l := J4.ne hl
    have npl : p3 ≠ l := ne_of_none hp4 hl
    have nl : H l = none := none_but J4 B04 hl
    refine ⟨_, rfl, a, k + 109, 17, rfl, J4.put nla, by decide, by decide, fun v4 H5 a4 b4 J5 B5 => ⟨_, rfl, by omega, by omega, ?_⟩⟩
    have B05 := (B04.new (o := .lst []) hl).trans B5
    refine for_range (lo := 0) (n := v4.toNat) (fun i σ H' => ∃ (sp : Int) (v6 v7 v8 v9 : Option V) (sps : List Int),
        σ = [some (.ref a), some (.int mo), some (.ref p3), some (.int (1 + v3)), some (.ref l), some (.int sp), v6, v7, v8, v9] ∧ JarAt H' a (k + 20 + 5 * (17 - i)) ∧ But H H' a ∧ H' p3 = some (.tup [.int x, .int y, .int g]) ∧ IL H' l sps ∧ sps.length = i)
      ⟨0, none, none, none, none, [], rfl, J5.mono (by omega), B05, B5 _ _ (by rw [upd_ne npl]; exact hp4) npa, B5 _ _ upd_same nla.symm, rfl⟩ ?_ ?_
    · rintro i σ H' hi ⟨sp, v6, v7, v8, v9, sps, rfl, J', B', h3, hL, hlen⟩
      have hi16 : i < 16 := by omega
      have Jd : JarAt H' a (k + 20 + 5 * (17 - (i + 1)) + 5) := J'.mono (by omega)
      generalize k + 20 + 5 * (17 - (i + 1)) = kk at Jd ⊢
      refine ⟨_, rfl, p3, _, _, _, rfl, rfl, SqT.of h3, at_of2 (j := 0) rfl rfl, _, rfl, p3, _, _, _, rfl, rfl, SqT.of h3, at_of2 (j := 1) rfl rfl, _, rfl, p3, _, _, _, rfl, rfl, SqT.of h3, at_of2 (j := 2) rfl rfl, ?_⟩
      refine ⟨_, rfl, _, rfl, p3, _, _, _, rfl, rfl, SqT.of h3, at_of2 (j := 2) rfl rfl, _, _, rfl, rfl, .inl ⟨by decide, by decide⟩, ?_⟩
      refine ⟨a, kk + 4, 2 * g, rfl, Jd, by omega, by omega, fun u1 G1 _ _ K1 C1 => ⟨_, _, rfl, rfl, (by show 4 ≤ sizeLine; decide), fun q1 hq1 => ?_⟩⟩
      have nq1 : a ≠ q1 := K1.ne hq1
      refine ⟨_, rfl, a, kk + 3, 4, rfl, K1.put nq1, by decide, by decide, fun u2 G2 d0 d1 K2 C2 => ?_⟩
      obtain ⟨gap, e2⟩ := at4 (x := x) (y := y) (u := g) (v := 1 + u1) d0 d1
      refine ⟨q1, _, _, _, rfl, rfl, SqL.of (C2 _ _ upd_same nq1.symm), e2, ?_⟩
      have D2 := (C1.new (o := .lst [.int x, .int y, .int g, .int (1 + u1)]) hq1).trans C2
      refine ⟨_, rfl, _, rfl, _, rfl, a, kk + 2, 1 + v3, rfl, K2, by omega, by omega, fun u3 G3 _ _ K3 C3 => ⟨(by show 2 ≤ sizeLine; decide), fun q2 hq2 => ?_⟩⟩
      have nq2 : a ≠ q2 := K3.ne hq2
      refine ⟨_, rfl, a, kk + 1, 3, rfl, K3.put nq2, t3.1, t3.2, fun u4 G4 _ _ K4 C4 => ⟨rfl, .inr ⟨_, rfl, ?_⟩⟩⟩
      obtain ⟨s1, e3⟩ := at2b (x := sp) (y := u3) (decide (V.int u4 = V.int 0))
      refine ⟨q2, _, _, _, rfl, rfl, SqL.of (C4 _ _ upd_same nq2.symm), e3, ?_⟩
      refine ⟨_, rfl, _, rfl, a, kk, 3, rfl, K4, t3.1, t3.2, fun u5 G5 _ _ K5 C5 => ⟨_, _, rfl, rfl, _, _, rfl, rfl, _, _, rfl, _, _, rfl, rfl, ?_⟩⟩
      have D5 := (((D2.trans C3).new (o := .lst [.int sp, .int u3]) hq2).trans C4).trans C5
      have hL5 : IL G5 l sps := D5 _ _ hL nla.symm
      have hp5 := D5 _ _ h3 npa
      refine ⟨_, rfl, .inl ⟨rfl, _, SqL.of hL5⟩, _, rfl, l, _, _, rfl, rfl, hL5, by rw [List.length_map]; exact small1000 (by omega), ?_⟩
      refine ⟨_, _, _, _, _, sps ++ [s1 + (if gap + u5 - 1 > 0 then gap + u5 - 1 else 0)], rfl, K5.put nla, (B'.trans D5).put nl, by rw [upd_ne npl]; exact hp5, ?_, by rw [List.length_append, hlen]; rfl⟩
      show upd _ _ _ l = _
      rw [upd_same, ints_app]
    · rintro σ H' ⟨sp, v6, v7, v8, v9, sps, rfl, J', B', h3, hL, hlen⟩
      have hl16 : sps.length ≤ 16 := by omega
      refine ⟨_, rfl, l, sps, rfl, SqL.of hL, by omega, fun ps c hc hps => ⟨ps, _, _, rfl, upd_same, by omega, fun ns2 ps2 asc mem len hps2 => ⟨ps2, rfl, ⟨_, SqL.of upd_same⟩, fun D hD => ?_⟩⟩⟩
      have S2 := same_new (o := .lst (ns2.map V.int)) (same_new (o := SetO w ps (fun j => decide (j ∈ sps)) c) (Same.refl H') hps) hps2
      have hN2 : IL (upd (upd H' ps (SetO w ps (fun j => decide (j ∈ sps)) c)) ps2 (.lst (ns2.map V.int))) ps2 ns2 := upd_same
      have n2D : ps2 ≠ D := ne_of_none hN2 hD
      have nD' : H' D = none := S2.free hD
      refine lc_list (K := K) (a := ps2) (xs := ns2.map V.int) (fun i H2 => Same H' H2 ∧ IL H2 ps2 ns2 ∧ IL H2 D ((ns2.take i).filter (fun x => decide (0 < x) && decide (x < 1 + v3)))) ⟨same_new S2 hD, by show upd _ _ _ ps2 = _; rw [upd_ne n2D]; exact hN2, upd_same⟩ (fun i H2 _ z => SqL.of z.2.1) ?_ ?_
      · rintro i x' H2 hx ⟨s1, hP, hE⟩
        obtain ⟨z, rfl, hz⟩ := il_at hx
        have hil : i < ns2.length := (List.getElem?_eq_some_iff.mp hz).1
        have tf := take_fil hz (fun x => decide (0 < x) && decide (x < 1 + v3))
        have sm : (List.map V.int ((ns2.take i).filter (fun x => decide (0 < x) && decide (x < 1 + v3)))).length < sizeLine := by
          rw [List.length_map]
          have z1 := List.length_filter_le (fun x => decide (0 < x) && decide (x < 1 + v3)) (ns2.take i)
          rw [List.length_take] at z1
          exact small1000 (by omega)
        refine ⟨rfl, ?_⟩
        refine ⟨_, rfl, _, _, rfl, rfl, _, rfl, ?_⟩
        by_cases c1 : 0 < z
        · refine ifT (decide_eq_true c1) ?_
          refine ⟨_, rfl, _, _, rfl, rfl, _, rfl, ?_⟩
          by_cases c2 : z < 1 + v3
          · refine ifT (decide_eq_true c2) ?_
            refine ⟨_, rfl, _, hE, sm, same_put s1 nD', by show upd _ _ _ ps2 = _; rw [upd_ne n2D]; exact hP, ?_⟩
            show upd _ _ _ D = _
            rw [upd_same, ints_app, tf]
            simp [c1, c2]
          · refine ifF (decide_eq_false c2) ?_
            refine ⟨s1, hP, ?_⟩
            show H2 D = _
            rw [hE, tf]
            simp [c2]
        · refine ifF (decide_eq_false c1) ?_
          refine ⟨_, rfl, ?_⟩
          refine ifF rfl ?_
          refine ⟨s1, hP, ?_⟩
          show H2 D = _
          rw [hE, tf]
          simp [c1]
      · rintro H2 ⟨s1, hP, hE⟩
        rw [List.length_map, List.take_length] at hE
        generalize hins : ns2.filter (fun x => decide (0 < x) && decide (x < 1 + v3)) = ins at hE
        have iasc : Asc ins := by
          rw [← hins]
          exact asc.filter _
        have ilen : ins.length ≤ 16 := by
          have z1 := List.length_filter_le (fun x => decide (0 < x) && decide (x < 1 + v3)) ns2
          rw [hins] at z1
          omega
        have irng : ∀ x ∈ ins, 0 < x ∧ x < 1 + v3 := fun x hx => by
          rw [← hins] at hx
          have z1 := (List.mem_filter.mp hx).2
          simpa using z1
        have JD : JarAt H2 a (k + 20) := (J'.same s1).mono (by omega)
        have BD : But H H2 a := B'.trans (But.of s1)
        have nDa : D ≠ a := fun e => (J'.ne nD') e.symm
        refine ⟨_, rfl, _, rfl, D, rfl, ⟨_, SqL.of hE⟩, fun D2 hD2 => ?_⟩
        have nDD : D ≠ D2 := ne_of_none hE hD2
        have naD2 : a ≠ D2 := JD.ne hD2
        have nD2 : H D2 = none := none_but JD BD hD2
        refine lc_list (K := K) (a := D) (xs := ins.map V.int) (fun i H3 => ∃ (ts : List Addr) (prs : List (Int × Int)), JarAt H3 a (k + (20 - i)) ∧ But H2 H3 a ∧ IL H3 D ins ∧ H3 D2 = some (.lst (ts.map V.ref)) ∧ PrAt H3 ts prs ∧ prs.map (·.1) = ins.take i ∧ ∀ q ∈ prs, q.2 = 1 ∨ q.2 = 2)
          ⟨[], [], JD.put naD2, (But.refl H2 a).new hD2, by show upd _ _ _ D = _; rw [upd_ne nDD]; exact hE, upd_same, .nil, rfl, fun _ h => (nomatch h)⟩ (fun i H3 _ ⟨ts, prs, z⟩ => SqL.of z.2.2.1) ?_ ?_
        · rintro i x' H3 hx ⟨ts, prs, K1, C1, hF, hG, hPr, hfst, hk⟩
          obtain ⟨z, rfl, hz⟩ := il_at hx
          have hil : i < ins.length := (List.getElem?_eq_some_iff.mp hz).1
          have Kd : JarAt H3 a (k + (20 - (i + 1)) + 1) := K1.mono (by omega)
          refine ⟨rfl, ?_⟩
          unfold tYes
          refine iteT ?_
          refine ⟨_, rfl, _, rfl, a, _, 2, rfl, Kd, by decide, by decide, fun u G u0 u1 K2 C2 => ⟨_, _, rfl, rfl, (by show 2 ≤ sizeLine; decide), fun t ht => ?_⟩⟩
          have hG2 := C2 _ _ hG naD2.symm
          have hF2 := C2 _ _ hF nDa
          have hP2 : PrAt G ts prs := hPr.imp fun t p h => C2 _ _ h (K1.no h (fun _ _ _ y => nomatch y))
          have ntD2 : D2 ≠ t := ne_of_none hG2 ht
          have hts : ts.length = i := by
            rw [hPr.len, ← List.length_map (f := (·.1)), hfst, List.length_take]
            omega
          refine ⟨_, (by rw [upd_ne ntD2]; exact hG2), by rw [List.length_map]; exact small1000 (by omega), ts ++ [t], prs ++ [(z, 1 + u)], (K2.put (K2.ne ht)).put naD2, ((C1.trans C2).new ht).put hD2, ?_, ?_, ?_, ?_, ?_⟩
          · show upd _ _ _ D = _
            rw [upd_ne nDD, upd_ne (ne_of_none hF2 ht)]
            exact hF2
          · rw [upd_same, List.map_append]
            rfl
          · refine PrAt.app (hP2.imp fun v p h => ?_) (.cons ?_ .nil)
            · rw [upd_ne (ne_of h hG2 (by intro y; cases y)), upd_ne (ne_of_none h ht)]
              exact h
            · rw [upd_ne (Ne.symm ntD2)]
              exact upd_same
          · rw [List.map_append, hfst, List.take_add_one, hz]
            rfl
          · intro q hq
            rcases List.mem_append.mp hq with hq | hq
            · exact hk q hq
            · rw [List.mem_singleton.mp hq]
              show 1 + u = 1 ∨ 1 + u = 2
              omega
        · rintro H3 ⟨ts, prs, K1, C1, hF, hG, hPr, hfst, hk⟩
          rw [List.length_map, List.take_length] at hfst
          have pl : prs.length = ins.length := by rw [← hfst, List.length_map]
          refine ⟨_, rfl, (by show 3 ≤ sizeLine; decide), fun r hr' => ?_⟩
          have s3 : Same H3 (upd H3 r (.tup [.int (1 + v3), .ref D2, .ref p3])) := same_new (Same.refl H3) hr'
          have hp6 := C1 _ _ (s1 _ _ h3) npa
          refine q r _ (1 + v3) x y g prs ⟨by omega, by omega, fun y hy => ?_, by rw [hfst]; exact iasc⟩ (by omega) ⟨D2, p3, ts, upd_same, s3 _ _ hG, hPr.imp fun t y h => s3 _ _ h, s3 _ _ hp6⟩ ⟨hx1, hy1, hg1⟩ (by omega) (by omega) ((K1.mono (by omega)).put (K1.ne hr')) ((BD.trans C1).new hr')
          have z1 := irng y.1 (by rw [← hfst]; exact List.mem_map.mpr ⟨y, hy, rfl⟩)
          exact ⟨by omega, by omega, hk y hy⟩
end
end Cw
namespace Cw
open PySem L2
/-! ## walks beside one another -/
theorem kc_add {F : Int → Int} {n s : Int} {i : Nat} : ∀ k : Nat, kc F n s (i + k) = kc F n (kc F n s i) k
  | 0 => rfl
  | k + 1 => by
    have h := kc_add (F := F) (n := n) (s := s) (i := i) k
    show (if kc F n s (i + k) < n then F (kc F n s (i + k)) else kc F n s (i + k)) = (if kc F n (kc F n s i) k < n then F (kc F n (kc F n s i) k) else kc F n (kc F n s i) k)
    rw [h]
theorem WkOk.from {F : Int → Int} {n s : Int} {m i : Nat} (w : WkOk F n s m) (h : i ≤ m) : WkOk F n (kc F n s i) (m - i) := by
  refine ⟨by have := w.few; omega, ?_, fun k hk => ?_⟩
  · rw [← kc_add, Nat.add_sub_cancel' h]
    exact w.fin
  · rw [← kc_add]
    exact w.bef _ (by omega)
theorem WkOk.one {F : Int → Int} {n s : Int} {m k : Nat} (w : WkOk F n s m) (u : WkOk F n s k) : m = k := by
  rcases Nat.lt_trichotomy m k with h | h | h
  · have := u.bef _ h
    have := w.fin
    omega
  · exact h
  · have := w.bef _ h
    have := u.fin
    omega
theorem WkOk.later {F : Int → Int} {n s : Int} {m k : Nat} (w : WkOk F n s m) (h : m ≤ k) : kc F n s k = n := by
  have z := kc_end (F := F) (n := n) (s := s) (m := m) (by rw [w.fin]; omega) (k - m)
  rw [Nat.add_sub_cancel' h, w.fin] at z
  exact z
theorem fil_ge {F : Int → Int} {n l a v : Int} {m i : Nat} (S : Stp F n l) (w : WkOk F n a m) (hi : i ≤ m) (hv : kc F n a i = v) : (wl F n a m).filter (fun c => decide (c ≥ v)) = wl F n v (m - i) := by
  have e : m + 1 = i + (m - i + 1) := by omega
  unfold wl
  rw [e, List.range_add, List.map_append, List.filter_append, List.map_map]
  have z1 : ((List.range i).map (kc F n a)).filter (fun c => decide (c ≥ v)) = [] := List.filter_eq_nil_iff.mpr fun x hx => by
    obtain ⟨k, hk, rfl⟩ := List.mem_map.mp hx
    rw [List.mem_range] at hk
    have := kc_lt S w hk hi
    simp only [decide_eq_true_eq]
    omega
  have z2 : ((List.range (m - i + 1)).map (kc F n a ∘ (i + ·))).filter (fun c => decide (c ≥ v)) = (List.range (m - i + 1)).map (kc F n a ∘ (i + ·)) := List.filter_eq_self.mpr fun x hx => by
    obtain ⟨k, hk, rfl⟩ := List.mem_map.mp hx
    have := kc_wk S (s := a) (show i ≤ i + k by omega)
    refine decide_eq_true ?_
    show kc F n a (i + k) ≥ v
    omega
  rw [z1, z2, List.nil_append]
  refine List.map_congr_left fun k _ => ?_
  show kc F n a (i + k) = kc F n v k
  rw [kc_add, hv]
theorem mt_same {F : Int → Int} {n l a b v : Int} {m k : Nat} (S : Stp F n l) (M : Mt F n a b v) (w : WkOk F n a m) (u : WkOk F n b k) : (wl F n a m).filter (fun c => decide (c ≥ v)) = (wl F n b k).filter (fun c => decide (c ≥ v)) := by
  obtain ⟨i, j, e1, e2, na, nb⟩ := M
  have hi : i ≤ m := by
    by_cases c : i ≤ m
    · exact c
    · exact absurd (w.fin.trans u.fin.symm) (na m (by omega) k)
  have hj : j ≤ k := by
    by_cases c : j ≤ k
    · exact c
    · exact absurd (u.fin.trans w.fin.symm) (nb k (by omega) m)
  have w' := w.from hi
  have u' := u.from hj
  rw [e1] at w'
  rw [e2] at u'
  rw [fil_ge S w hi e1, fil_ge S u hj e2, w'.one u']
theorem mt_none {F : Int → Int} {n l a b v : Int} {m k : Nat} (S : Stp F n l) (M : Mt F n a b v) : (wl F n a m).filter (fun c => decide (c < v) && decide (c ∈ wl F n b k)) = [] := by
  obtain ⟨i, j, e1, e2, na, nb⟩ := M
  refine List.filter_eq_nil_iff.mpr fun x hx => ?_
  obtain ⟨i', _, rfl⟩ := kc_mem.mp hx
  simp only [Bool.and_eq_true, decide_eq_true_eq]
  rintro ⟨h1, h2⟩
  obtain ⟨j', _, e⟩ := kc_mem.mp h2
  by_cases c : i' < i
  · exact na i' c j' e.symm
  · have := kc_wk S (s := a) (show i ≤ i' by omega)
    omega
theorem turns {F : Int → Int} {n l a b : Int} (S : Stp F n l) (ab : a ≤ b) (bn : b ≤ n) (bF : b ≤ kc F n a 1) : ∀ k, kc F n a k ≤ kc F n b k ∧ kc F n b k ≤ kc F n a (k + 1)
  | 0 => ⟨ab, bF⟩
  | k + 1 => by
    obtain ⟨h1, h2⟩ := turns S ab bn bF k
    have st : ∀ p q, p ≤ q → q ≤ n → (if p < n then F p else p) ≤ (if q < n then F q else q) := fun p q h hq => by
      by_cases c : q < n
      · rw [if_pos c, if_pos (by omega)]
        exact S.mono _ _ h
      · rw [if_neg c]
        by_cases d : p < n
        · rw [if_pos d]
          have := S.le p
          omega
        · rw [if_neg d]
          exact h
    exact ⟨st _ _ h1 (kc_le S bn k), st _ _ h2 (kc_le S (by omega) (k + 1))⟩
/-- the number of cuts before z is the first index that is not -/
theorem cb_wl {F : Int → Int} {n l s z : Int} {m : Nat} (S : Stp F n l) (w : WkOk F n s m) (hz : z ≤ n) : z ≤ kc F n s (cb (wl F n s m) z) ∧ (∀ i, i < cb (wl F n s m) z → kc F n s i < z) ∧ cb (wl F n s m) z ≤ m := by
  obtain ⟨h1, h2⟩ := cb_split (wl_asc S w) z
  have g : ∀ i, i ≤ m → (wl F n s m)[i]? = some (kc F n s i) := fun i hi => by
    unfold wl
    rw [List.getElem?_map, List.getElem?_range (by omega)]
    rfl
  have c : cb (wl F n s m) z ≤ m := by
    by_cases c : cb (wl F n s m) z ≤ m
    · exact c
    · have := h1 m (by omega) _ (g m (Nat.le_refl _))
      have := w.fin
      omega
  exact ⟨h2 _ (Nat.le_refl _) _ (g _ c), fun i hi => h1 i hi _ (g i (by omega)), c⟩
theorem last_up {F : Int → Int} {n a b : Int} (ab : a ≤ b) : ∀ m, (∃ i, kc F n a i ≤ b ∧ b ≤ kc F n a (i + 1)) ∨ kc F n a m ≤ b
  | 0 => .inr ab
  | m + 1 => by
    rcases last_up ab m with h | h
    · exact .inl h
    · by_cases c : kc F n a (m + 1) ≤ b
      · exact .inr c
      · exact .inl ⟨m, h, by omega⟩
/-- how the numbers of cuts before a place differ, behind both starts -/
theorem cb_near {F : Int → Int} {n l a b : Int} {m k : Nat} (S : Stp F n l) (w : WkOk F n a m) (u : WkOk F n b k) (ab : a ≤ b) (bn : b < n) :
    ∃ i, ∀ z, b ≤ z → z ≤ n → i + cb (wl F n b k) z ≤ cb (wl F n a m) z ∧ cb (wl F n a m) z ≤ i + cb (wl F n b k) z + 1 := by
  obtain ⟨i, h1, h2⟩ : ∃ i, kc F n a i ≤ b ∧ b ≤ kc F n a (i + 1) := by
    rcases last_up (F := F) (n := n) ab m with h | h
    · exact h
    · have := w.fin
      omega
  refine ⟨i, fun z bz zn => ?_⟩
  have tn := turns S h1 (by omega) (by rw [← kc_add]; exact h2)
  obtain ⟨a1, a2, a3⟩ := cb_wl S w zn
  obtain ⟨b1, b2, b3⟩ := cb_wl S u zn
  generalize cb (wl F n a m) z = A at a1 a2 a3 ⊢
  generalize cb (wl F n b k) z = B at b1 b2 b3 ⊢
  constructor
  · by_cases c : i ≤ A
    · have t := (tn (A - i)).1
      rw [← kc_add, Nat.add_sub_cancel' c] at t
      by_cases d : A - i < B
      · have := b2 _ d
        omega
      · omega
    · exfalso
      have e1 := kc_wk S (s := a) (show A ≤ i by omega)
      have c1 : kc F n a A < n := by omega
      have e2 := S.gt c1
      rw [← kc_at c1] at e2
      have e3 := kc_wk S (s := a) (show A + 1 ≤ i by omega)
      omega
  · by_cases d : i + B + 1 < A
    · have t := (tn B).2
      have e := kc_add (F := F) (n := n) (s := a) (i := i) (B + 1)
      rw [← e] at t
      have := a2 (i + (B + 1)) (by omega)
      omega
    · omega
end Cw
namespace Cw
open PySem PySem.Spec PyProof.Rows L2
/-! ## defs of which it is known that no list's text is being made around them -/
structure FnG (P : Program) (w : World) (K : PySem.W.Frag) (mg : Str → Option Value) (base : Heap) (k : Nat) (f : Addr) (fd : FuncData) (ps : List Str) (sp : Sp) : Prop where
  len : ∀ vs H Q E, sp vs H Q E → vs.length = ps.length
  run : ∀ (A : Around) (outer : List Env) (s : Shared) (H : Hp) (args : Args) (us : List Value) (vs : List V) (Q : VK) (E : XK), Room k A → A.guards = some [] → Env0 P w K mg base A outer s H → BindsTo s fd args (ps.zip us) → Vals vs us → sp vs H Q E →
    codeAny (model P w) A (.call (.ref f) args) (CR CX0 outer P w H s Q E) s
theorem FnG.of {P : Program} {w : World} {K : PySem.W.Frag} {mg : Str → Option Value} {base : Heap} {k : Nat} {f : Addr} {fd : FuncData} {ps : List Str} {sp : Sp} (F : FnOk P w K mg base CX0 k f fd ps sp) : FnG P w K mg base k f fd ps sp :=
  ⟨F.len, fun A outer s H args us vs Q E hr _ => F.run A outer s H args us vs Q E hr⟩
section
variable {P : Program} {w : World} {K : PySem.W.Frag} {mg : Str → Option Value} {base : Heap}
theorem okG {x qual : Str} {st : Stmt} {f : Addr} {fd : FuncData} {N ps : List Str} {k : Nat} {sp : Sp} (F : Fun K x qual st f fd) (S : FnScope N ps (defScope st)) (len : ∀ vs H Q E, sp vs H Q E → vs.length = ps.length)
    (body : ∀ (cdv : Value) (A : Around) (outer : List Env) (s : Shared) (H : Hp) (vs : List V) (Q : VK) (E : XK), Room k (A.deeper (envOfC qual (defScope st) s.heap.objs.size f cdv)) → A.guards = some [] → sp vs H Q E →
      ∃ t, PSs (cxOf CX0 P w K mg base N qual (defScope st) f cdv A outer s H E).nox (defBody st) t ∧ t { nx := fun _ H' => Q .non H', rt := Q } (start N vs) H) : FnG P w K mg base (k + 1) f fd ps sp := by
  obtain ⟨oc, od, kV, doc, pm, an, cdv, ct, osl, rfl, look, hcd⟩ := F.ex
  refine ⟨len, fun A outer s H args us vs Q E room gu env bind rel prom => ?_⟩
  have here : K.In s.heap := env.mod.kin.keeps fun b o e => (env.bs b o e).1
  have free : s.heap.NoLimit := env.mod.nolimit.keeps fun b o e => (env.bs b o e).1
  have kinds : ∀ y ∈ ps.zip us, (defScope st).names.lookup y.1 = some .local ∨ ((defScope st).names.lookup y.1 = some .cell ∧ ((cellsFrom (s.heap.objs.size + 1) (defScope st).names []).lookup y.1).isSome = true) := fun y hy =>
    (S.par y.1 (List.of_mem_zip (show (y.1, y.2) ∈ ps.zip us from hy)).1).imp id fun z => ⟨z, PySem.W.cellsFrom_some _ _ _ (.inl z)⟩
  refine codeAny_call_function room.depth (here _ _ look) rfl S.co S.gen rfl (PySem.W.codeRec_of here hcd) (bind _ _ _ _ (wpAny_newFunctionEnv_cells S.kind kinds fun e he s1 ic => ?_))
  subst he
  obtain ⟨t, ht, hq⟩ := body cdv A outer s H vs Q E (room.deeper _) gu prom
  refine ⟨free.keeps ic.toInCall.keep, codeAny_func (wpAny_mono (ht.nox.run [] s1 (start N vs) H _ (inv_start S room.hd env (len _ _ _ _ prom) rel ic) hq) (fun fl s2 z => ?_) fun _ _ z => z)⟩
  cases fl with
  | ret u =>
    obtain ⟨v, _, H2, J, rv, qq⟩ := z
    exact ⟨v, H2, J.os, J.bare, J.base, J.hok, rv, qq⟩
  | next =>
    obtain ⟨_, H2, J, qq⟩ := z
    exact ⟨V.non, H2, J.os, J.bare, J.base, J.hok, rfl, qq⟩
  | brk =>
    obtain ⟨_, _, _, qq⟩ := z
    exact qq.elim
  | cont =>
    obtain ⟨_, _, _, qq⟩ := z
    exact qq.elim
end
section
variable {X : Cx} {k : Nat} {f : Addr} {fd : FuncData} {ps : List Str} {sp : Sp} {x : Str} {p pos : Pos} {e : Expr} {es : List Expr} {t : TA}
/-- a call of such a def where no list's text is being made -/
theorem pe_callG (F : FnG X.prog X.w X.K X.mg X.base k f fd ps sp) (room : Room k X.A) (gu : X.A.guards = some []) (gl : Gl X x) (hm : X.mg x = some (.ref f)) (kp : PySem.W.keepIn X.K (.ref f) = true) (bi : Binds X.K fd ps [])
    (ha : PA X (e :: es) t) (hdb : (x == ("__debug__" : Str)) = false := by decide) (he : starEach (e :: es) X.env = (false, eval e X.env) :: starEach es X.env := by rfl) (hpl : (backTo pos (starEach es X.env)).any (·.1) = false := by rfl) :
    PE X (.Call (.Name x p) (e :: es) [] pos) (tCall sp [] E0 t) := by
  refine ⟨fun pins s σ H Q I h => wpAny_Call_Name_kw (ld_glob I gl hm (PySem.W.callWith_K (h₀ := X.base) I.ok.mod.kin kp (thn (ha.run pos pins s σ H _ I h) fun us s1 ⟨vs, H1, I1, r, q⟩ => ⟨I1.kIn, ?_⟩) he hpl) hdb)⟩
  have q' : sp vs H1 Q E0 := by
    have z : sp (vs ++ []) H1 Q E0 := q
    rw [List.append_nil] at z
    exact z
  have many : us.length = ps.length := by rw [← r.length]; exact F.len _ _ _ _ q'
  refine wpAny_call (codeAny_mono (F.run X.A X.stack s1 H1 ⟨us, []⟩ us vs Q E0 room gu I1.env0 (by have z := bi s1 us I1.kIn (by rw [List.append_nil]; exact many); rw [List.append_nil] at z; exact z) r q') fun res s2 z => ?_)
  cases res with
  | error er => exact z.elim
  | ok fl =>
    cases fl with
    | ret u => exact I1.after z
    | next => exact z.elim
    | brk => exact z.elim
    | cont => exact z.elim
/-- repr of data: none of its lists is being shown around here -/
def rReprD (K : PySem.W.Frag) : List V → Hp → VK → Prop := fun xs H Q => ∃ a d, xs = [V.ref a] ∧ Dp K H (.ref a) d ∧ d.showable = true ∧ d.hasDict = false ∧ d.depth ≤ 60 ∧ d.shown.length ≤ sizeLine ∧ Q (.str d.shown) H
theorem call_reprD (gu : X.A.guards = some []) (hu : X.A.units + 64 < cLine) : CallR X (.builtin "repr") (rReprD X.K) := by
  intro pins s σ H xs us Q I r h
  obtain ⟨a, d, rfl, hd, sh, nd, dp, sz, q⟩ := h
  obtain ⟨u, rfl, rx⟩ := vals1 r
  obtain rfl : u = Value.ref a := rx
  obtain ⟨as, rd⟩ := Dp.reads I d (.ref a) (.ref a) hd rfl
  exact repr_of_reads' rd sh (fun z => by rw [nd] at z; cases z) gu (by omega) (fun _ _ e => e) (fun h' u tk keep => ⟨.str d.shown, H, I.kept keep, ⟨_, rfl⟩, q⟩) sz
end
end Cw
namespace Cw
open PySem PySem.Spec PyProof.Rows L2
/-- the law's call, its def being one of FnG; H tracks at most the script -/
theorem startG {P : Program} {w : World} {K : PySem.W.Frag} {mg mb : Str → Option Value} {k : Nat} {fa a : Addr} {fd : FuncData} {x : Str} {sp : Sp} {s1 : Shared} {vs : List Value} {ns : List Int}
    (kin : K.In s1.heap) (glob : s1.heap.Ns mainGlobals mg) (bns : s1.heap.Ns builtinsNs mb) (boot : ∀ y : Str, y ≠ "__name__" → mb y = bootBuiltins y) (lim : s1.heap.NoLimit) (gens : s1.gens = #[])
    (scr : s1.heap.get? a = some { cls := .type "list", data := .seq vs.toArray }) (room : Room k callerA)
    (F : ∀ base : Heap, K.In base → base.Ns mainGlobals mg → FnG P w K mg base k fa fd [x] sp) (bind : ∀ (s : Shared) (u : Value), BindsTo s fd ⟨[u], []⟩ [(x, u)])
    (H : Hp) (only : Only H) (prom : sp [.ref a] H (fun v _ => v = .bl true) E0) (hok : HOk P w H s1.heap) (at_ : ∀ b, H b ≠ none → b = a) (off : H a ≠ none → K.lookup a = none) :
    codeAny (model P w) callerA (.call (.ref fa) ⟨[.ref a], []⟩) (fun r s' => r = .ok (.ret (.bool true)) ∧ OldK s1.heap s'.heap ∧ s'.os = s1.os ∧ AllBare s'.gens) s1 := by
  have none_at : ∀ {b : Addr}, b ≠ a → H b = none := fun {b} nb => by
    cases z : H b with
    | none => rfl
    | some o => exact absurd (at_ b (by rw [z]; exact fun y => nomatch y)) nb
  have dicts : ∀ {b : Addr} {m : Str → Option Value}, s1.heap.Ns b m → (hidT s1.heap H).Ns b m := fun {b m} ⟨o, es, ep, e, d, r⟩ => by
    refine ⟨o, es, ep, hidT_get e (none_at fun z => ?_), d, r⟩
    rw [z, scr] at e
    cases e
    exact nomatch (show Data.seq vs.toArray _ = Data.dict es ep from d)
  have kin2 : K.In (hidT s1.heap H) := fun b o e => by
    refine hidT_get (kin b o e) ?_
    by_cases nb : b = a
    · subst nb
      cases z : H b with
      | none => rfl
      | some y =>
        rw [off (by rw [z]; exact fun y => nomatch y)] at e
        cases e
    · exact none_at nb
  obtain ⟨mc, lm1, lm2⟩ := lim
  have e0 : Env0 P w K mg (hidT s1.heap H) callerA [] s1 H := ⟨rfl, ⟨kin2, dicts glob, ⟨mb, dicts bns, boot⟩, ⟨mc, dicts lm1, lm2⟩⟩, fun _ _ e => of_hidT e, Nat.le_of_eq (hidT_size _ _), trivial, fun b hb => (List.not_mem_nil hb).elim, hok, .of_eq gens⟩
  refine codeAny_mono ((F _ kin2 (dicts glob)).run callerA [] s1 H ⟨[.ref a], []⟩ [.ref a] [.ref a] _ E0 room rfl e0 (bind s1 (.ref a)) (.cons rfl .nil) prom) fun res s2 z => ?_
  cases res with
  | error er => exact z.elim
  | ok fl =>
    cases fl with
    | next => exact z.elim
    | brk => exact z.elim
    | cont => exact z.elim
    | ret u =>
      obtain ⟨v, H2, os, bare, un, hok2, rel, q⟩ := z
      have qv : v = .bl true := q
      subst qv
      obtain rfl : u = Value.bool true := rel
      refine ⟨rfl, OldK.of_keep fun b o e => ?_, os, bare⟩
      rcases only b with nb | ⟨ob, xs, fz⟩
      · exact un.keep b o e nb (fun y => (List.not_mem_nil y).elim) (fun y => (List.not_mem_nil y).elim)
      · obtain ⟨h1, _⟩ := hok b _ fz
        obtain ⟨h2, _⟩ := hok2 b _ (un.frzs b ob _ fz)
        rw [e] at h1
        cases h1
        exact h2
theorem callG {P : Program} {w : World} {K : PySem.W.Frag} {mg mb : Str → Option Value} {k : Nat} {fa a : Addr} {fd : FuncData} {x : Str} {sp : Sp} {s1 : Shared} {vs : List Value} {ns : List Int}
    (kin : K.In s1.heap) (glob : s1.heap.Ns mainGlobals mg) (bns : s1.heap.Ns builtinsNs mb) (boot : ∀ y : Str, y ≠ "__name__" → mb y = bootBuiltins y) (lim : s1.heap.NoLimit) (gens : s1.gens = #[])
    (scr : s1.heap.get? a = some { cls := .type "list", data := .seq vs.toArray }) (nts : IntsAre vs ns) (few : ns.length ≤ sizeLine) (room : Room k callerA)
    (F : ∀ base : Heap, K.In base → base.Ns mainGlobals mg → FnG P w K mg base k fa fd [x] sp) (bind : ∀ (s : Shared) (u : Value), BindsTo s fd ⟨[u], []⟩ [(x, u)])
    (prom : ∀ H : Hp, Only H → SqL K H a (ns.map V.int) → sp [.ref a] H (fun v _ => v = .bl true) E0) :
    codeAny (model P w) callerA (.call (.ref fa) ⟨[.ref a], []⟩) (fun r s' => r = .ok (.ret (.bool true)) ∧ OldK s1.heap s'.heap ∧ s'.os = s1.os ∧ AllBare s'.gens) s1 := by
  have rel := vals_ints nts
  have many : vs.length = ns.length := nts.length
  cases hk : K.lookup a with
  | some o =>
    have e := kin a o hk
    rw [scr] at e
    cases e
    have on : Only fun _ => none := fun _ => .inl rfl
    exact startG (ns := ns) kin glob bns boot lim gens scr room F bind (fun _ => none) on (prom _ on (.inr ⟨_, vs.toArray, _, hk, rfl, rfl, rfl, by rw [List.size_toArray, many]; exact few, by simpa using rel⟩)) (fun _ _ z => nomatch z) (fun _ z => (z rfl).elim) fun z => (z rfl).elim
  | none =>
    obtain ⟨H, hH⟩ : ∃ H : Hp, H = fun b => if b = a then some (.frz { cls := .type "list", data := .seq vs.toArray } (.lst (ns.map V.int))) else none := ⟨_, rfl⟩
    have atA : H a = some (.frz { cls := .type "list", data := .seq vs.toArray } (.lst (ns.map V.int))) := by rw [hH]; exact if_pos rfl
    have els : ∀ b, b ≠ a → H b = none := fun b nb => by rw [hH]; exact if_neg nb
    have on : Only H := fun b => by
      by_cases nb : b = a
      · exact .inr ⟨_, _, by rw [nb]; exact atA⟩
      · exact .inl (els b nb)
    refine startG (ns := ns) kin glob bns boot lim gens scr room F bind H on (prom H on (.inl (.inr ⟨_, atA⟩))) (fun b u z => ?_) (fun b z => ?_) fun _ => hk
    · by_cases nb : b = a
      · subst nb
        rw [atA] at z
        cases z
        exact ⟨scr, by rw [List.length_map]; exact few, vs, _, rel, scr⟩
      · rw [els b nb] at z
        cases z
    · by_cases nb : b = a
      · exact nb
      · exact (z (els b nb)).elim
/-- the walk of a law whose def is one of FnG -/
theorem walkG {l : PySem.W.OpenLaw} {n k : Nat} {q : Program} {loose : List Str} {XP : (Str → Option Value) → Heap → Prop} {YP : World → Heap → Prop} {d : DefRec} {K : Params → PySem.W.Frag} {sp : World → Sp} {x : Str}
    (most : l.most = some n) (n2 : n ≤ sizeLine) (dfl : d.params.defaults = []) (room : Room k callerA) (hY : ∀ (w : World) (h : Heap), YP w h → (K w.params).In h)
    (F : ∀ (w : World) (mg : Str → Option Value) (fa : Addr) (h : Heap), (K w.params).In h → h.Ns mainGlobals mg → mg d.name = some (.ref fa) →
      ∃ fd : FuncData, (∀ (s : Shared) (u : Value), BindsTo s fd ⟨[u], []⟩ [(x, u)]) ∧ ∀ base : Heap, (K w.params).In base → base.Ns mainGlobals mg → FnG l.prog w (K w.params) mg base k fa fd [x] (sp w))
    (prom : ∀ (w : World) (H : Hp) (a : Addr) (ns : List Int), ns.length ≤ n → Only H → SqL (K w.params) H a (ns.map V.int) → sp w [.ref a] H (fun v _ => v = .bl true) E0) :
    PySem.W.WalkO q loose XP YP l.row.toRowW d [] (fun f vs => PySem.call f vs) := by
  refine Att.attach_call most dfl fun w s0 s1 mg mb fa o pm cd doc a vs ns G Y ho hd hcd hmg scr nts few gens => ?_
  have kin := hY w _ Y
  obtain ⟨fd, bi, FF⟩ := F w mg fa _ kin G.T.g hmg
  exact callG kin G.T.g G.T.b G.T.builtins G.T.nolimit gens scr nts (Nat.le_trans few n2) room FF bi fun H on hs => prom w H a ns few on hs
end Cw
namespace Cw
open PySem L2
def RowOff (C : Addr) (H : Hp) (a p : Addr) (n : Int) (ms ss : List Int) : Prop := ∃ dx l1 l2, H p = some (.ins C dx (flds n l1 l2)) ∧ IL H l1 ms ∧ IL H l2 ss ∧ l1 ≠ a ∧ l2 ≠ a
theorem RowNew.off {C : Addr} {H H' : Hp} {p a : Addr} {k : Nat} {n : Int} {ms ss : List Int} (r : RowNew C H H' p n ms ss) (J : JarAt H a k) : RowOff C H' a p n ms ss := by
  obtain ⟨dx, l1, l2, h1, h2, h3, n1, n2⟩ := r
  exact ⟨dx, l1, l2, h1, h2, h3, (J.ne n1).symm, (J.ne n2).symm⟩
theorem RowOff.at {C : Addr} {H : Hp} {p a : Addr} {n : Int} {ms ss : List Int} (r : RowOff C H a p n ms ss) : RowAt C H p n ms ss := by
  obtain ⟨dx, l1, l2, h1, h2, h3, _⟩ := r
  exact ⟨dx, l1, l2, h1, h2, h3⟩
theorem RowOff.but {C : Addr} {H H' : Hp} {p a : Addr} {k : Nat} {n : Int} {ms ss : List Int} (r : RowOff C H a p n ms ss) (J : JarAt H a k) (B : But H H' a) : RowOff C H' a p n ms ss := by
  obtain ⟨dx, l1, l2, h1, h2, h3, n1, n2⟩ := r
  exact ⟨dx, l1, l2, B _ _ h1 (J.no h1 fun _ _ _ z => nomatch z), B _ _ h2 n1, B _ _ h3 n2, n1, n2⟩
/-- a row and settings that stay while the jar is drawn from -/
structure RwO (C : Addr) (H : Hp) (a r t : Addr) (n l m g : Int) (ms ss : List Int) : Prop where
  row : RowOff C H a r n ms ss
  tup : H t = some (.tup [.int l, .int m, .int g])
  good : Good n ms ss
  set : SetOk l m g
  big : n ≤ 200 * l
theorem RwO.rws {C : Addr} {H : Hp} {a r t : Addr} {n l m g : Int} {ms ss : List Int} (R : RwO C H a r t n l m g ms ss) : RwS C H r t n l m g ms ss := ⟨R.row.at, R.tup, R.good, R.set, R.big⟩
theorem RwO.but {C : Addr} {H H' : Hp} {a r t : Addr} {k : Nat} {n l m g : Int} {ms ss : List Int} (R : RwO C H a r t n l m g ms ss) (J : JarAt H a k) (B : But H H' a) : RwO C H' a r t n l m g ms ss :=
  ⟨R.row.but J B, B _ _ R.tup (J.no R.tup fun _ _ _ z => nomatch z), R.good, R.set, R.big⟩
theorem inV_il {z : Int} {ns : List Int} : inV (.int z) (ns.map V.int) = decide (z ∈ ns) := by
  unfold inV
  induction ns with
  | nil => rfl
  | cons a r ih =>
    rw [List.map_cons, List.any_cons, ih]
    have e : eqV (.int a) (.int z) = decide (a = z) := by
      by_cases c : a = z
      · subst c; simp [eqV]
      · simp [eqV, c]
    rw [e]
    by_cases c : a = z
    · subst c; simp
    · have c' : ¬ z = a := fun h => c h.symm
      simp [c, c']
theorem flat_il {ns : List Int} : (ns.map V.int).all flatV = true := by
  rw [List.all_map]
  exact List.all_eq_true.mpr fun _ _ => rfl
theorem nx_reach {n l m g p : Int} {ms ss : List Int} : nx n ms ss l m g p ≤ p + g := by
  unfold nx
  omega
/-- a comprehension that takes some whole numbers of a list -/
theorem lc_fil {K : PySem.W.Frag} {a D : Addr} {ns : List Int} {g : TG} {tt : TT} {te : TE} {vs : List Nat} {σ : St} {H1 : Hp} {Qd : Hp → Prop} (f : Int → Bool)
    (ha : IL H1 a ns) (hD : H1 D = none) (few : ns.length ≤ 999)
    (step : ∀ (z : Int) (H : Hp) (A : V → Hp → Prop) (B : Hp → Prop), Same H1 H → (f z = true → A (.int z) H) → (f z = false → B H) →
      g (.int z) (wipe σ vs) H fun σ2 H2 => wipe σ2 vs = wipe σ vs ∧ tt σ2 H2 fun b H3 => if b = true then te σ2 H3 fun y H4 => A y H4 else B H3)
    (fin : ∀ (H : Hp), Same H1 H → IL H D (ns.filter f) → Qd H) :
    ∃ W : Nat → Nat → Hp → Prop, (∃ m, W 0 m (upd H1 D (HO.lst []))) ∧ ∀ (i m : Nat) (H : Hp), W i m H → (Itl K a).stop i H ∧ Qd H ∨ (Itl K a).go i H ∧ ∃ Nx : Hp → Prop, (∀ H', Nx H' → ∃ m', m' < m ∧ W (i + 1) m' H') ∧
      ∀ (x : V) (H' : Hp), (Itl K a).yld i H x H' → g x (wipe σ vs) H' fun σ2 H2 => wipe σ2 vs = wipe σ vs ∧ tt σ2 H2 fun b H3 => if b = true then te σ2 H3 fun y H4 => ∃ acc, H4 D = some (HO.lst acc) ∧ acc.length < sizeLine ∧ Nx (upd H4 D (HO.lst (acc ++ [y]))) else Nx H3 := by
  refine lc_list (K := K) (a := a) (xs := ns.map V.int) (fun i H' => Same H1 H' ∧ IL H' D ((ns.take i).filter f)) ⟨same_new (Same.refl H1) hD, upd_same⟩ (fun i H' _ z => SqL.of (z.1 _ _ ha)) ?_ ?_
  · rintro i x H' hx ⟨s1, hE⟩
    obtain ⟨z, rfl, hz⟩ := il_at hx
    have hil := (List.getElem?_eq_some_iff.mp hz).1
    have tk := take_fil hz f
    have ln : ((ns.take i).filter f).length ≤ 999 := by
      have z1 := List.length_filter_le f (ns.take i)
      rw [List.length_take] at z1
      omega
    refine step z H' _ _ s1 (fun c => ?_) (fun c => ?_)
    · refine ⟨_, hE, by rw [List.length_map]; exact small1000 (by omega), same_put s1 hD, ?_⟩
      show upd _ _ _ D = _
      rw [upd_same, ints_app, tk, if_pos c]
    · refine ⟨s1, ?_⟩
      show H' D = _
      rw [hE, tk, if_neg (by rw [c]; exact Bool.false_ne_true), List.append_nil]
  · rintro H ⟨s1, hE⟩
    rw [List.length_map, List.take_length] at hE
    exact fin H s1 hE
theorem near_at {ks : List Int} {z : Int} (h0 : 0 ≤ z) (h1 : z < (ks.map V.int).length) : ∃ v, atI (ks.map V.int) z = some (V.int v) ∧ v ∈ ks := by
  obtain ⟨v, e, m⟩ := at_lt h0 h1
  obtain ⟨y, hy, rfl⟩ := List.mem_map.mp m
  exact ⟨y, e, hy⟩
theorem refs_no {ts : List Addr} : ∀ r m n : Int, HO.lst (ts.map V.ref) ≠ .lst [.int r, .int m, .int n] := fun r m n z => by
  injection z with z
  cases ts with
  | nil => cases z
  | cons t ts => cases z
theorem same_but {H0 H1 H' : Hp} {p : Addr} (s : Same H0 H1) (n : H0 p = none) (b : But H1 H' p) : Same H0 H' := fun c o e => b c o (s c o e) (ne_of_none e n)
/-- what is said of == of rows -/
structure Eqs (P : Program) (w : World) (K : PySem.W.Frag) (mg : Str → Option Value) (base : Heap) (C fE : Addr) (fdE : FuncData) : Prop where
  ok : FnOk P w K mg base CX0 1 fE fdE ["self", "other"] (spEq (Alike C))
  hm : PySem.W.mroIn K C (.type "object") = some true
  hn : PySem.W.findIn K (.ref C) "__ne__" = some (some (.builtin "object.__ne__"))
  hs : PySem.W.findIn K (.ref C) "__eq__" = some (some (.ref fE))
  hf : PySem.W.isFn K (.ref fE) = true
  hb : Binds K fdE ["self", "other"] []
theorem alike_ins {C : Addr} {H : Hp} {a b : Addr} {n : Int} {ms ss : List Int} (r : RowAt C H a n ms ss) (q : RowAt C H b n ms ss) : DIns C (Alike C) (.ref a) (.ref b) H := by
  obtain ⟨dx, l1, l2, h1, h2, h3⟩ := id r
  obtain ⟨dy, m1, m2, g1, g2, g3⟩ := id q
  exact ⟨a, b, dx, dy, _, _, rfl, rfl, h1, g1, n, ms, ss, r, q⟩
end Cw
namespace Cw
open PySem PySem.Spec PyProof.Rows PySem.SeqAt L2
/-! ## in by an own __contains__, len by an own __len__ -/
section
variable {X : Cx} {n : Nat} {CX : CXT} {C f : Addr} {fd : FuncData} {ps : List Str} {sp : Sp} {E : XK}
def rInOwn (C : Addr) (sp : Sp) (E : XK) : R2 := fun x y H Q => ∃ (a dx : Addr) (fs : List (Str × V)), y = .ref a ∧ H a = some (.ins C dx fs) ∧ sp [.ref a, x] H (fun v H' => ∃ k, v = .bl k ∧ Q (.bl k) H') E
theorem op_inOwn (F : FnOk X.prog X.w X.K X.mg X.base CX n f fd ps sp) (hs : PySem.W.findIn X.K (.ref C) "__contains__" = some (some (.ref f))) (hf : PySem.W.isFn X.K (.ref f) = true)
    (hb : Binds X.K fd ps []) (hx : Passes CX X E) (hr : Room n X.A) : OpR X (compareOp .In) (rInOwn C sp E) := by
  intro pins s σ H x y v u Q I rx ry h
  obtain ⟨a, dx, fs, rfl, ha, hsp⟩ := h
  cases ry
  obtain ⟨mA, J, _⟩ := ins_get I.hok ha
  obtain ⟨od, J, _⟩ := J.look
  obtain ⟨m, hF⟩ := I.fr
  refine PySem.W.in_K hF I.ok.mod.kin J hs hf ?_
  have r2 : Vals [V.ref a, x] [Value.ref a, v] := .cons rfl (.cons rx .nil)
  refine wpAny_mono (run_fn F hr hb .nil hx I r2 (show sp ([V.ref a, x] ++ []) H _ E from hsp)) (fun r s' z => ?_) fun _ _ e => e
  obtain ⟨w, H', I', rw', k, rfl, q⟩ := z
  cases rw'
  exact wpAny_truthy_bool ⟨.bl k, H', I', rfl, q⟩
def rLenOwn (C : Addr) (sp : Sp) (E : XK) : List V → Hp → VK → Prop := fun xs H Q => ∃ (a dx : Addr) (fs : List (Str × V)), xs = [.ref a] ∧ H a = some (.ins C dx fs) ∧ sp [.ref a] H (fun v H' => ∃ k : Nat, v = .int k ∧ k ≤ 1000000 ∧ Q (.int k) H') E
theorem call_lenOwn (F : FnOk X.prog X.w X.K X.mg X.base CX n f fd ps sp) (hs : PySem.W.findIn X.K (.ref C) "__len__" = some (some (.ref f))) (hf : PySem.W.isFn X.K (.ref f) = true)
    (hb : Binds X.K fd ps []) (hx : Passes CX X E) (hr : Room (n + 1) X.A) : CallR X (.builtin "len") (rLenOwn C sp E) := by
  intro pins s σ H xs us Q I r h
  obtain ⟨a, dx, fs, rfl, ha, hsp⟩ := h
  rw [Vals.ref1 r]
  obtain ⟨mA, J, _⟩ := ins_get I.hok ha
  obtain ⟨od, J, _⟩ := J.look
  obtain ⟨m, hF⟩ := I.fr
  refine PySem.W.len_K hF I.ok.mod.kin J hs hf ?_
  have hl := F.len _ _ _ _ hsp
  have r2 : Vals [V.ref a] [Value.ref a] := .cons rfl .nil
  have e0 : Env0 X.prog X.w X.K X.mg X.base X.A.in1 X.stack s H := I.env0.in1
  refine wpAny_call (codeAny_mono (F.run X.A.in1 X.stack s H ⟨[.ref a], []⟩ [.ref a] [.ref a] _ E hr.in1 e0 (by
    have := hb s [.ref a] I.kIn (by simpa using hl)
    simpa using this) r2 hsp) fun r s' hq => ?_)
  cases r with
  | error e => exact hx pins σ H s e s' I hq
  | ok fl =>
    cases fl with
    | ret w =>
      obtain ⟨z, H', I', rz, k, rfl, kb, q⟩ := I.after hq
      obtain ⟨t, rfl⟩ := rz
      exact ⟨⟨by omega, by have : (k : Int) ≤ 1000000 := by omega
                           exact Int.lt_of_le_of_lt this (by decide)⟩, .int k, H', I'.tok _, ⟨_, rfl⟩, q⟩
    | next => exact False.elim hq
    | brk => exact False.elim hq
    | cont => exact False.elim hq
end
end Cw
namespace Cw
open PySem PySem.Spec PyProof.Rows PySem.SeqAt L2
/-! ## an own == with anything on its right side -/
section
variable {X : Cx} {n : Nat} {CX : CXT} {C f : Addr} {fd : FuncData} {ps : List Str} {sp : Sp} {E : XK}
theorem looks_ty {pins : List (Addr × Obj)} {σ : L2.St} {H : Hp} {s : Shared} {x : V} {u t : Value} (I : Inv X pins σ H s) (rx : RelV x u) (ty : TyX X.K H x t) : PySem.W.Looks (model X.prog X.w) s.heap (typeOf u) t := by
  obtain ⟨P, Z, p, _⟩ := kit_of I rx ty
  exact Z.ty _ _ I.kIn p
def rEqOwn (K : PySem.W.Frag) (C : Addr) (sp : Sp) (E : XK) : R2 := fun x y H Q => ∃ (a dx : Addr) (fs : List (Str × V)) (t : Value), x = .ref a ∧ H a = some (.ins C dx fs) ∧ TyX K H y t ∧ PySem.W.notFirst K C t = true ∧ sp [.ref a, y] H (fun v H' => ∃ k, v = .bl k ∧ Q (.bl k) H') E
theorem op_eqOwn (F : FnOk X.prog X.w X.K X.mg X.base CX n f fd ps sp) (hs : PySem.W.findIn X.K (.ref C) "__eq__" = some (some (.ref f))) (hf : PySem.W.isFn X.K (.ref f) = true)
    (hb : Binds X.K fd ps []) (hx : Passes CX X E) (hr : Room n X.A) : OpR X (compareOp .Eq) (rEqOwn X.K C sp E) := by
  intro pins s σ H x y v u Q I rx ry h
  obtain ⟨a, dx, fs, t, rfl, ha, ty, nf, hsp⟩ := h
  cases rx
  have lk := looks_ty I ry ty
  obtain ⟨mA, J, _⟩ := ins_get I.hok ha
  obtain ⟨od, J, _⟩ := J.look
  obtain ⟨m, hF⟩ := I.fr
  show wpAny (model X.prog X.w) X.A (richCompare .Eq (.ref a) u) (EP X pins σ Q) X.xe s
  refine PySem.W.cmp_K (op := .Eq) (tb := t) hr.units0 hF I.ok.mod.kin J lk nf hs hf ?_
  have hl := F.len _ _ _ _ hsp
  have r2 : Vals [V.ref a, y] [Value.ref a, u] := .cons rfl (.cons ry .nil)
  have e0 : Env0 X.prog X.w X.K X.mg X.base X.A X.stack s H := I.env0
  refine wpAny_call (codeAny_mono (F.run X.A X.stack s H ⟨[.ref a, u], []⟩ [.ref a, u] [.ref a, y] _ E hr e0 (by
    have := hb s [.ref a, u] I.kIn (by simpa using hl)
    simpa using this) r2 hsp) fun r s' hq => ?_)
  cases r with
  | error e => exact hx pins σ H s e s' I hq
  | ok fl =>
    cases fl with
    | ret w =>
      obtain ⟨z, H', I', rz, k, ez, q⟩ := I.after hq
      subst ez
      cases rz
      exact ⟨.bl k, H', I', rfl, q⟩
    | next => exact False.elim hq
    | brk => exact False.elim hq
    | cont => exact False.elim hq
def rNeOwn (K : PySem.W.Frag) (C : Addr) (sp : Sp) (E : XK) : R2 := fun x y H Q => ∃ (a b dx dy : Addr) (fs gs : List (Str × V)), x = .ref a ∧ y = .ref b ∧ H a = some (.ins C dx fs) ∧ H b = some (.ins C dy gs) ∧ sp [.ref a, .ref b] H (fun v H' => ∃ k, v = .bl k ∧ Q (.bl (!k)) H') E
theorem op_neOwn (F : FnOk X.prog X.w X.K X.mg X.base CX n f fd ps sp) (hm : PySem.W.mroIn X.K C (.type "object") = some true) (hn : PySem.W.findIn X.K (.ref C) "__ne__" = some (some (.builtin "object.__ne__")))
    (hs : PySem.W.findIn X.K (.ref C) "__eq__" = some (some (.ref f))) (hf : PySem.W.isFn X.K (.ref f) = true)
    (hb : Binds X.K fd ps []) (hx : Passes CX X E) (hr : Room (n + 1) X.A) : OpR X (compareOp .NotEq) (rNeOwn X.K C sp E) := by
  intro pins s σ H x y v u Q I rx ry h
  obtain ⟨a, b, dx, dy, fs, gs, rfl, rfl, ha, hb', hsp⟩ := h
  cases rx
  cases ry
  obtain ⟨mA, J, _⟩ := ins_get I.hok ha
  obtain ⟨mB, J', _⟩ := ins_get I.hok hb'
  obtain ⟨od, J, _⟩ := J.look
  obtain ⟨od', J', _⟩ := J'.look
  show wpAny (model X.prog X.w) X.A (richCompare .NotEq (.ref a) (.ref b)) (EP X pins σ Q) X.xe s
  refine rc_ne (hr.mono (Nat.succ_le_succ (Nat.zero_le n)) |>.in1.units0) I.kIn J J' hm hn hs hf ?_
  have hl := F.len _ _ _ _ hsp
  have r2 : Vals [V.ref a, V.ref b] [Value.ref a, Value.ref b] := .cons rfl (.cons rfl .nil)
  have e0 : Env0 X.prog X.w X.K X.mg X.base X.A.in1 X.stack s H := I.env0.in1
  refine wpAny_call (codeAny_mono (F.run X.A.in1 X.stack s H ⟨[.ref a, .ref b], []⟩ [.ref a, .ref b] [.ref a, .ref b] _ E hr.in1 e0 (by
    have := hb s [.ref a, .ref b] I.kIn (by simpa using hl)
    simpa using this) r2 hsp) fun r s' hq => ?_)
  cases r with
  | error e => exact hx pins σ H s e s' I hq
  | ok fl =>
    cases fl with
    | ret w =>
      obtain ⟨z, H', I', rz, k, ez, q⟩ := I.after hq
      subst ez
      cases rz
      exact ⟨k, rfl, .bl (!k), H', I', rfl, q⟩
    | next => exact False.elim hq
    | brk => exact False.elim hq
    | cont => exact False.elim hq
def rNotInOwn (C : Addr) (sp : Sp) (E : XK) : R2 := fun x y H Q => ∃ (a dx : Addr) (fs : List (Str × V)), y = .ref a ∧ H a = some (.ins C dx fs) ∧ sp [.ref a, x] H (fun v H' => ∃ k, v = .bl k ∧ Q (.bl (!k)) H') E
theorem op_notInOwn (F : FnOk X.prog X.w X.K X.mg X.base CX n f fd ps sp) (hs : PySem.W.findIn X.K (.ref C) "__contains__" = some (some (.ref f))) (hf : PySem.W.isFn X.K (.ref f) = true)
    (hb : Binds X.K fd ps []) (hx : Passes CX X E) (hr : Room n X.A) : OpR X (compareOp .NotIn) (rNotInOwn C sp E) := by
  intro pins s σ H x y v u Q I rx ry h
  obtain ⟨a, dx, fs, rfl, ha, hsp⟩ := h
  cases ry
  obtain ⟨mA, J, _⟩ := ins_get I.hok ha
  obtain ⟨od, J, _⟩ := J.look
  obtain ⟨m, hF⟩ := I.fr
  refine PySem.W.notIn_K hF I.ok.mod.kin J hs hf ?_
  have r2 : Vals [V.ref a, x] [Value.ref a, v] := .cons rfl (.cons rx .nil)
  refine wpAny_mono (run_fn F hr hb .nil hx I r2 (show sp ([V.ref a, x] ++ []) H _ E from hsp)) (fun r s' z => ?_) fun _ _ e => e
  obtain ⟨w, H', I', rw', k, rfl, q⟩ := z
  cases rw'
  exact wpAny_truthy_bool ⟨.bl (!k), H', I', rfl, q⟩
end
/-! ## lists of ints compared -/
theorem eqvAll_ints : ∀ {xs ys : List Int}, PyData.eqvAll (xs.map PyData.int) (ys.map PyData.int) = decide (xs = ys)
  | [], [] => rfl
  | [], _ :: _ => rfl
  | _ :: _, [] => rfl
  | x :: xs, y :: ys => by
    show ((x == y) && PyData.eqvAll (xs.map PyData.int) (ys.map PyData.int)) = _
    rw [eqvAll_ints, Bool.eq_iff_iff]
    simp
theorem eqv_ints {xs ys : List Int} : PyData.eqv (.list (xs.map PyData.int)) (.list (ys.map PyData.int)) = decide (xs = ys) := eqvAll_ints
end Cw
namespace Cw
open PySem L2
abbrev sLenR : Stmt := inClass sRow 4
abbrev sCont : Stmt := inClass sRow 5
abbrev sLoop : Stmt := top 16
abbrev sInitL : Stmt := inClass sLoop 0
abbrev sEqL : Stmt := inClass sLoop 4
/-- what is known of the two classes among other ones -/
structure Odd (K : PySem.W.Frag) (C C2 : Addr) : Prop where
  ci : PySem.W.kitOne K (.ref C) (.type "int") = some false
  cb : PySem.W.kitOne K (.ref C) (.type "bool") = some false
  eN : PySem.W.kitOne K (.type "NoneType") (.ref C) = some false
  eB : PySem.W.kitOne K (.type "bool") (.ref C) = some false
  eS : PySem.W.kitOne K (.type "str") (.ref C) = some false
  eT : PySem.W.kitOne K (.type "tuple") (.ref C) = some false
  eL : PySem.W.kitOne K (.type "list") (.ref C) = some false
  eD : PySem.W.kitOne K (.type "dict") (.ref C) = some false
  nN : PySem.W.notFirst K C (.type "NoneType") = true
  nB : PySem.W.notFirst K C (.type "bool") = true
  nS : PySem.W.notFirst K C (.type "str") = true
  nT : PySem.W.notFirst K C (.type "tuple") = true
  nL : PySem.W.notFirst K C (.type "list") = true
  nD : PySem.W.notFirst K C (.type "dict") = true
  e2 : PySem.W.kitOne K (.ref C2) (.ref C) = some false
  n2 : PySem.W.notFirst K C (.ref C2) = true
  f2 : PySem.W.kitOne K (.ref C) (.ref C2) = some false
  m2 : PySem.W.notFirst K C2 (.ref C) = true
  ne : PySem.W.findIn K (.ref C) "__ne__" = some (some (.builtin "object.__ne__"))
/-- whether a thing is an integer and no boolean -/
def IsI (K : PySem.W.Frag) (H : Hp) (x : V) (b : Bool) : Prop := ∃ (t : Value) (b1 b2 : Bool), TyX K H x t ∧ PySem.W.kitOne K t (.type "int") = some b1 ∧ PySem.W.kitOne K t (.type "bool") = some b2 ∧ b = (b1 && !b2)
def spIntA (K : PySem.W.Frag) : Sp := fun vs H Q _ => ∃ (x : V) (b : Bool), vs = [x] ∧ IsI K H x b ∧ Q (.bl b) H
def spCn (K : PySem.W.Frag) (C : Addr) : Sp := fun vs H Q _ => ∃ (a : Addr) (x : V) (n : Int) (ms ss : List Int), vs = [.ref a, x] ∧ RowAt C H a n ms ss ∧ ((∃ z, x = .int z ∧ Q (.bl (decide (z ∈ ms))) H) ∨ (IsI K H x false ∧ Q (.bl false) H))
def spLenR (C : Addr) : Sp := fun vs H Q _ => ∃ (a : Addr) (n : Int) (ms ss : List Int), vs = [.ref a] ∧ RowAt C H a n ms ss ∧ Q (.int ms.length) H
def spEqA (K : PySem.W.Frag) (C : Addr) : Sp := fun vs H Q _ => ∃ (a : Addr) (y : V) (n : Int) (ms ss : List Int), vs = [.ref a, y] ∧ RowAt C H a n ms ss ∧ ((∃ (b : Addr) (n2 : Int) (ms2 ss2 : List Int), y = .ref b ∧ RowAt C H b n2 ms2 ss2 ∧ Q (.bl (decide (n = n2 ∧ ms = ms2 ∧ ss = ss2))) H) ∨
  (∃ t, TyX K H y t ∧ PySem.W.kitOne K t (.ref C) = some false ∧ Q (.bl false) H))
theorem flat_ints : ∀ ns : List Int, (ns.map V.int).all flatV = true
  | [] => rfl
  | _ :: r => by
    rw [List.map_cons, List.all_cons, flat_ints r]
    rfl
theorem kit_int (K : PySem.W.Frag) : PySem.W.kitOne K (.type "int") (.type "int") = some true := kit_ty (by decide +kernel)
theorem isI_int {K : PySem.W.Frag} {H : Hp} (z : Int) : IsI K H (.int z) true := ⟨_, true, false, .base (.int z), kit_ty (by decide +kernel), kit_ty (by decide +kernel), rfl⟩
section
variable {P : Program} {w : World} {K : PySem.W.Frag} {mg : Str → Option Value} {base : Heap}
theorem inta_ok {f : Addr} {fd : FuncData} (F : Fun K "is_integer" "is_integer" sIsInt f fd) (T : Bl mg) : FnOk P w K mg base CX0 1 f fd ["thing"] (spIntA K) := by
  refine F.ok scI (fun vs H Q E h => ?_) (fun cdv A outer s H vs Q E hr h => ?_)
  · obtain ⟨i, _, rfl, _⟩ := h
    rfl
  · obtain ⟨x, b, rfl, ⟨t, b1, b2, ty, h1, h2, rfl⟩, k⟩ := h
    refine ⟨_, pss_one (ps_ret (pe_and (pe_callB call_isi (by rfl) T.isi (by decide +kernel) (pa_cons (pv 0) (pa_cons (pe_bltn (by rfl) T.int (by decide +kernel) (v := V.ty "int") rfl) pa_nil)))
      (pe_one (pe_not (pe_callB call_isi (by rfl) T.isi (by decide +kernel) (pa_cons (pv 0) (pa_cons (pe_bltn (by rfl) T.bool (by decide +kernel) (v := V.ty "bool") rfl) pa_nil))))))), ?_⟩
    refine ⟨_, rfl, _, _, _, _, b1, rfl, ClsV.ty _, ty, h1, _, rfl, ?_⟩
    cases b1
    · refine ifF rfl ?_
      exact k
    · refine ifT rfl ?_
      refine ⟨_, rfl, _, _, _, _, b2, rfl, ClsV.ty _, ty, h2, _, rfl, ?_⟩
      exact k
theorem scCn : FnScope ["self", "place"] ["self", "place"] (defScope sCont) := ⟨rfl, rfl, rfl, by decide +kernel, rfl, by decide +kernel, by decide +kernel⟩
theorem ok_cn {f C fI : Addr} {fd fdI : FuncData} (F : Fun K "__contains__" "Row.__contains__" sCont f fd) (T : Bl mg) (R : Cl K mg C)
    (gI : mg "is_integer" = some (.ref fI)) (kI : PySem.W.keepIn K (.ref fI) = true) (bI : Binds K fdI ["thing"] []) (FI : Fun K "is_integer" "is_integer" sIsInt fI fdI) :
    FnOk P w K mg base CX0 2 f fd ["self", "place"] (spCn K C) := by
  have GI := inta_ok (P := P) (w := w) (base := base) FI T
  refine F.ok scCn (fun vs H Q E h => ?_) (fun cdv A outer s H vs Q E hr h => ?_)
  · obtain ⟨a, x, n, ms, ss, rfl, _⟩ := h
    rfl
  · obtain ⟨a, x, n, ms, ss, rfl, ⟨dx, l1, l2, ho, h1, h2⟩, k⟩ := h
    refine ⟨_, pss_one (ps_ret (pe_and (pe_call GI (hr.mono (by decide)) rfl gI kI bI .nil pass0 (pa_cons (pv 1) pa_nil)) (pe_one (pe_cmpR (show OpR _ (compareOp .In) (rIn K false) from op_in_seq) (pv 1) (pe_fld (pv 0) rfl) (by rfl))))), ?_⟩
    rcases k with ⟨z, rfl, k⟩ | ⟨ii, k⟩
    · refine ⟨_, rfl, .int z, true, rfl, isI_int z, _, rfl, ?_⟩
      refine ifT rfl ?_
      refine ⟨_, rfl, _, rfl, a, C, dx, _, _, rfl, ho, R.cl, R.nM, fl_M _ _ _, l1, _, rfl, .inl (SqL.of h1), rfl, flat_ints ms, ?_⟩
      rw [if_neg Bool.false_ne_true, inV_il]
      exact k
    · refine ⟨_, rfl, x, false, rfl, ii, _, rfl, ?_⟩
      refine ifF rfl ?_
      exact k
theorem scLr : FnScope ["self"] ["self"] (defScope sLenR) := ⟨rfl, rfl, rfl, by decide +kernel, rfl, by decide +kernel, by decide +kernel⟩
theorem ok_lenr {f C : Addr} {fd : FuncData} (F : Fun K "__len__" "Row.__len__" sLenR f fd) (T : Bl mg) (R : Cl K mg C) : FnOk P w K mg base CX0 1 f fd ["self"] (spLenR C) := by
  refine F.ok scLr (fun vs H Q E h => ?_) (fun cdv A outer s H vs Q E hr h => ?_)
  · obtain ⟨a, n, ms, ss, rfl, _⟩ := h
    rfl
  · obtain ⟨a, n, ms, ss, rfl, ⟨dx, l1, l2, ho, h1, h2⟩, k⟩ := h
    refine ⟨_, pss_one (ps_ret (pe_callB call_len_seq (by rfl) T.len PySem.boot_len (pa_cons (pe_fld (pv 0) rfl) pa_nil))), ?_⟩
    refine ⟨_, rfl, a, C, dx, _, _, rfl, ho, R.cl, R.nM, fl_M _ _ _, l1, _, rfl, .inl (SqL.of h1), ?_⟩
    rw [List.length_map]
    exact k
theorem ok_eqa {f C : Addr} {fd : FuncData} (F : Fun K "__eq__" "Row.__eq__" sEq f fd) (T : Bl mg) (R : Cl K mg C) (N : Ci K C) : FnOk P w K mg base CX0 1 f fd ["self", "other"] (spEqA K C) := by
  refine F.ok scE (fun vs H Q E h => ?_) (fun cdv A outer s H vs Q E hr h => ?_)
  · obtain ⟨a, y, n, ms, ss, rfl, _⟩ := h
    rfl
  · obtain ⟨a, y, n, ms, ss, rfl, ⟨dx, l1, l2, ho, h1, h2⟩, k⟩ := h
    refine ⟨_, pss_cons (ps_if (pt_not (pt_val (pe_callB call_isi (by rfl) T.isi (by decide +kernel) (pa_cons (pv 1) (pa_cons (pe_glob (by rfl) R.mgR (v := V.ref C) rfl) pa_nil))))) (pss_one (ps_ret pe_bl)) pss_nil)
      (pss_cons (ps_if (pt_cmpR op_ne (pe_fld (pv 0) rfl) (pe_fld (pv 1) rfl) (nomark _)) (pss_one (ps_ret pe_bl)) pss_nil)
      (pss_one (ps_ret (pe_and (pe_cmpR (op_eqD hr.units) (pe_fld (pv 0) rfl) (pe_fld (pv 1) rfl) (nomark _)) (pe_one (pe_cmpR (op_eqD hr.units) (pe_fld (pv 0) rfl) (pe_fld (pv 1) rfl) (nomark _))))))), ?_⟩
    rcases k with ⟨b, n2, ms2, ss2, rfl, ⟨dy, m1, m2, hp, g1, g2⟩, k⟩ | ⟨t, ty, kt, k⟩
    · refine ⟨_, rfl, _, _, _, _, true, rfl, ClsV.own _, .base (.ins hp R.cl N.ha N.hn N.ht N.hm), R.kit, _, rfl, ?_⟩
      refine ifF rfl ?_
      refine ⟨_, rfl, a, C, dx, _, _, rfl, ho, R.cl, R.nL, fl_L _ _ _, _, rfl, b, C, dy, _, _, rfl, hp, R.cl, R.nL, fl_L _ _ _, rfl, _, rfl, ?_⟩
      by_cases c : n = n2
      · refine ifF (by simp [c]) ?_
        refine ⟨_, rfl, a, C, dx, _, _, rfl, ho, R.cl, R.nM, fl_M _ _ _, _, rfl, b, C, dy, _, _, rfl, hp, R.cl, R.nM, fl_M _ _ _, _, _, dp_il h1, dp_il g1, shape_il _, shape_il _, _, rfl, ?_⟩
        rw [eqv_ints]
        by_cases c2 : ms = ms2
        · refine ifT (decide_eq_true c2) ?_
          refine ⟨_, rfl, a, C, dx, _, _, rfl, ho, R.cl, R.nS, fl_S _ _ _, _, rfl, b, C, dy, _, _, rfl, hp, R.cl, R.nS, fl_S _ _ _, _, _, dp_il h2, dp_il g2, shape_il _, shape_il _, ?_⟩
          rw [eqv_ints]
          have e : decide (n = n2 ∧ ms = ms2 ∧ ss = ss2) = decide (ss = ss2) := by simp [c, c2]
          rw [e] at k
          exact k
        · refine ifF (decide_eq_false c2) ?_
          have e : decide (n = n2 ∧ ms = ms2 ∧ ss = ss2) = false := decide_eq_false fun z => c2 z.2.1
          rw [e] at k
          exact k
      · refine ifT (by simp [c]) ?_
        have e : decide (n = n2 ∧ ms = ms2 ∧ ss = ss2) = false := decide_eq_false fun z => c z.1
        rw [e] at k
        exact k
    · refine ⟨_, rfl, _, _, _, _, false, rfl, ClsV.own _, ty, kt, _, rfl, ?_⟩
      refine ifT rfl ?_
      exact k
end
end Cw
namespace Cw
open PySem L2
/-! ## loops -/
theorem p12 : ¬ (("_period" : Str) = "_marks") := by decide +kernel
theorem p13 : ¬ (("_period" : Str) = "_strict") := by decide +kernel
def fldsL (n : Int) (l1 l2 : Addr) : List (Str × V) := putF "_strict" (.ref l2) (putF "_marks" (.ref l1) (putF "_period" (.int n) []))
structure Cl2 (K : PySem.W.Frag) (mg : Str → Option Value) (C : Addr) : Prop where
  cl : Cls K C
  nP : NoAttr K C "_period"
  nM : NoAttr K C "_marks"
  nS : NoAttr K C "_strict"
  mgR : mg "Loop" = some (.ref C)
/-- a loop stands at p -/
def LpAt (C : Addr) (H : Hp) (p : Addr) : Prop := ∃ dx fs, H p = some (.ins C dx fs)
def spInitL (C : Addr) : Sp := fun vs H Q _ => ∃ (x dx a b : Addr) (n : Int) (ms ss : List Int), vs = [.ref x, .int n, .ref a, .ref b] ∧ H x = some (.ins C dx []) ∧ IL H a ms ∧ IL H b ss ∧ Good n ms ss ∧ n ≤ 2000 ∧
  ∀ H', LpAt C H' x → (∀ c o, H c = some o → c ≠ x → H' c = some o) → Q .non H'
def spEqL (K : PySem.W.Frag) (C : Addr) : Sp := fun vs H Q _ => ∃ (a : Addr) (y : V), vs = [.ref a, y] ∧ LpAt C H a ∧ ∃ t, TyX K H y t ∧ PySem.W.kitOne K t (.ref C) = some false ∧ Q (.bl false) H
section
variable {P : Program} {w : World} {K : PySem.W.Frag} {mg : Str → Option Value} {base : Heap}
abbrev NIL : List Str := ["self", "period", "marks", "strict"]
theorem scInL : FnScope NIL NIL (defScope sInitL) := ⟨rfl, rfl, rfl, by decide +kernel, rfl, by decide +kernel, by decide +kernel⟩
theorem ok_initl {f C fI fM fS : Addr} {fd fdI fdM fdS : FuncData} {tok tok2 : Tok} (F : Fun K "__init__" "Loop.__init__" sInitL f fd) (T : Bl mg) (R2 : Cl2 K mg C) (gMP : mg "MOST_PERIOD" = some (.int 2000 tok)) (gMM : mg "MOST_MARKS" = some (.int 400 tok2))
    (gI : mg "is_integer" = some (.ref fI)) (kI : PySem.W.keepIn K (.ref fI) = true) (bI : Binds K fdI ["thing"] []) (GI : FnOk P w K mg base CX0 1 fI fdI ["thing"] spOne)
    (gM : mg "are_ascending" = some (.ref fM)) (kM : PySem.W.keepIn K (.ref fM) = true) (bM : Binds K fdM ["thing", "low", "high"] []) (GM : FnOk P w K mg base CX0 3 fM fdM ["thing", "low", "high"] spAsc)
    (gS : mg "are_some_of" = some (.ref fS)) (kS : PySem.W.keepIn K (.ref fS) = true) (bS : Binds K fdS ["thing", "marks"] []) (GS : FnOk P w K mg base CX0 4 fS fdS ["thing", "marks"] spSome) :
    FnOk P w K mg base CX0 5 f fd NIL (spInitL C) := by
  refine F.ok scInL (fun vs H Q E h => ?_) (fun cdv A outer s H vs Q E hr h => ?_)
  · obtain ⟨x, dx, a, b, n, ms, ss, rfl, _⟩ := h
    rfl
  · obtain ⟨x, dx, a, b, n, ms, ss, rfl, hx, hM, hS, G, n2, k⟩ := h
    refine ⟨_, pss_cons (ps_if (PW.pt (pw_or (pt_not (pt_val (pe_call GI (hr.mono (by decide)) rfl gI kI bI .nil pass0 (pa_cons (pv 1) pa_nil)))) (pw_or1 (pt_not (pt_chain op_le op_le pe_int (pv 1) (pe_glob (by rfl) gMP (v := V.int 2000) ⟨_, rfl⟩)))))) pss_never pss_nil)
      (pss_cons (ps_if (PW.pt (pw_or (pt_not (pt_val (pe_call GM (hr.mono (by decide)) rfl gM kM bM .nil pass0 (pa_cons (pv 2) (pa_cons pe_int (pa_cons (pe_op op_sub (pv 1) pe_int) pa_nil)))))) (pw_or1 (pt_cmpR op_gt (pe_callB call_len_seq (by rfl) T.len PySem.boot_len (pa_cons (pv 2) pa_nil)) (pe_glob (by rfl) gMM (v := V.int 400) ⟨_, rfl⟩) (nomark _))))) pss_never pss_nil)
      (pss_cons (ps_if (pt_not (pt_val (pe_call GS (hr.mono (by decide)) rfl gS kS bS .nil pass0 (pa_cons (pv 3) (pa_cons (pv 2) pa_nil))))) pss_never pss_nil)
      (pss_cons (ps_fld (pv 0) (pv 1) rfl)
      (pss_cons (ps_fld (pv 0) (pe_callTy call_list_of (by rfl) T.list (by decide +kernel) (pa_cons (pv 2) pa_nil)) rfl)
      (pss_one (ps_fld (pv 0) (pe_callTy call_list_of (by rfl) T.list (by decide +kernel) (pa_cons (pv 3) pa_nil)) rfl)))))), ?_⟩
    have hp := G.pos
    refine ⟨_, rfl, n, rfl, _, rfl, ?_⟩
    refine ifF rfl ?_
    refine ⟨_, rfl, _, _, rfl, rfl, _, rfl, ?_⟩
    refine ifT (decide_eq_true hp) ?_
    refine ⟨_, _, rfl, rfl, _, rfl, ?_⟩
    refine ifF (by simp [n2]) ?_
    refine ⟨_, rfl, _, rfl, _, _, rfl, rfl, a, ms, 0, n - 1, rfl, hM, by have := G.len; omega, fun y hy => by have := G.rng y hy; omega, G.asc, fun H1 s1 => ⟨_, rfl, ?_⟩⟩
    refine ifF rfl ?_
    refine ⟨_, rfl, a, _, rfl, .inl (SqL.of (s1 _ _ hM)), _, _, rfl, rfl, _, rfl, ?_⟩
    refine ifF (decide_eq_false (by rw [List.length_map]; have := G.len; omega)) ?_
    refine ⟨_, rfl, _, rfl, b, a, ss, ms, rfl, s1 _ _ hS, s1 _ _ hM, G.len2, G.len, G.asc2, (fun y hy => (G.rng y (G.sub y hy)).1), G.sub, fun H2 s2 => ⟨_, rfl, ?_⟩⟩
    refine ifF rfl ?_
    have s12 := s1.trans s2
    refine ⟨_, rfl, _, rfl, x, C, dx, _, rfl, s12 _ _ hx, R2.cl, R2.nP, (by show 0 < 1000; decide), ?_⟩
    have na : a ≠ x := ne_of hM hx (by intro z; cases z)
    have nb : b ≠ x := ne_of hS hx (by intro z; cases z)
    have hM3 : ∀ o, IL (upd H2 x o) a ms := fun o => by
      show upd H2 x o a = _
      rw [upd_ne na]
      exact s12 _ _ hM
    have hS3 : ∀ o, IL (upd H2 x o) b ss := fun o => by
      show upd H2 x o b = _
      rw [upd_ne nb]
      exact s12 _ _ hS
    refine ⟨_, rfl, a, _, rfl, .inl (SqL.of (hM3 _)), fun l1 h1 => ?_⟩
    have nx1 : x ≠ l1 := ne_of_none upd_same h1
    have nb1 : b ≠ l1 := ne_of_none (hS3 _) h1
    refine ⟨_, rfl, x, C, dx, _, rfl, (by rw [upd_ne nx1]; exact upd_same), R2.cl, R2.nM, (by show 1 < 1000; decide), ?_⟩
    refine ⟨_, rfl, b, ss.map V.int, rfl, .inl (SqL.of (by rw [upd_ne nb, upd_ne nb1]; exact hS3 _)), fun l2 h2 => ?_⟩
    have nx2 : x ≠ l2 := ne_of_none upd_same h2
    refine ⟨_, rfl, x, C, dx, _, rfl, (by rw [upd_ne nx2]; exact upd_same), R2.cl, R2.nS, (by show 2 < 1000; decide), ?_⟩
    refine k _ ⟨dx, _, upd_same⟩ fun c o e ne => ?_
    have e1 : upd H2 x (.ins C dx (putF "_period" (V.int n) [])) c = some o := by
      rw [upd_ne ne]
      exact s12 _ _ e
    rw [upd_ne ne, upd_ne (ne_of_none (by rw [upd_ne ne, upd_ne (ne_of_none e1 h1)]; exact e1) h2), upd_ne ne, upd_ne (ne_of_none e1 h1)]
    exact e1
theorem scEL : FnScope ["self", "other"] ["self", "other"] (defScope sEqL) := ⟨rfl, rfl, rfl, by decide +kernel, rfl, by decide +kernel, by decide +kernel⟩
theorem ok_eql {f C : Addr} {fd : FuncData} (F : Fun K "__eq__" "Loop.__eq__" sEqL f fd) (T : Bl mg) (R2 : Cl2 K mg C) : FnOk P w K mg base CX0 1 f fd ["self", "other"] (spEqL K C) := by
  refine F.ok scEL (fun vs H Q E h => ?_) (fun cdv A outer s H vs Q E hr h => ?_)
  · obtain ⟨a, y, rfl, _⟩ := h
    rfl
  · obtain ⟨a, y, rfl, _, t, ty, kt, k⟩ := h
    refine ⟨_, pss_cons (ps_if (pt_not (pt_val (pe_callB call_isi (by rfl) T.isi (by decide +kernel) (pa_cons (pv 1) (pa_cons (pe_glob (by rfl) R2.mgR (v := V.ref C) rfl) pa_nil))))) (pss_one (ps_ret pe_bl)) pss_nil)
      (pss_cons (ps_if (pt_cmpR op_ne (pe_fld (pv 0) rfl) (pe_fld (pv 1) rfl) (nomark _)) (pss_one (ps_ret pe_bl)) pss_nil)
      (pss_one (ps_ret (pe_and (pe_cmpR (op_eqD hr.units) (pe_fld (pv 0) rfl) (pe_fld (pv 1) rfl) (nomark _)) (pe_one (pe_cmpR (op_eqD hr.units) (pe_fld (pv 0) rfl) (pe_fld (pv 1) rfl) (nomark _))))))), ?_⟩
    refine ⟨_, rfl, _, _, _, _, false, rfl, ClsV.own _, ty, kt, _, rfl, ?_⟩
    refine ifT rfl ?_
    exact k
end
end Cw
namespace Cw
open PySem L2
abbrev sOt : Stmt := top 24
theorem rest_of {C R : Hp → Prop} {G : Prop} (a : (∀ H, C H → R H) → G) (b : ∀ H, C H → R H) : G := a b
theorem cut_to {α : Type} (f : α → V) (xs : List α) (s : Nat) : cutV (xs.map f) none (some (s : Int)) = (xs.take s).map f := by
  have e : HT.sIx (xs.map f).length (xs.map f).length (some (s : Int)) = min s (xs.map f).length := HT.sIx_nat _ _ s
  unfold cutV
  rw [e, HT.sIx_none, List.drop_zero, ← List.map_take, List.length_map]
  by_cases h : s ≤ xs.length
  · rw [Nat.min_eq_left h, Nat.sub_zero]
  · rw [Nat.min_eq_right (by omega), Nat.sub_zero, List.take_of_length_le (Nat.le_refl _), List.take_of_length_le (Nat.le_of_lt (by omega))]
theorem cut_from {α : Type} (f : α → V) (xs : List α) (s : Nat) (h : s ≤ xs.length) : cutV (xs.map f) (some (s : Int)) none = (xs.drop s).map f := by
  have e : HT.sIx (xs.map f).length 0 (some (s : Int)) = min s (xs.map f).length := HT.sIx_nat _ _ s
  unfold cutV
  rw [e, HT.sIx_none, List.map_drop, List.length_map, Nat.min_eq_left h, List.take_of_length_le]
  rw [List.length_drop, List.length_map]
  exact Nat.le_refl _
theorem pd_imp {α β : Type} {R S : α → β → Prop} : ∀ {as : List α} {bs : List β}, Paired R as bs → (∀ a b, R a b → S a b) → Paired S as bs
  | _, _, .nil, _ => .nil
  | _, _, .cons h r, k => .cons (k _ _ h) (pd_imp r k)
theorem pd_app {α β : Type} {R : α → β → Prop} : ∀ {as cs : List α} {bs ds : List β}, Paired R as bs → Paired R cs ds → Paired R (as ++ cs) (bs ++ ds)
  | _, _, _, _, .nil, h => h
  | _, _, _, _, .cons a r, h => .cons a (pd_app r h)
theorem pd_take {α β : Type} {R : α → β → Prop} : ∀ {as : List α} {bs : List β} (i : Nat), Paired R as bs → Paired R (as.take i) (bs.take i)
  | _, _, 0, _ => .nil
  | _, _, _ + 1, .nil => .nil
  | _, _, i + 1, .cons h r => .cons h (pd_take i r)
theorem pd_drop {α β : Type} {R : α → β → Prop} : ∀ {as : List α} {bs : List β} (i : Nat), Paired R as bs → Paired R (as.drop i) (bs.drop i)
  | _, _, 0, h => h
  | _, _, _ + 1, .nil => .nil
  | _, _, i + 1, .cons _ r => pd_drop i r
theorem pd_mem {α β : Type} {R : α → β → Prop} : ∀ {as : List α} {bs : List β} {i : Nat} {a : α}, Paired R as bs → as[i]? = some a → ∃ b, bs[i]? = some b ∧ R a b
  | _, _, 0, _, .cons (b := b) h _, e => ⟨b, rfl, by cases e; exact h⟩
  | _, _, i + 1, _, .cons _ r, e => pd_mem (i := i) r e
/-- an entry of the list of what is otherwise -/
def FE (D : Addr) (H : Hp) (t : Addr) (q : Int × List (Int × Int)) : Prop := ∃ (L : Addr) (ts : List Addr), H t = some (.tup [.int q.1, .ref L]) ∧ H L = some (.lst (ts.map V.ref)) ∧ PrAt H ts q.2 ∧ L ≠ D
theorem PrAt.butL {H H' : Hp} {D : Addr} {xs : List V} {ts : List Addr} {ps : List (Int × Int)} (h : PrAt H ts ps) (hD : H D = some (.lst xs)) (B : But H H' D) : PrAt H' ts ps := h.imp fun v q e => B _ _ e fun z => by
  rw [z, hD] at e
  cases e
theorem FE.but {D : Addr} {H H' : Hp} {xs : List V} {t : Addr} {q : Int × List (Int × Int)} (h : FE D H t q) (hD : H D = some (.lst xs)) (B : But H H' D) : FE D H' t q := by
  obtain ⟨L, ts, h1, h2, h3, n⟩ := h
  exact ⟨L, ts, B _ _ h1 (fun z => by rw [z, hD] at h1; cases h1), B _ _ h2 n, h3.butL hD B, n⟩
def Dif (n : Int) (prs : List (Int × Int)) (q : Int × List (Int × Int)) : Prop := GoodP q.1 q.2 ∧ ¬ (n = q.1 ∧ marksOf prs = marksOf q.2 ∧ strictOf prs = strictOf q.2)
structure Fnd (n : Int) (prs : List (Int × Int)) (D : Addr) (H : Hp) (es : List Addr) (qs : List (Int × List (Int × Int))) : Prop where
  at_ : H D = some (.lst (es.map V.ref))
  pd : Paired (FE D H) es qs
  ok : ∀ q ∈ qs, Dif n prs q
theorem Fnd.same {n : Int} {prs : List (Int × Int)} {D : Addr} {H H' : Hp} {es : List Addr} {qs : List (Int × List (Int × Int))} (F : Fnd n prs D H es qs) (s : Same H H') : Fnd n prs D H' es qs := ⟨s _ _ F.at_, pd_imp F.pd fun _ _ h => h.but F.at_ (But.of s), F.ok⟩
theorem Fnd.push {n n' : Int} {prs prs' : List (Int × Int)} {D t c : Addr} {H : Hp} {es ts : List Addr} {qs : List (Int × List (Int × Int))} (F : Fnd n prs D H es qs) (ht : H t = none) (kc : H c = some (.lst (ts.map V.ref))) (pr : PrAt H ts prs') (nc : c ≠ D) (dif : Dif n prs (n', prs')) :
    Fnd n prs D (upd (upd H t (.tup [.int n', .ref c])) D (.lst (es.map V.ref ++ [.ref t]))) (es ++ [t]) (qs ++ [(n', prs')]) := by
  have s1 := same_new (o := .tup [.int n', .ref c]) (Same.refl H) ht
  have k1 : upd H t (.tup [.int n', .ref c]) t = some (.tup [.int n', .ref c]) := upd_same
  generalize upd H t (.tup [.int n', .ref c]) = H1 at s1 k1 ⊢
  have B : But H1 (upd H1 D (.lst (es.map V.ref ++ [.ref t]))) D := (But.refl H1 D).upd
  have hD := s1 _ _ F.at_
  refine ⟨?_, pd_app (pd_imp F.pd fun _ _ h => (h.but F.at_ (But.of s1)).but hD B) (.cons ((show FE D H1 t (n', prs') from ⟨c, ts, k1, s1 _ _ kc, pr.imp fun _ _ h => s1 _ _ h, nc⟩).but hD B) .nil), fun q hq => ?_⟩
  · show upd _ _ _ D = _
    rw [upd_same, List.map_append]
    rfl
  · rcases List.mem_append.mp hq with hq | hq
    · exact F.ok q hq
    · rw [List.mem_singleton.mp hq]
      exact dif
/-! ## what is otherwise -/
theorem split_at {prs : List (Int × Int)} {i : Nat} {y : Int × Int} (h : prs[i]? = some y) : prs = prs.take i ++ [y] ++ prs.drop (i + 1) := by
  have il := (List.getElem?_eq_some_iff.mp h).1
  have e := (List.getElem?_eq_some_iff.mp h).2
  rw [List.append_assoc, ← e]
  show prs = prs.take i ++ (prs[i] :: prs.drop (i + 1))
  rw [← List.drop_eq_getElem_cons il, List.take_append_drop]
theorem dif_out {n : Int} {prs : List (Int × Int)} {i : Nat} {y : Int × Int} (G : GoodP n prs) (h : prs[i]? = some y) : Dif n prs (n, prs.take i ++ prs.drop (i + 1)) := by
  have e := split_at h
  have sub : (prs.take i ++ prs.drop (i + 1)).Sublist prs := by
    conv => rhs; rw [e]
    rw [List.append_assoc]
    exact (List.Sublist.refl _).append (List.sublist_cons_self _ _)
  refine ⟨⟨G.pos, Nat.le_trans sub.length_le G.len, fun q hq => G.rng q (sub.subset hq), List.Pairwise.sublist (sub.map _) G.asc⟩, fun ⟨_, z, _⟩ => ?_⟩
  have l1 := congrArg List.length z
  have l2 := congrArg List.length e
  simp only [List.length_map, List.length_append, List.length_singleton] at l1 l2
  omega
theorem dif_kind {n : Int} {prs : List (Int × Int)} {i : Nat} {y : Int × Int} (G : GoodP n prs) (h : prs[i]? = some y) : Dif n prs (n, prs.take i ++ [(y.1, 3 - y.2)] ++ prs.drop (i + 1)) := by
  have e := split_at h
  have my : marksOf (prs.take i ++ [(y.1, 3 - y.2)] ++ prs.drop (i + 1)) = marksOf prs := by
    conv => rhs; rw [e]
    simp only [marksOf, List.map_append, List.map_cons, List.map_nil]
  have ry := G.rng y (List.mem_of_getElem? h)
  refine ⟨⟨G.pos, ?_, fun q hq => ?_, ?_⟩, fun ⟨_, _, z⟩ => ?_⟩
  · have l1 := congrArg List.length my
    simp only [marksOf, List.length_map] at l1
    rw [l1]
    exact G.len
  · rcases List.mem_append.mp hq with hq | hq
    · rcases List.mem_append.mp hq with hq | hq
      · exact G.rng q (List.mem_of_mem_take hq)
      · rw [List.mem_singleton.mp hq]
        refine ⟨ry.1, ry.2.1, ?_⟩
        show 3 - y.2 = 1 ∨ 3 - y.2 = 2
        omega
    · exact G.rng q (List.mem_of_mem_drop hq)
  · show Asc (marksOf (prs.take i ++ [(y.1, 3 - y.2)] ++ prs.drop (i + 1)))
    rw [my]
    exact G.asc
  · have l1 := congrArg List.length z
    have l2 := congrArg (fun l => (strictOf l).length) e
    simp only [strictOf, List.length_map, List.filter_append, List.length_append] at l1 l2
    rcases ry.2.2 with c | c
    · have a1 : ([(y.1, 3 - y.2)].filter fun q : Int × Int => decide (q.2 = 2)).length = 1 := by simp [c]
      have a2 : ([y].filter fun q : Int × Int => decide (q.2 = 2)).length = 0 := by simp [c]
      omega
    · have a1 : ([(y.1, 3 - y.2)].filter fun q : Int × Int => decide (q.2 = 2)).length = 0 := by simp [c]
      have a2 : ([y].filter fun q : Int × Int => decide (q.2 = 2)).length = 1 := by simp [c]
      omega
theorem dif_move {n : Int} {prs : List (Int × Int)} {i : Nat} {y : Int × Int} (G : GoodP n prs) (h : prs[i]? = some y) (top : y.1 + 1 < n) (far : ∀ z, prs[i + 1]? = some z → y.1 + 1 < z.1) : Dif n prs (n, prs.take i ++ [(y.1 + 1, y.2)] ++ prs.drop (i + 1)) := by
  have e := split_at h
  have ry := G.rng y (List.mem_of_getElem? h)
  have asc := G.asc
  rw [e] at asc
  simp only [List.map_append, List.map_cons, List.map_nil] at asc
  have a1 := List.pairwise_append.mp asc
  have a2 := List.pairwise_append.mp a1.1
  have later : ∀ q ∈ prs.drop (i + 1), y.1 + 1 < q.1 := fun q hq => by
    cases hd : prs.drop (i + 1) with
    | nil => rw [hd] at hq; cases hq
    | cons z r =>
      have hz : prs[i + 1]? = some z := by
        have := List.getElem?_drop (xs := prs) (i := i + 1) (j := 0)
        rw [hd] at this
        exact this.symm
      have f := far z hz
      rw [hd] at hq
      rcases List.mem_cons.mp hq with rfl | hq
      · exact f
      · have p := a1.2.1
        rw [hd, List.map_cons] at p
        have := (List.pairwise_cons.mp p).1 q.1 (List.mem_map.mpr ⟨q, hq, rfl⟩)
        omega
  refine ⟨⟨G.pos, ?_, fun q hq => ?_, ?_⟩, fun ⟨_, z, _⟩ => ?_⟩
  · have l2 := congrArg List.length e
    have := G.len
    simp only [List.length_append, List.length_singleton] at l2 ⊢
    omega
  · rcases List.mem_append.mp hq with hq | hq
    · rcases List.mem_append.mp hq with hq | hq
      · exact G.rng q (List.mem_of_mem_take hq)
      · rw [List.mem_singleton.mp hq]
        exact ⟨by show 1 ≤ y.1 + 1; omega, by show y.1 + 1 ≤ n - 1; omega, ry.2.2⟩
    · exact G.rng q (List.mem_of_mem_drop hq)
  · show Asc (List.map _ _)
    simp only [List.map_append, List.map_cons, List.map_nil]
    refine List.pairwise_append.mpr ⟨List.pairwise_append.mpr ⟨a2.1, List.pairwise_singleton _ _, fun x hx v hv => ?_⟩, a1.2.1, fun x hx v hv => ?_⟩
    · rw [List.mem_singleton.mp hv]
      have := a2.2.2 x hx y.1 (List.mem_singleton.mpr rfl)
      omega
    · obtain ⟨w, hw, rfl⟩ := List.mem_map.mp hv
      rcases List.mem_append.mp hx with hx | hx
      · exact a1.2.2 x (List.mem_append_left _ hx) w.1 hv
      · rw [List.mem_singleton.mp hx]
        exact later w hw
  · have e2 : marksOf prs = (prs.take i).map (·.1) ++ [y.1] ++ (prs.drop (i + 1)).map (·.1) := by
      have e3 := congrArg (List.map fun q : Int × Int => q.1) e
      simp only [List.map_append, List.map_cons, List.map_nil] at e3
      exact e3
    have z : marksOf prs = marksOf (prs.take i ++ [(y.1 + 1, y.2)] ++ prs.drop (i + 1)) := z
    rw [e2] at z
    simp only [marksOf, List.map_append, List.map_cons, List.map_nil] at z
    have z2 := List.append_cancel_left (List.append_cancel_right z)
    have z3 : y.1 = y.1 + 1 := by
      injection z2
    omega
theorem dif_long {n : Int} {prs : List (Int × Int)} (G : GoodP n prs) : Dif n prs (n + 1, prs) := by
  have := G.pos
  refine ⟨⟨by show 1 ≤ n + 1; omega, G.len, fun q hq => ?_, G.asc⟩, fun ⟨z, _⟩ => ?_⟩
  · have := G.rng q hq
    exact ⟨this.1, by show q.1 ≤ n + 1 - 1; omega, this.2.2⟩
  · have z : n = n + 1 := z
    omega
theorem RowNew.offD {C : Addr} {H H' : Hp} {p a : Addr} {n : Int} {ms ss : List Int} {xs : List V} (r : RowNew C H H' p n ms ss) (h : H a = some (.lst xs)) : RowOff C H' a p n ms ss := by
  obtain ⟨dx, l1, l2, h1, h2, h3, n1, n2⟩ := r
  exact ⟨dx, l1, l2, h1, h2, h3, (fun e => by rw [e, h] at n1; cases n1), (fun e => by rw [e, h] at n2; cases n2)⟩
theorem RowOff.butD {C : Addr} {H H' : Hp} {p a : Addr} {n : Int} {ms ss : List Int} {xs : List V} (r : RowOff C H a p n ms ss) (h : H a = some (.lst xs)) (B : But H H' a) : RowOff C H' a p n ms ss := by
  obtain ⟨dx, l1, l2, h1, h2, h3, n1, n2⟩ := r
  exact ⟨dx, l1, l2, B _ _ h1 (fun e => by rw [e, h] at h1; cases h1), B _ _ h2 n1, B _ _ h3 n2, n1, n2⟩
theorem pd_len {α β : Type} {R : α → β → Prop} : ∀ {as : List α} {bs : List β}, Paired R as bs → as.length = bs.length
  | _, _, .nil => rfl
  | _, _, .cons _ r => by rw [List.length_cons, List.length_cons, pd_len r]
def spOth (C : Addr) : Sp := fun vs H Q _ => ∃ (u : Addr) (n l m g : Int) (prs : List (Int × Int)), vs = [.ref u] ∧ RawS H u n prs l m g ∧ GoodP n prs ∧ prs.length ≤ 40 ∧
  ∀ (q : Addr) (H' : Hp) (es : List Addr), Same H H' → H' q = some (.lst (es.map V.ref)) → es.length ≤ 200 → (∀ e ∈ es, ∃ (n2 : Int) (ms2 ss2 : List Int), RowAt C H' e n2 ms2 ss2 ∧ ¬ (n = n2 ∧ marksOf prs = ms2 ∧ strictOf prs = ss2)) → Q (.ref q) H'
section
variable {P : Program} {w : World} {K : PySem.W.Frag} {mg : Str → Option Value} {base : Heap}
abbrev NOt : List Str := ["raw", "size_here", "marked", "three", "found", "spot", "place", "kind", "one", "some"]
theorem scOt : FnScope NOt ["raw"] (defScope sOt) := ⟨rfl, rfl, rfl, by decide +kernel, rfl, by decide +kernel, by decide +kernel⟩
theorem ok_ot {f C fH : Addr} {fd fdH : FuncData} (F : Fun K "_law_otherwise" "_law_otherwise" sOt f fd) (T : Bl mg)
    (gH : mg "_law_heap" = some (.ref fH)) (kH : PySem.W.keepIn K (.ref fH) = true) (bH : Binds K fdH ["raw"] []) (GH : FnOk P w K mg base CX0 7 fH fdH ["raw"] (spHeap C)) :
    FnOk P w K mg base CX0 8 f fd ["raw"] (spOth C) := by
  refine F.ok scOt (fun vs H Q E h => ?_) (fun cdv A outer s H vs Q E hr h => ?_)
  · obtain ⟨u, n, l, m, g, prs, rfl, _⟩ := h
    rfl
  · obtain ⟨u, n, l, m, g, prs, rfl, RR, G, pl, q⟩ := h
    refine ⟨_, (pss_cons (ps_asg (pv 0) (pg_tup rfl (pgs_cons (pg_name (i := 1) scOt.nd rfl (Or.inl rfl)) (pgs_cons (pg_name (i := 2) scOt.nd rfl (Or.inl rfl)) (pgs_cons (pg_name (i := 3) scOt.nd rfl (Or.inr rfl)) pgs_nil)))))
        (pss_cons (ps_set (i := 4) scOt.nd rfl (Or.inl rfl) (pe_lst (pa_cons (pe_tup (pa_cons (pe_op op_add (pv 1) pe_int) (pa_cons (pv 2) pa_nil))) pa_nil)))
        (pss_cons (ps_for PassesOwn.never rfl (pi_range1 (by rfl) T.range (pa_cons (pe_callB call_len_seq (by rfl) T.len PySem.boot_len (pa_cons (pv 2) pa_nil)) pa_nil)) (pg_name (i := 5) scOt.nd rfl (Or.inl rfl))
        (pss_cons (ps_asg (pe_ix (r := rIxL K) ix_list (pv 2) (pv 5) (fun _ _ => rfl)) (pg_tup rfl (pgs_cons (pg_name (i := 6) scOt.nd rfl (Or.inl rfl)) (pgs_cons (pg_name (i := 7) scOt.nd rfl (Or.inl rfl)) pgs_nil))))
        (pss_cons (ps_expr (pe_bm PySem.F.plainAttrs_list PySem.F.slot_list_append PySem.F.type_list_append mt_append (pv 4) (pa_cons (pe_tup (pa_cons (pv 1) (pa_cons (pe_op op_cat (pe_slice sl_list (pv 2) po_none (po_some (pv 5))) (pe_slice sl_list (pv 2) (po_some (pe_op op_add (pv 5) pe_int)) po_none)) pa_nil))) pa_nil)))
        (pss_cons (ps_expr (pe_bm PySem.F.plainAttrs_list PySem.F.slot_list_append PySem.F.type_list_append mt_append (pv 4) (pa_cons (pe_tup (pa_cons (pv 1) (pa_cons (pe_op op_cat (pe_op op_cat (pe_slice sl_list (pv 2) po_none (po_some (pv 5))) (pe_lst (pa_cons (pe_tup (pa_cons (pv 6) (pa_cons (pe_op op_sub pe_int (pv 7)) pa_nil))) pa_nil))) (pe_slice sl_list (pv 2) (po_some (pe_op op_add (pv 5) pe_int)) po_none)) pa_nil))) pa_nil)))
        (pss_one (ps_if (PW.pt (pw_and (pt_cmpR op_lt (pe_op op_add (pv 6) pe_int) (pv 1) (nomark _)) (pw_and1 (PW.pt (pw_or (pt_cmpR op_eq (pe_op op_add (pv 5) pe_int) (pe_callB call_len_seq (by rfl) T.len PySem.boot_len (pa_cons (pv 2) pa_nil)) (nomark _)) (pw_or1 (pt_cmpR op_gt (pe_ix (r := rIxT K) ix_tup (pe_ix (r := rIxL K) ix_list (pv 2) (pe_op op_add (pv 5) pe_int) (fun _ _ => rfl)) pe_int (fun _ _ => rfl)) (pe_op op_add (pv 6) pe_int) (nomark _)))))))) (pss_one (ps_expr (pe_bm PySem.F.plainAttrs_list PySem.F.slot_list_append PySem.F.type_list_append mt_append (pv 4) (pa_cons (pe_tup (pa_cons (pv 1) (pa_cons (pe_op op_cat (pe_op op_cat (pe_slice sl_list (pv 2) po_none (po_some (pv 5))) (pe_lst (pa_cons (pe_tup (pa_cons (pe_op op_add (pv 6) pe_int) (pa_cons (pv 7) pa_nil))) pa_nil))) (pe_slice sl_list (pv 2) (po_some (pe_op op_add (pv 5) pe_int)) po_none)) pa_nil))) pa_nil)))) pss_nil))))))
        (pss_one (ps_ret (pe_lc (own := [("one", 8), ("some", 9)]) (g := (gTup K 2 (gCons (gName 8) (gCons (gName 9) gNil)))) (tt := tYes) rfl scOt.nd (pi_list (pv 4)) (blkOk_by (own := [("one", 8), ("some", 9)]) (N := NOt) (sc := defScope sOt) (by decide +kernel)) (fun _ _ _ _ _ => (pg_tup rfl (pgs_cons (pg_name (i := 8) scOt.nd rfl (Or.inl rfl)) (pgs_cons (pg_name (i := 9) scOt.nd rfl (Or.inl rfl)) pgs_nil)))) (fun _ _ _ _ _ => pts_nil) (fun _ _ _ _ _ => (pe_call GH (hr.mono (by decide)) rfl gH kH bH .nil pass0 (pa_cons (pe_tup (pa_cons (pv 8) (pa_cons (pv 9) (pa_cons (pv 3) pa_nil)))) pa_nil))))))))), ?_⟩
    obtain ⟨lp, t, ts, hp, hl0, hpr0, ht⟩ := RR
    have lt := hpr0.len
    refine ⟨_, rfl, u, _, rfl, SqT.of hp, rfl, _, _, rfl, _, _, rfl, _, _, rfl, rfl, ?_⟩
    try dsimp only [L2.start, List.set, List.map, List.append, List.replicate, List.length]
    refine ⟨_, rfl, _, _, rfl, rfl, _, rfl, (by show 2 ≤ sizeLine; decide), fun t0 ht0 => ⟨(by show 1 ≤ sizeLine; decide), fun FD hFD => ?_⟩⟩
    have s1 := same_new (o := .tup [.int (n + 1), .ref lp]) (Same.refl H) ht0
    have k1 : upd H t0 (.tup [.int (n + 1), .ref lp]) t0 = some (.tup [.int (n + 1), .ref lp]) := upd_same
    have hFD0 : upd H t0 (.tup [.int (n + 1), .ref lp]) FD = none := hFD
    generalize upd H t0 (.tup [.int (n + 1), .ref lp]) = H1 at s1 k1 hFD0 ⊢
    have fFD : H FD = none := s1.free hFD0
    have s2 := same_new (o := .lst [.ref t0]) (Same.refl H1) hFD0
    have k2 : upd H1 FD (.lst [.ref t0]) FD = some (.lst ([t0].map V.ref)) := upd_same
    generalize upd H1 FD (.lst [.ref t0]) = H2 at s2 k2 ⊢
    have nlp : lp ≠ FD := fun e => by rw [e, fFD] at hl0; cases hl0
    have s02 := s1.trans s2
    have F2 : Fnd n prs FD H2 [t0] [(n + 1, prs)] := ⟨k2, .cons ⟨lp, ts, s2 _ _ k1, s02 _ _ hl0, hpr0.imp fun _ _ e => s02 _ _ e, nlp⟩ .nil, fun q hq => by
      rw [List.mem_singleton.mp hq]
      exact dif_long G⟩
    try dsimp only [L2.start, List.set, List.map, List.append, List.replicate, List.length]
    have tsn : ((ts.map V.ref).length : Int) = (prs.length : Int) := by rw [List.length_map, lt]
    refine ⟨_, rfl, lp, _, rfl, .inl (SqL.of (s02 _ _ hl0)), _, rfl, by omega, by omega, for_range (lo := 0) (n := Int.toNat _) (fun i σ H' => ∃ (v5 v6 v7 : Option V) (es : List Addr) (qs : List (Int × List (Int × Int))), σ = [some (.ref u), some (.int n), some (.ref lp), some (.ref t), some (.ref FD), v5, v6, v7, none, none] ∧ Same H H' ∧ Fnd n prs FD H' es qs ∧ es.length ≤ 1 + 3 * i) ⟨_, _, _, [t0], _, rfl, s02, F2, Nat.le_refl _⟩ ?_ ?_⟩
    · rintro i σ H3 hi ⟨v5, v6, v7, es, qs, rfl, sB0, FN0, el0⟩
      have il : i < ts.length := by
        rw [tsn] at hi
        omega
      have i40 : i < 40 := by omega
      simp only [Int.zero_add]
      have hl3 := sB0 _ _ hl0
      have hpr3 : PrAt H3 ts prs := hpr0.imp fun _ _ e => sB0 _ _ e
      obtain ⟨y, hy, hty⟩ := pd_mem hpr3 (List.getElem?_eq_getElem il)
      generalize hty0 : ts[i] = ty at hty
      have aty : (ts.map V.ref)[i]? = some (V.ref ty) := by rw [List.getElem?_map, List.getElem?_eq_getElem il, hty0]; rfl
      refine ⟨_, rfl, _, rfl, lp, _, _, _, rfl, rfl, SqL.of hl3, at_of2 (j := i) rfl aty, ?_⟩
      refine ⟨ty, _, rfl, SqT.of hty, rfl, _, _, rfl, _, _, rfl, rfl, ?_⟩
      have pt := fun (H' : Hp) (s : Same H H') => pd_take i (R := fun v (q : Int × Int) => H' v = some (.tup [.int q.1, .int q.2])) (hpr0.imp fun _ _ e => s _ _ e)
      have pdd := fun (H' : Hp) (s : Same H H') => pd_drop (i + 1) (R := fun v (q : Int × Int) => H' v = some (.tup [.int q.1, .int q.2])) (hpr0.imp fun _ _ e => s _ _ e)
      try dsimp only [L2.start, List.set, List.map, List.append, List.replicate, List.length]
      have sBH3 := sB0
      have FNH3 := FN0
      have sCH3 : Same H3 H3 := Same.refl H3
      refine ⟨_, rfl, .inl ⟨rfl, _, SqL.of FNH3.at_⟩, ?_⟩
      refine ⟨_, rfl, _, rfl, _, rfl, _, rfl, lp, _, rfl, SqL.of (sBH3 _ _ hl0), fun p1 hp1 => ?_⟩
      rw [cut_to]
      have sp1 := same_new (o := (.lst ((ts.take i).map V.ref))) (Same.refl H3) hp1
      have kp1 : upd H3 p1 (.lst ((ts.take i).map V.ref)) p1 = some (.lst ((ts.take i).map V.ref)) := upd_same
      generalize upd H3 p1 (.lst ((ts.take i).map V.ref)) = A1 at sp1 kp1 ⊢
      have sCA1 := sCH3.trans sp1
      refine ⟨_, rfl, _, rfl, _, _, rfl, rfl, _, rfl, lp, _, rfl, SqL.of ((sBH3.trans sCA1) _ _ hl0), fun d1 hd1 => ?_⟩
      rw [show (i : Int) + 1 = ((i + 1 : Nat) : Int) by omega, cut_from V.ref ts (i + 1) (by omega)]
      have sd1 := same_new (o := (.lst ((ts.drop (i + 1)).map V.ref))) (Same.refl A1) hd1
      have kd1 : upd A1 d1 (.lst ((ts.drop (i + 1)).map V.ref)) d1 = some (.lst ((ts.drop (i + 1)).map V.ref)) := upd_same
      generalize upd A1 d1 (.lst ((ts.drop (i + 1)).map V.ref)) = E1 at sd1 kd1 ⊢
      have sCE1 := sCA1.trans sd1
      refine ⟨p1, d1, _, _, rfl, rfl, sd1 _ _ kp1, kd1, by simp only [List.length_map, List.length_append, List.length_take, List.length_drop, List.length_singleton]; rw [sizeLine_eq]; omega, fun c1 hc1 => ?_⟩
      rw [← List.map_append]
      have nc1 : c1 ≠ FD := fun e => by
        rw [e, (FNH3.same sCE1).at_] at hc1
        cases hc1
      have sc1 := same_new (o := (.lst ((ts.take i ++ ts.drop (i + 1)).map V.ref))) (Same.refl E1) hc1
      have kc1 : upd E1 c1 (.lst ((ts.take i ++ ts.drop (i + 1)).map V.ref)) c1 = some (.lst ((ts.take i ++ ts.drop (i + 1)).map V.ref)) := upd_same
      generalize upd E1 c1 (.lst ((ts.take i ++ ts.drop (i + 1)).map V.ref)) = F1 at sc1 kc1 ⊢
      have sCF1 := sCE1.trans sc1
      refine ⟨(by show 2 ≤ sizeLine; decide), fun t1 ht1 => ?_⟩
      have FP1 := (FNH3.same sCF1).push (t := t1) (c := c1) (n' := n) ht1 kc1 (pd_app (pt _ (sBH3.trans sCF1)) (pdd _ (sBH3.trans sCF1))) nc1 (dif_out G hy)
      have sP1 : Same H (upd (upd F1 t1 (.tup [.int n, .ref c1])) FD (.lst ((es).map V.ref ++ [.ref t1]))) := same_put (same_new (sBH3.trans sCF1) ht1) fFD
      have q1 := same_new (o := .tup [.int n, .ref c1]) (Same.refl F1) ht1 _ _ (FNH3.same sCF1).at_
      refine ⟨FD, _, _, rfl, rfl, q1, by simp only [List.length_map, List.length_append, List.length_singleton]; exact small1000 (by omega), ?_⟩
      generalize upd (upd F1 t1 (.tup [.int n, .ref c1])) FD (.lst ((es).map V.ref ++ [.ref t1])) = X1 at FP1 sP1 ⊢
      have sBX1 := sP1
      have FNX1 := FP1
      clear FP1 sP1 q1
      try dsimp only [L2.start, List.set, List.map, List.append, List.replicate, List.length]
      have sCX1 : Same X1 X1 := Same.refl X1
      refine ⟨_, rfl, .inl ⟨rfl, _, SqL.of FNX1.at_⟩, ?_⟩
      refine ⟨_, rfl, _, rfl, _, rfl, _, rfl, lp, _, rfl, SqL.of (sBX1 _ _ hl0), fun p2 hp2 => ?_⟩
      rw [cut_to]
      have sp2 := same_new (o := (.lst ((ts.take i).map V.ref))) (Same.refl X1) hp2
      have kp2 : upd X1 p2 (.lst ((ts.take i).map V.ref)) p2 = some (.lst ((ts.take i).map V.ref)) := upd_same
      generalize upd X1 p2 (.lst ((ts.take i).map V.ref)) = A2 at sp2 kp2 ⊢
      have sCA2 := sCX1.trans sp2
      refine ⟨_, rfl, _, rfl, _, _, rfl, rfl, (by show 2 ≤ sizeLine; decide), fun m2 hm2 => ?_⟩
      have sm2 := same_new (o := (.tup [.int y.1, .int (3 - y.2)])) (Same.refl A2) hm2
      have km2 : upd A2 m2 (.tup [.int y.1, .int (3 - y.2)]) m2 = some (.tup [.int y.1, .int (3 - y.2)]) := upd_same
      generalize upd A2 m2 (.tup [.int y.1, .int (3 - y.2)]) = B2 at sm2 km2 ⊢
      have sCB2 := sCA2.trans sm2
      refine ⟨(by show 1 ≤ sizeLine; decide), fun w2 hw2 => ?_⟩
      have sw2 := same_new (o := (.lst [.ref m2])) (Same.refl B2) hw2
      have kw2 : upd B2 w2 (.lst [.ref m2]) w2 = some (.lst [.ref m2]) := upd_same
      generalize upd B2 w2 (.lst [.ref m2]) = C2 at sw2 kw2 ⊢
      have sCC2 := sCB2.trans sw2
      have kw2 : C2 w2 = some (.lst ([m2].map V.ref)) := kw2
      refine ⟨p2, w2, _, _, rfl, rfl, sw2 _ _ (sm2 _ _ kp2), kw2, by simp only [List.length_map, List.length_take, List.length_singleton]; rw [sizeLine_eq]; omega, fun x2 hx2 => ?_⟩
      rw [← List.map_append]
      have sx2 := same_new (o := (.lst ((ts.take i ++ [m2]).map V.ref))) (Same.refl C2) hx2
      have kx2 : upd C2 x2 (.lst ((ts.take i ++ [m2]).map V.ref)) x2 = some (.lst ((ts.take i ++ [m2]).map V.ref)) := upd_same
      generalize upd C2 x2 (.lst ((ts.take i ++ [m2]).map V.ref)) = D2 at sx2 kx2 ⊢
      have sCD2 := sCC2.trans sx2
      refine ⟨_, rfl, _, rfl, _, _, rfl, rfl, _, rfl, lp, _, rfl, SqL.of ((sBX1.trans sCD2) _ _ hl0), fun d2 hd2 => ?_⟩
      rw [show (i : Int) + 1 = ((i + 1 : Nat) : Int) by omega, cut_from V.ref ts (i + 1) (by omega)]
      have sd2 := same_new (o := (.lst ((ts.drop (i + 1)).map V.ref))) (Same.refl D2) hd2
      have kd2 : upd D2 d2 (.lst ((ts.drop (i + 1)).map V.ref)) d2 = some (.lst ((ts.drop (i + 1)).map V.ref)) := upd_same
      generalize upd D2 d2 (.lst ((ts.drop (i + 1)).map V.ref)) = E2 at sd2 kd2 ⊢
      have sCE2 := sCD2.trans sd2
      refine ⟨x2, d2, _, _, rfl, rfl, sd2 _ _ kx2, kd2, by simp only [List.length_map, List.length_append, List.length_take, List.length_drop, List.length_singleton]; rw [sizeLine_eq]; omega, fun c2 hc2 => ?_⟩
      rw [← List.map_append]
      have nc2 : c2 ≠ FD := fun e => by
        rw [e, (FNX1.same sCE2).at_] at hc2
        cases hc2
      have sc2 := same_new (o := (.lst ((ts.take i ++ [m2] ++ ts.drop (i + 1)).map V.ref))) (Same.refl E2) hc2
      have kc2 : upd E2 c2 (.lst ((ts.take i ++ [m2] ++ ts.drop (i + 1)).map V.ref)) c2 = some (.lst ((ts.take i ++ [m2] ++ ts.drop (i + 1)).map V.ref)) := upd_same
      generalize upd E2 c2 (.lst ((ts.take i ++ [m2] ++ ts.drop (i + 1)).map V.ref)) = F2 at sc2 kc2 ⊢
      have sCF2 := sCE2.trans sc2
      refine ⟨(by show 2 ≤ sizeLine; decide), fun t2 ht2 => ?_⟩
      have FP2 := (FNX1.same sCF2).push (t := t2) (c := c2) (n' := n) ht2 kc2 (pd_app (pd_app (pt _ (sBX1.trans sCF2)) (.cons (show F2 m2 = some (.tup [.int y.1, .int (3 - y.2)]) from sc2 _ _ (sd2 _ _ (sx2 _ _ (sw2 _ _ km2)))) .nil)) (pdd _ (sBX1.trans sCF2))) nc2 (dif_kind G hy)
      have sP2 : Same H (upd (upd F2 t2 (.tup [.int n, .ref c2])) FD (.lst ((es ++ [t1]).map V.ref ++ [.ref t2]))) := same_put (same_new (sBX1.trans sCF2) ht2) fFD
      have q2 := same_new (o := .tup [.int n, .ref c2]) (Same.refl F2) ht2 _ _ (FNX1.same sCF2).at_
      refine ⟨FD, _, _, rfl, rfl, q2, by simp only [List.length_map, List.length_append, List.length_singleton]; exact small1000 (by omega), ?_⟩
      generalize upd (upd F2 t2 (.tup [.int n, .ref c2])) FD (.lst ((es ++ [t1]).map V.ref ++ [.ref t2])) = X2 at FP2 sP2 ⊢
      have sBX2 := sP2
      have FNX2 := FP2
      clear FP2 sP2 q2
      try dsimp only [L2.start, List.set, List.map, List.append, List.replicate, List.length]
      have ry := G.rng y (List.mem_of_getElem? hy)
      have lX := (sBX2 _ _ hl0)
      have last : ∃ (v5 v6 v7 : Option V) (es' : List Addr) (qs' : List (Int × List (Int × Int))), [some (V.ref u), some (V.int n), some (V.ref lp), some (V.ref t), some (V.ref FD), some (V.int (i : Int)), some (V.int y.1), some (V.int y.2), none, none] = [some (.ref u), some (.int n), some (.ref lp), some (.ref t), some (.ref FD), v5, v6, v7, none, none] ∧ Same H X2 ∧ Fnd n prs FD X2 es' qs' ∧ es'.length ≤ 1 + 3 * (i + 1) := ⟨_, _, _, _, _, rfl, sBX2, FNX2, by simp only [List.length_append, List.length_singleton]; omega⟩
      refine ⟨_, rfl, _, _, rfl, rfl, _, rfl, _, _, rfl, rfl, _, rfl, ?_⟩
      by_cases c1 : y.1 + 1 < n
      · refine ifT (decide_eq_true c1) ?_
        refine ⟨_, rfl, _, _, rfl, rfl, _, rfl, lp, _, rfl, .inl (SqL.of lX), rfl, _, rfl, ?_⟩
        apply rest_of (C := fun H' => Same H H' ∧ Fnd n prs FD H' (es ++ [t1] ++ [t2]) (qs ++ [(n, prs.take i ++ prs.drop (i + 1))] ++ [(n, prs.take i ++ [(y.1, 3 - y.2)] ++ prs.drop (i + 1))]) ∧ ∀ z, prs[i + 1]? = some z → y.1 + 1 < z.1)
        · intro tl
          by_cases c2 : i + 1 = ts.length
          · refine ifT (decide_eq_true (by rw [List.length_map, ← c2]; push_cast; rfl)) ?_
            dsimp -proj only
            refine iteT ?_
            exact tl X2 ⟨sBX2, FNX2, fun z hz => by
              have := (List.getElem?_eq_some_iff.mp hz).1
              omega⟩
          · refine ifF (decide_eq_false fun z => by have := V.int.inj z; rw [List.length_map] at this; omega) ?_
            have il2 : i + 1 < ts.length := by omega
            obtain ⟨z, hz, htz⟩ := pd_mem (hpr0.imp fun _ _ e => sBX2 _ _ e : PrAt X2 ts prs) (List.getElem?_eq_getElem il2)
            generalize htz0 : ts[i + 1] = tz at htz
            have atz : (ts.map V.ref)[i + 1]? = some (V.ref tz) := by rw [List.getElem?_map, List.getElem?_eq_getElem il2, htz0]; rfl
            refine ⟨_, rfl, _, rfl, _, _, rfl, rfl, lp, _, _, _, rfl, rfl, SqL.of lX, at_of2 (j := i + 1) (by omega) atz, tz, _, _, _, rfl, rfl, SqT.of htz, at_of2 (j := 0) rfl rfl, _, rfl, _, _, rfl, rfl, _, _, rfl, rfl, _, rfl, ?_⟩
            by_cases c3 : z.1 > y.1 + 1
            · refine ifT (decide_eq_true c3) ?_
              exact tl X2 ⟨sBX2, FNX2, fun z' hz' => by
                rw [hz] at hz'
                cases hz'
                exact c3⟩
            · refine ifF (decide_eq_false c3) ?_
              exact last
        rintro XZ ⟨sBXZ, FNXZ, far⟩
        clear last lX FNX2 FNX1 sBX2 sBX1
        try dsimp only [L2.start, List.set, List.map, List.append, List.replicate, List.length]
        have sCXZ : Same XZ XZ := Same.refl XZ
        refine ⟨_, rfl, .inl ⟨rfl, _, SqL.of FNXZ.at_⟩, ?_⟩
        refine ⟨_, rfl, _, rfl, _, rfl, _, rfl, lp, _, rfl, SqL.of (sBXZ _ _ hl0), fun p3 hp3 => ?_⟩
        rw [cut_to]
        have sp3 := same_new (o := (.lst ((ts.take i).map V.ref))) (Same.refl XZ) hp3
        have kp3 : upd XZ p3 (.lst ((ts.take i).map V.ref)) p3 = some (.lst ((ts.take i).map V.ref)) := upd_same
        generalize upd XZ p3 (.lst ((ts.take i).map V.ref)) = A3 at sp3 kp3 ⊢
        have sCA3 := sCXZ.trans sp3
        refine ⟨_, rfl, _, _, rfl, rfl, _, rfl, (by show 2 ≤ sizeLine; decide), fun m3 hm3 => ?_⟩
        have sm3 := same_new (o := (.tup [.int (y.1 + 1), .int y.2])) (Same.refl A3) hm3
        have km3 : upd A3 m3 (.tup [.int (y.1 + 1), .int y.2]) m3 = some (.tup [.int (y.1 + 1), .int y.2]) := upd_same
        generalize upd A3 m3 (.tup [.int (y.1 + 1), .int y.2]) = B3 at sm3 km3 ⊢
        have sCB3 := sCA3.trans sm3
        refine ⟨(by show 1 ≤ sizeLine; decide), fun w3 hw3 => ?_⟩
        have sw3 := same_new (o := (.lst [.ref m3])) (Same.refl B3) hw3
        have kw3 : upd B3 w3 (.lst [.ref m3]) w3 = some (.lst [.ref m3]) := upd_same
        generalize upd B3 w3 (.lst [.ref m3]) = C3 at sw3 kw3 ⊢
        have sCC3 := sCB3.trans sw3
        have kw3 : C3 w3 = some (.lst ([m3].map V.ref)) := kw3
        refine ⟨p3, w3, _, _, rfl, rfl, sw3 _ _ (sm3 _ _ kp3), kw3, by simp only [List.length_map, List.length_take, List.length_singleton]; rw [sizeLine_eq]; omega, fun x3 hx3 => ?_⟩
        rw [← List.map_append]
        have sx3 := same_new (o := (.lst ((ts.take i ++ [m3]).map V.ref))) (Same.refl C3) hx3
        have kx3 : upd C3 x3 (.lst ((ts.take i ++ [m3]).map V.ref)) x3 = some (.lst ((ts.take i ++ [m3]).map V.ref)) := upd_same
        generalize upd C3 x3 (.lst ((ts.take i ++ [m3]).map V.ref)) = D3 at sx3 kx3 ⊢
        have sCD3 := sCC3.trans sx3
        refine ⟨_, rfl, _, rfl, _, _, rfl, rfl, _, rfl, lp, _, rfl, SqL.of ((sBXZ.trans sCD3) _ _ hl0), fun d3 hd3 => ?_⟩
        rw [show (i : Int) + 1 = ((i + 1 : Nat) : Int) by omega, cut_from V.ref ts (i + 1) (by omega)]
        have sd3 := same_new (o := (.lst ((ts.drop (i + 1)).map V.ref))) (Same.refl D3) hd3
        have kd3 : upd D3 d3 (.lst ((ts.drop (i + 1)).map V.ref)) d3 = some (.lst ((ts.drop (i + 1)).map V.ref)) := upd_same
        generalize upd D3 d3 (.lst ((ts.drop (i + 1)).map V.ref)) = E3 at sd3 kd3 ⊢
        have sCE3 := sCD3.trans sd3
        refine ⟨x3, d3, _, _, rfl, rfl, sd3 _ _ kx3, kd3, by simp only [List.length_map, List.length_append, List.length_take, List.length_drop, List.length_singleton]; rw [sizeLine_eq]; omega, fun c3 hc3 => ?_⟩
        rw [← List.map_append]
        have nc3 : c3 ≠ FD := fun e => by
          rw [e, (FNXZ.same sCE3).at_] at hc3
          cases hc3
        have sc3 := same_new (o := (.lst ((ts.take i ++ [m3] ++ ts.drop (i + 1)).map V.ref))) (Same.refl E3) hc3
        have kc3 : upd E3 c3 (.lst ((ts.take i ++ [m3] ++ ts.drop (i + 1)).map V.ref)) c3 = some (.lst ((ts.take i ++ [m3] ++ ts.drop (i + 1)).map V.ref)) := upd_same
        generalize upd E3 c3 (.lst ((ts.take i ++ [m3] ++ ts.drop (i + 1)).map V.ref)) = F3 at sc3 kc3 ⊢
        have sCF3 := sCE3.trans sc3
        refine ⟨(by show 2 ≤ sizeLine; decide), fun t3 ht3 => ?_⟩
        have FP3 := (FNXZ.same sCF3).push (t := t3) (c := c3) (n' := n) ht3 kc3 (pd_app (pd_app (pt _ (sBXZ.trans sCF3)) (.cons (show F3 m3 = some (.tup [.int (y.1 + 1), .int y.2]) from sc3 _ _ (sd3 _ _ (sx3 _ _ (sw3 _ _ km3)))) .nil)) (pdd _ (sBXZ.trans sCF3))) nc3 (dif_move G hy c1 far)
        have sP3 : Same H (upd (upd F3 t3 (.tup [.int n, .ref c3])) FD (.lst ((es ++ [t1] ++ [t2]).map V.ref ++ [.ref t3]))) := same_put (same_new (sBXZ.trans sCF3) ht3) fFD
        have q3 := same_new (o := .tup [.int n, .ref c3]) (Same.refl F3) ht3 _ _ (FNXZ.same sCF3).at_
        refine ⟨FD, _, _, rfl, rfl, q3, by simp only [List.length_map, List.length_append, List.length_singleton]; exact small1000 (by omega), ?_⟩
        generalize upd (upd F3 t3 (.tup [.int n, .ref c3])) FD (.lst ((es ++ [t1] ++ [t2]).map V.ref ++ [.ref t3])) = XW at FP3 sP3 ⊢
        have sBXW := sP3
        have FNXW := FP3
        clear FP3 sP3 q3
        try dsimp only [L2.start, List.set, List.map, List.append, List.replicate, List.length]
        exact ⟨_, _, _, _, _, rfl, sBXW, FNXW, by simp only [List.length_append, List.length_singleton]; omega⟩
      · refine ifF (decide_eq_false c1) ?_
        refine ifF rfl ?_
        exact last
    · rintro σ H3 ⟨v5, v6, v7, es, qs, rfl, sB0, FN0, el0⟩
      rw [tsn] at el0
      have ht3 := sB0 _ _ ht
      try dsimp only [L2.start, List.set, List.map, List.append, List.replicate, List.length]
      refine ⟨_, rfl, FD, rfl, ⟨_, SqL.of FN0.at_⟩, fun D hD => ?_⟩
      have lq : es.length = qs.length := pd_len FN0.pd
      refine lc_list (K := K) (a := FD) (xs := es.map V.ref) (fun i H' => Same H3 H' ∧ ∃ rs : List Addr, H' D = some (.lst (rs.map V.ref)) ∧ rs.length = i ∧ ∀ r ∈ rs, ∃ (n2 : Int) (ms2 ss2 : List Int), RowOff C H' D r n2 ms2 ss2 ∧ ¬ (n = n2 ∧ marksOf prs = ms2 ∧ strictOf prs = ss2)) ⟨same_new (Same.refl H3) hD, [], upd_same, rfl, fun _ h => (nomatch h)⟩ (fun i H' _ z => SqL.of (z.1 _ _ FN0.at_)) ?_ ?_
      · rintro i x H4 hx ⟨s4, rs, hE, rl, ok4⟩
        obtain ⟨e, rfl, he⟩ : ∃ e, x = V.ref e ∧ es[i]? = some e := by
          rw [List.getElem?_map] at hx
          cases h : es[i]? with
          | none => rw [h] at hx; cases hx
          | some k => rw [h] at hx; exact ⟨k, (Option.some.inj hx).symm, rfl⟩
        have il := (List.getElem?_eq_some_iff.mp he).1
        obtain ⟨qq, hq, L, ts2, h1, h2, h3, _⟩ := pd_mem FN0.pd he
        have dq := FN0.ok qq (List.mem_of_getElem? hq)
        refine ⟨e, _, rfl, SqT.of (s4 _ _ h1), rfl, _, _, rfl, _, _, rfl, rfl, rfl, ?_⟩
        unfold tYes
        refine iteT ?_
        refine ⟨_, rfl, _, rfl, _, rfl, (by show 3 ≤ sizeLine; decide), fun w' hw' => ?_⟩
        have s5 := same_new (o := .tup [.int qq.1, .ref L, .ref t]) (Same.refl H4) hw'
        have k5 : upd H4 w' (.tup [.int qq.1, .ref L, .ref t]) w' = some (.tup [.int qq.1, .ref L, .ref t]) := upd_same
        generalize upd H4 w' (.tup [.int qq.1, .ref L, .ref t]) = H5 at s5 k5 ⊢
        have s35 := s4.trans s5
        have hE5 := s5 _ _ hE
        refine ⟨w', qq.1, qq.2, rfl, ⟨L, t, ts2, k5, s35 _ _ h2, h3.imp fun _ _ z => s35 _ _ z⟩, dq.1, fun r H6 s6 rowN => ?_⟩
        have hE6 := s6 _ _ hE5
        refine ⟨_, hE6, by rw [List.length_map, rl]; exact small1000 (by omega), same_put (s35.trans s6) hD, rs ++ [r], ?_, by rw [List.length_append, rl]; rfl, fun z hz => ?_⟩
        · show upd _ _ _ D = _
          rw [upd_same, List.map_append]
          rfl
        · rcases List.mem_append.mp hz with hz | hz
          · obtain ⟨n2, ms2, ss2, ro, no⟩ := ok4 z hz
            exact ⟨n2, ms2, ss2, ro.butD hE ((But.of (s5.trans s6)).trans ((But.refl H6 D).upd)), no⟩
          · rw [List.mem_singleton.mp hz]
            exact ⟨_, _, _, (rowN.offD hE5).butD hE6 ((But.refl H6 D).upd), dq.2⟩
      · rintro H4 ⟨s4, rs, hE, rl, ok4⟩
        rw [List.length_map] at rl
        refine q D H4 rs (sB0.trans s4) hE (by omega) fun e he => ?_
        obtain ⟨n2, ms2, ss2, ro, no⟩ := ok4 e he
        exact ⟨n2, ms2, ss2, ro.at, no⟩
end
end Cw
namespace Cw
open PySem L2
abbrev sSlow : Stmt := top 0
/-! ## the next cut, place by place -/
def Srv (prs : List (Int × Int)) (p m z : Int) : Prop := (z, 2) ∈ prs ∨ ((z, 1) ∈ prs ∧ z ≥ p + m)
theorem mem_marks {prs : List (Int × Int)} {n x : Int} (G : GoodP n prs) : x ∈ marksOf prs ↔ (x, 1) ∈ prs ∨ (x, 2) ∈ prs := by
  constructor
  · intro h
    obtain ⟨q, hq, rfl⟩ := List.mem_map.mp h
    obtain ⟨q1, q2⟩ := q
    rcases (G.rng _ hq).2.2 with e | e
    · exact .inl (by rw [show q2 = 1 from e] at hq; exact hq)
    · exact .inr (by rw [show q2 = 2 from e] at hq; exact hq)
  · rintro (h | h) <;> exact List.mem_map.mpr ⟨_, h, rfl⟩
theorem mem_strict {prs : List (Int × Int)} {x : Int} : x ∈ strictOf prs ↔ (x, 2) ∈ prs := by
  constructor
  · intro h
    obtain ⟨q, hq, rfl⟩ := List.mem_map.mp h
    obtain ⟨h1, h2⟩ := List.mem_filter.mp hq
    obtain ⟨q1, q2⟩ := q
    have e : q2 = 2 := of_decide_eq_true h2
    rw [e] at h1
    exact h1
  · intro h
    exact List.mem_map.mpr ⟨_, List.mem_filter.mpr ⟨h, decide_eq_true rfl⟩, rfl⟩
theorem nx_found {n l m g p z : Int} {prs : List (Int × Int)} (G : GoodP n prs) (S : SetOk l m g) (h1 : p + l ≤ z) (h2 : z < p + g) (h3 : z < n) (h : Srv prs p m z) (no : ∀ y, p + l ≤ y → y < z → ¬ Srv prs p m y) : nx n (marksOf prs) (strictOf prs) l m g p = z := by
  have l1 := S.l1
  have lm := S.lm
  have Gd := G.good
  have a : z ≤ fm (strictOf prs) (p + l) n := by
    rcases fm_or Gd.asc2 (p + l) n with ⟨k1, k2⟩ | ⟨k1, _⟩
    · by_cases c : fm (strictOf prs) (p + l) n < z
      · exact absurd (.inl (mem_strict.mp k1)) (no _ k2 c)
      · omega
    · omega
  have b : z ≤ fm (marksOf prs) (p + m) n := by
    rcases fm_or Gd.asc (p + m) n with ⟨k1, k2⟩ | ⟨k1, _⟩
    · by_cases c : fm (marksOf prs) (p + m) n < z
      · rcases (mem_marks G).mp k1 with k | k
        · exact absurd (.inr ⟨k, k2⟩) (no _ (by omega) c)
        · exact absurd (.inl k) (no _ (by omega) c)
      · omega
    · omega
  have c : fm (strictOf prs) (p + l) n ≤ z ∨ fm (marksOf prs) (p + m) n ≤ z := by
    rcases h with h | ⟨h, hz⟩
    · exact .inl (fm_le Gd.asc2 (mem_strict.mpr h) h1)
    · exact .inr (fm_le Gd.asc ((mem_marks G).mpr (.inl h)) hz)
  unfold nx
  omega
theorem nx_none {n l m g p : Int} {prs : List (Int × Int)} (G : GoodP n prs) (S : SetOk l m g) (no : ∀ y, p + l ≤ y → y < p + g → y < n → ¬ Srv prs p m y) : nx n (marksOf prs) (strictOf prs) l m g p = min (p + g) n := by
  have l1 := S.l1
  have lm := S.lm
  have Gd := G.good
  have a : min (p + g) n ≤ fm (strictOf prs) (p + l) n := by
    rcases fm_or Gd.asc2 (p + l) n with ⟨k1, k2⟩ | ⟨k1, _⟩
    · by_cases c : fm (strictOf prs) (p + l) n < min (p + g) n
      · exact absurd (.inl (mem_strict.mp k1)) (no _ k2 (by omega) (by omega))
      · omega
    · omega
  have b : min (p + g) n ≤ fm (marksOf prs) (p + m) n := by
    rcases fm_or Gd.asc (p + m) n with ⟨k1, k2⟩ | ⟨k1, _⟩
    · by_cases c : fm (marksOf prs) (p + m) n < min (p + g) n
      · rcases (mem_marks G).mp k1 with k | k
        · exact absurd (.inr ⟨k, k2⟩) (no _ (by omega) (by omega) (by omega))
        · exact absurd (.inl k) (no _ (by omega) (by omega) (by omega))
      · omega
    · omega
  unfold nx
  omega
/-! ## pairs as data -/
abbrev dP (q : Int × Int) : PyData := .tuple [.int q.1, .int q.2]
theorem dp_pair {K : PySem.W.Frag} {H : Hp} {t : Addr} {q : Int × Int} (h : H t = some (.tup [.int q.1, .int q.2])) : Dp K H (.ref t) (dP q) := .tup (SqT.of h) (.cons (.int _) (.cons (.int _) .nil))
theorem dps_pairs {K : PySem.W.Frag} {H : Hp} : ∀ {ts : List Addr} {ps : List (Int × Int)}, PrAt H ts ps → DpAll K H (ts.map V.ref) (ps.map dP)
  | _, _, .nil => .nil
  | _, _, .cons h r => .cons (dp_pair h) (dps_pairs r)
theorem lay_pairs : ∀ ps : List (Int × Int), PyData.canLayAll0 (ps.map dP) = true := fun ps => by
  induction ps with
  | nil => rfl
  | cons q r ih =>
    rw [List.map_cons]
    unfold PyData.canLayAll0
    rw [ih]
    rfl
theorem depth_pairs : ∀ ps : List (Int × Int), PyData.depthAll (ps.map dP) ≤ 3 := fun ps => by
  induction ps with
  | nil => exact Nat.zero_le _
  | cons q r ih =>
    rw [List.map_cons]
    unfold PyData.depthAll
    have e : PyData.depth (dP q) ≤ 3 := by
      have z : PyData.depth (dP q) = PyData.depth (.tuple [.int 0, .int 0]) := rfl
      rw [z]
      decide +kernel
    omega
theorem shape_pairs (ps : List (Int × Int)) : SeqAt.shaped (.list (ps.map dP)) = true := by
  have h1 : PyData.canLay0 (.list (ps.map dP)) = true := by
    unfold PyData.canLay0
    exact lay_pairs ps
  have h2 : PyData.depth (.list (ps.map dP)) ≤ 64 := by
    have z := depth_pairs ps
    unfold PyData.depth
    omega
  unfold SeqAt.shaped
  rw [h1, decide_eq_true h2]
  rfl
theorem shape_pair (q : Int × Int) : SeqAt.shaped (dP q) = true := by
  have z : SeqAt.shaped (dP q) = SeqAt.shaped (.tuple [.int 0, .int 0]) := rfl
  rw [z]
  decide +kernel
theorem any_pairs {q : Int × Int} {ps : List (Int × Int)} : ((ps.map dP).any fun z => PyData.eqv z (dP q)) = decide (q ∈ ps) := by
  induction ps with
  | nil => rfl
  | cons y r ih =>
    rw [List.map_cons, List.any_cons, ih]
    have e : PyData.eqv (dP y) (dP q) = decide (y = q) := by
      obtain ⟨y1, y2⟩ := y
      obtain ⟨q1, q2⟩ := q
      simp only [dP, PyData.eqv, PyData.eqvAll]
      by_cases c1 : y1 = q1 <;> by_cases c2 : y2 = q2 <;> simp [c1, c2]
    rw [e]
    by_cases c : y = q
    · subst c; simp
    · have c' : ¬ q = y := fun h => c h.symm
      simp [c, c']
def spSlow : Sp := fun vs H Q _ => ∃ (p : Addr) (n l m g z : Int) (prs : List (Int × Int)), vs = [.ref p, .int z] ∧ RawS H p n prs l m g ∧ GoodP n prs ∧ SetOk l m g ∧ -1000000 ≤ z ∧ z ≤ 1000000 ∧ n ≤ 1000 ∧ g ≤ 1000000 ∧
  ∀ H', Same H H' → Q (.int (nx n (marksOf prs) (strictOf prs) l m g z)) H'
section
variable {P : Program} {w : World} {K : PySem.W.Frag} {mg : Str → Option Value} {base : Heap}
abbrev NSl : List Str := ["raw", "spot", "length", "marked", "three", "goal"]
end
end Cw
namespace Cw
open PySem L2
theorem log_wide {i : Int} (h0 : 0 ≤ i) (h1 : i ≤ 1000000000000000000000000000000000) : i.natAbs.log2 < 1920 := by
  by_cases c : i.natAbs = 0
  · rw [c]; decide
  · have z : i.natAbs.log2 < 120 := (Nat.log2_lt c).mpr (by
      have e : (2 : Nat) ^ 120 = 1329227995784915872903807060280344576 := by decide +kernel
      rw [e]; omega)
    omega
theorem shown_wide {i : Int} (h0 : 0 ≤ i) (h1 : i ≤ 1000000000000000000000000000000000) : (PyData.shown (.int i)).length ≤ 1921 := by
  have e := int_text_length_le (k := 1920) (by decide) (log_wide h0 h1)
  simp only [PyData.shown]
  rw [PySem.ofString_length]
  exact e
def Wide (ns : List Int) : Prop := ns.length ≤ 900 ∧ ∀ x ∈ ns, 0 ≤ x ∧ x ≤ 1000000000000000000000000000000000
theorem all_show : ∀ {ns : List Int}, (∀ x ∈ ns, 0 ≤ x ∧ x ≤ 1000000000000000000000000000000000) → PyData.showableAll (ns.map PyData.int) = true ∧ PyData.hasDictAll (ns.map PyData.int) = false ∧ PyData.depthAll (ns.map PyData.int) ≤ 2 ∧
    ((PyData.shownAll (ns.map PyData.int)).map (·.length)).sum ≤ 1921 * ns.length ∧ (PyData.shownAll (ns.map PyData.int)).length = ns.length
  | [], _ => ⟨rfl, rfl, Nat.zero_le _, Nat.zero_le _, rfl⟩
  | x :: r, h => by
    obtain ⟨i1, i2, i3, i4, i5⟩ := all_show (ns := r) fun y hy => h y (List.mem_cons_of_mem _ hy)
    obtain ⟨x0, x1⟩ := h x (List.mem_cons_self ..)
    have sx := shown_wide x0 x1
    simp only [List.map_cons, PyData.showableAll, PyData.showable, PyData.hasDictAll, PyData.hasDict, PyData.depthAll, PyData.depth, PyData.shownAll, List.sum_cons, List.length_cons, i1, i2, i5, decide_eq_true (log_wide x0 x1)]
    refine ⟨rfl, rfl, by omega, ?_, trivial⟩
    omega
def Txt (K : PySem.W.Frag) (H : Hp) (p : Addr) (d : PyData) : Prop := Dp K H (.ref p) d ∧ d.showable = true ∧ d.hasDict = false ∧ d.depth ≤ 60 ∧ d.shown.length ≤ sizeLine
theorem txt_il {K : PySem.W.Frag} {H : Hp} {p : Addr} {ns : List Int} (h : IL H p ns) (wm : Wide ns) : Txt K H p (.list (ns.map PyData.int)) := by
  obtain ⟨a1, a2, a3, a4, a5⟩ := all_show wm.2
  refine ⟨dp_il h, ?_, ?_, ?_, ?_⟩
  · simp only [PyData.showable, a1]
  · simp only [PyData.hasDict, a2]
  · simp only [PyData.depth]
    omega
  · have zm := listText_len_le (PyData.shownAll (ns.map PyData.int))
    simp only [PyData.shown]
    have w1 := wm.1
    rw [sizeLine_eq]
    omega
/-! ## the least cut from a place on; how many lie between two places -/
theorem RawS.same {H H' : Hp} {p : Addr} {n : Int} {prs : List (Int × Int)} {l m g : Int} (r : RawS H p n prs l m g) (s : Same H H') : RawS H' p n prs l m g := by
  obtain ⟨lp, t, ts, h1, h2, h3, h4⟩ := r
  exact ⟨lp, t, ts, s _ _ h1, s _ _ h2, h3.imp fun _ _ h => s _ _ h, s _ _ h4⟩
abbrev sOthers : Stmt := top 0
def spOthers : Sp := fun vs H Q _ => ∃ (a p : Addr) (k : Nat) (n l m g : Int) (prs : List (Int × Int)), vs = [.ref a, .ref p] ∧ JarAt H a (k + 1 + 1 + 1) ∧ RawS H p n prs l m g ∧ SetOk l m g ∧ g ≤ 40 ∧
  ∀ (q : Addr) (H' : Hp) (us : List Addr), H' q = some (.lst (us.map V.ref)) → us.length = 4 → q ≠ a → (∀ u ∈ us, ∃ l' m' g' : Int, SetOk l' m' g' ∧ g' ≤ 1000 ∧ RawS H' u n prs l' m' g') → JarAt H' a k → But H H' a → Q (.ref q) H'
section
variable {P : Program} {w : World} {K : PySem.W.Frag} {mg : Str → Option Value} {base : Heap}
abbrev NOs : List Str := ["jar", "raw", "least", "normal", "greatest", "some", "three"]
end
end Cw
namespace Cw
open PySem L2
abbrev sRi : Stmt := top 25
theorem rowAt_len {C : Addr} {H : Hp} {r : Addr} {n : Int} {ms ss : List Int} (R : RowAt C H r n ms ss) : ∃ dx l1 l2, H r = some (.ins C dx (flds n l1 l2)) := by
  obtain ⟨dx, l1, l2, h, _⟩ := R
  exact ⟨dx, l1, l2, h⟩
def gKI : List Value → List Value → List Value
  | [x], [a, b, c] => [x, c, b, a]
  | _, _ => []
def gKIV : List V → List V → List V
  | [x], [a, b, c] => [x, c, b, a]
  | _, _ => []
theorem kbn_init {K : PySem.W.Frag} {f : Addr} {fd : FuncData} (F : Fun K "__init__" "Row.__init__" sInit f fd) : KBn K fd NI 1 ["strict", "marks", "length"] gKI gKIV := by
  obtain ⟨oc, od, kV, doc, pm, an, cdv, ct, osl, rfl, lk, hcd⟩ := F.ex
  refine ⟨fun s us ws _ l1 l2 => ?_, fun {vs us zs ws} r z => ?_⟩
  · match us, ws, l1, l2 with
    | [x], [a, b, c], _, _ => exact .of_eq rfl
  · cases r with
    | nil => exact .nil
    | cons x r =>
      cases r with
      | cons y r => exact .nil
      | nil =>
        cases z with
        | nil => exact .nil
        | cons a z =>
          cases z with
          | nil => exact .nil
          | cons b z =>
            cases z with
            | nil => exact .nil
            | cons c z =>
              cases z with
              | nil => exact (.cons x (.cons c (.cons b (.cons a .nil))))
              | cons e z => exact .nil
theorem in_list {ns : List Int} (wm : Wide ns) (few : ns.length ≤ 300) : (PyData.list (ns.map PyData.int)).showable = true ∧ (PyData.list (ns.map PyData.int)).hasDict = false ∧ (PyData.list (ns.map PyData.int)).depth ≤ 4 ∧ (PyData.list (ns.map PyData.int)).shown.length ≤ 600000 := by
  obtain ⟨a1, a2, a3, a4, a5⟩ := all_show wm.2
  refine ⟨?_, ?_, ?_, ?_⟩
  · simp only [PyData.showable, a1]
  · simp only [PyData.hasDict, a2]
  · simp only [PyData.depth]
    omega
  · have zm := listText_len_le (PyData.shownAll (ns.map PyData.int))
    simp only [PyData.shown]
    omega
theorem txt_ll {K : PySem.W.Frag} {H : Hp} {p a b : Addr} {xs ys : List Int} (h : H p = some (.lst [.ref a, .ref b])) (ha : IL H a xs) (hb : IL H b ys) (wx : Wide xs) (wy : Wide ys) (fx : xs.length ≤ 300) (fy : ys.length ≤ 300) :
    Txt K H p (.list [.list (xs.map PyData.int), .list (ys.map PyData.int)]) := by
  obtain ⟨a1, a2, a3, a4⟩ := in_list wx fx
  obtain ⟨b1, b2, b3, b4⟩ := in_list wy fy
  have da := dp_il (K := K) ha
  have db := dp_il (K := K) hb
  generalize PyData.list (xs.map PyData.int) = dx at *
  generalize PyData.list (ys.map PyData.int) = dy at *
  refine ⟨.lst (SqL.of h) (.cons da (.cons db .nil)), ?_, ?_, ?_, ?_⟩
  · simp only [PyData.showable, PyData.showableAll, a1, b1, Bool.and_self]
  · simp only [PyData.hasDict, PyData.hasDictAll, a2, b2, Bool.or_self]
  · simp only [PyData.depth, PyData.depthAll]
    omega
  · have zm := listText_len_le [dx.shown, dy.shown]
    simp only [List.map_cons, List.map_nil, List.sum_cons, List.sum_nil, List.length_cons, List.length_nil] at zm
    simp only [PyData.shown, PyData.shownAll]
    rw [sizeLine_eq]
    omega
theorem txt_sh {K : PySem.W.Frag} {H : Hp} {p a b : Addr} {n : Int} {xs ys : List Int} (h : H p = some (.lst [.int n, .ref a, .ref b])) (n0 : 0 ≤ n ∧ n ≤ 1000000000000000000000000000000000) (ha : IL H a xs) (hb : IL H b ys) (wx : Wide xs) (wy : Wide ys) (fx : xs.length ≤ 300) (fy : ys.length ≤ 300) :
    Txt K H p (.list [.int n, .list (xs.map PyData.int), .list (ys.map PyData.int)]) := by
  obtain ⟨a1, a2, a3, a4⟩ := in_list wx fx
  obtain ⟨b1, b2, b3, b4⟩ := in_list wy fy
  have da := dp_il (K := K) ha
  have db := dp_il (K := K) hb
  have sn := shown_wide n0.1 n0.2
  have ln := log_wide n0.1 n0.2
  generalize PyData.list (xs.map PyData.int) = dx at *
  generalize PyData.list (ys.map PyData.int) = dy at *
  refine ⟨.lst (SqL.of h) (.cons (.int n) (.cons da (.cons db .nil))), ?_, ?_, ?_, ?_⟩
  · simp only [PyData.showable, PyData.showableAll, a1, b1, Bool.and_self, decide_eq_true ln]
  · simp only [PyData.hasDict, PyData.hasDictAll, a2, b2, Bool.or_self]
  · simp only [PyData.depth, PyData.depthAll]
    omega
  · have zm := listText_len_le [(PyData.int n).shown, dx.shown, dy.shown]
    simp only [List.map_cons, List.map_nil, List.sum_cons, List.sum_nil, List.length_cons, List.length_nil] at zm
    simp only [PyData.shown, PyData.shownAll] at zm sn ⊢
    rw [sizeLine_eq]
    omega
theorem ty_same {K : PySem.W.Frag} {H H' : Hp} {x : V} {t : Value} (h : TyX K H x t) (s : Same H H') : TyX K H' x t := by
  cases h with
  | base b =>
    cases b with
    | non => exact .base .non
    | bl y => exact .base (.bl y)
    | int y => exact .base (.int y)
    | str y => exact .base (.str y)
    | flt y => exact .base (.flt y)
    | lst e => exact .base (.lst (s _ _ e))
    | frz e => exact .base (.frz (s _ _ e))
    | tup e => exact .base (.tup (s _ _ e))
    | dK e => exact .base (.dK (s _ _ e))
    | dT e => exact .base (.dT (s _ _ e))
    | ins e a b c d f => exact .base (.ins (s _ _ e) a b c d f)
  | byt y => exact .byt y
  | set e => exact .set (s _ _ e)
  | kList e c => exact .kList e c
  | kTuple e c => exact .kTuple e c
  | kDict e c => exact .kDict e c
  | fTuple e => exact .fTuple (s _ _ e)
  | fDict e => exact .fDict (s _ _ e)
theorem isI_same {K : PySem.W.Frag} {H H' : Hp} {x : V} {b : Bool} (h : IsI K H x b) (s : Same H H') : IsI K H' x b := by
  obtain ⟨t, b1, b2, ty, h1, h2, e⟩ := h
  exact ⟨t, b1, b2, ty_same ty s, h1, h2, e⟩
theorem isI_non {K : PySem.W.Frag} {H : Hp} : IsI K H .non false := ⟨_, false, false, .base .non, kit_ty (by decide +kernel), kit_ty (by decide +kernel), rfl⟩
theorem isI_bl {K : PySem.W.Frag} {H : Hp} (b : Bool) : IsI K H (.bl b) false := ⟨_, true, true, .base (.bl b), kit_ty (by decide +kernel), kit_ty (by decide +kernel), rfl⟩
theorem isI_str {K : PySem.W.Frag} {H : Hp} (y : Str) : IsI K H (.str y) false := ⟨_, false, false, .base (.str y), kit_ty (by decide +kernel), kit_ty (by decide +kernel), rfl⟩
theorem isI_tup {K : PySem.W.Frag} {H : Hp} {a : Addr} {xs : List V} (e : H a = some (.tup xs)) : IsI K H (.ref a) false := ⟨_, false, false, .base (.tup e), kit_ty (by decide +kernel), kit_ty (by decide +kernel), rfl⟩
theorem isI_lst {K : PySem.W.Frag} {H : Hp} {a : Addr} {xs : List V} (e : H a = some (.lst xs)) : IsI K H (.ref a) false := ⟨_, false, false, .base (.lst e), kit_ty (by decide +kernel), kit_ty (by decide +kernel), rfl⟩
theorem isI_dct {K : PySem.W.Frag} {H : Hp} {a : Addr} {xs : List (Key × V)} (e : H a = some (.dK xs)) : IsI K H (.ref a) false := ⟨_, false, false, .base (.dK e), kit_ty (by decide +kernel), kit_ty (by decide +kernel), rfl⟩
theorem tyX_row {K : PySem.W.Frag} {mg : Str → Option Value} {H : Hp} {C a dx : Addr} {fs : List (Str × V)} (e : H a = some (.ins C dx fs)) (R : Cl K mg C) (N : Ci K C) : TyX K H (.ref a) (.ref C) := .base (.ins e R.cl N.ha N.hn N.ht N.hm)
theorem first_self {K : PySem.W.Frag} {C : Addr} : PySem.W.notFirst K C (.ref C) = true := by simp [PySem.W.notFirst]
def spRi (C : Addr) : Sp := fun vs H Q _ => ∃ (u : Addr) (n l m g : Int) (prs : List (Int × Int)), vs = [.ref u] ∧ RawS H u n prs l m g ∧ GoodP n prs ∧ prs.length ≤ 40 ∧ n ≤ 100000000000000000000000000000000 ∧ ∀ H', Same H H' → Q (.bl true) H'
section
variable {P : Program} {w : World} {K : PySem.W.Frag} {mg : Str → Option Value} {base : Heap}
abbrev NRi : List Str := ["raw", "size_here", "marked", "three", "marks_here", "some", "handed", "kept", "made", "place", "odd", "other", "kind", "thing"]
theorem scRi : FnScope NRi ["raw"] (defScope sRi) := ⟨rfl, rfl, rfl, by decide +kernel, rfl, by decide +kernel, by decide +kernel⟩
theorem ok_ri {f C fO fCn fLn fQ C2 fN pL fGL pM fGM pS fGS : Addr} {fd fdO fdCn fdLn fdQ fdN dL dM dS : FuncData} (F : Fun K "_law_right" "_law_right" sRi f fd) (T : Bl mg) (hRp : mg "repr" = none) (R : Cl K mg C) (N : Ci K C) (O : Odd K C C2) (M : Mk K C fN) (bN : Binds K fdN NI []) (FN : Fun K "__init__" "Row.__init__" sInit fN fdN) (GN : FnOk P w K mg base CX0 5 fN fdN NI (spInit C)) (Gs : Gets P w K mg base C pL fGL pM fGM pS fGS dL dM dS)
    (gO : mg "_law_otherwise" = some (.ref fO)) (kO : PySem.W.keepIn K (.ref fO) = true) (bO : Binds K fdO ["raw"] []) (GO : FnOk P w K mg base CX0 8 fO fdO ["raw"] (spOth C))
    (mCn : Meth K C "__contains__" fCn) (bCn : Binds K fdCn ["self", "place"] []) (GCn : FnOk P w K mg base CX0 2 fCn fdCn ["self", "place"] (spCn K C))
    (mLn : Meth K C "__len__" fLn) (bLn : Binds K fdLn ["self"] []) (GLn : FnOk P w K mg base CX0 1 fLn fdLn ["self"] (spLenR C))
    (mQ : Meth K C "__eq__" fQ) (bQ : Binds K fdQ ["self", "other"] []) (GQ : FnOk P w K mg base CX0 1 fQ fdQ ["self", "other"] (spEqA K C)) :
    FnG P w K mg base 10 f fd ["raw"] (spRi C) := by
  refine okG F scRi (fun vs H Q E h => ?_) (fun cdv A outer s H vs Q E hr hg h => ?_)
  · obtain ⟨u, n, l, m, g, prs, rfl, _⟩ := h
    rfl
  · obtain ⟨u, n, l, m, g, prs, rfl, RR, G, pl, nb, q⟩ := h
    have hu : (A.deeper (PyProof.Rows.envOfC "_law_right" (defScope sRi) s.heap.objs.size f cdv)).units + 64 < cLine := Nat.lt_of_le_of_lt (by omega) hr.un
    have gu : (A.deeper (PyProof.Rows.envOfC "_law_right" (defScope sRi) s.heap.objs.size f cdv)).guards = some [] := hg
    have hbK := kbn_init FN
    refine ⟨_, (pss_cons (ps_asg (pv 0) (pg_tup rfl (pgs_cons (pg_name (i := 1) scRi.nd rfl (Or.inl rfl)) (pgs_cons (pg_name (i := 2) scRi.nd rfl (Or.inl rfl)) (pgs_cons (pg_name (i := 3) scRi.nd rfl (Or.inl rfl)) pgs_nil)))))
        (pss_cons (ps_setLc (i := 4) (own := [("place", 9), ("kind", 12)]) (g := (gTup K 2 (gCons (gName 9) (gCons (gName 12) gNil)))) (tt := tYes) rfl scRi.nd rfl rfl (sw_true rfl rfl rfl (by decide +kernel)) (pi_list (pv 2)) (blkOk_by (own := [("place", 9), ("kind", 12)]) (N := NRi) (sc := defScope sRi) (by decide +kernel)) (fun _ _ _ _ _ => (pg_tup rfl (pgs_cons (pg_name (i := 9) scRi.nd rfl (Or.inl rfl)) (pgs_cons (pg_name (i := 12) scRi.nd rfl (Or.inl rfl)) pgs_nil)))) (fun _ _ _ _ _ => pts_nil) (fun _ _ _ _ _ => (pv 9)))
        (pss_cons (ps_setLc (i := 5) (own := [("place", 9), ("kind", 12)]) (g := (gTup K 2 (gCons (gName 9) (gCons (gName 12) gNil)))) rfl scRi.nd rfl rfl (sw_true rfl rfl rfl (by decide +kernel)) (pi_list (pv 2)) (blkOk_by (own := [("place", 9), ("kind", 12)]) (N := NRi) (sc := defScope sRi) (by decide +kernel)) (fun _ _ _ _ _ => (pg_tup rfl (pgs_cons (pg_name (i := 9) scRi.nd rfl (Or.inl rfl)) (pgs_cons (pg_name (i := 12) scRi.nd rfl (Or.inl rfl)) pgs_nil)))) (fun _ _ _ _ _ => (pts_one (pt_cmpR op_eq (pv 12) pe_int (nomark _)))) (fun _ _ _ _ _ => (pv 9)))
        (pss_cons (ps_par (i := 6) (j := 7) rfl scRi.nd rfl rfl (by decide) rfl rfl (pa_cons (pe_lst (pa_cons (pe_callTy call_list_of (by rfl) T.list (by decide +kernel) (pa_cons (pv 4) pa_nil)) (pa_cons (pe_callTy call_list_of (by rfl) T.list (by decide +kernel) (pa_cons (pv 5) pa_nil)) pa_nil))) (pa_cons (pe_callB (call_reprD gu hu) (by rfl) hRp (by decide +kernel) (pa_cons (pe_lst (pa_cons (pv 1) (pa_cons (pv 4) (pa_cons (pv 5) pa_nil)))) pa_nil)) pa_nil)) (by rfl))
        (pss_cons (ps_set (i := 8) scRi.nd rfl (Or.inr rfl) (pe_make M GN (hr.mono (by decide)) rfl R.mgR bN .nil pass0 (pa_cons (pv 1) (pa_cons (pe_ix (r := rIxL K) ix_list (pv 6) pe_int (fun _ _ => rfl)) (pa_cons (pe_ix (r := rIxL K) ix_list (pv 6) pe_int (fun _ _ => rfl)) pa_nil)))))
        (pss_cons (ps_if (PW.pt (pw_or (pt_cmpR op_ne (pe_callB (call_reprD gu hu) (by rfl) hRp (by decide +kernel) (pa_cons (pe_lst (pa_cons (pe_prop (pv 8) R.cl Gs.hL Gs.GL (hr.mono (by decide)) Gs.bL .nil pass0 rfl) (pa_cons (pe_prop (pv 8) R.cl Gs.hM Gs.GM (hr.mono (by decide)) Gs.bM .nil pass0 rfl) (pa_cons (pe_prop (pv 8) R.cl Gs.hS Gs.GS (hr.mono (by decide)) Gs.bS .nil pass0 rfl) pa_nil)))) pa_nil)) (pv 7) (nomark _)) (pw_or1 (pt_cmpR op_ne (pe_callB (call_reprD gu hu) (by rfl) hRp (by decide +kernel) (pa_cons (pv 6) pa_nil)) (pe_callB (call_reprD gu hu) (by rfl) hRp (by decide +kernel) (pa_cons (pe_lst (pa_cons (pv 4) (pa_cons (pv 5) pa_nil))) pa_nil)) (nomark _))))) (pss_one (ps_ret pe_bl)) pss_nil)
        (pss_cons (ps_expr (pe_bm PySem.F.plainAttrs_list PySem.F.slot_list_append PySem.F.type_list_append mt_append (pe_ix (r := rIxL K) ix_list (pv 6) pe_int (fun _ _ => rfl)) (pa_cons (pv 1) pa_nil)))
        (pss_cons (ps_expr (pe_bm PySem.F.plainAttrs_list PySem.F.slot_list_append PySem.F.type_list_append mt_append (pe_ix (r := rIxL K) ix_list (pv 6) pe_int (fun _ _ => rfl)) (pa_cons (pv 1) pa_nil)))
        (pss_cons (ps_expr (pe_bm PySem.F.plainAttrs_list PySem.F.slot_list_append PySem.F.type_list_append mt_append (pe_prop (pv 8) R.cl Gs.hM Gs.GM (hr.mono (by decide)) Gs.bM .nil pass0 rfl) (pa_cons pe_int pa_nil)))
        (pss_cons (ps_expr (pe_bm PySem.F.plainAttrs_list PySem.F.slot_list_append PySem.F.type_list_append mt_append (pe_prop (pv 8) R.cl Gs.hS Gs.GS (hr.mono (by decide)) Gs.bS .nil pass0 rfl) (pa_cons pe_int pa_nil)))
        (pss_cons (ps_if (PW.pt (pw_or (pt_cmpR op_ne (pe_callB (call_reprD gu hu) (by rfl) hRp (by decide +kernel) (pa_cons (pe_lst (pa_cons (pe_prop (pv 8) R.cl Gs.hL Gs.GL (hr.mono (by decide)) Gs.bL .nil pass0 rfl) (pa_cons (pe_prop (pv 8) R.cl Gs.hM Gs.GM (hr.mono (by decide)) Gs.bM .nil pass0 rfl) (pa_cons (pe_prop (pv 8) R.cl Gs.hS Gs.GS (hr.mono (by decide)) Gs.bS .nil pass0 rfl) pa_nil)))) pa_nil)) (pv 7) (nomark _)) (pw_or1 (pt_cmpR op_ne (pe_callB (call_lenOwn GLn mLn.at_ mLn.fn bLn pass0 (hr.mono (by decide))) (by rfl) T.len PySem.boot_len (pa_cons (pv 8) pa_nil)) (pe_callB call_len_seq (by rfl) T.len PySem.boot_len (pa_cons (pv 4) pa_nil)) (nomark _))))) (pss_one (ps_ret pe_bl)) pss_nil)
        (pss_cons (ps_for PassesOwn.never rfl (pi_list (pe_op op_cat (pe_op op_cat (pv 4) (pe_lst (pa_cons (pe_un un_neg pe_int) (pa_cons pe_int (pa_cons pe_int (pa_cons (pe_op op_sub (pv 1) pe_int) (pa_cons (pv 1) pa_nil))))))) (pe_lc (own := [("place", 9)]) (g := (gName 9)) (tt := tYes) rfl scRi.nd (pi_list (pv 4)) (blkOk_by (own := [("place", 9)]) (N := NRi) (sc := defScope sRi) (by decide +kernel)) (fun _ _ _ _ _ => (pg_name (i := 9) scRi.nd rfl (Or.inl rfl))) (fun _ _ _ _ _ => pts_nil) (fun _ _ _ _ _ => (pe_op op_add (pv 9) pe_int))))) (pg_name (i := 9) scRi.nd rfl (Or.inl rfl))
        (pss_one (ps_if (pt_cmpR op_ne (pe_cmpR (show OpR _ (compareOp .In) (rInOwn C (spCn K C) E0) from op_inOwn GCn mCn.at_ mCn.fn bCn pass0 (hr.mono (by decide))) (pv 9) (pv 8) (by rfl)) (pe_cmpR (show OpR _ (compareOp .In) (rIn K false) from op_in_seq) (pv 9) (pv 4) (by rfl)) (nomark _)) (pss_one (ps_ret pe_bl)) pss_nil)))
        (pss_cons (ps_set (i := 10) scRi.nd rfl (Or.inl rfl) (pe_lst (pa_cons pe_non (pa_cons pe_bl (pa_cons pe_bl (pa_cons pe_str (pa_cons (pe_tup (pa_cons pe_int pa_nil)) (pa_cons (pe_lst (pa_cons pe_int pa_nil)) (pa_cons pe_dnewK (pa_cons (pv 8) (pa_cons (pv 4) (pa_cons (pe_tup (pa_cons pe_int (pa_cons pe_int (pa_cons pe_int pa_nil)))) (pa_cons (pe_lst (pa_cons (pe_lst (pa_cons pe_int pa_nil)) pa_nil)) pa_nil)))))))))))))
        (pss_cons (ps_if (PW.pt (pw_or (pt_cmpR (op_neD hr.units) (pe_lc (own := [("thing", 13)]) (g := (gName 13)) rfl scRi.nd (pi_list (pv 10)) (blkOk_by (own := [("thing", 13)]) (N := NRi) (sc := defScope sRi) (by decide +kernel)) (fun _ _ _ _ _ => (pg_name (i := 13) scRi.nd rfl (Or.inl rfl))) (fun _ _ _ _ _ => (pts_one (pt_cmpR (show OpR _ (compareOp .In) (rInOwn C (spCn K C) E0) from op_inOwn GCn mCn.at_ mCn.fn bCn pass0 (hr.mono (by decide))) (pv 13) (pv 8) (by rfl)))) (fun _ _ _ _ _ => (pv 13))) (pe_lst pa_nil) (nomark _)) (pw_or1 (pt_cmpR (op_neD hr.units) (pe_lc (own := [("thing", 13)]) (g := (gName 13)) rfl scRi.nd (pi_list (pe_slice sl_list (pv 10) po_none (po_some pe_int))) (blkOk_by (own := [("thing", 13)]) (N := NRi) (sc := defScope sRi) (by decide +kernel)) (fun _ _ _ _ _ => (pg_name (i := 13) scRi.nd rfl (Or.inl rfl))) (fun _ _ _ _ _ => (pts_one (pt_cmpR (show OpR _ (compareOp .Eq) (rEqOwn K C (spEqA K C) E0) from op_eqOwn GQ mQ.at_ mQ.fn bQ pass0 (hr.mono (by decide))) (pv 8) (pv 13) (nomark _)))) (fun _ _ _ _ _ => (pv 13))) (pe_lst pa_nil) (nomark _))))) (pss_one (ps_ret pe_bl)) pss_nil)
        (pss_cons (ps_if (pt_cmpR (op_neD hr.units) (pe_lc (own := [("other", 11)]) (g := (gName 11)) rfl scRi.nd (pi_list (pe_call GO (hr.mono (by decide)) rfl gO kO bO .nil pass0 (pa_cons (pv 0) pa_nil))) (blkOk_by (own := [("other", 11)]) (N := NRi) (sc := defScope sRi) (by decide +kernel)) (fun _ _ _ _ _ => (pg_name (i := 11) scRi.nd rfl (Or.inl rfl))) (fun _ _ _ _ _ => (pts_one (PW.pt (pw_or (pt_cmpR (show OpR _ (compareOp .Eq) (rEqOwn K C (spEqA K C) E0) from op_eqOwn GQ mQ.at_ mQ.fn bQ pass0 (hr.mono (by decide))) (pv 8) (pv 11) (nomark _)) (pw_or1 (pt_not (pt_cmpR (show OpR _ (compareOp .NotEq) (rNeOwn K C (spEqA K C) E0) from op_neOwn GQ N.hm O.ne mQ.at_ mQ.fn bQ pass0 (hr.mono (by decide))) (pv 8) (pv 11) (nomark _)))))))) (fun _ _ _ _ _ => (pv 11))) (pe_lst pa_nil) (nomark _)) (pss_one (ps_ret pe_bl)) pss_nil)
        (pss_cons (ps_set (i := 11) scRi.nd rfl (Or.inl rfl) (pe_makeK0 M GN (hr.mono (by decide)) rfl R.mgR hbK pass0 (pk_cons (pv 5) (pk_cons (pv 4) (pk_cons (pv 1) pk_nil)))))
        (pss_one (ps_ret (pe_and (pe_cmpR (show OpR _ (compareOp .Eq) (rEqOwn K C (spEqA K C) E0) from op_eqOwn GQ mQ.at_ mQ.fn bQ pass0 (hr.mono (by decide))) (pv 8) (pv 11) (nomark _)) (pe_and (pe_not (pe_cmpR (show OpR _ (compareOp .NotEq) (rNeOwn K C (spEqA K C) E0) from op_neOwn GQ N.hm O.ne mQ.at_ mQ.fn bQ pass0 (hr.mono (by decide))) (pv 8) (pv 11) (nomark _))) (pe_one (pe_cmpR (show OpR _ (compareOp .Eq) (rEqOwn K C (spEqA K C) E0) from op_eqOwn GQ mQ.at_ mQ.fn bQ pass0 (hr.mono (by decide))) (pv 8) (pv 8) (nomark _))))))))))))))))))))))), ?_⟩
    have n0 := G.pos
    have GG := G.good
    have RR0 := RR
    obtain ⟨lp, t, ts, hp, hl, hpr, ht⟩ := RR
    have lt := hpr.len
    have mlen : (marksOf prs).length ≤ 40 := by
      unfold marksOf
      rw [List.length_map]
      exact pl
    have slen : (strictOf prs).length ≤ 40 := by
      unfold strictOf
      rw [List.length_map]
      exact Nat.le_trans (List.length_filter_le _ _) pl
    have wM : Wide (marksOf prs) := ⟨by omega, fun x hx => by have := GG.rng x hx; omega⟩
    have wS : Wide (strictOf prs) := ⟨by omega, fun x hx => by have := GG.rng x (GG.sub x hx); omega⟩
    refine ⟨_, rfl, u, _, rfl, SqT.of hp, rfl, _, _, rfl, _, _, rfl, _, _, rfl, rfl, ?_⟩
    try dsimp only [L2.start, List.set, List.map, List.append, List.replicate, List.length]
    refine ⟨_, rfl, lp, rfl, ⟨_, SqL.of hl⟩, fun D1 hD1 => ?_⟩
    refine lc_list (K := K) (a := lp) (xs := ts.map V.ref) (fun i H' => Same H H' ∧ IL H' D1 (marksOf (prs.take i))) ⟨same_new (Same.refl H) hD1, upd_same⟩ (fun i H' _ z => SqL.of (z.1 _ _ hl)) ?_ ?_
    · rintro i x H' hx ⟨s1, hD'⟩
      obtain ⟨u', z, rfl, hz, hu⟩ := hpr.get hx
      have hil := ref_at hx
      refine ⟨u', _, rfl, SqT.of (s1 _ _ hu), rfl, _, _, rfl, _, _, rfl, rfl, rfl, ?_⟩
      unfold tYes
      refine iteT ?_
      refine ⟨_, rfl, _, hD', by rw [List.length_map, List.length_map, List.length_take]; exact small1000 (by omega), same_put s1 hD1, ?_⟩
      show upd _ _ _ D1 = _
      rw [upd_same, ints_app, take_map2 hz]
    rintro H1 ⟨s1, k1⟩
    rw [List.length_map, lt, List.take_length] at k1
    try dsimp only [L2.start, List.set, List.map, List.append, List.replicate, List.length]
    refine ⟨_, rfl, lp, rfl, ⟨_, SqL.of (s1 _ _ hl)⟩, fun D2 hD2 => ?_⟩
    refine lc_list (K := K) (a := lp) (xs := ts.map V.ref) (fun i H' => Same H1 H' ∧ IL H' D2 (strictOf (prs.take i))) ⟨same_new (Same.refl H1) hD2, upd_same⟩ (fun i H' _ z => SqL.of (z.1 _ _ (s1 _ _ hl))) ?_ ?_
    · rintro i x H' hx ⟨s2, hE⟩
      obtain ⟨u', z, rfl, hz, hu⟩ := hpr.get hx
      have hil := ref_at hx
      have tf := take_fil2 hz
      refine ⟨u', _, rfl, SqT.of (s2 _ _ (s1 _ _ hu)), rfl, _, _, rfl, _, _, rfl, rfl, rfl, ?_⟩
      refine ⟨_, rfl, rfl, _, rfl, ?_⟩
      by_cases c : z.2 = 2
      · refine ifT (by simp [c]) ?_
        refine ⟨_, rfl, _, hE, ?_, same_put s2 hD2, ?_⟩
        · have z1 := List.length_filter_le (fun q : Int × Int => decide (q.2 = 2)) (prs.take i)
          rw [List.length_take] at z1
          rw [List.length_map, List.length_map]
          exact small1000 (by omega)
        · show upd _ _ _ D2 = _
          rw [upd_same, ints_app, tf, if_pos c]
      · refine ifF (by simp [c]) ?_
        refine ⟨s2, ?_⟩
        show H' D2 = _
        rw [hE, tf, if_neg c, List.append_nil]
    rintro H2 ⟨s2, k2⟩
    rw [List.length_map, lt, List.take_length] at k2
    have k1 := s2 _ _ k1
    have s02 := s1.trans s2
    generalize hA : marksOf prs = A at *
    generalize hS : strictOf prs = S at *
    try dsimp only [L2.start, List.set, List.map, List.append, List.replicate, List.length]
    -- the lists that are handed in
    refine ⟨_, rfl, D1, _, rfl, .inl (SqL.of k1), fun a1 ha1 => ⟨_, rfl, D2, _, rfl, .inl (SqL.of (same_new (Same.refl H2) ha1 _ _ k2)), fun a2 ha2 => ?_⟩⟩
    have s3 := same_new (o := .lst (A.map V.int)) (Same.refl H2) ha1
    have k3 : IL (upd H2 a1 (.lst (A.map V.int))) a1 A := upd_same
    generalize upd H2 a1 (.lst (A.map V.int)) = H3 at s3 k3 ha2 ⊢
    have n12 : a1 ≠ a2 := ne_of_none k3 ha2
    have nd11 : D1 ≠ a1 := ne_of_none k1 ha1
    have nd21 : D2 ≠ a1 := ne_of_none k2 ha1
    have nd12 : D1 ≠ a2 := ne_of_none (s3 _ _ k1) ha2
    have nd22 : D2 ≠ a2 := ne_of_none (s3 _ _ k2) ha2
    have s4 := same_new (o := .lst (S.map V.int)) (Same.refl H3) ha2
    have k4 : IL (upd H3 a2 (.lst (S.map V.int))) a2 S := upd_same
    generalize upd H3 a2 (.lst (S.map V.int)) = H4 at s4 k4 ⊢
    refine ⟨(by show 2 ≤ sizeLine; decide), fun hd hhd => ?_⟩
    have nh1 : a1 ≠ hd := ne_of_none (s4 _ _ k3) hhd
    have nh2 : a2 ≠ hd := ne_of_none k4 hhd
    have s5 := same_new (o := .lst [.ref a1, .ref a2]) (Same.refl H4) hhd
    have k5 : upd H4 hd (.lst [.ref a1, .ref a2]) hd = some (.lst [.ref a1, .ref a2]) := upd_same
    generalize upd H4 hd (.lst [.ref a1, .ref a2]) = H5 at s5 k5 ⊢
    have s25 := (s3.trans s4).trans s5
    have k1 := s25 _ _ k1
    have k2 := s25 _ _ k2
    have k3 := (s4.trans s5) _ _ k3
    have k4 := s5 _ _ k4
    refine ⟨_, rfl, _, rfl, _, rfl, (by show 3 ≤ sizeLine; decide), fun u1 hu1 => ?_⟩
    have s6 := same_new (o := .lst [.int n, .ref D1, .ref D2]) (Same.refl H5) hu1
    have k6 : upd H5 u1 (.lst [.int n, .ref D1, .ref D2]) u1 = some (.lst [.int n, .ref D1, .ref D2]) := upd_same
    generalize upd H5 u1 (.lst [.int n, .ref D1, .ref D2]) = H6 at s6 k6 ⊢
    have k1 := s6 _ _ k1
    have k2 := s6 _ _ k2
    have k3 := s6 _ _ k3
    have k4 := s6 _ _ k4
    have k5 := s6 _ _ k5
    have TS : ∀ {H' : Hp} {p a b : Addr}, H' p = some (.lst [.int n, .ref a, .ref b]) → IL H' a A → IL H' b S → Txt K H' p (.list [.int n, .list (A.map PyData.int), .list (S.map PyData.int)]) := fun h ha hb => txt_sh h ⟨by omega, by omega⟩ ha hb wM wS (by omega) (by omega)
    generalize PyData.list [.int n, .list (A.map PyData.int), .list (S.map PyData.int)] = dS at TS
    obtain ⟨z1, z2, z3, z4, z5⟩ := TS k6 k1 k2
    refine ⟨u1, _, rfl, z1, z2, z3, z4, z5, ⟨_, _, rfl, ?_⟩⟩
    clear z1 z2 z3 z4 z5
    have s26 := s25.trans s6
    try dsimp only [L2.start, List.set, List.map, List.append, List.replicate, List.length]
    -- the row
    refine ⟨_, rfl, _, rfl, hd, _, _, _, rfl, rfl, SqL.of k5, at_of2 (j := 0) rfl rfl, _, rfl, hd, _, _, _, rfl, rfl, SqL.of k5, at_of2 (j := 1) rfl rfl, fun x dx nx nd ne => ?_⟩
    have s7 : Same H6 (upd (upd H6 dx (.own x)) x (.ins C dx [])) := same_new (same_new (Same.refl H6) nd) (by rw [upd_ne (Ne.symm ne)]; exact nx)
    refine ⟨x, dx, a1, a2, n, _, _, rfl, upd_same, s7 _ _ k3, s7 _ _ k4, GG, fun H7 row kp => ⟨rfl, ?_⟩⟩
    have s67 : Same H6 H7 := same_ins (Same.refl H6) nx nd kp
    have k7 := s7
    obtain ⟨dx', l1, l2, r1, r2, r3, n1, n2⟩ := row
    have na1 : l1 ≠ a1 ∧ l2 ≠ a1 := ⟨(fun e => by rw [e, s7 _ _ k3] at n1; cases n1), (fun e => by rw [e, s7 _ _ k3] at n2; cases n2)⟩
    have na2 : l1 ≠ a2 ∧ l2 ≠ a2 := ⟨(fun e => by rw [e, s7 _ _ k4] at n1; cases n1), (fun e => by rw [e, s7 _ _ k4] at n2; cases n2)⟩
    have k1 := s67 _ _ k1
    have k2 := s67 _ _ k2
    have k3 := s67 _ _ k3
    have k4 := s67 _ _ k4
    have k5 := s67 _ _ k5
    have row7 : RowAt C H7 x n A S := ⟨dx', l1, l2, r1, r2, r3⟩
    have nxa : a1 ≠ x ∧ a2 ≠ x := ⟨(fun e => by rw [e] at k3; rw [k3] at r1; cases r1), (fun e => by rw [e] at k4; rw [k4] at r1; cases r1)⟩
    clear n1 n2 kp s7 k7 nx nd ne k6
    try dsimp only [L2.start, List.set, List.map, List.append, List.replicate, List.length]
    obtain ⟨ex1, ex2, ex3, hov1⟩ := rowAt_len row7
    refine ⟨_, rfl, x, ex1, _, rfl, hov1, x, n, A, S, rfl, row7, ?_⟩
    refine ⟨_, rfl, x, ex1, _, rfl, hov1, x, n, A, S, rfl, row7, fun qv1a H8 sv1a nnv1a iv1a => ?_⟩
    refine ⟨_, rfl, x, ex1, _, rfl, sv1a _ _ hov1, x, n, A, S, rfl, (row7).same sv1a, fun qv1b H9 sv1b nnv1b iv1b => ?_⟩
    refine ⟨(by show 3 ≤ sizeLine; decide), fun v1 hv1 => ?_⟩
    have sv1 := same_new (o := .lst [.int n, .ref qv1a, .ref qv1b]) (Same.refl H9) hv1
    have kv1 : upd H9 v1 (.lst [.int n, .ref qv1a, .ref qv1b]) v1 = some (.lst [.int n, .ref qv1a, .ref qv1b]) := upd_same
    generalize upd H9 v1 (.lst [.int n, .ref qv1a, .ref qv1b]) = HA at sv1 kv1 ⊢
    obtain ⟨z1, z2, z3, z4, z5⟩ := TS kv1 (sv1 _ _ (sv1b _ _ iv1a)) (sv1 _ _ iv1b)
    refine ⟨v1, _, rfl, z1, z2, z3, z4, z5, ?_⟩
    clear z1 z2 z3 z4 z5
    have sxv1 := (sv1a.trans sv1b).trans sv1
    refine ⟨_, rfl, rfl, _, rfl, ?_⟩
    refine ifF (by simp) ?_
    have TL : ∀ {H' : Hp} {p a b : Addr}, H' p = some (.lst [.ref a, .ref b]) → IL H' a A → IL H' b S → Txt K H' p (.list [.list (A.map PyData.int), .list (S.map PyData.int)]) := fun h ha hb => txt_ll h ha hb wM wS (by omega) (by omega)
    generalize PyData.list [.list (A.map PyData.int), .list (S.map PyData.int)] = dL2 at TL
    obtain ⟨z1, z2, z3, z4, z5⟩ := TL (sxv1 _ _ k5) (sxv1 _ _ k3) (sxv1 _ _ k4)
    refine ⟨_, rfl, hd, _, rfl, z1, z2, z3, z4, z5, ?_⟩
    clear z1 z2 z3 z4 z5
    refine ⟨_, rfl, _, rfl, (by show 2 ≤ sizeLine; decide), fun u2 hu2 => ?_⟩
    have sB := same_new (o := .lst [.ref D1, .ref D2]) (Same.refl HA) hu2
    have kB : upd HA u2 (.lst [.ref D1, .ref D2]) u2 = some (.lst [.ref D1, .ref D2]) := upd_same
    generalize upd HA u2 (.lst [.ref D1, .ref D2]) = HB at sB kB ⊢
    have s7B := sxv1.trans sB
    obtain ⟨z1, z2, z3, z4, z5⟩ := TL kB (s7B _ _ k1) (s7B _ _ k2)
    refine ⟨u2, _, rfl, z1, z2, z3, z4, z5, rfl, _, rfl, ?_⟩
    clear z1 z2 z3 z4 z5 TL
    refine ifF (by simp) ?_
    have k1 := s7B _ _ k1
    have k2 := s7B _ _ k2
    have k3 := s7B _ _ k3
    have k4 := s7B _ _ k4
    have k5 := s7B _ _ k5
    have r1 := s7B _ _ r1
    have r2 := s7B _ _ r2
    have r3 := s7B _ _ r3
    have s2B := ((s26.trans s67).trans s7B)
    have s0B := s02.trans s2B
    clear kB sB s7B sxv1 row7 kv1 sv1 sv1a sv1b iv1a iv1b hov1 hv1 hu2
    have f1 : H a1 = none := s02.free ha1
    have f2 : H a2 = none := (s02.trans s3).free ha2
    try dsimp only [L2.start, List.set, List.map, List.append, List.replicate, List.length]
    -- what was handed in is changed
    refine ⟨_, rfl, hd, _, _, _, rfl, rfl, SqL.of k5, at_of2 (j := 0) rfl rfl, .inl ⟨rfl, _, SqL.of k3⟩, ?_⟩
    refine ⟨_, rfl, a1, _, _, rfl, rfl, k3, by rw [List.length_map]; exact small1000 (by omega), ?_⟩
    have s0C : Same H (upd HB a1 (.lst (A.map V.int ++ [V.int n]))) := same_put s0B f1
    have k1 : upd HB a1 (.lst (A.map V.int ++ [V.int n])) D1 = _ := (upd_ne nd11).trans k1
    have k2 : upd HB a1 (.lst (A.map V.int ++ [V.int n])) D2 = _ := (upd_ne nd21).trans k2
    have k4 : upd HB a1 (.lst (A.map V.int ++ [V.int n])) a2 = _ := (upd_ne n12.symm).trans k4
    have k5 : upd HB a1 (.lst (A.map V.int ++ [V.int n])) hd = _ := (upd_ne nh1.symm).trans k5
    have r1 : upd HB a1 (.lst (A.map V.int ++ [V.int n])) x = _ := (upd_ne nxa.1.symm).trans r1
    have r2 : upd HB a1 (.lst (A.map V.int ++ [V.int n])) l1 = _ := (upd_ne na1.1).trans r2
    have r3 : upd HB a1 (.lst (A.map V.int ++ [V.int n])) l2 = _ := (upd_ne na1.2).trans r3
    generalize upd HB a1 (.lst (A.map V.int ++ [V.int n])) = HC at s0C k1 k2 k4 k5 r1 r2 r3 ⊢
    clear k3 s0B s2B
    try dsimp only [L2.start, List.set, List.map, List.append, List.replicate, List.length]
    refine ⟨_, rfl, hd, _, _, _, rfl, rfl, SqL.of k5, at_of2 (j := 1) rfl rfl, .inl ⟨rfl, _, SqL.of k4⟩, ?_⟩
    refine ⟨_, rfl, a2, _, _, rfl, rfl, k4, by rw [List.length_map]; exact small1000 (by omega), ?_⟩
    have s0D : Same H (upd HC a2 (.lst (S.map V.int ++ [V.int n]))) := same_put s0C f2
    have k1 : upd HC a2 (.lst (S.map V.int ++ [V.int n])) D1 = _ := (upd_ne nd12).trans k1
    have k2 : upd HC a2 (.lst (S.map V.int ++ [V.int n])) D2 = _ := (upd_ne nd22).trans k2
    have r1 : upd HC a2 (.lst (S.map V.int ++ [V.int n])) x = _ := (upd_ne nxa.2.symm).trans r1
    have r2 : upd HC a2 (.lst (S.map V.int ++ [V.int n])) l1 = _ := (upd_ne na2.1).trans r2
    have r3 : upd HC a2 (.lst (S.map V.int ++ [V.int n])) l2 = _ := (upd_ne na2.2).trans r3
    have rowD : RowAt C (upd HC a2 (.lst (S.map V.int ++ [V.int n]))) x n A S := ⟨dx', l1, l2, r1, r2, r3⟩
    have k1 : IL (upd HC a2 (.lst (S.map V.int ++ [V.int n]))) D1 A := k1
    have k2 : IL (upd HC a2 (.lst (S.map V.int ++ [V.int n]))) D2 S := k2
    generalize upd HC a2 (.lst (S.map V.int ++ [V.int n])) = HD at s0D k1 k2 rowD ⊢
    clear k4 k5 r1 r2 r3 s0C na1 na2 nxa nd11 nd12 nd21 nd22 nh1 nh2 n12 f1 f2
    try dsimp only [L2.start, List.set, List.map, List.append, List.replicate, List.length]
    -- and what the row tells
    obtain ⟨ex1, ex2, ex3, hoD⟩ := rowAt_len rowD
    refine ⟨_, rfl, x, ex1, _, rfl, hoD, x, n, A, S, rfl, rowD, fun qa HE sE nqa iqa => ⟨.inl ⟨rfl, _, SqL.of iqa⟩, ?_⟩⟩
    refine ⟨qa, _, _, rfl, rfl, iqa, by rw [List.length_map]; exact small1000 (by omega), ?_⟩
    have sE : Same HD (upd HE qa (.lst (A.map V.int ++ [V.int 0]))) := same_put sE nqa
    generalize upd HE qa (.lst (A.map V.int ++ [V.int 0])) = HE' at sE ⊢
    clear iqa
    try dsimp only [L2.start, List.set, List.map, List.append, List.replicate, List.length]
    refine ⟨_, rfl, x, ex1, _, rfl, sE _ _ hoD, x, n, A, S, rfl, rowD.same sE, fun qb HF sF nqb iqb => ⟨.inl ⟨rfl, _, SqL.of iqb⟩, ?_⟩⟩
    refine ⟨qb, _, _, rfl, rfl, iqb, by rw [List.length_map]; exact small1000 (by omega), ?_⟩
    have sF : Same HE' (upd HF qb (.lst (S.map V.int ++ [V.int 0]))) := same_put sF nqb
    generalize upd HF qb (.lst (S.map V.int ++ [V.int 0])) = HG at sF ⊢
    have rowG := rowD.same (sE.trans sF)
    have k1 := (sE.trans sF) _ _ k1
    have k2 := (sE.trans sF) _ _ k2
    have s0G := s0D.trans (sE.trans sF)
    clear iqb sE sF rowD s0D hoD nqa nqb
    try dsimp only [L2.start, List.set, List.map, List.append, List.replicate, List.length]
    obtain ⟨ex1, ex2, ex3, hov2⟩ := rowAt_len rowG
    refine ⟨_, rfl, x, ex1, _, rfl, hov2, x, n, A, S, rfl, rowG, ?_⟩
    refine ⟨_, rfl, x, ex1, _, rfl, hov2, x, n, A, S, rfl, rowG, fun qv2a HH sv2a nnv2a iv2a => ?_⟩
    refine ⟨_, rfl, x, ex1, _, rfl, sv2a _ _ hov2, x, n, A, S, rfl, (rowG).same sv2a, fun qv2b HI sv2b nnv2b iv2b => ?_⟩
    refine ⟨(by show 3 ≤ sizeLine; decide), fun v2 hv2 => ?_⟩
    have sv2 := same_new (o := .lst [.int n, .ref qv2a, .ref qv2b]) (Same.refl HI) hv2
    have kv2 : upd HI v2 (.lst [.int n, .ref qv2a, .ref qv2b]) v2 = some (.lst [.int n, .ref qv2a, .ref qv2b]) := upd_same
    generalize upd HI v2 (.lst [.int n, .ref qv2a, .ref qv2b]) = HJ at sv2 kv2 ⊢
    obtain ⟨z1, z2, z3, z4, z5⟩ := TS kv2 (sv2 _ _ (sv2b _ _ iv2a)) (sv2 _ _ iv2b)
    refine ⟨v2, _, rfl, z1, z2, z3, z4, z5, ?_⟩
    clear z1 z2 z3 z4 z5
    have sxv2 := (sv2a.trans sv2b).trans sv2
    refine ⟨_, rfl, rfl, _, rfl, ?_⟩
    refine ifF (by simp) ?_
    have rowJ := rowG.same sxv2
    obtain ⟨ey1, ey2, ey3, hoJ⟩ := rowAt_len rowJ
    have k1 := sxv2 _ _ k1
    have k2 := sxv2 _ _ k2
    have s0J := s0G.trans sxv2
    refine ⟨_, rfl, x, ey1, _, rfl, hoJ, x, n, A, S, rfl, rowJ, A.length, rfl, by omega, ?_⟩
    refine ⟨_, rfl, D1, _, rfl, .inl (SqL.of k1), rfl, _, rfl, ?_⟩
    refine ifF (by rw [List.length_map]; simp) ?_
    clear rowG s0G sxv2 kv2 sv2 sv2a sv2b iv2a iv2b hov2 hv2
    try dsimp only [L2.start, List.set, List.map, List.append, List.replicate, List.length]
    refine ⟨_, rfl, _, rfl, _, rfl, _, _, rfl, rfl, _, rfl, (by show 5 ≤ sizeLine; decide), fun e1 he1 => ?_⟩
    have sK := same_new (o := .lst [.int (-1), .int 0, .int 1, .int (n - 1), .int n]) (Same.refl HJ) he1
    have kK : IL (upd HJ e1 (.lst [.int (-1), .int 0, .int 1, .int (n - 1), .int n])) e1 [-1, 0, 1, n - 1, n] := upd_same
    generalize upd HJ e1 (.lst [.int (-1), .int 0, .int 1, .int (n - 1), .int n]) = HK at sK kK ⊢
    have l5 : ([-1, 0, 1, n - 1, n] : List Int).length = 5 := rfl
    generalize ([-1, 0, 1, n - 1, n] : List Int) = five at kK l5
    refine ⟨D1, e1, _, _, rfl, rfl, sK _ _ k1, kK, by rw [List.length_map, List.length_map, sizeLine_eq]; omega, fun c1 hc1 => ?_⟩
    rw [← List.map_append]
    have sL := sK.trans (same_new (o := .lst ((A ++ five).map V.int)) (Same.refl HK) hc1)
    have kL : IL (upd HK c1 (.lst ((A ++ five).map V.int))) c1 (A ++ five) := upd_same
    generalize upd HK c1 (.lst ((A ++ five).map V.int)) = HL at sL kL ⊢
    have k1L := sL _ _ k1
    refine ⟨_, rfl, D1, rfl, ⟨_, SqL.of k1L⟩, fun D3 hD3 => ?_⟩
    refine lc_list (K := K) (a := D1) (xs := A.map V.int) (fun i H' => Same HL H' ∧ ∃ xs : List Int, IL H' D3 xs ∧ xs.length = i) ⟨same_new (Same.refl HL) hD3, [], upd_same, rfl⟩ (fun i H' _ z => SqL.of (z.1 _ _ k1L)) ?_ ?_
    · rintro i x' H' hx ⟨s', xs, hE, xl⟩
      obtain ⟨z, rfl, hz⟩ := il_at hx
      have il := (List.getElem?_eq_some_iff.mp hz).1
      refine ⟨rfl, ?_⟩
      unfold tYes
      refine iteT ?_
      refine ⟨_, rfl, _, _, rfl, rfl, ?_⟩
      refine ⟨_, hE, by rw [List.length_map]; exact small1000 (by omega), same_put s' hD3, xs ++ [z + 1], ?_, by rw [List.length_append, xl]; rfl⟩
      show upd _ _ _ D3 = _
      rw [upd_same, ints_app]
    rintro HM ⟨sM, xs, hE, xl⟩
    rw [List.length_map] at xl
    refine ⟨c1, D3, _, _, rfl, rfl, sM _ _ kL, hE, by rw [List.length_map, List.length_map, List.length_append, sizeLine_eq]; omega, fun c2 hc2 => ?_⟩
    rw [← List.map_append]
    have sN := (sL.trans sM).trans (same_new (o := .lst ((A ++ five ++ xs).map V.int)) (Same.refl HM) hc2)
    have kN : IL (upd HM c2 (.lst ((A ++ five ++ xs).map V.int))) c2 (A ++ five ++ xs) := upd_same
    generalize upd HM c2 (.lst ((A ++ five ++ xs).map V.int)) = HN at sN kN ⊢
    generalize A ++ five ++ xs = zs at kN
    have k1 := sN _ _ k1
    have k2 := sN _ _ k2
    have rowN := rowJ.same sN
    have hoN := sN _ _ hoJ
    have s0N := s0J.trans sN
    clear kL kK hE sM sL sK s0J hoJ rowJ k1L sN
    refine ⟨c2, rfl, ⟨_, SqL.of kN⟩, ?_⟩
    refine for_list (xs := zs.map V.int) (fun _ σ H' => ∃ v9, σ = [some (.ref u), some (.int n), some (.ref lp), some (.ref t), some (.ref D1), some (.ref D2), some (.ref hd), some (.str dS.shown), some (.ref x), v9, none, none, none, none] ∧ H' = HN) ⟨_, rfl, rfl⟩ (fun i σ H' _ z => by
      obtain ⟨_, _, rfl⟩ := z
      exact SqL.of kN) ?_ ?_
    · rintro i x' σ H' hx ⟨v9, rfl, rfl⟩
      obtain ⟨z, rfl, hz⟩ := il_at hx
      refine ⟨_, rfl, _, rfl, x, ey1, _, rfl, hoN, x, .int z, n, A, S, rfl, rowN, .inl ⟨z, rfl, _, rfl, ?_⟩⟩
      refine ⟨_, rfl, _, rfl, D1, _, rfl, .inl (SqL.of k1), rfl, flat_ints _, rfl, _, rfl, ?_⟩
      refine ifF (by rw [if_neg Bool.false_ne_true, inV_il]; simp) ?_
      exact ⟨_, rfl, rfl⟩
    rintro σ H' ⟨v9, rfl, eN⟩
    rw [eN]
    clear eN
    try dsimp only [L2.start, List.set, List.map, List.append, List.replicate, List.length]
    -- other things
    refine ⟨(by show 1 ≤ sizeLine; decide), fun o1 ho1 => ?_⟩
    have so1 := same_new (o := (.tup [.int 1])) (Same.refl HN) ho1
    have ko1 : upd HN o1 (.tup [.int 1]) o1 = some (.tup [.int 1]) := upd_same
    generalize upd HN o1 (.tup [.int 1]) = G1 at so1 ko1 ⊢
    refine ⟨(by show 1 ≤ sizeLine; decide), fun o2 ho2 => ?_⟩
    have so2 := same_new (o := (.lst [.int 1])) (Same.refl G1) ho2
    have ko2 : upd G1 o2 (.lst [.int 1]) o2 = some (.lst [.int 1]) := upd_same
    generalize upd G1 o2 (.lst [.int 1]) = G2 at so2 ko2 ⊢
    refine fun o3 ho3 => ?_
    have so3 := same_new (o := .dK []) (Same.refl G2) ho3
    have ko3 : upd G2 o3 (.dK []) o3 = some (.dK []) := upd_same
    generalize upd G2 o3 (.dK []) = G3 at so3 ko3 ⊢
    refine ⟨_, rfl, _, rfl, (by show 3 ≤ sizeLine; decide), fun o4 ho4 => ?_⟩
    have so4 := same_new (o := (.tup [.int 1, .int 2, .int 3])) (Same.refl G3) ho4
    have ko4 : upd G3 o4 (.tup [.int 1, .int 2, .int 3]) o4 = some (.tup [.int 1, .int 2, .int 3]) := upd_same
    generalize upd G3 o4 (.tup [.int 1, .int 2, .int 3]) = G4 at so4 ko4 ⊢
    refine ⟨(by show 1 ≤ sizeLine; decide), fun o5 ho5 => ?_⟩
    have so5 := same_new (o := (.lst [.int 1])) (Same.refl G4) ho5
    have ko5 : upd G4 o5 (.lst [.int 1]) o5 = some (.lst [.int 1]) := upd_same
    generalize upd G4 o5 (.lst [.int 1]) = G5 at so5 ko5 ⊢
    refine ⟨(by show 1 ≤ sizeLine; decide), fun o6 ho6 => ?_⟩
    have so6 := same_new (o := (.lst [.ref o5])) (Same.refl G5) ho6
    have ko6 : upd G5 o6 (.lst [.ref o5]) o6 = some (.lst [.ref o5]) := upd_same
    generalize upd G5 o6 (.lst [.ref o5]) = G6 at so6 ko6 ⊢
    refine ⟨(by show 11 ≤ sizeLine; decide), fun od hod => ?_⟩
    have sod := same_new (o := (.lst [V.non, .bl true, .bl false, .str "1", .ref o1, .ref o2, .ref o3, .ref x, .ref D1, .ref o4, .ref o6])) (Same.refl G6) hod
    have kod : upd G6 od (.lst [V.non, .bl true, .bl false, .str "1", .ref o1, .ref o2, .ref o3, .ref x, .ref D1, .ref o4, .ref o6]) od = some (.lst [V.non, .bl true, .bl false, .str "1", .ref o1, .ref o2, .ref o3, .ref x, .ref D1, .ref o4, .ref o6]) := upd_same
    generalize upd G6 od (.lst [V.non, .bl true, .bl false, .str "1", .ref o1, .ref o2, .ref o3, .ref x, .ref D1, .ref o4, .ref o6]) = G7 at sod kod ⊢
    have t67 := so6.trans sod
    have t57 := so5.trans t67
    have t47 := so4.trans t57
    have t37 := so3.trans t47
    have t27 := so2.trans t37
    have tN7 := so1.trans t27
    have hoX := tN7 _ _ hoN
    have isF : ∀ y ∈ [V.non, .bl true, .bl false, .str "1", .ref o1, .ref o2, .ref o3, .ref x, .ref D1, .ref o4, .ref o6], IsI K G7 y false := fun y hy => by
      simp only [List.mem_cons, List.not_mem_nil, or_false] at hy
      rcases hy with rfl | rfl | rfl | rfl | rfl | rfl | rfl | rfl | rfl | rfl | rfl
      · exact isI_non
      · exact isI_bl _
      · exact isI_bl _
      · exact isI_str _
      · exact isI_tup (t27 _ _ ko1)
      · exact isI_lst (t37 _ _ ko2)
      · exact isI_dct (t47 _ _ ko3)
      · exact ⟨_, false, false, tyX_row hoX R N, O.ci, O.cb, rfl⟩
      · exact isI_lst (tN7 _ _ k1)
      · exact isI_tup (t57 _ _ ko4)
      · exact isI_lst (sod _ _ ko6)
    have tyF : ∀ y ∈ [V.non, .bl true, .bl false, .str "1", .ref o1, .ref o2, .ref o3, .ref x, .ref D1, .ref o4, .ref o6].take 7, ∃ t, TyX K G7 y t ∧ PySem.W.kitOne K t (.ref C) = some false ∧ PySem.W.notFirst K C t = true := fun y hy => by
      simp only [List.take_succ_cons, List.take_zero, List.mem_cons, List.not_mem_nil, or_false] at hy
      rcases hy with rfl | rfl | rfl | rfl | rfl | rfl | rfl
      · exact ⟨_, .base .non, O.eN, O.nN⟩
      · exact ⟨_, .base (.bl _), O.eB, O.nB⟩
      · exact ⟨_, .base (.bl _), O.eB, O.nB⟩
      · exact ⟨_, .base (.str _), O.eS, O.nS⟩
      · exact ⟨_, .base (.tup (t27 _ _ ko1)), O.eT, O.nT⟩
      · exact ⟨_, .base (.lst (t37 _ _ ko2)), O.eL, O.nL⟩
      · exact ⟨_, .base (.dK (t47 _ _ ko3)), O.eD, O.nD⟩
    generalize [V.non, .bl true, .bl false, .str "1", .ref o1, .ref o2, .ref o3, .ref x, .ref D1, .ref o4, .ref o6] = vs at isF tyF kod
    have k1 := tN7 _ _ k1
    have k2 := tN7 _ _ k2
    have rowX := rowN.same tN7
    have s0X := s0N.trans tN7
    clear ko1 ko2 ko3 ko4 ko5 ko6 t67 t57 t47 t37 t27 tN7 so1 so2 so3 so4 so5 so6 sod hoN rowN s0N kN
    try dsimp only [L2.start, List.set, List.map, List.append, List.replicate, List.length]
    refine ⟨_, rfl, od, rfl, ⟨_, SqL.of kod⟩, fun D4 hD4 => ?_⟩
    refine lc_list (K := K) (a := od) (xs := vs) (fun i H' => Same G7 H' ∧ H' D4 = some (.lst [])) ⟨same_new (Same.refl G7) hD4, upd_same⟩ (fun i H' _ z => SqL.of (z.1 _ _ kod)) ?_ ?_
    · rintro i y H' hy ⟨s', hE⟩
      refine ⟨rfl, ?_⟩
      refine ⟨_, rfl, _, rfl, x, ey1, _, rfl, s' _ _ hoX, x, y, n, A, S, rfl, rowX.same s', .inr ⟨isI_same (isF y (List.mem_of_getElem? hy)) s', _, rfl, _, rfl, ?_⟩⟩
      exact ifF rfl ⟨s', hE⟩
    rintro H' ⟨s', hE⟩
    refine ⟨Nat.zero_le _, fun e0 he0 => ?_⟩
    have se := same_new (o := .lst []) (Same.refl H') he0
    have ke : upd H' e0 (.lst []) e0 = some (.lst []) := upd_same
    generalize upd H' e0 (.lst []) = G8 at se ke ⊢
    refine ⟨.list [], .list [], .lst (SqL.of (se _ _ hE)) .nil, .lst (SqL.of ke) .nil, rfl, rfl, _, rfl, ?_⟩
    refine ifF rfl ?_
    have s78 := s'.trans se
    clear hE ke se s'
    have kod := s78 _ _ kod
    refine ⟨_, rfl, _, rfl, od, _, rfl, SqL.of kod, fun p7 hp7 => ⟨p7, rfl, ?_⟩⟩
    have e7 : cutV vs none (some 7) = vs.take 7 := by
      have := cut_to (fun v : V => v) vs 7
      simpa using this
    rw [e7]
    have sp := same_new (o := .lst (vs.take 7)) (Same.refl G8) hp7
    have kp7 : upd G8 p7 (.lst (vs.take 7)) p7 = some (.lst (vs.take 7)) := upd_same
    generalize upd G8 p7 (.lst (vs.take 7)) = G9 at sp kp7 ⊢
    have s79 := s78.trans sp
    refine ⟨⟨_, SqL.of kp7⟩, fun D5 hD5 => ?_⟩
    refine lc_list (K := K) (a := p7) (xs := vs.take 7) (fun i H' => Same G9 H' ∧ H' D5 = some (.lst [])) ⟨same_new (Same.refl G9) hD5, upd_same⟩ (fun i H' _ z => SqL.of (z.1 _ _ kp7)) ?_ ?_
    · rintro i y H' hy ⟨s', hE⟩
      obtain ⟨ty, h1, h2, h3⟩ := tyF y (List.mem_of_getElem? hy)
      have s7 := s79.trans s'
      refine ⟨rfl, ?_⟩
      refine ⟨_, rfl, _, rfl, x, ey1, _, ty, rfl, s7 _ _ hoX, ty_same h1 s7, h3, x, y, n, A, S, rfl, rowX.same s7, .inr ⟨ty, ty_same h1 s7, h2, _, rfl, _, rfl, ?_⟩⟩
      exact ifF rfl ⟨s', hE⟩
    rintro H' ⟨s', hE⟩
    refine ⟨Nat.zero_le _, fun e0 he0 => ?_⟩
    have se := same_new (o := .lst []) (Same.refl H') he0
    have ke : upd H' e0 (.lst []) e0 = some (.lst []) := upd_same
    generalize upd H' e0 (.lst []) = GA at se ke ⊢
    refine ⟨.list [], .list [], .lst (SqL.of (se _ _ hE)) .nil, .lst (SqL.of ke) .nil, rfl, rfl, _, rfl, ?_⟩
    refine ifF rfl ?_
    have s7A := (s79.trans s').trans se
    have k1 := s7A _ _ k1
    have k2 := s7A _ _ k2
    have rowA := rowX.same s7A
    have hoA := s7A _ _ hoX
    have s0A := s0X.trans s7A
    clear hE ke se s' s78 s79 kod kp7 sp e7 isF tyF rowX hoX s0X s7A hp7
    try dsimp only [L2.start, List.set, List.map, List.append, List.replicate, List.length]
    -- rows that are otherwise
    refine ⟨_, rfl, u, n, l, m, g, prs, rfl, RR0.same s0A, G, pl, fun q7 GB es sB kq el ok => ⟨q7, rfl, ⟨_, SqL.of kq⟩, fun D6 hD6 => ?_⟩⟩
    have hoB := sB _ _ hoA
    have rowB := rowA.same sB
    simp only [hA, hS] at ok
    refine lc_list (K := K) (a := q7) (xs := es.map V.ref) (fun i H' => Same GB H' ∧ H' D6 = some (.lst [])) ⟨same_new (Same.refl GB) hD6, upd_same⟩ (fun i H' _ z => SqL.of (z.1 _ _ kq)) ?_ ?_
    · rintro i y H' hy ⟨s', hE⟩
      obtain ⟨e, rfl, he⟩ : ∃ e, y = V.ref e ∧ e ∈ es := by
        rw [List.getElem?_map] at hy
        cases h : es[i]? with
        | none => rw [h] at hy; cases hy
        | some k => rw [h] at hy; exact ⟨k, (Option.some.inj hy).symm, List.mem_of_getElem? h⟩
      obtain ⟨n2, ms2, ss2, row2, no⟩ := ok e he
      have row2 := row2.same s'
      obtain ⟨dy, _, _, ho2⟩ := rowAt_len row2
      have ho' := s' _ _ hoB
      have row' := rowB.same s'
      refine ⟨rfl, ?_⟩
      refine ⟨_, rfl, _, rfl, x, ey1, _, .ref C, rfl, ho', tyX_row ho2 R N, first_self, x, .ref e, n, A, S, rfl, row', .inl ⟨e, n2, ms2, ss2, rfl, row2, _, rfl, _, rfl, ?_⟩⟩
      refine ifF (decide_eq_false no) ?_
      refine ⟨_, rfl, _, rfl, x, e, ey1, dy, _, _, rfl, rfl, ho', ho2, x, .ref e, n, A, S, rfl, row', .inl ⟨e, n2, ms2, ss2, rfl, row2, _, rfl, _, rfl, ?_⟩⟩
      refine ifF (by rw [decide_eq_false no]; rfl) ?_
      exact ⟨s', hE⟩
    rintro H' ⟨s', hE⟩
    refine ⟨Nat.zero_le _, fun e0 he0 => ?_⟩
    have se := same_new (o := .lst []) (Same.refl H') he0
    have ke : upd H' e0 (.lst []) e0 = some (.lst []) := upd_same
    generalize upd H' e0 (.lst []) = GC at se ke ⊢
    refine ⟨.list [], .list [], .lst (SqL.of (se _ _ hE)) .nil, .lst (SqL.of ke) .nil, rfl, rfl, _, rfl, ?_⟩
    refine ifF rfl ?_
    have sAC := (sB.trans s').trans se
    have k1 := sAC _ _ k1
    have k2 := sAC _ _ k2
    have rowC := rowA.same sAC
    have hoC := sAC _ _ hoA
    have s0C := s0A.trans sAC
    clear hE ke se s' sB sAC rowA hoA rowB hoB kq ok s0A
    try dsimp only [L2.start, List.set, List.map, List.append, List.replicate, List.length]
    -- the same once more
    refine ⟨_, rfl, _, rfl, _, rfl, rfl, rfl, fun x2 dx2 nx nd ne => ?_⟩
    have s7 : Same GC (upd (upd GC dx2 (.own x2)) x2 (.ins C dx2 [])) := same_new (same_new (Same.refl GC) nd) (by rw [upd_ne (Ne.symm ne)]; exact nx)
    refine ⟨x2, dx2, D1, D2, n, A, S, rfl, upd_same, s7 _ _ k1, s7 _ _ k2, GG, fun GD row kp => ⟨rfl, ?_⟩⟩
    have sCD : Same GC GD := same_ins (Same.refl GC) nx nd kp
    have row2 := row.at
    have rowD := rowC.same sCD
    have hoD := sCD _ _ hoC
    obtain ⟨dy, _, _, ho2⟩ := rowAt_len row2
    have yes : decide (n = n ∧ A = A ∧ S = S) = true := decide_eq_true ⟨rfl, rfl, rfl⟩
    try dsimp only [L2.start, List.set, List.map, List.append, List.replicate, List.length]
    refine ⟨_, rfl, _, rfl, x, ey1, _, .ref C, rfl, hoD, tyX_row ho2 R N, first_self, x, .ref x2, n, A, S, rfl, rowD, .inl ⟨x2, n, A, S, rfl, row2, _, rfl, ?_⟩⟩
    rw [yes]
    refine ⟨_, rfl, ?_⟩
    refine iteT ?_
    refine ⟨_, rfl, _, rfl, x, x2, ey1, dy, _, _, rfl, rfl, hoD, ho2, x, .ref x2, n, A, S, rfl, rowD, .inl ⟨x2, n, A, S, rfl, row2, _, rfl, ?_⟩⟩
    rw [yes]
    refine ⟨_, rfl, _, rfl, ?_⟩
    refine iteT ?_
    refine ⟨_, rfl, _, rfl, x, ey1, _, .ref C, rfl, hoD, tyX_row hoD R N, first_self, x, .ref x, n, A, S, rfl, rowD, .inl ⟨x, n, A, S, rfl, rowD, _, rfl, ?_⟩⟩
    rw [yes]
    exact q GD (s0C.trans sCD)
end
end Cw
namespace Cw
open PySem PySem.Spec L2
abbrev sL : Stmt := top 26
def spLaw (K : PySem.W.Frag) : Sp := fun vs H Q _ => ∃ (a : Addr) (ns : List Int), vs = [.ref a] ∧ SqL K H a (ns.map V.int) ∧ ns.length ≤ 63 ∧ ∀ H', Q (.bl true) H'
/-- the script, which is not the jar -/
def Scr (K : PySem.W.Frag) (H : Hp) (a : Addr) (xs : List V) (p : Addr) : Prop := (a ≠ p ∧ (H a = some (.lst xs) ∨ ∃ o, H a = some (.frz o (.lst xs)))) ∨ ∀ H' : Hp, SqL K H' a xs
theorem Scr.of {K : PySem.W.Frag} {H : Hp} {a p : Addr} {xs : List V} (h : SqL K H a xs) (n : H p = none) : Scr K H a xs p := by
  rcases h with h | h
  · refine .inl ⟨fun e => ?_, h⟩
    subst e
    rcases h with h | ⟨o, h⟩ <;> rw [n] at h <;> cases h
  · exact .inr fun H' => .inr h
theorem Scr.sq {K : PySem.W.Frag} {H : Hp} {a p : Addr} {xs : List V} (h : Scr K H a xs p) : SqL K H a xs := by
  rcases h with ⟨_, h⟩ | h
  · exact .inl h
  · exact h H
theorem Scr.but {K : PySem.W.Frag} {H H' : Hp} {a p : Addr} {xs : List V} (h : Scr K H a xs p) (e : But H H' p) : Scr K H' a xs p := by
  rcases h with ⟨n, h | ⟨o, h⟩⟩ | h
  · exact .inl ⟨n, .inl (e _ _ h n)⟩
  · exact .inl ⟨n, .inr ⟨o, e _ _ h n⟩⟩
  · exact .inr h
theorem good20a : Good 20 [1, 3, 7, 8, 13] [3, 8] := ⟨by decide, by decide, by decide, by decide, by decide, by decide⟩
theorem good1a : Good 1 [] [] := ⟨by decide, by decide, by decide, by decide, by decide, by decide⟩
theorem good7a : Good 7 [1, 3] [3] := ⟨by decide, by decide, by decide, by decide, by decide, by decide⟩
theorem good2a : Good 2 [1] [] := ⟨by decide, by decide, by decide, by decide, by decide, by decide⟩
theorem good2b : Good 2 [1] [1] := ⟨by decide, by decide, by decide, by decide, by decide, by decide⟩
theorem good5a : Good 5 [2] [2] := ⟨by decide, by decide, by decide, by decide, by decide, by decide⟩
section
variable {P : Program} {w : World} {K : PySem.W.Frag} {mg : Str → Option Value} {base : Heap}
abbrev NL : List Str := ["script", "k", "jar", "turn", "made", "loop"]
theorem scL : FnScope NL ["script"] (defScope sL) := ⟨rfl, rfl, rfl, by decide +kernel, rfl, by decide +kernel, by decide +kernel⟩
theorem ok_law {f C fJ fS fG fA fCn fLn fQ C2 fN fI2 fP : Addr} {fd fdJ fdS fdG fdA fdCn fdLn fdQ fdN fdI2 fdP : FuncData} (F : Fun K "law" "law" sL f fd) (T : Bl mg) (R : Cl K mg C) (N : Ci K C) (R2 : Cl2 K mg C2) (N2 : Ci K C2) (O : Odd K C C2) (M : Mk K C fN) (bN : Binds K fdN NI []) (GN : FnOk P w K mg base CX0 5 fN fdN NI (spInit C)) (M2 : Mk K C2 fI2) (bI2 : Binds K fdI2 NIL []) (GI2 : FnOk P w K mg base CX0 5 fI2 fdI2 NIL (spInitL C2)) (mP : Meth K C2 "__eq__" fP) (bP : Binds K fdP ["self", "other"] []) (GP : FnOk P w K mg base CX0 1 fP fdP ["self", "other"] (spEqL K C2))
    (gJ : mg "_law_jar" = some (.ref fJ)) (kJ : PySem.W.keepIn K (.ref fJ) = true) (bJ : Binds K fdJ ["script", "k"] []) (GJ : FnOk P w K mg base CX0 1 fJ fdJ ["script", "k"] (spJar K))
    (gS : mg "_law_small" = some (.ref fS)) (kS : PySem.W.keepIn K (.ref fS) = true) (bS : Binds K fdS ["jar", "most"] []) (GS : FnOk P w K mg base CX0 3 fS fdS ["jar", "most"] spSmall)
    (gG : mg "_law_great" = some (.ref fG)) (kG : PySem.W.keepIn K (.ref fG) = true) (bG : Binds K fdG ["jar", "most"] []) (GG : FnOk P w K mg base CX0 3 fG fdG ["jar", "most"] spGreat)
    (gA : mg "_law_right" = some (.ref fA)) (kA : PySem.W.keepIn K (.ref fA) = true) (bA : Binds K fdA ["raw"] []) (GA : FnG P w K mg base 10 fA fdA ["raw"] (spRi C))
    (mCn : Meth K C "__contains__" fCn) (bCn : Binds K fdCn ["self", "place"] []) (GCn : FnOk P w K mg base CX0 2 fCn fdCn ["self", "place"] (spCn K C))
    (mLn : Meth K C "__len__" fLn) (bLn : Binds K fdLn ["self"] []) (GLn : FnOk P w K mg base CX0 1 fLn fdLn ["self"] (spLenR C))
    (mQ : Meth K C "__eq__" fQ) (bQ : Binds K fdQ ["self", "other"] []) (GQ : FnOk P w K mg base CX0 1 fQ fdQ ["self", "other"] (spEqA K C)) :
    FnG P w K mg base 11 f fd ["script"] (spLaw K) := by
  refine okG F scL (fun vs H Q E h => ?_) (fun cdv A outer s H vs Q E hr hg h => ?_)
  · obtain ⟨a, ns, rfl, _⟩ := h
    rfl
  · obtain ⟨a, ns, rfl, hS, hl, q⟩ := h
    have hu : (A.deeper (PyProof.Rows.envOfC "law" (defScope sL) s.heap.objs.size f cdv)).units + 64 < cLine := Nat.lt_of_le_of_lt (by omega) hr.un
    have gu : (A.deeper (PyProof.Rows.envOfC "law" (defScope sL) s.heap.objs.size f cdv)).guards = some [] := hg
    refine ⟨_, (pss_cons (ps_for PassesOwn.never rfl (pi_range1 (by rfl) T.range (pa_cons (pe_callB (call_max2 rfl) (by rfl) T.max (by decide +kernel) (pa_cons pe_int (pa_cons (pe_callB (call_min2 rfl) (by rfl) T.min (by decide +kernel) (pa_cons pe_int (pa_cons (pe_callB call_len_seq (by rfl) T.len PySem.boot_len (pa_cons (pv 0) pa_nil)) pa_nil))) pa_nil))) pa_nil)) (pg_name (i := 1) scL.nd rfl (Or.inl rfl))
        (pss_cons (ps_set (i := 2) scL.nd rfl (Or.inl rfl) (pe_call GJ (hr.mono (by decide)) rfl gJ kJ bJ .nil pass0 (pa_cons (pv 0) (pa_cons (pv 1) pa_nil))))
        (pss_one (ps_for PassesOwn.never rfl (pi_range1 (by rfl) T.range (pa_cons pe_int pa_nil)) (pg_name (i := 3) scL.nd rfl (Or.inl rfl))
        (pss_one (ps_if (PW.pt (pw_or (pt_not (pt_val (pe_callG GA (hr.mono (by decide)) gu rfl gA kA bA (pa_cons (pe_call GS (hr.mono (by decide)) rfl gS kS bS .nil pass0 (pa_cons (pv 2) (pa_cons pe_int pa_nil))) pa_nil)))) (pw_or1 (pt_not (pt_val (pe_callG GA (hr.mono (by decide)) gu rfl gA kA bA (pa_cons (pe_call GG (hr.mono (by decide)) rfl gG kG bG .nil pass0 (pa_cons (pv 2) (pa_cons pe_int pa_nil))) pa_nil))))))) (pss_one (ps_ret pe_bl)) pss_nil))))))
        (pss_cons (ps_set (i := 4) scL.nd rfl (Or.inl rfl) (pe_make M GN (hr.mono (by decide)) rfl R.mgR bN .nil pass0 (pa_cons pe_int (pa_cons (pe_lst (pa_cons pe_int (pa_cons pe_int (pa_cons pe_int (pa_cons pe_int (pa_cons pe_int pa_nil)))))) (pa_cons (pe_lst (pa_cons pe_int (pa_cons pe_int pa_nil))) pa_nil)))))
        (pss_cons (ps_if (PW.pt (pw_or (pt_cmpR (op_neD hr.units) (pe_lst (pa_cons (pe_callB (call_lenOwn GLn mLn.at_ mLn.fn bLn pass0 (hr.mono (by decide))) (by rfl) T.len PySem.boot_len (pa_cons (pv 4) pa_nil)) (pa_cons (pe_callB (call_lenOwn GLn mLn.at_ mLn.fn bLn pass0 (hr.mono (by decide))) (by rfl) T.len PySem.boot_len (pa_cons (pe_make M GN (hr.mono (by decide)) rfl R.mgR bN .nil pass0 (pa_cons pe_int (pa_cons (pe_lst pa_nil) (pa_cons (pe_lst pa_nil) pa_nil)))) pa_nil)) pa_nil))) (pe_lst (pa_cons pe_int (pa_cons pe_int pa_nil))) (nomark _)) (pw_or (pt_cmpR (show OpR _ (compareOp .In) (rInOwn C (spCn K C) E0) from op_inOwn GCn mCn.at_ mCn.fn bCn pass0 (hr.mono (by decide))) pe_bl (pv 4) (by rfl)) (pw_or (pt_cmpR (show OpR _ (compareOp .NotIn) (rNotInOwn C (spCn K C) E0) from op_notInOwn GCn mCn.at_ mCn.fn bCn pass0 (hr.mono (by decide))) pe_int (pv 4) (by rfl)) (pw_or1 (pt_cmpR (show OpR _ (compareOp .Eq) (rEqOwn K C (spEqA K C) E0) from op_eqOwn GQ mQ.at_ mQ.fn bQ pass0 (hr.mono (by decide))) (pv 4) (pe_tup (pa_cons pe_int (pa_cons (pe_lst (pa_cons pe_int (pa_cons pe_int pa_nil))) (pa_cons (pe_lst (pa_cons pe_int pa_nil)) pa_nil)))) (nomark _))))))) (pss_one (ps_ret pe_bl)) pss_nil)
        (pss_cons (ps_set (i := 5) scL.nd rfl (Or.inl rfl) (pe_make M2 GI2 (hr.mono (by decide)) rfl R2.mgR bI2 .nil pass0 (pa_cons pe_int (pa_cons (pe_lst (pa_cons pe_int (pa_cons pe_int pa_nil))) (pa_cons (pe_lst (pa_cons pe_int pa_nil)) pa_nil)))))
        (pss_cons (ps_if (PW.pt (pw_or (pt_cmpR (show OpR _ (compareOp .Eq) (rEqOwn K C (spEqA K C) E0) from op_eqOwn GQ mQ.at_ mQ.fn bQ pass0 (hr.mono (by decide))) (pe_make M GN (hr.mono (by decide)) rfl R.mgR bN .nil pass0 (pa_cons pe_int (pa_cons (pe_lst (pa_cons pe_int (pa_cons pe_int pa_nil))) (pa_cons (pe_lst (pa_cons pe_int pa_nil)) pa_nil)))) (pv 5) (nomark _)) (pw_or1 (pt_cmpR (show OpR _ (compareOp .Eq) (rEqOwn K C2 (spEqL K C2) E0) from op_eqOwn GP mP.at_ mP.fn bP pass0 (hr.mono (by decide))) (pv 5) (pe_make M GN (hr.mono (by decide)) rfl R.mgR bN .nil pass0 (pa_cons pe_int (pa_cons (pe_lst (pa_cons pe_int (pa_cons pe_int pa_nil))) (pa_cons (pe_lst (pa_cons pe_int pa_nil)) pa_nil)))) (nomark _))))) (pss_one (ps_ret pe_bl)) pss_nil)
        (pss_one (ps_ret (pe_and (pe_cmpR (show OpR _ (compareOp .NotEq) (rNeOwn K C (spEqA K C) E0) from op_neOwn GQ N.hm O.ne mQ.at_ mQ.fn bQ pass0 (hr.mono (by decide))) (pe_make M GN (hr.mono (by decide)) rfl R.mgR bN .nil pass0 (pa_cons pe_int (pa_cons (pe_lst (pa_cons pe_int pa_nil)) (pa_cons (pe_lst pa_nil) pa_nil)))) (pe_make M GN (hr.mono (by decide)) rfl R.mgR bN .nil pass0 (pa_cons pe_int (pa_cons (pe_lst (pa_cons pe_int pa_nil)) (pa_cons (pe_lst (pa_cons pe_int pa_nil)) pa_nil)))) (nomark _)) (pe_one (pe_cmpR (show OpR _ (compareOp .Eq) (rEqOwn K C (spEqA K C) E0) from op_eqOwn GQ mQ.at_ mQ.fn bQ pass0 (hr.mono (by decide))) (pe_make M GN (hr.mono (by decide)) rfl R.mgR bN .nil pass0 (pa_cons pe_int (pa_cons (pe_lst (pa_cons pe_int pa_nil)) (pa_cons (pe_lst (pa_cons pe_int pa_nil)) pa_nil)))) (pe_make M GN (hr.mono (by decide)) rfl R.mgR bN .nil pass0 (pa_cons pe_int (pa_cons (pe_lst (pa_cons pe_int pa_nil)) (pa_cons (pe_lst (pa_cons pe_int pa_nil)) pa_nil)))) (nomark _))))))))))), ?_⟩
    refine ⟨_, rfl, a, _, rfl, .inl hS, _, _, rfl, _, _, rfl, _, rfl, ?_, ?_, for_range (lo := 0) (n := Int.toNat _) (fun _ σ H' => ∃ v1 v2 v3 v4 v5, σ = [some (.ref a), v1, v2, v3, v4, v5] ∧ SqL K H' a (ns.map V.int)) ⟨_, _, _, _, _, rfl, hS⟩ ?_ ?_⟩
    · rw [List.length_map]
      split <;> split <;> omega
    · rw [List.length_map]
      split <;> split <;> omega
    · rintro i σ H1 hi ⟨v1, v2, v3, v4, v5, rfl, s1⟩
      have hil : i ≤ ns.length := by
        rw [List.length_map] at hi
        split at hi <;> split at hi <;> omega
      refine ⟨_, rfl, _, rfl, a, ns, i, by rw [Int.zero_add]; rfl, s1, hil, hl, fun p H2 s2 np J2 => ?_⟩
      have sc2 := (Scr.of s1 np).but (But.of s2)
      try dsimp only [L2.start, List.set, List.map, List.append, List.replicate, List.length]
      refine ⟨_, rfl, by decide, by decide, for_range (lo := 0) (n := 3) (fun t σ H' => ∃ v3, σ = [some (.ref a), some (.int (0 + (i : Int))), some (.ref p), v3, v4, v5] ∧ JarAt H' p (300 * (3 - t)) ∧ Scr K H' a (ns.map V.int) p) ⟨_, rfl, J2.mono (by omega), sc2⟩ ?_ ?_⟩
      · rintro t σ H3 ht ⟨v3, rfl, J3, sc3⟩
        have Jd : JarAt H3 p (300 * (3 - (t + 1)) + 120 + 60) := J3.mono (by omega)
        generalize 300 * (3 - (t + 1)) = kk at Jd ⊢
        refine ⟨_, rfl, p, _, 12, rfl, by decide, by decide, Jd, fun r1 H4 n l m g prs n12 G l39 hR S big gb J4 B4 => ?_⟩
        have sc4 := sc3.but B4
        refine ⟨r1, n, l, m, g, prs, rfl, hR, G, by omega, by omega, fun H5 s5 => ⟨_, rfl, ?_⟩⟩
        refine ifF rfl ?_
        have sc5 := sc4.but (But.of s5)
        refine ⟨_, rfl, p, kk, 30, rfl, by decide, by decide, J4.same s5, fun r2 H6 n l m g prs G f16 hR S big gb J6 B6 => ?_⟩
        have lm := S.lm
        have mg := S.mg
        refine ⟨r2, n, l, m, g, prs, rfl, hR, G, by omega, by omega, fun H7 s7 => ⟨_, rfl, ?_⟩⟩
        refine ifF rfl ?_
        exact ⟨_, rfl, J6.same s7, (sc5.but B6).but (But.of s7)⟩
      · rintro σ H3 ⟨v3, rfl, J3, sc3⟩
        exact ⟨_, _, _, _, _, rfl, sc3.sq⟩
    · rintro σ H1 ⟨v1, v2, v3, v4, v5, rfl, s1⟩
      refine ⟨(by show 5 ≤ sizeLine; decide), fun cw0 hcw0 => ⟨(by show 2 ≤ sizeLine; decide), fun ew0 hew0 => ?_⟩⟩
      have mw0 : IL (upd (upd H1 cw0 (.lst [.int 1, .int 3, .int 7, .int 8, .int 13])) ew0 (.lst [.int 3, .int 8])) cw0 [1, 3, 7, 8, 13] := by
        show upd _ _ _ cw0 = _
        rw [upd_ne (ne_of_none upd_same hew0)]
        exact upd_same
      have nw0 : IL (upd (upd H1 cw0 (.lst [.int 1, .int 3, .int 7, .int 8, .int 13])) ew0 (.lst [.int 3, .int 8])) ew0 [3, 8] := upd_same
      have tw0 : Same H1 (upd (upd H1 cw0 (.lst [.int 1, .int 3, .int 7, .int 8, .int 13])) ew0 (.lst [.int 3, .int 8])) := same_new (same_new (Same.refl H1) hcw0) hew0
      dsimp -proj only
      generalize upd (upd H1 cw0 (.lst [.int 1, .int 3, .int 7, .int 8, .int 13])) ew0 (.lst [.int 3, .int 8]) = Xw0 at mw0 nw0 tw0 ⊢
      refine fun w0 dxw0 nxw0 ndw0 new0 => ?_
      have uw0 : Same Xw0 (upd (upd Xw0 dxw0 (.own w0)) w0 (.ins C dxw0 [])) := same_new (same_new (Same.refl Xw0) ndw0) (by rw [upd_ne (Ne.symm new0)]; exact nxw0)
      refine ⟨w0, dxw0, cw0, ew0, 20, _, _, rfl, upd_same, uw0 _ _ mw0, uw0 _ _ nw0, good20a, fun H2 rownw0 kpw0 => ⟨rfl, ?_⟩⟩
      have roww0 := rownw0.at
      have sw0 : Same H1 H2 := tw0.trans (same_ins (Same.refl Xw0) nxw0 ndw0 kpw0)
      obtain ⟨dw0, _, _, how0⟩ := rowAt_len roww0
      clear rownw0 kpw0 uw0 nxw0 ndw0 new0 mw0 nw0 hcw0 hew0 tw0
      try dsimp only [L2.start, List.set, List.map, List.append, List.replicate, List.length]
      refine ⟨_, rfl, w0, dw0, _, rfl, how0, w0, 20, _, _, rfl, roww0, 5, rfl, by decide, ?_⟩
      refine ⟨Nat.zero_le _, fun cw1 hcw1 => ⟨Nat.zero_le _, fun ew1 hew1 => ?_⟩⟩
      have mw1 : IL (upd (upd H2 cw1 (.lst [])) ew1 (.lst [])) cw1 [] := by
        show upd _ _ _ cw1 = _
        rw [upd_ne (ne_of_none upd_same hew1)]
        exact upd_same
      have nw1 : IL (upd (upd H2 cw1 (.lst [])) ew1 (.lst [])) ew1 [] := upd_same
      have tw1 : Same H2 (upd (upd H2 cw1 (.lst [])) ew1 (.lst [])) := same_new (same_new (Same.refl H2) hcw1) hew1
      dsimp -proj only
      generalize upd (upd H2 cw1 (.lst [])) ew1 (.lst []) = Xw1 at mw1 nw1 tw1 ⊢
      refine fun w1 dxw1 nxw1 ndw1 new1 => ?_
      have uw1 : Same Xw1 (upd (upd Xw1 dxw1 (.own w1)) w1 (.ins C dxw1 [])) := same_new (same_new (Same.refl Xw1) ndw1) (by rw [upd_ne (Ne.symm new1)]; exact nxw1)
      refine ⟨w1, dxw1, cw1, ew1, 1, _, _, rfl, upd_same, uw1 _ _ mw1, uw1 _ _ nw1, good1a, fun H3 rownw1 kpw1 => ⟨rfl, ?_⟩⟩
      have roww1 := rownw1.at
      have sw1 : Same H2 H3 := tw1.trans (same_ins (Same.refl Xw1) nxw1 ndw1 kpw1)
      obtain ⟨dw1, _, _, how1⟩ := rowAt_len roww1
      clear rownw1 kpw1 uw1 nxw1 ndw1 new1 mw1 nw1 hcw1 hew1 tw1
      refine ⟨w1, dw1, _, rfl, how1, w1, 1, _, _, rfl, roww1, 0, rfl, by decide, ?_⟩
      refine ⟨(by show 2 ≤ sizeLine; decide), fun L1 hL1 => ?_⟩
      have sL1 := same_new (o := .lst [.int ((5 : Nat) : Int), .int ((0 : Nat) : Int)]) (Same.refl H3) hL1
      have kL1 : IL (upd H3 L1 (.lst [.int ((5 : Nat) : Int), .int ((0 : Nat) : Int)])) L1 [5, 0] := upd_same
      generalize upd H3 L1 (.lst [.int ((5 : Nat) : Int), .int ((0 : Nat) : Int)]) = H4 at sL1 kL1 ⊢
      refine ⟨(by show 2 ≤ sizeLine; decide), fun L2 hL2 => ?_⟩
      have sL2 := same_new (o := (.lst [.int 5, .int 0])) (Same.refl H4) hL2
      have kL2 : upd H4 L2 (.lst [.int 5, .int 0]) L2 = some (.lst [.int 5, .int 0]) := upd_same
      generalize upd H4 L2 (.lst [.int 5, .int 0]) = H5 at sL2 kL2 ⊢
      have kL2 : IL H5 L2 [5, 0] := kL2
      refine ⟨_, _, dp_il (sL2 _ _ kL1), dp_il kL2, shape_il _, shape_il _, _, rfl, ?_⟩
      rw [eqv_ints]
      refine ifF (by decide) ?_
      have s25 := (sw1.trans sL1).trans sL2
      have roww0 := roww0.same s25
      have how0 := s25 _ _ how0
      clear kL1 kL2 sL1 sL2 sw1 roww1 how1 hL1 hL2
      refine ⟨_, rfl, w0, dw0, _, rfl, how0, w0, .bl true, 20, _, _, rfl, roww0, .inr ⟨isI_bl true, _, rfl, _, rfl, ?_⟩⟩
      refine ifF rfl ?_
      refine ⟨_, rfl, w0, dw0, _, rfl, how0, w0, .int 1, 20, _, _, rfl, roww0, .inl ⟨1, rfl, _, rfl, _, rfl, ?_⟩⟩
      refine ifF (by decide) ?_
      refine ⟨_, rfl, (by show 2 ≤ sizeLine; decide), fun b1 hb1 => ⟨(by show 1 ≤ sizeLine; decide), fun b2 hb2 => ?_⟩⟩
      have tb : Same H5 (upd (upd H5 b1 (.lst [.int 1, .int 3])) b2 (.lst [.int 3])) := same_new (same_new (Same.refl H5) hb1) hb2
      dsimp -proj only
      generalize upd (upd H5 b1 (.lst [.int 1, .int 3])) b2 (.lst [.int 3]) = H6 at tb ⊢
      refine ⟨(by show 3 ≤ sizeLine; decide), fun tp htp => ?_⟩
      have stp := same_new (o := (.tup [.int 20, .ref b1, .ref b2])) (Same.refl H6) htp
      have ktp : upd H6 tp (.tup [.int 20, .ref b1, .ref b2]) tp = some (.tup [.int 20, .ref b1, .ref b2]) := upd_same
      generalize upd H6 tp (.tup [.int 20, .ref b1, .ref b2]) = H7 at stp ktp ⊢
      have s57 := tb.trans stp
      refine ⟨w0, dw0, _, .type "tuple", rfl, s57 _ _ how0, .base (.tup ktp), O.nT, w0, .ref tp, 20, _, _, rfl, roww0.same s57, .inr ⟨_, .base (.tup ktp), O.eT, _, rfl, _, rfl, ?_⟩⟩
      refine ifF rfl ?_
      clear roww0 how0 s57 tb stp ktp
      try dsimp only [L2.start, List.set, List.map, List.append, List.replicate, List.length]
      refine ⟨(by show 2 ≤ sizeLine; decide), fun clo hclo => ⟨(by show 1 ≤ sizeLine; decide), fun elo helo => ?_⟩⟩
      have mlo : IL (upd (upd H7 clo (.lst [.int 1, .int 3])) elo (.lst [.int 3])) clo [1, 3] := by
        show upd _ _ _ clo = _
        rw [upd_ne (ne_of_none upd_same helo)]
        exact upd_same
      have nlo : IL (upd (upd H7 clo (.lst [.int 1, .int 3])) elo (.lst [.int 3])) elo [3] := upd_same
      have tlo : Same H7 (upd (upd H7 clo (.lst [.int 1, .int 3])) elo (.lst [.int 3])) := same_new (same_new (Same.refl H7) hclo) helo
      dsimp -proj only
      generalize upd (upd H7 clo (.lst [.int 1, .int 3])) elo (.lst [.int 3]) = Xlo at mlo nlo tlo ⊢
      refine fun lo dxlo nxlo ndlo nelo => ?_
      have ulo : Same Xlo (upd (upd Xlo dxlo (.own lo)) lo (.ins C2 dxlo [])) := same_new (same_new (Same.refl Xlo) ndlo) (by rw [upd_ne (Ne.symm nelo)]; exact nxlo)
      refine ⟨lo, dxlo, clo, elo, 7, _, _, rfl, upd_same, ulo _ _ mlo, ulo _ _ nlo, good7a, by decide, fun H8 lplo kplo => ⟨rfl, ?_⟩⟩
      have slo : Same H7 H8 := tlo.trans (same_ins (Same.refl Xlo) nxlo ndlo kplo)
      obtain ⟨dlo, flo, holo⟩ := id lplo
      clear kplo ulo nxlo ndlo nelo mlo nlo hclo helo tlo
      try dsimp only [L2.start, List.set, List.map, List.append, List.replicate, List.length]
      refine ⟨(by show 2 ≤ sizeLine; decide), fun cw2 hcw2 => ⟨(by show 1 ≤ sizeLine; decide), fun ew2 hew2 => ?_⟩⟩
      have mw2 : IL (upd (upd H8 cw2 (.lst [.int 1, .int 3])) ew2 (.lst [.int 3])) cw2 [1, 3] := by
        show upd _ _ _ cw2 = _
        rw [upd_ne (ne_of_none upd_same hew2)]
        exact upd_same
      have nw2 : IL (upd (upd H8 cw2 (.lst [.int 1, .int 3])) ew2 (.lst [.int 3])) ew2 [3] := upd_same
      have tw2 : Same H8 (upd (upd H8 cw2 (.lst [.int 1, .int 3])) ew2 (.lst [.int 3])) := same_new (same_new (Same.refl H8) hcw2) hew2
      dsimp -proj only
      generalize upd (upd H8 cw2 (.lst [.int 1, .int 3])) ew2 (.lst [.int 3]) = Xw2 at mw2 nw2 tw2 ⊢
      refine fun w2 dxw2 nxw2 ndw2 new2 => ?_
      have uw2 : Same Xw2 (upd (upd Xw2 dxw2 (.own w2)) w2 (.ins C dxw2 [])) := same_new (same_new (Same.refl Xw2) ndw2) (by rw [upd_ne (Ne.symm new2)]; exact nxw2)
      refine ⟨w2, dxw2, cw2, ew2, 7, _, _, rfl, upd_same, uw2 _ _ mw2, uw2 _ _ nw2, good7a, fun H9 rownw2 kpw2 => ⟨rfl, ?_⟩⟩
      have roww2 := rownw2.at
      have sw2 : Same H8 H9 := tw2.trans (same_ins (Same.refl Xw2) nxw2 ndw2 kpw2)
      obtain ⟨dw2, _, _, how2⟩ := rowAt_len roww2
      clear rownw2 kpw2 uw2 nxw2 ndw2 new2 mw2 nw2 hcw2 hew2 tw2
      have hoL := sw2 _ _ holo
      have tyL : TyX K H9 (.ref lo) (.ref C2) := .base (.ins hoL R2.cl N2.ha N2.hn N2.ht N2.hm)
      refine ⟨_, rfl, w2, dw2, _, .ref C2, rfl, how2, tyL, O.n2, w2, .ref lo, 7, _, _, rfl, roww2, .inr ⟨_, tyL, O.e2, _, rfl, _, rfl, ?_⟩⟩
      refine ifF rfl ?_
      refine ⟨_, rfl, ?_⟩
      refine ⟨(by show 2 ≤ sizeLine; decide), fun cw3 hcw3 => ⟨(by show 1 ≤ sizeLine; decide), fun ew3 hew3 => ?_⟩⟩
      have mw3 : IL (upd (upd H9 cw3 (.lst [.int 1, .int 3])) ew3 (.lst [.int 3])) cw3 [1, 3] := by
        show upd _ _ _ cw3 = _
        rw [upd_ne (ne_of_none upd_same hew3)]
        exact upd_same
      have nw3 : IL (upd (upd H9 cw3 (.lst [.int 1, .int 3])) ew3 (.lst [.int 3])) ew3 [3] := upd_same
      have tw3 : Same H9 (upd (upd H9 cw3 (.lst [.int 1, .int 3])) ew3 (.lst [.int 3])) := same_new (same_new (Same.refl H9) hcw3) hew3
      dsimp -proj only
      generalize upd (upd H9 cw3 (.lst [.int 1, .int 3])) ew3 (.lst [.int 3]) = Xw3 at mw3 nw3 tw3 ⊢
      refine fun w3 dxw3 nxw3 ndw3 new3 => ?_
      have uw3 : Same Xw3 (upd (upd Xw3 dxw3 (.own w3)) w3 (.ins C dxw3 [])) := same_new (same_new (Same.refl Xw3) ndw3) (by rw [upd_ne (Ne.symm new3)]; exact nxw3)
      refine ⟨w3, dxw3, cw3, ew3, 7, _, _, rfl, upd_same, uw3 _ _ mw3, uw3 _ _ nw3, good7a, fun HA rownw3 kpw3 => ⟨rfl, ?_⟩⟩
      have roww3 := rownw3.at
      have sw3 : Same H9 HA := tw3.trans (same_ins (Same.refl Xw3) nxw3 ndw3 kpw3)
      obtain ⟨dw3, _, _, how3⟩ := rowAt_len roww3
      clear rownw3 kpw3 uw3 nxw3 ndw3 new3 mw3 nw3 hcw3 hew3 tw3
      refine ⟨lo, dlo, _, .ref C, rfl, sw3 _ _ hoL, tyX_row how3 R N, O.m2, lo, .ref w3, rfl, ⟨dlo, flo, sw3 _ _ hoL⟩, _, tyX_row how3 R N, O.f2, _, rfl, _, rfl, ?_⟩
      refine ifF rfl ?_
      try dsimp only [L2.start, List.set, List.map, List.append, List.replicate, List.length]
      refine ⟨(by show 1 ≤ sizeLine; decide), fun cw4 hcw4 => ⟨Nat.zero_le _, fun ew4 hew4 => ?_⟩⟩
      have mw4 : IL (upd (upd HA cw4 (.lst [.int 1])) ew4 (.lst [])) cw4 [1] := by
        show upd _ _ _ cw4 = _
        rw [upd_ne (ne_of_none upd_same hew4)]
        exact upd_same
      have nw4 : IL (upd (upd HA cw4 (.lst [.int 1])) ew4 (.lst [])) ew4 [] := upd_same
      have tw4 : Same HA (upd (upd HA cw4 (.lst [.int 1])) ew4 (.lst [])) := same_new (same_new (Same.refl HA) hcw4) hew4
      dsimp -proj only
      generalize upd (upd HA cw4 (.lst [.int 1])) ew4 (.lst []) = Xw4 at mw4 nw4 tw4 ⊢
      refine fun w4 dxw4 nxw4 ndw4 new4 => ?_
      have uw4 : Same Xw4 (upd (upd Xw4 dxw4 (.own w4)) w4 (.ins C dxw4 [])) := same_new (same_new (Same.refl Xw4) ndw4) (by rw [upd_ne (Ne.symm new4)]; exact nxw4)
      refine ⟨w4, dxw4, cw4, ew4, 2, _, _, rfl, upd_same, uw4 _ _ mw4, uw4 _ _ nw4, good2a, fun HB rownw4 kpw4 => ⟨rfl, ?_⟩⟩
      have roww4 := rownw4.at
      have sw4 : Same HA HB := tw4.trans (same_ins (Same.refl Xw4) nxw4 ndw4 kpw4)
      obtain ⟨dw4, _, _, how4⟩ := rowAt_len roww4
      clear rownw4 kpw4 uw4 nxw4 ndw4 new4 mw4 nw4 hcw4 hew4 tw4
      refine ⟨(by show 1 ≤ sizeLine; decide), fun cw5 hcw5 => ⟨(by show 1 ≤ sizeLine; decide), fun ew5 hew5 => ?_⟩⟩
      have mw5 : IL (upd (upd HB cw5 (.lst [.int 1])) ew5 (.lst [.int 1])) cw5 [1] := by
        show upd _ _ _ cw5 = _
        rw [upd_ne (ne_of_none upd_same hew5)]
        exact upd_same
      have nw5 : IL (upd (upd HB cw5 (.lst [.int 1])) ew5 (.lst [.int 1])) ew5 [1] := upd_same
      have tw5 : Same HB (upd (upd HB cw5 (.lst [.int 1])) ew5 (.lst [.int 1])) := same_new (same_new (Same.refl HB) hcw5) hew5
      dsimp -proj only
      generalize upd (upd HB cw5 (.lst [.int 1])) ew5 (.lst [.int 1]) = Xw5 at mw5 nw5 tw5 ⊢
      refine fun w5 dxw5 nxw5 ndw5 new5 => ?_
      have uw5 : Same Xw5 (upd (upd Xw5 dxw5 (.own w5)) w5 (.ins C dxw5 [])) := same_new (same_new (Same.refl Xw5) ndw5) (by rw [upd_ne (Ne.symm new5)]; exact nxw5)
      refine ⟨w5, dxw5, cw5, ew5, 2, _, _, rfl, upd_same, uw5 _ _ mw5, uw5 _ _ nw5, good2b, fun HC rownw5 kpw5 => ⟨rfl, ?_⟩⟩
      have roww5 := rownw5.at
      have sw5 : Same HB HC := tw5.trans (same_ins (Same.refl Xw5) nxw5 ndw5 kpw5)
      obtain ⟨dw5, _, _, how5⟩ := rowAt_len roww5
      clear rownw5 kpw5 uw5 nxw5 ndw5 new5 mw5 nw5 hcw5 hew5 tw5
      refine ⟨w4, w5, dw4, dw5, _, _, rfl, rfl, sw5 _ _ how4, how5, w4, .ref w5, 2, _, _, rfl, roww4.same sw5, .inl ⟨w5, 2, _, _, rfl, roww5, _, rfl, ?_⟩⟩
      rw [show decide ((2 : Int) = 2 ∧ ([1] : List Int) = [1] ∧ ([] : List Int) = [1]) = false by decide]
      refine ⟨_, rfl, ?_⟩
      refine iteT ?_
      refine ⟨(by show 1 ≤ sizeLine; decide), fun cw6 hcw6 => ⟨(by show 1 ≤ sizeLine; decide), fun ew6 hew6 => ?_⟩⟩
      have mw6 : IL (upd (upd HC cw6 (.lst [.int 2])) ew6 (.lst [.int 2])) cw6 [2] := by
        show upd _ _ _ cw6 = _
        rw [upd_ne (ne_of_none upd_same hew6)]
        exact upd_same
      have nw6 : IL (upd (upd HC cw6 (.lst [.int 2])) ew6 (.lst [.int 2])) ew6 [2] := upd_same
      have tw6 : Same HC (upd (upd HC cw6 (.lst [.int 2])) ew6 (.lst [.int 2])) := same_new (same_new (Same.refl HC) hcw6) hew6
      dsimp -proj only
      generalize upd (upd HC cw6 (.lst [.int 2])) ew6 (.lst [.int 2]) = Xw6 at mw6 nw6 tw6 ⊢
      refine fun w6 dxw6 nxw6 ndw6 new6 => ?_
      have uw6 : Same Xw6 (upd (upd Xw6 dxw6 (.own w6)) w6 (.ins C dxw6 [])) := same_new (same_new (Same.refl Xw6) ndw6) (by rw [upd_ne (Ne.symm new6)]; exact nxw6)
      refine ⟨w6, dxw6, cw6, ew6, 5, _, _, rfl, upd_same, uw6 _ _ mw6, uw6 _ _ nw6, good5a, fun HD rownw6 kpw6 => ⟨rfl, ?_⟩⟩
      have roww6 := rownw6.at
      have sw6 : Same HC HD := tw6.trans (same_ins (Same.refl Xw6) nxw6 ndw6 kpw6)
      obtain ⟨dw6, _, _, how6⟩ := rowAt_len roww6
      clear rownw6 kpw6 uw6 nxw6 ndw6 new6 mw6 nw6 hcw6 hew6 tw6
      refine ⟨(by show 1 ≤ sizeLine; decide), fun cw7 hcw7 => ⟨(by show 1 ≤ sizeLine; decide), fun ew7 hew7 => ?_⟩⟩
      have mw7 : IL (upd (upd HD cw7 (.lst [.int 2])) ew7 (.lst [.int 2])) cw7 [2] := by
        show upd _ _ _ cw7 = _
        rw [upd_ne (ne_of_none upd_same hew7)]
        exact upd_same
      have nw7 : IL (upd (upd HD cw7 (.lst [.int 2])) ew7 (.lst [.int 2])) ew7 [2] := upd_same
      have tw7 : Same HD (upd (upd HD cw7 (.lst [.int 2])) ew7 (.lst [.int 2])) := same_new (same_new (Same.refl HD) hcw7) hew7
      dsimp -proj only
      generalize upd (upd HD cw7 (.lst [.int 2])) ew7 (.lst [.int 2]) = Xw7 at mw7 nw7 tw7 ⊢
      refine fun w7 dxw7 nxw7 ndw7 new7 => ?_
      have uw7 : Same Xw7 (upd (upd Xw7 dxw7 (.own w7)) w7 (.ins C dxw7 [])) := same_new (same_new (Same.refl Xw7) ndw7) (by rw [upd_ne (Ne.symm new7)]; exact nxw7)
      refine ⟨w7, dxw7, cw7, ew7, 5, _, _, rfl, upd_same, uw7 _ _ mw7, uw7 _ _ nw7, good5a, fun HE rownw7 kpw7 => ⟨rfl, ?_⟩⟩
      have roww7 := rownw7.at
      have sw7 : Same HD HE := tw7.trans (same_ins (Same.refl Xw7) nxw7 ndw7 kpw7)
      obtain ⟨dw7, _, _, how7⟩ := rowAt_len roww7
      clear rownw7 kpw7 uw7 nxw7 ndw7 new7 mw7 nw7 hcw7 hew7 tw7
      refine ⟨w6, dw6, _, .ref C, rfl, sw7 _ _ how6, tyX_row how7 R N, first_self, w6, .ref w7, 5, _, _, rfl, roww6.same sw7, .inl ⟨w7, 5, _, _, rfl, roww7, _, rfl, ?_⟩⟩
      rw [show decide ((5 : Int) = 5 ∧ ([2] : List Int) = [2] ∧ ([2] : List Int) = [2]) = true by decide]
      exact q _
end
end Cw
namespace Cw
open PySem L2
/-! ## what the top has written -/
theorem all_mk {l : PySem.W.OpenLaw} {w : World} {K : PySem.W.Frag} {h : Heap} {mg : Str → Option Value} {fa : Addr} (X : K.In h) (G : h.Ns mainGlobals mg) (hfa : mg "law" = some (.ref fa))
    {C C2 fx0 fx1 fx2 fx3 fx4 fx5 fx6 fx7 fx8 fx9 fx10 fx11 fx12 fx13 fx14 fx15 fx16 fx17 fx18 pL fx19 pM fx20 pS fx21 fLW : Addr} {t_MOST_MARKS t_MOST_PERIOD : Tok} {restpL restpM restpS : List Value}
    {ocx0 kVx0 dcx0 pmx0 cdx0 ctx0 : Value} {odx0 anx0 : Option Addr} {slx0 : Array (Option Value)}
    {ocx1 kVx1 dcx1 pmx1 cdx1 ctx1 : Value} {odx1 anx1 : Option Addr} {slx1 : Array (Option Value)}
    {ocx2 kVx2 dcx2 pmx2 cdx2 ctx2 : Value} {odx2 anx2 : Option Addr} {slx2 : Array (Option Value)}
    {ocx3 kVx3 dcx3 pmx3 cdx3 ctx3 : Value} {odx3 anx3 : Option Addr} {slx3 : Array (Option Value)}
    {ocx4 kVx4 dcx4 pmx4 cdx4 ctx4 : Value} {odx4 anx4 : Option Addr} {slx4 : Array (Option Value)}
    {ocx5 kVx5 dcx5 pmx5 cdx5 ctx5 : Value} {odx5 anx5 : Option Addr} {slx5 : Array (Option Value)}
    {ocx6 kVx6 dcx6 pmx6 cdx6 ctx6 : Value} {odx6 anx6 : Option Addr} {slx6 : Array (Option Value)}
    {ocx7 kVx7 dcx7 pmx7 cdx7 ctx7 : Value} {odx7 anx7 : Option Addr} {slx7 : Array (Option Value)}
    {ocx8 kVx8 dcx8 pmx8 cdx8 ctx8 : Value} {odx8 anx8 : Option Addr} {slx8 : Array (Option Value)}
    {ocx9 kVx9 dcx9 pmx9 cdx9 ctx9 : Value} {odx9 anx9 : Option Addr} {slx9 : Array (Option Value)}
    {ocx10 kVx10 dcx10 pmx10 cdx10 ctx10 : Value} {odx10 anx10 : Option Addr} {slx10 : Array (Option Value)}
    {ocx11 kVx11 dcx11 pmx11 cdx11 ctx11 : Value} {odx11 anx11 : Option Addr} {slx11 : Array (Option Value)}
    {ocx12 kVx12 dcx12 pmx12 cdx12 ctx12 : Value} {odx12 anx12 : Option Addr} {slx12 : Array (Option Value)}
    {ocx13 kVx13 dcx13 pmx13 cdx13 ctx13 : Value} {odx13 anx13 : Option Addr} {slx13 : Array (Option Value)}
    {ocx14 kVx14 dcx14 pmx14 cdx14 ctx14 : Value} {odx14 anx14 : Option Addr} {slx14 : Array (Option Value)}
    {ocx15 kVx15 dcx15 pmx15 cdx15 ctx15 : Value} {odx15 anx15 : Option Addr} {slx15 : Array (Option Value)}
    {ocx16 kVx16 dcx16 pmx16 cdx16 ctx16 : Value} {odx16 anx16 : Option Addr} {slx16 : Array (Option Value)}
    {ocx17 kVx17 dcx17 pmx17 cdx17 ctx17 : Value} {odx17 anx17 : Option Addr} {slx17 : Array (Option Value)}
    {ocx18 kVx18 dcx18 pmx18 cdx18 ctx18 : Value} {odx18 anx18 : Option Addr} {slx18 : Array (Option Value)}
    {ocx19 kVx19 dcx19 pmx19 cdx19 ctx19 : Value} {odx19 anx19 : Option Addr} {slx19 : Array (Option Value)}
    {ocx20 kVx20 dcx20 pmx20 cdx20 ctx20 : Value} {odx20 anx20 : Option Addr} {slx20 : Array (Option Value)}
    {ocx21 kVx21 dcx21 pmx21 cdx21 ctx21 : Value} {odx21 anx21 : Option Addr} {slx21 : Array (Option Value)}
    {ocLW kVLW dcLW pmLW cdLW ctLW : Value} {odLW anLW : Option Addr} {slLW : Array (Option Value)}
    (aC : PySem.W.nsIn K mainGlobals "Row" = some (some (.ref C)))
    (aC2 : PySem.W.nsIn K mainGlobals "Loop" = some (some (.ref C2)))
    (a_MOST_MARKS : PySem.W.nsIn K mainGlobals "MOST_MARKS" = some (some (.int 400 t_MOST_MARKS)))
    (a_MOST_PERIOD : PySem.W.nsIn K mainGlobals "MOST_PERIOD" = some (some (.int 2000 t_MOST_PERIOD)))
    (n_int : PySem.W.nsIn K mainGlobals "int" = some none)
    (n_bool : PySem.W.nsIn K mainGlobals "bool" = some none)
    (n_list : PySem.W.nsIn K mainGlobals "list" = some none)
    (n_tuple : PySem.W.nsIn K mainGlobals "tuple" = some none)
    (n_range : PySem.W.nsIn K mainGlobals "range" = some none)
    (n_len : PySem.W.nsIn K mainGlobals "len" = some none)
    (n_abs : PySem.W.nsIn K mainGlobals "abs" = some none)
    (n_all : PySem.W.nsIn K mainGlobals "all" = some none)
    (n_isinstance : PySem.W.nsIn K mainGlobals "isinstance" = some none)
    (n_zip : PySem.W.nsIn K mainGlobals "zip" = some none)
    (n_max : PySem.W.nsIn K mainGlobals "max" = some none)
    (n_min : PySem.W.nsIn K mainGlobals "min" = some none)
    (n_set : PySem.W.nsIn K mainGlobals "set" = some none)
    (n_sorted : PySem.W.nsIn K mainGlobals "sorted" = some none)
    (n_dict : PySem.W.nsIn K mainGlobals "dict" = some none)
    (n_repr : PySem.W.nsIn K mainGlobals "repr" = some none)
    (ax0 : PySem.W.nsIn K mainGlobals "is_integer" = some (some (.ref fx0)))
    (lx0 : K.lookup fx0 = some ⟨ocx0, odx0, .func (PySem.W.fnOf "is_integer" "is_integer" (defArgs sIsInt) (defBody sIsInt) (defScope sIsInt) .none kVx0 dcx0 pmx0 anx0 cdx0 ctx0), slx0⟩)
    (cox0 : PySem.W.codeIn K cdx0 "is_integer" = true)
    (kx0 : PySem.W.keepIn K (.ref fx0) = true)
    (ax1 : PySem.W.nsIn K mainGlobals "are_places" = some (some (.ref fx1)))
    (lx1 : K.lookup fx1 = some ⟨ocx1, odx1, .func (PySem.W.fnOf "are_places" "are_places" (defArgs sPlaces) (defBody sPlaces) (defScope sPlaces) .none kVx1 dcx1 pmx1 anx1 cdx1 ctx1), slx1⟩)
    (cox1 : PySem.W.codeIn K cdx1 "are_places" = true)
    (kx1 : PySem.W.keepIn K (.ref fx1) = true)
    (ax2 : PySem.W.nsIn K mainGlobals "are_ascending" = some (some (.ref fx2)))
    (lx2 : K.lookup fx2 = some ⟨ocx2, odx2, .func (PySem.W.fnOf "are_ascending" "are_ascending" (defArgs sAsc) (defBody sAsc) (defScope sAsc) .none kVx2 dcx2 pmx2 anx2 cdx2 ctx2), slx2⟩)
    (cox2 : PySem.W.codeIn K cdx2 "are_ascending" = true)
    (kx2 : PySem.W.keepIn K (.ref fx2) = true)
    (ax3 : PySem.W.nsIn K mainGlobals "are_some_of" = some (some (.ref fx3)))
    (lx3 : K.lookup fx3 = some ⟨ocx3, odx3, .func (PySem.W.fnOf "are_some_of" "are_some_of" (defArgs sSome) (defBody sSome) (defScope sSome) .none kVx3 dcx3 pmx3 anx3 cdx3 ctx3), slx3⟩)
    (cox3 : PySem.W.codeIn K cdx3 "are_some_of" = true)
    (kx3 : PySem.W.keepIn K (.ref fx3) = true)
    (ax4 : PySem.W.findIn K (.ref C2) "__init__" = some (some (.ref fx4)))
    (ix4 : PySem.W.isFn K (.ref fx4) = true)
    (lx4 : K.lookup fx4 = some ⟨ocx4, odx4, .func (PySem.W.fnOf "__init__" "Loop.__init__" (defArgs sInitL) (defBody sInitL) (defScope sInitL) .none kVx4 dcx4 pmx4 anx4 cdx4 ctx4), slx4⟩)
    (cox4 : PySem.W.codeIn K cdx4 "Loop.__init__" = true)
    (kx4 : PySem.W.keepIn K (.ref fx4) = true)
    (ax5 : PySem.W.findIn K (.ref C2) "__eq__" = some (some (.ref fx5)))
    (ix5 : PySem.W.isFn K (.ref fx5) = true)
    (lx5 : K.lookup fx5 = some ⟨ocx5, odx5, .func (PySem.W.fnOf "__eq__" "Loop.__eq__" (defArgs sEqL) (defBody sEqL) (defScope sEqL) .none kVx5 dcx5 pmx5 anx5 cdx5 ctx5), slx5⟩)
    (cox5 : PySem.W.codeIn K cdx5 "Loop.__eq__" = true)
    (kx5 : PySem.W.keepIn K (.ref fx5) = true)
    (ax6 : PySem.W.nsIn K mainGlobals "_law_jar" = some (some (.ref fx6)))
    (lx6 : K.lookup fx6 = some ⟨ocx6, odx6, .func (PySem.W.fnOf "_law_jar" "_law_jar" (defArgs sJar) (defBody sJar) (defScope sJar) .none kVx6 dcx6 pmx6 anx6 cdx6 ctx6), slx6⟩)
    (cox6 : PySem.W.codeIn K cdx6 "_law_jar" = true)
    (kx6 : PySem.W.keepIn K (.ref fx6) = true)
    (ax7 : PySem.W.nsIn K mainGlobals "_law_dip" = some (some (.ref fx7)))
    (lx7 : K.lookup fx7 = some ⟨ocx7, odx7, .func (PySem.W.fnOf "_law_dip" "_law_dip" (defArgs sDip) (defBody sDip) (defScope sDip) .none kVx7 dcx7 pmx7 anx7 cdx7 ctx7), slx7⟩)
    (cox7 : PySem.W.codeIn K cdx7 "_law_dip" = true)
    (kx7 : PySem.W.keepIn K (.ref fx7) = true)
    (ax8 : PySem.W.nsIn K mainGlobals "_law_three" = some (some (.ref fx8)))
    (lx8 : K.lookup fx8 = some ⟨ocx8, odx8, .func (PySem.W.fnOf "_law_three" "_law_three" (defArgs sThree) (defBody sThree) (defScope sThree) .none kVx8 dcx8 pmx8 anx8 cdx8 ctx8), slx8⟩)
    (cox8 : PySem.W.codeIn K cdx8 "_law_three" = true)
    (kx8 : PySem.W.keepIn K (.ref fx8) = true)
    (ax9 : PySem.W.nsIn K mainGlobals "_law_small" = some (some (.ref fx9)))
    (lx9 : K.lookup fx9 = some ⟨ocx9, odx9, .func (PySem.W.fnOf "_law_small" "_law_small" (defArgs sSmall) (defBody sSmall) (defScope sSmall) .none kVx9 dcx9 pmx9 anx9 cdx9 ctx9), slx9⟩)
    (cox9 : PySem.W.codeIn K cdx9 "_law_small" = true)
    (kx9 : PySem.W.keepIn K (.ref fx9) = true)
    (ax10 : PySem.W.nsIn K mainGlobals "_law_great" = some (some (.ref fx10)))
    (lx10 : K.lookup fx10 = some ⟨ocx10, odx10, .func (PySem.W.fnOf "_law_great" "_law_great" (defArgs sGreat) (defBody sGreat) (defScope sGreat) .none kVx10 dcx10 pmx10 anx10 cdx10 ctx10), slx10⟩)
    (cox10 : PySem.W.codeIn K cdx10 "_law_great" = true)
    (kx10 : PySem.W.keepIn K (.ref fx10) = true)
    (ax11 : PySem.W.nsIn K mainGlobals "are_marks" = some (some (.ref fx11)))
    (lx11 : K.lookup fx11 = some ⟨ocx11, odx11, .func (PySem.W.fnOf "are_marks" "are_marks" (defArgs sMarks) (defBody sMarks) (defScope sMarks) .none kVx11 dcx11 pmx11 anx11 cdx11 ctx11), slx11⟩)
    (cox11 : PySem.W.codeIn K cdx11 "are_marks" = true)
    (kx11 : PySem.W.keepIn K (.ref fx11) = true)
    (ax12 : PySem.W.findIn K (.ref C) "__init__" = some (some (.ref fx12)))
    (ix12 : PySem.W.isFn K (.ref fx12) = true)
    (lx12 : K.lookup fx12 = some ⟨ocx12, odx12, .func (PySem.W.fnOf "__init__" "Row.__init__" (defArgs sInit) (defBody sInit) (defScope sInit) .none kVx12 dcx12 pmx12 anx12 cdx12 ctx12), slx12⟩)
    (cox12 : PySem.W.codeIn K cdx12 "Row.__init__" = true)
    (kx12 : PySem.W.keepIn K (.ref fx12) = true)
    (ax13 : PySem.W.nsIn K mainGlobals "_law_heap" = some (some (.ref fx13)))
    (lx13 : K.lookup fx13 = some ⟨ocx13, odx13, .func (PySem.W.fnOf "_law_heap" "_law_heap" (defArgs sHeap) (defBody sHeap) (defScope sHeap) .none kVx13 dcx13 pmx13 anx13 cdx13 ctx13), slx13⟩)
    (cox13 : PySem.W.codeIn K cdx13 "_law_heap" = true)
    (kx13 : PySem.W.keepIn K (.ref fx13) = true)
    (ax14 : PySem.W.nsIn K mainGlobals "_law_otherwise" = some (some (.ref fx14)))
    (lx14 : K.lookup fx14 = some ⟨ocx14, odx14, .func (PySem.W.fnOf "_law_otherwise" "_law_otherwise" (defArgs sOt) (defBody sOt) (defScope sOt) .none kVx14 dcx14 pmx14 anx14 cdx14 ctx14), slx14⟩)
    (cox14 : PySem.W.codeIn K cdx14 "_law_otherwise" = true)
    (kx14 : PySem.W.keepIn K (.ref fx14) = true)
    (ax15 : PySem.W.findIn K (.ref C) "__contains__" = some (some (.ref fx15)))
    (ix15 : PySem.W.isFn K (.ref fx15) = true)
    (lx15 : K.lookup fx15 = some ⟨ocx15, odx15, .func (PySem.W.fnOf "__contains__" "Row.__contains__" (defArgs sCont) (defBody sCont) (defScope sCont) .none kVx15 dcx15 pmx15 anx15 cdx15 ctx15), slx15⟩)
    (cox15 : PySem.W.codeIn K cdx15 "Row.__contains__" = true)
    (kx15 : PySem.W.keepIn K (.ref fx15) = true)
    (ax16 : PySem.W.findIn K (.ref C) "__len__" = some (some (.ref fx16)))
    (ix16 : PySem.W.isFn K (.ref fx16) = true)
    (lx16 : K.lookup fx16 = some ⟨ocx16, odx16, .func (PySem.W.fnOf "__len__" "Row.__len__" (defArgs sLenR) (defBody sLenR) (defScope sLenR) .none kVx16 dcx16 pmx16 anx16 cdx16 ctx16), slx16⟩)
    (cox16 : PySem.W.codeIn K cdx16 "Row.__len__" = true)
    (kx16 : PySem.W.keepIn K (.ref fx16) = true)
    (ax17 : PySem.W.findIn K (.ref C) "__eq__" = some (some (.ref fx17)))
    (ix17 : PySem.W.isFn K (.ref fx17) = true)
    (lx17 : K.lookup fx17 = some ⟨ocx17, odx17, .func (PySem.W.fnOf "__eq__" "Row.__eq__" (defArgs sEq) (defBody sEq) (defScope sEq) .none kVx17 dcx17 pmx17 anx17 cdx17 ctx17), slx17⟩)
    (cox17 : PySem.W.codeIn K cdx17 "Row.__eq__" = true)
    (kx17 : PySem.W.keepIn K (.ref fx17) = true)
    (apL : PySem.W.findIn K (.ref C) "length" = some (some (.ref pL)))
    (gpL : PySem.W.specialIn K (.ref pL) "__get__" = some (some (.builtin "property.__get__")))
    (tpL : PySem.W.takesIn K (.ref pL) = some true)
    (rpL : PySem.W.recIn K pL "property" = some (.ref fx18 :: restpL))
    (lx18 : K.lookup fx18 = some ⟨ocx18, odx18, .func (PySem.W.fnOf "length" "Row.length" (defArgs sGetL) (defBody sGetL) (defScope sGetL) .none kVx18 dcx18 pmx18 anx18 cdx18 ctx18), slx18⟩)
    (cox18 : PySem.W.codeIn K cdx18 "Row.length" = true)
    (kx18 : PySem.W.keepIn K (.ref fx18) = true)
    (apM : PySem.W.findIn K (.ref C) "marks" = some (some (.ref pM)))
    (gpM : PySem.W.specialIn K (.ref pM) "__get__" = some (some (.builtin "property.__get__")))
    (tpM : PySem.W.takesIn K (.ref pM) = some true)
    (rpM : PySem.W.recIn K pM "property" = some (.ref fx19 :: restpM))
    (lx19 : K.lookup fx19 = some ⟨ocx19, odx19, .func (PySem.W.fnOf "marks" "Row.marks" (defArgs sGetM) (defBody sGetM) (defScope sGetM) .none kVx19 dcx19 pmx19 anx19 cdx19 ctx19), slx19⟩)
    (cox19 : PySem.W.codeIn K cdx19 "Row.marks" = true)
    (kx19 : PySem.W.keepIn K (.ref fx19) = true)
    (apS : PySem.W.findIn K (.ref C) "strict" = some (some (.ref pS)))
    (gpS : PySem.W.specialIn K (.ref pS) "__get__" = some (some (.builtin "property.__get__")))
    (tpS : PySem.W.takesIn K (.ref pS) = some true)
    (rpS : PySem.W.recIn K pS "property" = some (.ref fx20 :: restpS))
    (lx20 : K.lookup fx20 = some ⟨ocx20, odx20, .func (PySem.W.fnOf "strict" "Row.strict" (defArgs sGetS) (defBody sGetS) (defScope sGetS) .none kVx20 dcx20 pmx20 anx20 cdx20 ctx20), slx20⟩)
    (cox20 : PySem.W.codeIn K cdx20 "Row.strict" = true)
    (kx20 : PySem.W.keepIn K (.ref fx20) = true)
    (ax21 : PySem.W.nsIn K mainGlobals "_law_right" = some (some (.ref fx21)))
    (lx21 : K.lookup fx21 = some ⟨ocx21, odx21, .func (PySem.W.fnOf "_law_right" "_law_right" (defArgs sRi) (defBody sRi) (defScope sRi) .none kVx21 dcx21 pmx21 anx21 cdx21 ctx21), slx21⟩)
    (cox21 : PySem.W.codeIn K cdx21 "_law_right" = true)
    (kx21 : PySem.W.keepIn K (.ref fx21) = true)
    (aLW : PySem.W.nsIn K mainGlobals "law" = some (some (.ref fLW)))
    (lLW : K.lookup fLW = some ⟨ocLW, odLW, .func (PySem.W.fnOf "law" "law" (defArgs sL) (defBody sL) (defScope sL) .none kVLW dcLW pmLW anLW cdLW ctLW), slLW⟩)
    (coLW : PySem.W.codeIn K cdLW "law" = true)
    (kLW : PySem.W.keepIn K (.ref fLW) = true)
    (pg : PySem.W.plainGet K C Str.empty = true)
    (hd : PySem.W.hasDictIn K C = true)
    (po : PySem.W.plainOver K C = true)
    (sa : PySem.W.findIn K (.ref C) "__setattr__" = some (some (.builtin "object.__setattr__")))
    (mk : PySem.W.makesIn K C = true)
    (kc : PySem.W.keepIn K (.ref C) = true)
    (nL : PySem.W.findIn K (.ref C) "_length" = some none)
    (nM : PySem.W.findIn K (.ref C) "_marks" = some none)
    (nS : PySem.W.findIn K (.ref C) "_strict" = some none)
    (pg2 : PySem.W.plainGet K C2 Str.empty = true)
    (hd2 : PySem.W.hasDictIn K C2 = true)
    (po2 : PySem.W.plainOver K C2 = true)
    (sa2 : PySem.W.findIn K (.ref C2) "__setattr__" = some (some (.builtin "object.__setattr__")))
    (mk2 : PySem.W.makesIn K C2 = true)
    (kc2 : PySem.W.keepIn K (.ref C2) = true)
    (nP2 : PySem.W.findIn K (.ref C2) "_period" = some none)
    (nM2 : PySem.W.findIn K (.ref C2) "_marks" = some none)
    (nS2 : PySem.W.findIn K (.ref C2) "_strict" = some none)
    (kt : PySem.W.kitOne K (.ref C) (.ref C) = some true)
    (ca : PySem.W.findIn K (.ref C) "__class__" = some (some (.builtin "object.__class__")))
    (cn : PySem.W.specialIn K (.builtin "object.__class__") "__get__" = some (some (.builtin "getset_descriptor.__get__")))
    (ct : PySem.W.takesIn K (.builtin "object.__class__") = some true)
    (cm : PySem.W.mroIn K C (.type "object") = some true)
    (en : PySem.W.findIn K (.ref C) "__ne__" = some (some (.builtin "object.__ne__")))
    (ca2 : PySem.W.findIn K (.ref C2) "__class__" = some (some (.builtin "object.__class__")))
    (cm2 : PySem.W.mroIn K C2 (.type "object") = some true)
    (od_ci : PySem.W.kitOne K (.ref C) (.type "int") = some false)
    (od_cb : PySem.W.kitOne K (.ref C) (.type "bool") = some false)
    (od_eN : PySem.W.kitOne K (.type "NoneType") (.ref C) = some false)
    (od_eB : PySem.W.kitOne K (.type "bool") (.ref C) = some false)
    (od_eS : PySem.W.kitOne K (.type "str") (.ref C) = some false)
    (od_eT : PySem.W.kitOne K (.type "tuple") (.ref C) = some false)
    (od_eL : PySem.W.kitOne K (.type "list") (.ref C) = some false)
    (od_eD : PySem.W.kitOne K (.type "dict") (.ref C) = some false)
    (od_nN : PySem.W.notFirst K C (.type "NoneType") = true)
    (od_nB : PySem.W.notFirst K C (.type "bool") = true)
    (od_nS : PySem.W.notFirst K C (.type "str") = true)
    (od_nT : PySem.W.notFirst K C (.type "tuple") = true)
    (od_nL : PySem.W.notFirst K C (.type "list") = true)
    (od_nD : PySem.W.notFirst K C (.type "dict") = true)
    (od_e2 : PySem.W.kitOne K (.ref C2) (.ref C) = some false)
    (od_n2 : PySem.W.notFirst K C (.ref C2) = true)
    (od_f2 : PySem.W.kitOne K (.ref C) (.ref C2) = some false)
    (od_m2 : PySem.W.notFirst K C2 (.ref C) = true)
    : ∃ fd : FuncData, (∀ (s : Shared) (v : Value), BindsTo s fd ⟨[v], []⟩ [("script", v)]) ∧ ∀ base : Heap, K.In base → base.Ns mainGlobals mg → FnG l.prog w K mg base 11 fa fd ["script"] (spLaw K) := by
  have e := hfa.symm.trans (PySem.W.mg_of X G aLW)
  cases e
  have T : Bl mg := ⟨PySem.W.mg_none_of X G n_int, PySem.W.mg_none_of X G n_bool, PySem.W.mg_none_of X G n_list, PySem.W.mg_none_of X G n_tuple, PySem.W.mg_none_of X G n_range, PySem.W.mg_none_of X G n_len, PySem.W.mg_none_of X G n_abs, PySem.W.mg_none_of X G n_all, PySem.W.mg_none_of X G n_isinstance, PySem.W.mg_none_of X G n_zip, PySem.W.mg_none_of X G n_max, PySem.W.mg_none_of X G n_min, PySem.W.mg_none_of X G n_set, PySem.W.mg_none_of X G n_sorted, PySem.W.mg_none_of X G n_dict⟩
  have R : Cl K mg C := ⟨⟨pg, hd, po, sa⟩, nL, nM, nS, PySem.W.mg_of X G aC, kt⟩
  have N : Ci K C := ⟨ca, cn, ct, cm⟩
  have R2 : Cl2 K mg C2 := ⟨⟨pg2, hd2, po2, sa2⟩, nP2, nM2, nS2, PySem.W.mg_of X G aC2⟩
  have N2 : Ci K C2 := ⟨ca2, cn, ct, cm2⟩
  have M2 : Mk K C2 fx4 := ⟨mk2, ax4, ix4, kc2⟩
  have O : Odd K C C2 := ⟨od_ci, od_cb, od_eN, od_eB, od_eS, od_eT, od_eL, od_eD, od_nN, od_nB, od_nS, od_nT, od_nL, od_nD, od_e2, od_n2, od_f2, od_m2, en⟩
  have M : Mk K C fx12 := ⟨mk, ax12, ix12, kc⟩
  have Fx0 := fun_mk (st := sIsInt) lx0 cox0 kx0
  have bx0 := Fx0.binds (ps := ["thing"]) fun _ _ _ _ _ _ us hl => match us, hl with | [_], _ => rfl
  have gx0 := PySem.W.mg_of X G ax0
  have Fx1 := fun_mk (st := sPlaces) lx1 cox1 kx1
  have bx1 := Fx1.binds (ps := ["thing", "low", "high"]) fun _ _ _ _ _ _ us hl => match us, hl with | [_, _, _], _ => rfl
  have gx1 := PySem.W.mg_of X G ax1
  have Fx2 := fun_mk (st := sAsc) lx2 cox2 kx2
  have bx2 := Fx2.binds (ps := ["thing", "low", "high"]) fun _ _ _ _ _ _ us hl => match us, hl with | [_, _, _], _ => rfl
  have gx2 := PySem.W.mg_of X G ax2
  have Fx3 := fun_mk (st := sSome) lx3 cox3 kx3
  have bx3 := Fx3.binds (ps := ["thing", "marks"]) fun _ _ _ _ _ _ us hl => match us, hl with | [_, _], _ => rfl
  have gx3 := PySem.W.mg_of X G ax3
  have Fx4 := fun_mk (st := sInitL) lx4 cox4 kx4
  have bx4 := Fx4.binds (ps := ["self", "period", "marks", "strict"]) fun _ _ _ _ _ _ us hl => match us, hl with | [_, _, _, _], _ => rfl
  have Fx5 := fun_mk (st := sEqL) lx5 cox5 kx5
  have bx5 := Fx5.binds (ps := ["self", "other"]) fun _ _ _ _ _ _ us hl => match us, hl with | [_, _], _ => rfl
  have Fx6 := fun_mk (st := sJar) lx6 cox6 kx6
  have bx6 := Fx6.binds (ps := ["script", "k"]) fun _ _ _ _ _ _ us hl => match us, hl with | [_, _], _ => rfl
  have gx6 := PySem.W.mg_of X G ax6
  have Fx7 := fun_mk (st := sDip) lx7 cox7 kx7
  have bx7 := Fx7.binds (ps := ["jar", "many"]) fun _ _ _ _ _ _ us hl => match us, hl with | [_, _], _ => rfl
  have gx7 := PySem.W.mg_of X G ax7
  have Fx8 := fun_mk (st := sThree) lx8 cox8 kx8
  have bx8 := Fx8.binds (ps := ["jar", "wide"]) fun _ _ _ _ _ _ us hl => match us, hl with | [_, _], _ => rfl
  have gx8 := PySem.W.mg_of X G ax8
  have Fx9 := fun_mk (st := sSmall) lx9 cox9 kx9
  have bx9 := Fx9.binds (ps := ["jar", "most"]) fun _ _ _ _ _ _ us hl => match us, hl with | [_, _], _ => rfl
  have gx9 := PySem.W.mg_of X G ax9
  have Fx10 := fun_mk (st := sGreat) lx10 cox10 kx10
  have bx10 := Fx10.binds (ps := ["jar", "most"]) fun _ _ _ _ _ _ us hl => match us, hl with | [_, _], _ => rfl
  have gx10 := PySem.W.mg_of X G ax10
  have Fx11 := fun_mk (st := sMarks) lx11 cox11 kx11
  have bx11 := Fx11.binds (ps := ["thing", "high"]) fun _ _ _ _ _ _ us hl => match us, hl with | [_, _], _ => rfl
  have gx11 := PySem.W.mg_of X G ax11
  have Fx12 := fun_mk (st := sInit) lx12 cox12 kx12
  have bx12 := Fx12.binds (ps := ["self", "length", "marks", "strict"]) fun _ _ _ _ _ _ us hl => match us, hl with | [_, _, _, _], _ => rfl
  have Fx13 := fun_mk (st := sHeap) lx13 cox13 kx13
  have bx13 := Fx13.binds (ps := ["raw"]) fun _ _ _ _ _ _ us hl => match us, hl with | [_], _ => rfl
  have gx13 := PySem.W.mg_of X G ax13
  have Fx14 := fun_mk (st := sOt) lx14 cox14 kx14
  have bx14 := Fx14.binds (ps := ["raw"]) fun _ _ _ _ _ _ us hl => match us, hl with | [_], _ => rfl
  have gx14 := PySem.W.mg_of X G ax14
  have Fx15 := fun_mk (st := sCont) lx15 cox15 kx15
  have bx15 := Fx15.binds (ps := ["self", "place"]) fun _ _ _ _ _ _ us hl => match us, hl with | [_, _], _ => rfl
  have Fx16 := fun_mk (st := sLenR) lx16 cox16 kx16
  have bx16 := Fx16.binds (ps := ["self"]) fun _ _ _ _ _ _ us hl => match us, hl with | [_], _ => rfl
  have Fx17 := fun_mk (st := sEq) lx17 cox17 kx17
  have bx17 := Fx17.binds (ps := ["self", "other"]) fun _ _ _ _ _ _ us hl => match us, hl with | [_, _], _ => rfl
  have Fx18 := fun_mk (st := sGetL) lx18 cox18 kx18
  have bx18 := Fx18.binds (ps := ["self"]) fun _ _ _ _ _ _ us hl => match us, hl with | [_], _ => rfl
  have Fx19 := fun_mk (st := sGetM) lx19 cox19 kx19
  have bx19 := Fx19.binds (ps := ["self"]) fun _ _ _ _ _ _ us hl => match us, hl with | [_], _ => rfl
  have Fx20 := fun_mk (st := sGetS) lx20 cox20 kx20
  have bx20 := Fx20.binds (ps := ["self"]) fun _ _ _ _ _ _ us hl => match us, hl with | [_], _ => rfl
  have Fx21 := fun_mk (st := sRi) lx21 cox21 kx21
  have bx21 := Fx21.binds (ps := ["raw"]) fun _ _ _ _ _ _ us hl => match us, hl with | [_], _ => rfl
  have gx21 := PySem.W.mg_of X G ax21
  have FLW := fun_mk (st := sL) lLW coLW kLW
  have gLW := PySem.W.mg_of X G aLW
  refine ⟨PySem.W.fnOf "law" "law" (defArgs sL) (defBody sL) (defScope sL) .none kVLW dcLW pmLW anLW cdLW ctLW, fun s v => .of_eq rfl, fun base _ _ => ?_⟩
  have Gx0 := ok_int (P := l.prog) (w := w) (K := K) (mg := mg) (base := base) Fx0 T
  have Gx1 := ok_places (P := l.prog) (w := w) (K := K) (mg := mg) (base := base) Fx1 T gx0 kx0 bx0 Gx0
  have Gx2 := ok_asc (P := l.prog) (w := w) (K := K) (mg := mg) (base := base) Fx2 T gx1 kx1 bx1 Gx1
  have Gx3 := ok_some (P := l.prog) (w := w) (K := K) (mg := mg) (base := base) Fx3 T gx2 kx2 bx2 Gx2
  have Gx4 := ok_initl (P := l.prog) (w := w) (K := K) (mg := mg) (base := base) Fx4 T R2 (PySem.W.mg_of X G a_MOST_PERIOD) (PySem.W.mg_of X G a_MOST_MARKS) gx0 kx0 bx0 Gx0 gx2 kx2 bx2 Gx2 gx3 kx3 bx3 Gx3
  have Gx5 := ok_eql (P := l.prog) (w := w) (K := K) (mg := mg) (base := base) Fx5 T R2
  have Gx6 := ok_jar (P := l.prog) (w := w) (K := K) (mg := mg) (base := base) Fx6 T
  have Gx7 := ok_dip (P := l.prog) (w := w) (K := K) (mg := mg) (base := base) Fx7 T
  have Gx8 := ok_three (P := l.prog) (w := w) (K := K) (mg := mg) (base := base) Fx8 gx7 kx7 bx7 Gx7
  have Gx9 := ok_small (P := l.prog) (w := w) (K := K) (mg := mg) (base := base) Fx9 T gx7 kx7 bx7 Gx7 gx8 kx8 bx8 Gx8
  have Gx10 := ok_great (P := l.prog) (w := w) (K := K) (mg := mg) (base := base) Fx10 T gx7 kx7 bx7 Gx7 gx8 kx8 bx8 Gx8
  have Gx11 := ok_marks (P := l.prog) (w := w) (K := K) (mg := mg) (base := base) Fx11 T (PySem.W.mg_of X G a_MOST_MARKS) gx2 kx2 bx2 Gx2
  have Gx12 := ok_init (P := l.prog) (w := w) (K := K) (mg := mg) (base := base) Fx12 T R gx0 kx0 bx0 Gx0 gx11 kx11 bx11 Gx11 gx3 kx3 bx3 Gx3
  have Gx13 := ok_heap (P := l.prog) (w := w) (K := K) (mg := mg) (base := base) Fx13 R M bx12 Gx12
  have Gx14 := ok_ot (P := l.prog) (w := w) (K := K) (mg := mg) (base := base) Fx14 T gx13 kx13 bx13 Gx13
  have Gx15 := ok_cn (P := l.prog) (w := w) (K := K) (mg := mg) (base := base) Fx15 T R gx0 kx0 bx0 Fx0
  have Gx16 := ok_lenr (P := l.prog) (w := w) (K := K) (mg := mg) (base := base) Fx16 T R
  have Gx17 := ok_eqa (P := l.prog) (w := w) (K := K) (mg := mg) (base := base) Fx17 T R N
  have Gx18 := ok_getL (P := l.prog) (w := w) (K := K) (mg := mg) (base := base) Fx18 R
  have Gx19 := ok_getM (P := l.prog) (w := w) (K := K) (mg := mg) (base := base) Fx19 T R
  have Gx20 := ok_getS (P := l.prog) (w := w) (K := K) (mg := mg) (base := base) Fx20 T R
  have Gs : Gets l.prog w K mg base C pL fx18 pM fx19 pS fx20 _ _ _ := ⟨⟨apL, gpL, tpL, ⟨restpL, rpL⟩⟩, bx18, Gx18, ⟨apM, gpM, tpM, ⟨restpM, rpM⟩⟩, bx19, Gx19, ⟨apS, gpS, tpS, ⟨restpS, rpS⟩⟩, bx20, Gx20⟩
  have Gx21 := ok_ri (P := l.prog) (w := w) (K := K) (mg := mg) (base := base) Fx21 T (PySem.W.mg_none_of X G n_repr) R N O M bx12 Fx12 Gx12 Gs gx14 kx14 bx14 Gx14 ⟨ax15, ix15, kx15⟩ bx15 Gx15 ⟨ax16, ix16, kx16⟩ bx16 Gx16 ⟨ax17, ix17, kx17⟩ bx17 Gx17
  exact ok_law (P := l.prog) (w := w) (K := K) (mg := mg) (base := base) FLW T R N R2 N2 O M bx12 Gx12 M2 bx4 Gx4 ⟨ax5, ix5, kx5⟩ bx5 Gx5 gx6 kx6 bx6 Gx6 gx9 kx9 bx9 Gx9 gx10 kx10 bx10 Gx10 gx21 kx21 bx21 Gx21 ⟨ax15, ix15, kx15⟩ bx15 Gx15 ⟨ax16, ix16, kx16⟩ bx16 Gx16 ⟨ax17, ix17, kx17⟩ bx17 Gx17
theorem walk_here {l : PySem.W.OpenLaw} {q : Program} {loose : List Str} {XP : (Str → Option Value) → Heap → Prop} {YP : World → Heap → Prop} {d : DefRec} {K : Params → PySem.W.Frag} (hn : l.most = some 63) (hdf : d.params.defaults = [])
    (hY : ∀ (w : World) (h : Heap), YP w h → (K w.params).In h)
    (F : ∀ (w : World) (mg : Str → Option Value) (fa : Addr) (h : Heap), (K w.params).In h → h.Ns mainGlobals mg → mg d.name = some (.ref fa) →
      ∃ fd : FuncData, (∀ (s : Shared) (u : Value), BindsTo s fd ⟨[u], []⟩ [("script", u)]) ∧ ∀ base : Heap, (K w.params).In base → base.Ns mainGlobals mg → FnG l.prog w (K w.params) mg base 11 fa fd ["script"] (spLaw (K w.params))) :
    PySem.W.WalkO q loose XP YP l.row.toRowW d [] (fun f vs => PySem.call f vs) :=
  walkG (n := 63) (k := 11) (x := "script") (sp := fun w => spLaw (K w.params)) hn (by decide) hdf ⟨rfl, by decide, by decide⟩ hY F fun _ _ a ns hl _ hS => ⟨a, ns, rfl, hS, hl, fun _ => rfl⟩
end Cw
open PySem PySem.W PyProof.Rows
set_option maxRecDepth 100000 in
set_option maxHeartbeats 0 in
theorem PySem.Challenge.cw_cutwalks_k01_rows_made_holds : PySem.Challenge.rw_cutwalks_k01_rows_made.Holds := by
  w_on; o_law; k_head; (case hw => w_witness2)
  k_fill
  refine Cw.walk_here (l := PySem.Challenge.rw_cutwalks_k01_rows_made) rfl rfl (fun w h Y => PySem.W.kIn_of Y) ?F
  case F =>
    intro w mg fa h KX G hmg
    refine' Cw.all_mk KX G hmg ?aC ?aC2 ?a_MOST_MARKS ?a_MOST_PERIOD ?n_int ?n_bool ?n_list ?n_tuple ?n_range ?n_len ?n_abs ?n_all ?n_isinstance ?n_zip ?n_max ?n_min ?n_set ?n_sorted ?n_dict ?n_repr ?ax0 ?lx0 ?cox0 ?kx0 ?ax1 ?lx1 ?cox1 ?kx1 ?ax2 ?lx2 ?cox2 ?kx2 ?ax3 ?lx3 ?cox3 ?kx3 ?ax4 ?ix4 ?lx4 ?cox4 ?kx4 ?ax5 ?ix5 ?lx5 ?cox5 ?kx5 ?ax6 ?lx6 ?cox6 ?kx6 ?ax7 ?lx7 ?cox7 ?kx7 ?ax8 ?lx8 ?cox8 ?kx8 ?ax9 ?lx9 ?cox9 ?kx9 ?ax10 ?lx10 ?cox10 ?kx10 ?ax11 ?lx11 ?cox11 ?kx11 ?ax12 ?ix12 ?lx12 ?cox12 ?kx12 ?ax13 ?lx13 ?cox13 ?kx13 ?ax14 ?lx14 ?cox14 ?kx14 ?ax15 ?ix15 ?lx15 ?cox15 ?kx15 ?ax16 ?ix16 ?lx16 ?cox16 ?kx16 ?ax17 ?ix17 ?lx17 ?cox17 ?kx17 ?apL ?gpL ?tpL ?rpL ?lx18 ?cox18 ?kx18 ?apM ?gpM ?tpM ?rpM ?lx19 ?cox19 ?kx19 ?apS ?gpS ?tpS ?rpS ?lx20 ?cox20 ?kx20 ?ax21 ?lx21 ?cox21 ?kx21 ?aLW ?lLW ?coLW ?kLW ?pg ?hd ?po ?sa ?mk ?kc ?nL ?nM ?nS ?pg2 ?hd2 ?po2 ?sa2 ?mk2 ?kc2 ?nP2 ?nM2 ?nS2 ?kt ?ca ?cn ?ct ?cm ?en ?ca2 ?cm2 ?od_ci ?od_cb ?od_eN ?od_eB ?od_eS ?od_eT ?od_eL ?od_eD ?od_nN ?od_nB ?od_nS ?od_nT ?od_nL ?od_nD ?od_e2 ?od_n2 ?od_f2 ?od_m2
    (case aC => k_is)
    (case aC2 => k_is)
    (case a_MOST_MARKS => k_is)
    (case a_MOST_PERIOD => k_is)
    (case n_int => k_is)
    (case n_bool => k_is)
    (case n_list => k_is)
    (case n_tuple => k_is)
    (case n_range => k_is)
    (case n_len => k_is)
    (case n_abs => k_is)
    (case n_all => k_is)
    (case n_isinstance => k_is)
    (case n_zip => k_is)
    (case n_max => k_is)
    (case n_min => k_is)
    (case n_set => k_is)
    (case n_sorted => k_is)
    (case n_dict => k_is)
    (case n_repr => k_is)
    (case ax0 => k_is)
    (case lx0 => k_is)
    (case cox0 => k_is)
    (case kx0 => k_is)
    (case ax1 => k_is)
    (case lx1 => k_is)
    (case cox1 => k_is)
    (case kx1 => k_is)
    (case ax2 => k_is)
    (case lx2 => k_is)
    (case cox2 => k_is)
    (case kx2 => k_is)
    (case ax3 => k_is)
    (case lx3 => k_is)
    (case cox3 => k_is)
    (case kx3 => k_is)
    (case ax4 => k_is)
    (case ix4 => k_is)
    (case lx4 => k_is)
    (case cox4 => k_is)
    (case kx4 => k_is)
    (case ax5 => k_is)
    (case ix5 => k_is)
    (case lx5 => k_is)
    (case cox5 => k_is)
    (case kx5 => k_is)
    (case ax6 => k_is)
    (case lx6 => k_is)
    (case cox6 => k_is)
    (case kx6 => k_is)
    (case ax7 => k_is)
    (case lx7 => k_is)
    (case cox7 => k_is)
    (case kx7 => k_is)
    (case ax8 => k_is)
    (case lx8 => k_is)
    (case cox8 => k_is)
    (case kx8 => k_is)
    (case ax9 => k_is)
    (case lx9 => k_is)
    (case cox9 => k_is)
    (case kx9 => k_is)
    (case ax10 => k_is)
    (case lx10 => k_is)
    (case cox10 => k_is)
    (case kx10 => k_is)
    (case ax11 => k_is)
    (case lx11 => k_is)
    (case cox11 => k_is)
    (case kx11 => k_is)
    (case ax12 => k_is)
    (case ix12 => k_is)
    (case lx12 => k_is)
    (case cox12 => k_is)
    (case kx12 => k_is)
    (case ax13 => k_is)
    (case lx13 => k_is)
    (case cox13 => k_is)
    (case kx13 => k_is)
    (case ax14 => k_is)
    (case lx14 => k_is)
    (case cox14 => k_is)
    (case kx14 => k_is)
    (case ax15 => k_is)
    (case ix15 => k_is)
    (case lx15 => k_is)
    (case cox15 => k_is)
    (case kx15 => k_is)
    (case ax16 => k_is)
    (case ix16 => k_is)
    (case lx16 => k_is)
    (case cox16 => k_is)
    (case kx16 => k_is)
    (case ax17 => k_is)
    (case ix17 => k_is)
    (case lx17 => k_is)
    (case cox17 => k_is)
    (case kx17 => k_is)
    (case apL => k_is)
    (case gpL => first | k_is | kernel_rfl)
    (case tpL => first | k_is | kernel_rfl)
    (case rpL => k_is)
    (case lx18 => k_is)
    (case cox18 => k_is)
    (case kx18 => k_is)
    (case apM => k_is)
    (case gpM => first | k_is | kernel_rfl)
    (case tpM => first | k_is | kernel_rfl)
    (case rpM => k_is)
    (case lx19 => k_is)
    (case cox19 => k_is)
    (case kx19 => k_is)
    (case apS => k_is)
    (case gpS => first | k_is | kernel_rfl)
    (case tpS => first | k_is | kernel_rfl)
    (case rpS => k_is)
    (case lx20 => k_is)
    (case cox20 => k_is)
    (case kx20 => k_is)
    (case ax21 => k_is)
    (case lx21 => k_is)
    (case cox21 => k_is)
    (case kx21 => k_is)
    (case aLW => k_is)
    (case lLW => k_is)
    (case coLW => k_is)
    (case kLW => k_is)
    (case pg => k_is)
    (case hd => k_is)
    (case po => k_is)
    (case sa => k_is)
    (case mk => k_is)
    (case kc => k_is)
    (case nL => k_is)
    (case nM => k_is)
    (case nS => k_is)
    (case pg2 => k_is)
    (case hd2 => k_is)
    (case po2 => k_is)
    (case sa2 => k_is)
    (case mk2 => k_is)
    (case kc2 => k_is)
    (case nP2 => k_is)
    (case nM2 => k_is)
    (case nS2 => k_is)
    (case kt => first | k_is | kernel_rfl)
    (case ca => first | k_is | kernel_rfl)
    (case cn => first | k_is | kernel_rfl)
    (case ct => first | k_is | kernel_rfl)
    (case cm => first | k_is | kernel_rfl)
    (case en => first | k_is | kernel_rfl)
    (case ca2 => first | k_is | kernel_rfl)
    (case cm2 => first | k_is | kernel_rfl)
    (case od_ci => first | k_is | kernel_rfl)
    (case od_cb => first | k_is | kernel_rfl)
    (case od_eN => first | k_is | kernel_rfl)
    (case od_eB => first | k_is | kernel_rfl)
    (case od_eS => first | k_is | kernel_rfl)
    (case od_eT => first | k_is | kernel_rfl)
    (case od_eL => first | k_is | kernel_rfl)
    (case od_eD => first | k_is | kernel_rfl)
    (case od_nN => first | k_is | kernel_rfl)
    (case od_nB => first | k_is | kernel_rfl)
    (case od_nS => first | k_is | kernel_rfl)
    (case od_nT => first | k_is | kernel_rfl)
    (case od_nL => first | k_is | kernel_rfl)
    (case od_nD => first | k_is | kernel_rfl)
    (case od_e2 => first | k_is | kernel_rfl)
    (case od_n2 => first | k_is | kernel_rfl)
    (case od_f2 => first | k_is | kernel_rfl)
    (case od_m2 => first | k_is | kernel_rfl)
#print axioms PySem.Challenge.cw_cutwalks_k01_rows_made_holds
