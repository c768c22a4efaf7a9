import PyProof.Rows.All
import Wide.All
import OpenK.AllK
import Wide.FinOn
import HandS.ForMost
import HandS.Strs
import HandS.SetFor
import HandS.SortKw
import KE.DataMinMax
import HandS.OwnEq
import PyProof.InstNe
import HandS.IsInst
import HandS.Walk
import HandS.Exc
import PySem.Challenge.RW_cutwalks_k05_limits_of_marks
import HandS.Property
import HandS.WideBits
import HandS.Flt
import PyProof.MaxThree
import PyProof.SeqI3
import HandS.Words
import PyProof.ReprRoads
import HandS.TupSets
import HandS.SortInts
import HandS.ExcOwn
import HandS.ExcCtx
import HandS.WordsExc
import HandS.ExcIs
import HandS.Hot
import HandS.HotCalls
import HandS.Comp
import HandS.Text
import OpenK.KMeth
import OpenK.KOps
import HandS.Conv
set_option Elab.async false
set_option maxRecDepth 100000
set_option maxHeartbeats 8000000
namespace Cw
open PySem PySem.Spec PyProof.Rows L2
/-! ## set(xs) of a list of nts -/
section
variable {P : Program} {w : World} {A : Around} {E : Value → Shared → Prop} {s : Shared}
abbrev newS (w : World) : Obj := { cls := .type "set", dict := none, data := .set #[] 0 (.fresh 0 0 (!w.params.followText "set-order")) }
theorem set_list {l : Addr} {its : Array Value} (ns : List Int) {Q : Value → Shared → Prop} (hand : A.handled = none) (isl : s.heap.IsList l its) (nts : IntsAre its.toList ns) (room : ns.length + 1 < scanBound)
    (q : ∀ (g' : Heap) (tk c : Nat), SetR w g' s.heap.objs.size (fun j => decide (j ∈ ns)) c → c ≤ ns.length → (∀ b o, s.heap.get? b = some o → g'.get? b = some o) → Q (.ref s.heap.objs.size) { s with heap := g', toks := tk }) :
    wpAny (model P w) A (call (.type "set") [.ref l]) Q E s := by
  have len : its.size = ns.length := by rw [← IntsAre.length nts, Array.length_toList]
  obtain ⟨c, tl, hmro⟩ := F.called_set.mro; have hmade := F.called_set.made; have hsub := F.called_set.sub
  refine wpAny_call (codeAny_of_tree ?_); show wpAny _ _ (callAny (.type "set") _) _ _ _
  refine wpAny_pure ⟨Code.quiet_builtin _ (by decide +kernel), codeAny_builtin F.entry_type_call ?_⟩; rw [Around.under_plain (weight_type_call_type "set" [.ref l] []) rfl]
  have h1 := F.called_set.notType; have h2 := F.called_set.canCreate; have hct := F.typeCall_set_1 (.ref l)
  repeat (any_goals (first | assumption | wp_step))
  refine codeAny_mono (code_set_led1 (.ref l) (E := E) (Q₁ := fun ob t₁ => ob = .ref s.heap.objs.size ∧ t₁ = { s with heap := s.heap.push (newS w) }) ⟨rfl, rfl⟩) fun r t₁ hr => ?_
  cases r with
  | error e => exact hr
  | ok fl =>
    cases fl with
    | ret ob =>
      obtain ⟨rfl, rfl⟩ := hr
      have at0 : (s.heap.push (newS w)).get? s.heap.objs.size = some (newS w) := Heap.get?_push_size _ rfl
      have ty0 : Shared.TypeIs { s with heap := s.heap.push (newS w) } (.ref s.heap.objs.size) "set" := ⟨_, at0, rfl⟩
      have hli := F.called_set.init.lookup; have hbi := F.called_set.init.bind (.ref s.heap.objs.size)
      repeat (any_goals (first | assumption | wp_step))
      refine codeAny_mono (codeAny_call_builtin (R := wants (fun r t₂ => r = .none ∧ ∃ g' tk c, t₂ = { s with heap := g', toks := tk } ∧ SetR w g' s.heap.objs.size (fun j => decide (j ∈ ns)) c ∧ c ≤ ns.length ∧ (∀ b o, s.heap.get? b = some o → g'.get? b = some o)) E)
        F.called_set.init.plain F.entry_set_init (check_set_init_1 ty0 ?_)) fun r₂ t₂ hr₂ => ?_
      · obtain ⟨ol, lo, lc, nl, ld⟩ := isl
        obtain ⟨oc, odi, oda, osl⟩ := ol
        simp only at lc ld; subst lc; subst ld
        have lo' : (s.heap.push (newS w)).get? l = some { cls := .type "list", dict := odi, data := .seq its nl, slots := osl } := Heap.get?_push_of_some _ lo
        have u1 := F.sub_list_set; have u2 := F.sub_list_frozenset
        have u3 : (Value.type "list" == Value.type "dict") = false := by decide
        have il : (s.heap.push (newS w)).IsList l its := ⟨_, lo', rfl, nl, rfl⟩
        unfold Builtin.«set.__init__» noKeywords Builtin.Frozenset.updateFrom
        generalize hPI : pyIter = PI; wp_walk; subst hPI
        refine wpAny_pyIter_list il ?_; refine wpAny_bind (wpAny_runValue ?_)
        have lt : l < s.heap.objs.size := Heap.lt_size lo
        have hand3 : A.in1.in1.in1.handled = none := by simp [hand]
        have ne1 : l ≠ (s.heap.push (newS w)).objs.size := by rw [Heap.size_push]; exact Nat.ne_of_lt (Nat.lt_succ_of_lt lt)
        have nin : s.heap.objs.size ∉ [(s.heap.push (newS w)).objs.size, l] := by
          rw [Heap.size_push]
          simp only [List.mem_cons, List.mem_singleton, List.not_mem_nil, or_false, not_or]
          exact ⟨Nat.ne_of_lt (Nat.lt_succ_self _), Nat.ne_of_gt lt⟩
        have val : ∀ (i : Nat) (v : Value), its[i]? = some v → ∃ k t, ns[i]? = some k ∧ v = .int k t := fun i v hv => by
          have hi : i < ns.length := by rw [← len]; exact (Array.getElem?_eq_some_iff.mp hv).1
          obtain ⟨t, e⟩ := PyProof.Rows.IntsAre.int_at nts i v (by rw [Array.getElem?_toList]; exact hv)
          exact ⟨ns[i], t, List.getElem?_eq_getElem hi, by rw [e, List.getD_eq_getElem?_getD, List.getElem?_eq_getElem hi] <;> rfl⟩
        refine set_update_ints ((Walks.list hand3 _ l ne1 its).toS) s.heap.objs.size nin ns len room val (its.size - 0) 0 _ (by omega) (Nat.zero_le _) ⟨⟨_, Heap.get?_push_size _ rfl, rfl, rfl⟩, (il.push _)⟩ ?z0 ?zR
        case z0 => exact ⟨0, Nat.le_refl 0, setR_new_at (Heap.get?_push_of_some _ at0)⟩
        case zR =>
          intro t' c' hm hc' hS'
          obtain ⟨g', g2, d', tk', os'⟩ := t'
          have eg : g2 = s.gens := hm.gens; have ed : d' = s.drawn := hm.drawn; have eo : os' = s.os := hm.os
          subst eg; subst ed; subst eo
          show wpAny _ _ _ _ _ _
          refine wpAny_pure ?_; show wpAny _ _ (ret Value.none) _ _ _
          rw [len] at hc'
          refine wpAny_pure ⟨rfl, g', tk', c', rfl, hS', hc', fun b o e => ?_⟩
          have b0 : b < s.heap.objs.size := Heap.lt_size e
          have b2 : b ≠ (s.heap.push (newS w)).objs.size := by rw [Heap.size_push]; exact Nat.ne_of_lt (Nat.lt_succ_of_lt b0)
          exact hm.heap b o (by simp only [List.mem_cons, List.mem_singleton, List.not_mem_nil, or_false, not_or]; exact ⟨Nat.ne_of_lt b0, b2⟩) (Heap.get?_push_of_some _ (Heap.get?_push_of_some _ e))
      · cases r₂ with
        | error e => exact hr₂
        | ok fl₂ =>
          cases fl₂ with
          | ret r =>
            obtain ⟨rfl, g', tk, c', rfl, hS', hc', hk'⟩ := hr₂
            repeat (any_goals (first | assumption | wp_step))
            exact q _ _ _ hS' hc' hk'
          | _ => exact hr₂.elim
    | _ => exact hr.elim
end
section
variable {P : Program} {w : World} {A : Around} {E : Value → Shared → Prop} {s : Shared}
theorem entry_sub : entryFor table "set.__sub__" = some Builtin.«frozenset.__sub__» := entryFor_alias (id' := "frozenset.__sub__") (by kernel_rfl) rfl (by decide +kernel) (by kernel_rfl)
theorem sub_form (a b : Value) : Builtin.«frozenset.__sub__» ⟨[a, b], []⟩ = (do
    let p ← Builtin.Frozenset.slot1 "__sub__" ⟨[a, b], []⟩
    if !(← (Builtin.Frozenset.isAnySet p.1 <&&> Builtin.Frozenset.isAnySet p.2)) then
      rule "frozenset.__sub__.declined"
      ret .notImplemented
    else ret (← Builtin.Frozenset.difference "frozenset.__sub__" (← Builtin.Frozenset.addrOf p.1) p.2)) := by
  rfl
variable {a b : Addr} {S T : Int → Bool} {n m : Nat}
theorem isSet_at {s : Shared} {Q : Bool → Shared → Prop} {a : Addr} (ty : s.TypeIs (.ref a) "set") (q : Q true s) : wpAny (model P w) A (Builtin.Frozenset.isAnySet (.ref a)) Q E s := by
  unfold Builtin.Frozenset.isAnySet isInstance
  have z := sub_set_self
  wp_walk
  exact q
/-- what is walked: all of the set's members -/
def Mem (xs : Array (Int × Value)) (S : Int → Bool) : Prop := ∀ e ∈ xs.toList, GoodE e ∧ S (keyOf e) = true
section
variable {o : Obj} {es : Array (Int × Value)} {ep : Nat} {t : SetTable}
theorem walk_at (ho : s.heap.get? a = some o) (hd : o.data = .set es ep t) (hf : t.fits es.size = true) (hl : w.params.followText "set-order" = true ∨ t.led = true) (hp : w.params.followText "set-order" = true ∨ (!t.plain && decide (es.size > 1)) = false)
    {Q : Array (Int × Value) → Shared → Prop} (q : ∀ xs, (∀ e ∈ xs.toList, e ∈ es.toList) → Q xs s) : wpAny (model P w) A (setWalk a) Q E s := by
  unfold setWalk
  refine wpAny_bind (wpAny_setState_of ho hd hf ?_)
  dsimp only
  refine wpAny_bind (wpAny_byText ?_)
  by_cases c : w.params.followText "set-order" = true
  · refine wp_if_pos c ?_
    refine wpAny_bind (wpAny_askSetting (wpAny_pure (q _ fun e he => ?_)))
    exact (pick_perm _ es).mem_iff.mp he
  · refine wp_if_neg c ?_
    have p1 := hp.resolve_left c
    have p2 := hl.resolve_left c
    try refine wpAny_bind (wpAny_pure ?_)
    refine wp_if_neg (by show ¬ ((!t.plain && decide (es.size > 1)) = true); rw [p1]; exact Bool.false_ne_true) ?_
    try refine wpAny_bind (wpAny_pure ?_)
    refine wpAny_bind (wpAny_of_eq (a := ()) ?_ (wpAny_pure (q es fun _ h => h)))
    show (if (!t.led && decide (es.size > 1)) = true then unsupported "set:maker-not-led" else pure ()) = pure ()
    rw [p2]
    rfl
end
theorem forIn_keep {α β : Type} {M : Model} {f : α → β → Sem (ForInStep β)} {b : β} (I : Shared → Prop) : ∀ (l : List α) {s : Shared} {Q : β → Shared → Prop},
    (∀ x ∈ l, ∀ (s : Shared) (Q' : ForInStep β → Shared → Prop), I s → (∀ s', I s' → Q' (.yield b) s') → wpAny M A (f x b) Q' E s) → I s → (∀ s', I s' → Q b s') → wpAny M A (forIn l b f) Q E s
  | [], s, Q, _, i, q => by
    rw [List.forIn_nil]
    exact wpAny_pure (q s i)
  | x :: l, s, Q, h, i, q => by
    rw [List.forIn_cons]
    exact wpAny_bind (h x (List.mem_cons_self ..) s _ i fun s' i' => forIn_keep I l (fun y hy => h y (List.mem_cons_of_mem _ hy)) i' q)
theorem forIn_keepA {α β : Type} {M : Model} {f : α → β → Sem (ForInStep β)} {b : β} (I : Shared → Prop) (l : Array α) {s : Shared} {Q : β → Shared → Prop}
    (h : ∀ x ∈ l.toList, ∀ (s : Shared) (Q' : ForInStep β → Shared → Prop), I s → (∀ s', I s' → Q' (.yield b) s') → wpAny M A (f x b) Q' E s) (i : I s) (q : ∀ s', I s' → Q b s') : wpAny M A (forIn l b f) Q E s := by
  rw [← Array.forIn_toList]
  exact forIn_keep I l.toList h i q
theorem quiet_at : ∀ (l : List Addr) {s : Shared} {Q : Bool → Shared → Prop}, (∀ c ∈ l, ∃ S n, SetR w s.heap c S n) → Q true s → wpAny (model P w) A (setsQuiet l) Q E s := by
  intro l s Q h q
  unfold setsQuiet
  refine wpAny_bind (forIn_keep (fun s' => s' = s) l (fun c hc s' Q' hs k => ?_) rfl fun s' hs => ?_)
  · subst hs
    obtain ⟨S, n, o, es, ep, t, ho, hx, hd, g, nd, hm, hb, hf, _⟩ := h c hc
    refine wpAny_bind (wpAny_setEntries_of ho hd hf ?_)
    refine wpAny_bind (forIn_keepA (fun s'' => s'' = s') es (fun e he s'' Q'' hs k' => ?_) rfl fun s'' hs => ?_)
    · subst hs
      obtain ⟨i, tk, h1, h2⟩ := g e he
      obtain ⟨e1, e2⟩ := e
      dsimp only at h1
      subst h1
      exact wpAny_pure (k' _ rfl)
    · subst hs
      exact wpAny_pure (k _ rfl)
  · subst hs
    exact wpAny_pure q
/-- the set at a walked while the empty set at r is filled -/
theorem unseen_at {r : Addr} (R : SetR w s.heap a S n) (Rr : SetR w s.heap r (fun _ => false) 0) {l : List Addr} (hall : ∀ c ∈ a :: l, ∃ S n, SetR w s.heap c S n) {Q : Array (Int × Value) → Shared → Prop}
    (q : ∀ xs h', Mem xs S → (∀ c o, c ≠ r → s.heap.get? c = some o → h'.get? c = some o) → SetR w h' r (fun _ => false) 0 → Q xs { s with heap := h' }) : wpAny (model P w) A (setWalkUnseen a l (some r)) Q E s := by
  obtain ⟨o, es, ep, t, ho, hx, hd, g, nd, hm, hb, hf, hn, hr, hl⟩ := R
  have mem : ∀ xs : Array (Int × Value), (∀ e ∈ xs.toList, e ∈ es.toList) → Mem xs S := fun xs h e he => ⟨g e (h e he), (hm _).mpr (List.mem_map_of_mem (h e he))⟩
  unfold setWalkUnseen
  refine wpAny_bind (wpAny_setState_of ho hd hf ?_)
  dsimp only
  refine wpAny_bind (wpAny_byText ?_)
  by_cases c : (w.params.followText "set-order" || t.led && t.plain || decide (es.size ≤ 1)) = true
  · refine wp_if_pos c ?_
    refine walk_at ho hd hf hl ?_ fun xs h => ?_
    · simp only [Bool.or_eq_true, Bool.and_eq_true, decide_eq_true_eq] at c
      rcases c with (c | c) | c
      · exact .inl c
      · exact .inr (by rw [c.2]; rfl)
      · exact .inr (by rw [decide_eq_false (by omega), Bool.and_false])
    · exact q xs s.heap (mem xs h) (fun _ _ _ e => e) Rr
  · refine wp_if_neg c ?_
    try refine wpAny_bind (wpAny_pure ?_)
    refine wpAny_bind (quiet_at (a :: l) hall ?_)
    refine wp_if_neg (by decide) ?_
    try refine wpAny_bind (wpAny_pure ?_)
    refine wpAny_bind (wpAny_rule ?_)
    obtain ⟨o2, es2, ep2, t2, ho2, hx2, hd2, g2, nd2, hm2, hb2, hf2, hn2, hr2, hl2⟩ := Rr
    try dsimp only
    refine wpAny_bind (wpAny_setState_of ho2 hd2 hf2 ?_)
    dsimp only
    have nb : w.params.followText "set-order" = false := by
      cases z : w.params.followText "set-order" with
      | false => rfl
      | true => rw [z] at c; simp at c
    have l1 : t.led = true := hl.resolve_left (by rw [nb]; exact Bool.false_ne_true)
    have l2 : t2.led = true := hl2.resolve_left (by rw [nb]; exact Bool.false_ne_true)
    by_cases c2 : (t2.led && !t.led || t2.plain && !t.plain) = true
    · refine wp_if_pos c2 ?_
      refine wpAny_bind (wpAny_storeSet_of ho2 hd2 ?_ (fits_of_scanBound hb2))
      refine wpAny_pure (q es _ (mem es fun _ h => h) (fun y o' hy e => by rw [Heap.get?_update_other _ _ (Ne.symm hy)]; exact e) ?_)
      exact ⟨_, es2, _, _, store_at ho2 hd2, hx2, rfl, g2, nd2, hm2, hb2, by exact hf2, hn2, hr2, .inr (by rw [l1, l2]; rfl)⟩
    · refine wp_if_neg c2 ?_
      try refine wpAny_bind (wpAny_pure ?_)
      exact wpAny_pure (q es s.heap (mem es fun _ h => h) (fun _ _ _ e => e) ⟨o2, es2, ep2, t2, ho2, hx2, hd2, g2, nd2, hm2, hb2, hf2, hn2, hr2, hl2⟩)
theorem sub_none (R1 : SetR w s.heap a S n) (R2 : SetR w s.heap b T m) (sub : ∀ k, S k = true → T k = true) (le : n ≤ m) {Q : Value → Shared → Prop}
    (q : ∀ h', (∀ c o, s.heap.get? c = some o → h'.get? c = some o) → SetR w h' s.heap.objs.size (fun _ => false) 0 → Q (.ref s.heap.objs.size) { s with heap := h' }) : wpAny (model P w) A (binaryOp .Sub (.ref a) (.ref b)) Q E s := by
  have ta : s.TypeIs (.ref a) "set" := (R1.setOf (P := P)).typeIs
  have tb : s.TypeIs (.ref b) "set" := (R2.setOf (P := P)).typeIs
  refine wpAny_binaryOp_same (T := "set") ta tb F.fills_set_sub F.slot_set_sub ?_
  refine wpAny_call_entry F.slot_set_sub ta entry_sub ?_ (F.args_set_sub_2 _ _)
  rw [sub_form]
  unfold Builtin.Frozenset.slot1 slotArgs
  refine wpAny_bind (wpAny_bind (wpAny_of_eq (a := (Value.ref a, [Value.ref b])) rfl (wpAny_pure ?_)))
  dsimp only
  refine wpAny_bind (m := _ <&&> _) ?_
  unfold andM
  refine wpAny_bind (isSet_at ta ?_)
  show wpAny _ _ (Builtin.Frozenset.isAnySet (.ref b)) _ _ _
  refine isSet_at tb (wp_if_neg (by decide) ?_)
  refine wpAny_bind (wpAny_pure (wpAny_bind ?_))
  obtain ⟨o, es, ep, t, ho, hx, hd, g, nd, hm, hb, hf, hn, hr, hl⟩ := id R1
  obtain ⟨o2, es2, ep2, t2, ho2, hx2, hd2, g2, nd2, hm2, hb2, hf2, hn2, hr2, hl2⟩ := id R2
  unfold Builtin.Frozenset.difference
  dsimp only
  refine wpAny_bind (isSet_at tb ?_)
  refine wp_if_neg (by decide) ?_
  try refine wpAny_bind (m := Builtin.Frozenset.addrOf (.ref b)) (wpAny_pure ?_)
  refine wp_if_neg (by simp) ?_
  refine wp_if_pos rfl ?_
  unfold Builtin.Frozenset.sizeOf
  refine wpAny_bind (wpAny_bind (wpAny_setEntries_of ho2 hd2 hf2 (wpAny_pure ?_)))
  refine wpAny_bind (wpAny_bind (wpAny_setEntries_of ho hd hf (wpAny_pure ?_)))
  refine wp_if_neg (by rw [hn, hn2]; omega) ?_
  unfold Builtin.Frozenset.baseOf isInstance
  have z := sub_set_self
  obtain ⟨hp, gg, dr, tk, os⟩ := s
  wp_walk
  dsimp only at ho ho2 q R1 R2
  refine wpAny_askSetting (wpAny_pure ?_)
  simp only [newObj, if_true]
  refine wpAny_bind (wpAny_alloc (wpAny_pure ?_))
  dsimp only
  have k1 : ∀ c o, hp.get? c = some o → (hp.push (newS w)).get? c = some o := fun c o e => Heap.get?_push_of_some _ e
  have fr := setR_fresh (h := hp) w
  have na : a ≠ hp.objs.size := Nat.ne_of_lt (Heap.lt_size ho)
  have nb : b ≠ hp.objs.size := Nat.ne_of_lt (Heap.lt_size ho2)
  refine wpAny_bind (m := Builtin.Frozenset.addrOf (.ref hp.objs.size)) (wpAny_pure ?_)
  refine wpAny_bind (wpAny_setEpoch_of (k1 _ _ ho) hd hf ?_)
  refine wpAny_bind (wpAny_holding (wpAny_bind ?_))
  refine unseen_at (R1.at fun o e => k1 _ _ e) fr (fun c hc => ?_) fun xs h' hxs k2 R' => ?_
  · rcases List.mem_cons.mp hc with rfl | hc
    · exact ⟨_, _, R1.at fun o e => k1 _ _ e⟩
    rcases List.mem_cons.mp hc with rfl | hc
    · exact ⟨_, _, R2.at fun o e => k1 _ _ e⟩
    rcases List.mem_cons.mp hc with rfl | hc
    · exact ⟨_, _, fr⟩
    · cases hc
  · have k3 : ∀ c o, hp.get? c = some o → h'.get? c = some o := fun c o e => k2 c o (Nat.ne_of_lt (Heap.lt_size e)) (k1 c o e)
    refine wpAny_bind (forIn_keepA (fun s' => s' = ⟨h', gg, dr, tk, os⟩) xs (fun e he s' Q' hs kk => ?_) rfl fun s' hs => ?_)
    · subst hs
      obtain ⟨⟨i, ti, h1, h2⟩, h3⟩ := hxs e he
      obtain ⟨e1, e2⟩ := e
      dsimp only at h1 h2
      subst h1 h2
      refine wpAny_bind (wpAny_holding (wpAny_bind ?_))
      refine wpAny_setFind_of (knd := intKind P w) (k := i) (intKind_is P w i ti) rfl ((R2.at fun o e => k3 _ _ e).setOf (P := P)) fun r hr => ?_
      refine wpAny_bind (wpAny_pure ?_)
      have hs : r.isSome = true := by rw [hr]; exact sub i h3
      refine wp_if_neg (by rw [hs]; decide) ?_
      refine wpAny_pure ?_
      unfold Builtin.Frozenset.unchanged
      refine wpAny_bind (wpAny_bind (wpAny_setEpoch_of (k3 _ _ ho) hd hf ?_))
      refine wp_if_neg (by simp) (wpAny_pure (wpAny_pure (kk _ rfl)))
    · subst hs
      refine wpAny_pure (wpAny_pure (wpAny_pure ⟨_, rfl, (fun z => nomatch z), q h' k3 R'⟩))
end
end Cw
namespace Cw
open PySem PySem.Spec PyProof.Rows L2
theorem nodup_len : ∀ {l m : List Int}, l.Nodup → (∀ x ∈ l, x ∈ m) → l.length ≤ m.length
  | [], m, _, _ => Nat.zero_le _
  | x :: l, m, nd, h => by
    obtain ⟨nx, nd'⟩ := List.nodup_cons.mp nd
    have hx : x ∈ m := h x (List.mem_cons_self ..)
    have z := nodup_len (l := l) (m := m.erase x) nd' fun y hy => by
      have ne : y ≠ x := fun e => nx (by rw [← e]; exact hy)
      exact (List.mem_erase_of_ne ne).mpr (h y (List.mem_cons_of_mem _ hy))
    rw [List.length_erase_of_mem hx] at z
    have p : 0 < m.length := List.length_pos_of_mem hx
    rw [List.length_cons]
    omega
section
variable {X : Cx}
theorem setR_le {w : World} {h : Heap} {a b : Addr} {S T : Int → Bool} {n m : Nat} (R1 : SetR w h a S n) (R2 : SetR w h b T m) (sub : ∀ k, S k = true → T k = true) : n ≤ m := by
  obtain ⟨o, es, ep, t, ho, hx, hd, g, nd, hm, hb, hf, hn, _⟩ := R1
  obtain ⟨o2, es2, ep2, t2, ho2, hx2, hd2, g2, nd2, hm2, hb2, hf2, hn2, _⟩ := R2
  have z := nodup_len (l := es.toList.map keyOf) (m := es2.toList.map keyOf) nd fun x hx => (hm2 x).mp (sub x ((hm x).mpr hx))
  rw [List.length_map, List.length_map, Array.length_toList, Array.length_toList, hn, hn2] at z
  exact z
/-- set(xs) -/
def rSetOf (X : Cx) : List V → Hp → VK → Prop := fun xs H Q => ∃ (l : Addr) (ns : List Int), xs = [.ref l] ∧ SqL X.K H l (ns.map V.int) ∧ ns.length ≤ 4000 ∧ ∀ p c, c ≤ ns.length → H p = none → Q (.ref p) (upd H p (SetO X.w p (fun j => decide (j ∈ ns)) c))
theorem cr_setOf (hc : X.calm = true) : CallR X (.type "set") (rSetOf X) := by
  intro pins s σ H vs us Q I r h
  obtain ⟨l, ns, rfl, hs, hl, q⟩ := h
  obtain ⟨its, rv, pl, _⟩ := I.list hs
  rw [Vals.ref1 r]
  refine set_list (its := its.toArray) ns (I.ok.hd hc) pl.isList rv.ints (by show ns.length + 1 < 4096; omega) fun g' tk c R hc' k => ?_
  exact ⟨.ref s.heap.objs.size, _, I.laid (t' := tk) k (Nat.le_refl _) (setO_new R), rfl, q _ c hc' (I.hok.fresh (Nat.le_refl _))⟩
/-- a - b, all of a's being b's: a new empty set -/
def rSubN (w : World) : R2 := fun x y H Q => ∃ (a b : Addr) (S T : Int → Bool) (n m : Nat), x = .ref a ∧ y = .ref b ∧ H a = some (SetO w a S n) ∧ H b = some (SetO w b T m) ∧ (∀ k, S k = true → T k = true) ∧ ∀ p, H p = none → Q (.ref p) (upd H p (SetO w p (fun _ => false) 0))
theorem op_subN : OpR X (binaryOp .Sub) (rSubN X.w) := by
  intro pins s σ H x y v u Q I rx ry h
  obtain ⟨a, b, S, T, n, m, rfl, rfl, ha, hb, sub, q⟩ := h
  cases rx
  cases ry
  have R1 := setO_get I ha
  have R2 := setO_get I hb
  refine sub_none R1 R2 sub (setR_le R1 R2 sub) fun h' k R => ?_
  exact ⟨.ref s.heap.objs.size, _, I.laid (t' := s.toks) k (Nat.le_refl _) (setO_new R), rfl, q _ (I.hok.fresh (Nat.le_refl _))⟩
/-- len(s) -/
theorem cr_lenS : CallR X (.builtin "len") (fun xs H Q => ∃ (a : Addr) (S : Int → Bool) (n : Nat), xs = [.ref a] ∧ H a = some (SetO X.w a S n) ∧ Q (.int n) H) := by
  intro pins s σ H vs us Q I r h
  obtain ⟨a, S, n, rfl, ha, q⟩ := h
  rw [Vals.ref1 r]
  obtain ⟨o, es, ep, t, ho, hx, hd, g, nd, hm, hb, hf, hn, _⟩ := setO_get I ha
  have e : scanBound = 4096 := rfl
  refine call_len_set ho hx hd hf (by rw [e] at hb; omega) ?_
  rw [hn]
  exact ⟨.int n, H, I.tok _, ⟨_, rfl⟩, q⟩
/-- max(xs, default=k) -/
def rMaxD (K : PySem.W.Frag) : List V → List V → Hp → VK → Prop := fun xs zs H Q => ∃ (a : Addr) (ns : List Int) (k : Int), xs = [.ref a] ∧ SqL K H a (ns.map V.int) ∧ zs = [.int k] ∧ ∀ M, (ns = [] → M = k) → (∀ y ∈ ns, y ≤ M) → Q (.int M) H
theorem fold_max (n : Int) : ∀ (ns : List Int), n ≤ ns.foldl max n ∧ ∀ y ∈ ns, y ≤ ns.foldl max n := by
  intro ns
  induction ns generalizing n with
  | nil => exact ⟨Int.le_refl _, fun _ h => nomatch h⟩
  | cons k r ih =>
    rw [List.foldl_cons]
    obtain ⟨h1, h2⟩ := ih (max n k)
    refine ⟨Int.le_trans (Int.le_max_left _ _) h1, fun y hy => ?_⟩
    rcases List.mem_cons.mp hy with rfl | hy
    · exact Int.le_trans (Int.le_max_right _ _) h1
    · exact h2 y hy
theorem alike_ints (ns : List Int) : PySem.W.AlikeAll (ns.map PyData.int) := by
  constructor
  · intro x hx y hy
    obtain ⟨i, _, rfl⟩ := List.mem_map.mp hx
    obtain ⟨j, _, rfl⟩ := List.mem_map.mp hy
    rfl
  · intro x hx
    obtain ⟨i, _, rfl⟩ := List.mem_map.mp hx
    exact fun z => nomatch z
theorem cr_maxD (hc : X.calm = true) (hu : X.A.units + 3 < cLine) : CallRK X (.builtin "max") ["default"] (rMaxD X.K) := by
  intro pins s σ H xs zs us ws Q I r rz h
  obtain ⟨a, ns, k, rfl, hs, rfl, q⟩ := h
  obtain ⟨its, rv, pl, _⟩ := I.list hs
  rw [Vals.ref1 r]
  obtain ⟨u, rfl, tk0, rfl⟩ := vals1 rz
  have dpi : ∀ ns : List Int, DpAll X.K H (ns.map V.int) (ns.map PyData.int) := fun ns => by
    induction ns with
    | nil => exact .nil
    | cons n r ih => exact .cons (.int n) ih
  have dpt : ∀ ns : List Int, PyData.depthAll (ns.map PyData.int) ≤ 1 := fun ns => by
    induction ns with
    | nil => exact Nat.zero_le _
    | cons n r ih =>
      rw [List.map_cons]
      unfold PyData.depthAll PyData.depth
      omega
  obtain ⟨as, hr⟩ := Dp.readsAll I _ _ _ (dpi ns) rv
  have hd := dpt ns
  refine PySem.W.max_list_default (vs := its.toArray) (I.ok.hd hc) pl.isList (by rw [List.toList_toArray]; exact hr) (alike_ints ns) (by omega) (fun e h' tk k' => ?_) (fun y ys i v h' tk bs e _ rd k' => ?_)
  · exact ⟨.int k, H, I.kept k', ⟨_, rfl⟩, q k (fun _ => rfl) fun y hy => by rw [List.map_eq_nil_iff.mp e] at hy; cases hy⟩
  · cases ns with
    | nil => cases e
    | cons n r =>
      rw [List.map_cons] at e
      injection e with e1 e2
      subst e1 e2
      rw [PySem.W.maxD_ints] at rd
      cases rd with
      | int i t =>
        obtain ⟨f1, f2⟩ := fold_max n r
        refine ⟨.int (r.foldl max n), H, I.kept k', ⟨t, rfl⟩, q _ (fun z => nomatch z) fun y hy => ?_⟩
        rcases List.mem_cons.mp hy with rfl | hy
        · exact f1
        · exact f2 y hy
end
end Cw
namespace Cw
open PySem PySem.Spec PyProof.Rows PySem.SeqAt L2
/-! ## != by an own __eq__ -/
section
variable {M : Model} {prog : Program} {w : World} {A : Around} {E : Value → Shared → Prop} {s : Shared} {K : PySem.W.Frag} {x y f C : Addr} {ox oy : Obj} {od oe : Option Obj}
theorem objNe_entry (X : K.In s.heap) (I : PySem.W.InstAt s.heap x ox C od) (hs : PySem.W.findIn K (.ref C) "__eq__" = some (some (.ref f))) (hf : PySem.W.isFn K (.ref f) = true) (hu : A.units < cLine) {Q : Fin → Shared → Prop}
    (hcall : wpAny (model prog w) A (call (.ref f) [.ref x, .ref y]) (fun v s' => ∃ b, v = .bool b ∧ Q (.done (.ret (.bool (!b)))) s') E s) :
    wpAny (model prog w) A (Builtin.«object.__ne__» ⟨[.ref x, .ref y], []⟩) Q E s := by
  unfold Builtin.«object.__ne__»
  repeat (first
    | with_reducible refine wpAny_cRoomFor hu ?_
    | (refine wpAny_bind (m := callSpecialIfBound? (.ref x) (Str.ofString "__eq__") [.ref y])
        (PySem.W.ifBound_K X I hs hf (wpAny_mono hcall (fun r s' hr => by
          obtain ⟨b, rfl, hq⟩ := hr
          repeat (first | exact hq | exact wpAny_pure hq | exact wpAny_truthy_bool hq | (refine wpAny_bind (m := truthy (.bool _)) (wpAny_truthy_bool ?_)) | wp_step)) fun _ _ e => e)))
    | wp_step)
theorem ifBound_objNe {args : List Value} {Q : Option Value → Shared → Prop} (X : K.In s.heap) (I : PySem.W.InstAt s.heap x ox C od) (hs : PySem.W.findIn K (.ref C) "__ne__" = some (some (.builtin "object.__ne__")))
    (h : wpAny M A (call (.builtin "object.__ne__") (.ref x :: args)) (fun v => Q (some v)) E s) : wpAny M A (callSpecialIfBound? (.ref x) "__ne__" args) Q E s := by
  simp only [callSpecialIfBound?, bindSpecialIfBound?]
  refine wpAny_holding (wpAny_bind (wpAny_bind (wpAny_bind (I.type.here ((PySem.W.looks_findIn X hs).here ?_)))))
  refine wpAny_bind (wpAny_askSetting (wpAny_ite ?_))
  have fin : wpAny M A (call (.builtin "object.__ne__") ([.ref x] ++ args) >>= fun v => pure (some v)) Q E s := wpAny_bind (wpAny_mono h (fun v s' h' => wpAny_pure h') fun _ _ h' => h')
  split
  · exact wpAny_bind (wpAny_of_eq (F.cmp_object.ne.bind _) (wpAny_pure (by exact fin)))
  · exact wpAny_tryCatch (wpAny_bind (wpAny_of_eq (F.cmp_object.ne.bind _) (wpAny_pure (by exact fin))))
theorem rc_ne (hu : A.units + 1 < cLine) (X : K.In s.heap) (I : PySem.W.InstAt s.heap x ox C od) (J : PySem.W.InstAt s.heap y oy C oe) (hm : PySem.W.mroIn K C (.type "object") = some true) (hn : PySem.W.findIn K (.ref C) "__ne__" = some (some (.builtin "object.__ne__")))
    (hs : PySem.W.findIn K (.ref C) "__eq__" = some (some (.ref f))) (hf : PySem.W.isFn K (.ref f) = true) {Q : Value → Shared → Prop}
    (hcall : wpAny (model prog w) A.in1 (call (.ref f) [.ref x, .ref y]) (fun v s' => ∃ b, v = .bool b ∧ Q (.bool (!b)) s') E s) :
    wpAny (model prog w) A (richCompare .NotEq (.ref x) (.ref y)) Q E s := by
  have one : wpAny (model prog w) A (tryCompare (.ref x) "__ne__" (.ref y)) (fun r s' => ∃ b, r = some (.bool b) ∧ Q (.bool b) s') E s := by
    unfold tryCompare
    refine wpAny_bind (ifBound_objNe X I hn (wpAny_call (codeAny_call_builtin F.cmp_object.ne.plain F.cmpEntry_ne (PySem.W.check_slot F.cmpKind_ne F.cmpSplit_ne (I.type.andThen (PySem.W.looks_mroIn X hm)) (F.cmpArgs_ne _ _)
      (objNe_entry (A := A.in1) X I hs hf (by exact hu) (wpAny_mono hcall (fun v s' hv => ?_) fun _ _ e => e))))))
    obtain ⟨b, rfl, hq⟩ := hv
    first | exact ⟨b, rfl, wpAny_pure ⟨_, rfl, hq⟩⟩ | exact ⟨b, rfl, wpAny_pure (wpAny_pure ⟨_, rfl, hq⟩)⟩
  unfold richCompare
  simp only [oneThing_ref]
  refine wpAny_holding (wpAny_bind (wpAny_cRoomFor (Nat.lt_of_succ_lt hu) ?_))
  rw [cmpInfo_NotEq]
  dsimp only
  refine wpAny_bind (I.type.here (wpAny_bind (J.type.here ?_)))
  rw [show (Value.ref C != Value.ref C) = false from by simp]
  simp only [Bool.false_eq_true, if_false]
  refine wpAny_bind (wpAny_pure ?_)
  simp only [Bool.false_eq_true, if_false]
  refine wpAny_bind (wpAny_mono one (fun v s' hv => ?_) fun _ _ e => e)
  obtain ⟨b, rfl, hq⟩ := hv
  first | exact wpAny_pure hq | exact wpAny_pure (wpAny_pure hq)
end
/-- x != y, equal by the own == -/
def rNeG (D : Eqv) : R2 := fun x y H Q => D x y H ∧ ∀ H', Ext H H' → Q (.bl false) H'
section
variable {X : Cx} {n : Nat}
theorem op_neG {CX : CXT} {C f : Addr} {fd : FuncData} {ps : List Str} {R : Addr → Addr → Hp → Prop} {E : XK} (F : FnOk X.prog X.w X.K X.mg X.base CX n f fd ps (spEq R))
    (hm : PySem.W.mroIn X.K C (.type "object") = some true) (hn : PySem.W.findIn X.K (.ref C) "__ne__" = some (some (.builtin "object.__ne__")))
    (hs : PySem.W.findIn X.K (.ref C) "__eq__" = some (some (.ref f))) (hf : PySem.W.isFn X.K (.ref f) = true) (hb : Binds X.K fd ps []) (hx : Passes CX X E) (hr : Room (n + 1) X.A) : OpR X (compareOp .NotEq) (rNeG (DIns C R)) := by
  intro pins s σ H x y u v Q I rx ry hq
  obtain ⟨⟨a, b, dx, dy, fs, gs, rfl, rfl, ha, hb', hR⟩, q⟩ := hq
  cases rx
  cases ry
  obtain ⟨mA, J, _⟩ := ins_get I.hok ha
  obtain ⟨mB, J', _⟩ := ins_get I.hok hb'
  obtain ⟨od, J, _⟩ := J.look
  obtain ⟨od', J', _⟩ := J'.look
  show wpAny (model X.prog X.w) X.A (richCompare .NotEq (.ref a) (.ref b)) (EP X pins σ Q) X.xe s
  refine rc_ne (hr.mono (Nat.succ_le_succ (Nat.zero_le n)) |>.in1.units0) I.kIn J J' hm hn hs hf ?_
  have hsp : spEq R [.ref a, .ref b] H (fun v H' => v = .bl true ∧ Ext H H') E := ⟨a, b, rfl, hR, fun H' e => ⟨rfl, e⟩⟩
  have hl := F.len _ _ _ _ hsp
  have r2 : Vals [V.ref a, V.ref b] [Value.ref a, Value.ref b] := .cons rfl (.cons rfl .nil)
  have e0 : Env0 X.prog X.w X.K X.mg X.base X.A.in1 X.stack s H := I.env0.in1
  refine wpAny_call (codeAny_mono (F.run X.A.in1 X.stack s H ⟨[.ref a, .ref b], []⟩ [.ref a, .ref b] [.ref a, .ref b] _ E hr.in1 e0 (by
    have := hb s [.ref a, .ref b] I.kIn (by simpa using hl)
    simpa using this) r2 hsp) fun r s' hq => ?_)
  cases r with
  | error e => exact hx pins σ H s e s' I hq
  | ok fl =>
    cases fl with
    | ret w =>
      obtain ⟨z, H', I', rz, ez, ex⟩ := I.after hq
      subst ez
      cases rz
      exact ⟨true, rfl, .bl false, H', I', rfl, q H' ex⟩
    | next => exact False.elim hq
    | brk => exact False.elim hq
    | cont => exact False.elim hq
end
end Cw
namespace Cw
open PySem L2
def top (i : Nat) : Stmt := PySem.Challenge.pw_cutwalks_k05_limits_of_marks.main.body.getD i (.Pass ⟨0, 0, 0, 0⟩)
abbrev sIsInt : Stmt := top 8
abbrev sPlaces : Stmt := top 9
abbrev sAsc : Stmt := top 10
abbrev sMarks : Stmt := top 11
abbrev sSome : Stmt := top 12
abbrev sChange : Stmt := top 13
abbrev sRepl : Stmt := top 14
abbrev sRow : Stmt := top 18
theorem ifT {c : Bool} {A B : Prop} (h : c = true) (x : A) : if c = true then A else B := by
  rw [if_pos h]
  exact x
theorem ifF {c : Bool} {A B : Prop} (h : c = false) (x : B) : if c = true then A else B := by
  rw [h, if_neg Bool.false_ne_true]
  exact x
theorem same_new {H H1 : Hp} {p : Addr} {o : HO} (s : Same H H1) (h : H1 p = none) : Same H (upd H1 p o) := fun b u e => by
  rw [upd_ne (ne_of_none (s b u e) h)]
  exact s b u e
/-- what stands at D is replaced, D being new since H -/
theorem same_put {H H1 : Hp} {p : Addr} {o : HO} (s : Same H H1) (h : H p = none) : Same H (upd H1 p o) := fun b u e => by
  rw [upd_ne (ne_of_none e h)]
  exact s b u e
theorem all_true (n : Nat) : (List.replicate n true).all id = true := by
  induction n with
  | zero => rfl
  | succ n ih => rw [List.replicate_succ, List.all_cons, ih]; rfl
abbrev Asc (ns : List Int) : Prop := ns.Pairwise (· < ·)
/-- a list of ints stands at a -/
abbrev IL (H : Hp) (a : Addr) (ns : List Int) : Prop := H a = some (.lst (ns.map V.int))
theorem il_at {ns : List Int} {i : Nat} {x : V} (h : (ns.map V.int)[i]? = some x) : ∃ z, x = V.int z ∧ ns[i]? = some z := by
  rw [List.getElem?_map] at h
  cases e : ns[i]? with
  | none => rw [e] at h; cases h
  | some z => rw [e] at h; exact ⟨z, (Option.some.inj h).symm, rfl⟩
/-- what the names of the built-ins hold -/
structure Bl (mg : Str → Option Value) : Prop where
  int : mg "int" = none
  bool : mg "bool" = none
  list : mg "list" = none
  tuple : mg "tuple" = none
  range : mg "range" = none
  len : mg "len" = none
  abs : mg "abs" = none
  all : mg "all" = none
  isi : mg "isinstance" = none
  zip : mg "zip" = none
  max : mg "max" = none
  min : mg "min" = none
  set : mg "set" = none
  sorted : mg "sorted" = none
  dict : mg "dict" = none
def spOne : Sp := fun vs H Q _ => ∃ i : Int, vs = [.int i] ∧ Q (.bl true) H
/-- places from low to high -/
def spPlaces : Sp := fun vs H Q _ => ∃ (a : Addr) (ns : List Int) (lo hi : Int), vs = [.ref a, .int lo, .int hi] ∧ IL H a ns ∧ ns.length ≤ 1000 ∧ (∀ x ∈ ns, lo ≤ x ∧ x ≤ hi) ∧ ∀ H', Same H H' → Q (.bl true) H'
def spAsc : Sp := fun vs H Q _ => ∃ (a : Addr) (ns : List Int) (lo hi : Int), vs = [.ref a, .int lo, .int hi] ∧ IL H a ns ∧ ns.length ≤ 1000 ∧ (∀ x ∈ ns, lo ≤ x ∧ x ≤ hi) ∧ Asc ns ∧ ∀ H', Same H H' → Q (.bl true) H'
def spMarks : Sp := fun vs H Q _ => ∃ (a : Addr) (ns : List Int) (hi : Int), vs = [.ref a, .int hi] ∧ IL H a ns ∧ ns.length ≤ 400 ∧ (∀ x ∈ ns, 1 ≤ x ∧ x ≤ hi) ∧ Asc ns ∧ ∀ H', Same H H' → Q (.bl true) H'
def spSome : Sp := fun vs H Q _ => ∃ (a b : Addr) (ns ms : List Int), vs = [.ref a, .ref b] ∧ IL H a ns ∧ IL H b ms ∧ ns.length ≤ 400 ∧ ms.length ≤ 400 ∧ Asc ns ∧ (∀ x ∈ ns, 1 ≤ x) ∧ (∀ x ∈ ns, x ∈ ms) ∧ ∀ H', Same H H' → Q (.bl true) H'
section
variable {P : Program} {w : World} {K : PySem.W.Frag} {mg : Str → Option Value} {base : Heap}
theorem scI : FnScope ["thing"] ["thing"] (defScope sIsInt) := ⟨rfl, rfl, rfl, by decide +kernel, rfl, by decide +kernel, by decide +kernel⟩
theorem ok_int {f : Addr} {fd : FuncData} (F : Fun K "is_integer" "is_integer" sIsInt f fd) (T : Bl mg) : FnOk P w K mg base CX0 1 f fd ["thing"] spOne := by
  refine F.ok scI (fun vs H Q E h => ?_) (fun cdv A outer s H vs Q E hr h => ?_)
  · obtain ⟨i, rfl, _⟩ := h
    rfl
  · obtain ⟨i, rfl, k⟩ := h
    refine ⟨_, pss_one (ps_ret (pe_and (pe_callB call_isi (by rfl) T.isi (by decide +kernel) (pa_cons (pv 0) (pa_cons (pe_bltn (by rfl) T.int (by decide +kernel) (v := V.ty "int") rfl) pa_nil)))
      (pe_one (pe_not (pe_callB call_isi (by rfl) T.isi (by decide +kernel) (pa_cons (pv 0) (pa_cons (pe_bltn (by rfl) T.bool (by decide +kernel) (v := V.ty "bool") rfl) pa_nil))))))), ?_⟩
    refine ⟨_, rfl, _, _, _, _, true, rfl, ClsV.ty _, .base (.int i), kit_ty (by decide +kernel), _, rfl, ?_⟩
    refine ifT rfl ?_
    refine ⟨_, rfl, _, _, _, _, false, rfl, ClsV.ty _, .base (.int i), kit_ty (by decide +kernel), _, rfl, ?_⟩
    exact k
theorem scP : FnScope ["thing", "low", "high", "place"] ["thing", "low", "high"] (defScope sPlaces) := ⟨rfl, rfl, rfl, by decide +kernel, rfl, by decide +kernel, by decide +kernel⟩
theorem ok_places {f fI : Addr} {fd fdI : FuncData} (F : Fun K "are_places" "are_places" sPlaces f fd) (T : Bl mg) (gI : mg "is_integer" = some (.ref fI)) (kI : PySem.W.keepIn K (.ref fI) = true) (bI : Binds K fdI ["thing"] []) (GI : FnOk P w K mg base CX0 1 fI fdI ["thing"] spOne) :
    FnOk P w K mg base CX0 2 f fd ["thing", "low", "high"] spPlaces := by
  refine F.ok scP (fun vs H Q E h => ?_) (fun cdv A outer s H vs Q E hr h => ?_)
  · obtain ⟨a, ns, lo, hi, rfl, _⟩ := h
    rfl
  · obtain ⟨a, ns, lo, hi, rfl, hS, hl, hb, k⟩ := h
    refine ⟨_, pss_cons (ps_if (pt_not (pt_val (pe_callB call_isi (by rfl) T.isi (by decide +kernel) (pa_cons (pv 0) (pa_cons (pe_bltn (by rfl) T.list (by decide +kernel) (v := V.ty "list") rfl) pa_nil))))) (pss_one (ps_ret pe_bl)) pss_nil)
      (pss_one (ps_ret (pe_callB (cr_all rfl) (by rfl) T.all (by decide +kernel) (pa_cons (pe_lc (own := [("place", 3)]) (g := gName 3) (tt := tYes) rfl scP.nd
        (pi_list (pv 0)) (blkOk_by (own := [("place", 3)]) (N := ["thing", "low", "high", "place"]) (sc := defScope sPlaces) (by decide +kernel)) (fun _ _ _ _ _ => pg_name (i := 3) scP.nd rfl (Or.inl rfl)) (fun _ _ _ _ _ => pts_nil)
        (fun _ _ _ _ _ => pe_and (pe_call GI hr rfl gI kI bI .nil pass0 (pa_cons (pv 3) pa_nil)) (pe_one (pe_chain op_le op_le (pv 1) (pv 3) (pv 2))))) pa_nil)))), ?_⟩
    refine ⟨_, rfl, _, _, _, _, true, rfl, ClsV.ty _, .base (.lst hS), kit_ty (by decide +kernel), _, rfl, ?_⟩
    refine ifF rfl ?_
    refine ⟨_, rfl, a, rfl, ⟨_, SqL.of hS⟩, fun D hD => ?_⟩
    refine lc_list (K := K) (a := a) (xs := ns.map V.int) (fun i H' => Same H H' ∧ H' D = some (.lst (List.replicate i (V.bl true)))) ⟨same_new (Same.refl H) hD, upd_same⟩ (fun i H' _ q => SqL.of (q.1 _ _ hS)) ?_ ?_
    · rintro i x H' hx ⟨s1, hD'⟩
      obtain ⟨z, rfl, hz⟩ := il_at hx
      have hil : i < ns.length := (List.getElem?_eq_some_iff.mp hz).1
      obtain ⟨b1, b2⟩ := hb z (List.mem_of_getElem? hz)
      refine ⟨rfl, ?_⟩
      unfold tYes
      refine iteT ?_
      refine ⟨_, rfl, _, rfl, _, rfl, ?_⟩
      refine ifT rfl ?_
      refine ⟨_, rfl, _, rfl, _, _, rfl, rfl, _, rfl, ?_⟩
      refine ifT (by simp [b1]) ?_
      refine ⟨_, rfl, _, _, rfl, rfl, ?_⟩
      refine ⟨_, hD', by rw [List.length_replicate]; exact small1000 (by omega), same_put s1 hD, ?_⟩
      rw [upd_same, List.replicate_succ']
      simp [b2]
    · rintro H' ⟨s1, hD'⟩
      refine ⟨D, List.replicate ns.length true, rfl, SqL.of (by rw [hD', List.map_replicate, List.length_map]), ?_⟩
      rw [all_true]
      exact k _ s1
end
end Cw
namespace Cw
open PySem L2
theorem cut_one (xs : List V) : cutV xs (some 1) none = xs.drop 1 := by
  unfold cutV
  have e1 : HT.sIx xs.length 0 (some 1) = min 1 xs.length := HT.sIx_nat xs.length 0 1
  rw [e1, HT.sIx_none]
  cases xs with
  | nil => rfl
  | cons x r =>
    have e2 : min 1 (x :: r).length = 1 := by
      rw [List.length_cons]
      omega
    rw [e2, List.drop_succ_cons, List.drop_zero, List.length_cons, Nat.add_sub_cancel]
    exact List.take_length
section
variable {P : Program} {w : World} {K : PySem.W.Frag} {mg : Str → Option Value} {base : Heap}
abbrev NA : List Str := ["thing", "low", "high", "before", "place"]
theorem scA : FnScope NA ["thing", "low", "high"] (defScope sAsc) := ⟨rfl, rfl, rfl, by decide +kernel, rfl, by decide +kernel, by decide +kernel⟩
theorem ok_asc {f fP : Addr} {fd fdP : FuncData} (F : Fun K "are_ascending" "are_ascending" sAsc f fd) (T : Bl mg) (gP : mg "are_places" = some (.ref fP)) (kP : PySem.W.keepIn K (.ref fP) = true) (bP : Binds K fdP ["thing", "low", "high"] []) (GP : FnOk P w K mg base CX0 2 fP fdP ["thing", "low", "high"] spPlaces) :
    FnOk P w K mg base CX0 3 f fd ["thing", "low", "high"] spAsc := by
  refine F.ok scA (fun vs H Q E h => ?_) (fun cdv A outer s H vs Q E hr h => ?_)
  · obtain ⟨a, ns, lo, hi, rfl, _⟩ := h
    rfl
  · obtain ⟨a, ns, lo, hi, rfl, hS, hl, hb, ha, k⟩ := h
    refine ⟨_, pss_cons (ps_if (pt_not (pt_val (pe_call GP hr rfl gP kP bP .nil pass0 (pa_cons (pv 0) (pa_cons (pv 1) (pa_cons (pv 2) pa_nil)))))) (pss_one (ps_ret pe_bl)) pss_nil)
      (pss_one (ps_ret (pe_callB (cr_all rfl) (by rfl) T.all (by decide +kernel) (pa_cons (pe_lc (own := [("before", 3), ("place", 4)]) (g := gTup K 2 (gCons (gName 3) (gCons (gName 4) gNil))) (tt := tYes) rfl scA.nd
        (pi_zip (by rfl) T.zip (pa_cons (pv 0) (pa_cons (pe_slice sl_list (pv 0) (po_some pe_int) po_none) pa_nil))) (blkOk_by (own := [("before", 3), ("place", 4)]) (N := NA) (sc := defScope sAsc) (by decide +kernel))
        (fun _ _ _ _ _ => pg_tup rfl (pgs_cons (pg_name (i := 3) scA.nd rfl (Or.inl rfl)) (pgs_cons (pg_name (i := 4) scA.nd rfl (Or.inl rfl)) pgs_nil))) (fun _ _ _ _ _ => pts_nil)
        (fun _ _ _ _ _ => pe_cmpR op_lt (pv 3) (pv 4) (nomark _))) pa_nil)))), ?_⟩
    refine ⟨_, rfl, _, rfl, _, rfl, a, ns, lo, hi, rfl, hS, hl, hb, fun H1 s1 => ⟨_, rfl, ?_⟩⟩
    refine ifF rfl ?_
    refine ⟨_, rfl, _, rfl, 1, rfl, a, _, rfl, SqL.of (s1 _ _ hS), fun c nc => ?_⟩
    have s2 := same_new (o := .lst (cutV (ns.map V.int) (some 1) none)) s1 nc
    rw [cut_one] at s2
    rw [cut_one]
    refine ⟨a, c, _, _, rfl, SqL.of (s2 _ _ hS), SqL.of upd_same, fun D hD => ?_⟩
    have nc' : H c = none := s1.free nc
    have ncD : c ≠ D := ne_of_none upd_same hD
    have hn : ns.length - 1 = min (ns.map V.int).length ((ns.map V.int).drop 1).length := by
      rw [List.length_drop, List.length_map]
      omega
    refine lc_it (walk_zip hn) (fun i H' => Same H H' ∧ H' c = some (.lst ((ns.map V.int).drop 1)) ∧ H' D = some (.lst (List.replicate i (V.bl true)))) ⟨same_new s2 hD, by rw [upd_ne ncD]; exact upd_same, upd_same⟩ (fun i H' _ q => ⟨SqL.of (q.1 _ _ hS), SqL.of q.2.1⟩) ?_ ?_
    · rintro i x H' H'' hi ⟨s3, hc, hD'⟩ ⟨t, x1, x2, rfl, nt, rfl, e1, e2⟩
      have h1 : i < ns.length := by omega
      have h2 : i + 1 < ns.length := by omega
      have g1 : x1 = .int ns[i] := by
        dsimp only at e1
        rw [List.getElem?_map, List.getElem?_eq_getElem h1] at e1
        exact (Option.some.inj e1).symm
      have g2 : x2 = .int ns[i + 1] := by
        dsimp only at e2
        rw [List.getElem?_drop, List.getElem?_map, Nat.add_comm 1 i, List.getElem?_eq_getElem h2] at e2
        exact (Option.some.inj e2).symm
      subst g1 g2
      have hlt : ns[i] < ns[i + 1] := List.pairwise_iff_getElem.mp ha i (i + 1) h1 h2 (Nat.lt_succ_self i)
      have ntc : c ≠ t := ne_of_none hc nt
      have ntD : D ≠ t := ne_of_none hD' nt
      refine ⟨t, _, rfl, SqT.of upd_same, rfl, _, _, rfl, _, _, rfl, rfl, rfl, ?_⟩
      unfold tYes
      refine iteT ?_
      refine ⟨_, rfl, _, rfl, _, _, rfl, rfl, ?_⟩
      refine ⟨_, (by rw [upd_ne ntD]; exact hD'), by rw [List.length_replicate]; exact small1000 (by omega), same_put (same_new s3 nt) (s2.trans (Same.refl _) |>.free hD), ?_, ?_⟩
      · rw [upd_ne ncD, upd_ne ntc]
        exact hc
      · rw [upd_same, List.replicate_succ']
        simp [hlt]
    · rintro H' ⟨s3, hc, hD'⟩
      refine ⟨D, List.replicate (ns.length - 1) true, rfl, SqL.of (by rw [hD', List.map_replicate]), ?_⟩
      rw [all_true]
      exact k _ s3
theorem scM : FnScope ["thing", "high"] ["thing", "high"] (defScope sMarks) := ⟨rfl, rfl, rfl, by decide +kernel, rfl, by decide +kernel, by decide +kernel⟩
theorem ok_marks {f fA : Addr} {fd fdA : FuncData} {t : Tok} (F : Fun K "are_marks" "are_marks" sMarks f fd) (T : Bl mg) (gN : mg "MOST_MARKS" = some (.int 400 t)) (gA : mg "are_ascending" = some (.ref fA)) (kA : PySem.W.keepIn K (.ref fA) = true) (bA : Binds K fdA ["thing", "low", "high"] []) (GA : FnOk P w K mg base CX0 3 fA fdA ["thing", "low", "high"] spAsc) :
    FnOk P w K mg base CX0 4 f fd ["thing", "high"] spMarks := by
  refine F.ok scM (fun vs H Q E h => ?_) (fun cdv A outer s H vs Q E hr h => ?_)
  · obtain ⟨a, ns, hi, rfl, _⟩ := h
    rfl
  · obtain ⟨a, ns, hi, rfl, hS, hl, hb, ha, k⟩ := h
    refine ⟨_, pss_one (ps_ret (pe_and (pe_call GA hr rfl gA kA bA .nil pass0 (pa_cons (pv 0) (pa_cons pe_int (pa_cons (pv 1) pa_nil))))
      (pe_one (pe_cmpR op_le (pe_callB call_len_seq (by rfl) T.len PySem.boot_len (pa_cons (pv 0) pa_nil)) (pe_glob rfl gN (v := V.int 400) ⟨_, rfl⟩) (nomark _))))), ?_⟩
    refine ⟨_, rfl, _, rfl, a, ns, 1, hi, rfl, hS, by omega, hb, ha, fun H1 s1 => ⟨_, rfl, ?_⟩⟩
    refine ifT rfl ?_
    refine ⟨_, rfl, a, _, rfl, .inl (SqL.of (s1 _ _ hS)), _, _, rfl, rfl, ?_⟩
    have e : decide (((ns.map V.int).length : Int) ≤ 400) = true := by
      rw [List.length_map]
      exact decide_eq_true (by omega)
    have z := k _ s1
    rw [← e] at z
    exact z
theorem scSo : FnScope ["thing", "marks"] ["thing", "marks"] (defScope sSome) := ⟨rfl, rfl, rfl, by decide +kernel, rfl, by decide +kernel, by decide +kernel⟩
theorem ok_some {f fA : Addr} {fd fdA : FuncData} (F : Fun K "are_some_of" "are_some_of" sSome f fd) (T : Bl mg) (gA : mg "are_ascending" = some (.ref fA)) (kA : PySem.W.keepIn K (.ref fA) = true) (bA : Binds K fdA ["thing", "low", "high"] []) (GA : FnOk P w K mg base CX0 3 fA fdA ["thing", "low", "high"] spAsc) :
    FnOk P w K mg base CX0 4 f fd ["thing", "marks"] spSome := by
  refine F.ok scSo (fun vs H Q E h => ?_) (fun cdv A outer s H vs Q E hr h => ?_)
  · obtain ⟨a, b, ns, ms, rfl, _⟩ := h
    rfl
  · obtain ⟨a, b, ns, ms, rfl, hS, hM, hl, hm, ha, h1, hsub, k⟩ := h
    have hu := hr.units
    refine ⟨_, pss_cons (ps_if (pt_not (pt_val (pe_call GA hr rfl gA kA bA .nil pass0 (pa_cons (pv 0) (pa_cons pe_int (pa_cons (pe_callBK (cr_maxD rfl (Nat.lt_of_le_of_lt (Nat.add_le_add_left (by decide : 3 ≤ 64) _) hu)) (by rfl) T.max (by decide +kernel) (pa_cons (pv 1) pa_nil) (pk_cons pe_int pk_nil)) pa_nil)))))) (pss_one (ps_ret pe_bl)) pss_nil)
      (pss_one (ps_ret (pe_cmpR op_eq (pe_callB cr_lenS (by rfl) T.len PySem.boot_len (pa_cons (pe_op op_subN (pe_callTy (cr_setOf rfl) (by rfl) T.set (by decide +kernel) (pa_cons (pv 0) pa_nil)) (pe_callTy (cr_setOf rfl) (by rfl) T.set (by decide +kernel) (pa_cons (pv 1) pa_nil))) pa_nil)) pe_int (nomark _)))), ?_⟩
    refine ⟨_, rfl, _, rfl, b, ms, 0, rfl, SqL.of hM, rfl, fun M _ hM2 => ?_⟩
    refine ⟨a, ns, 0, M, rfl, hS, by omega, fun x hx => ⟨Int.le_trans (by decide) (h1 x hx), hM2 x (hsub x hx)⟩, ha, fun H1 s1 => ⟨_, rfl, ?_⟩⟩
    refine ifF rfl ?_
    refine ⟨_, rfl, a, ns, rfl, SqL.of (s1 _ _ hS), by omega, fun p c _ hp => ?_⟩
    have s2 := same_new (o := SetO w p (fun j => decide (j ∈ ns)) c) s1 hp
    refine ⟨_, rfl, b, ms, rfl, SqL.of (s2 _ _ hM), by omega, fun p2 c2 _ hp2 => ?_⟩
    have s3 := same_new (o := SetO w p2 (fun j => decide (j ∈ ms)) c2) s2 hp2
    have n12 : p ≠ p2 := ne_of_none upd_same hp2
    refine ⟨p, p2, _, _, _, _, rfl, rfl, by rw [upd_ne n12]; exact upd_same, upd_same, fun j hj => decide_eq_true (hsub j (of_decide_eq_true hj)), fun p3 hp3 => ?_⟩
    refine ⟨p3, _, 0, rfl, upd_same, rfl, ?_⟩
    have e : decide (V.int ((0 : Nat) : Int) = V.int 0) = true := by simp
    have z := k _ (same_new (o := SetO w p3 (fun _ => false) 0) s3 hp3)
    rw [← e] at z
    exact z
end
end Cw
namespace Cw
open PySem L2
abbrev sInit : Stmt := inClass sRow 0
abbrev sGetM : Stmt := inClass sRow 2
abbrev sEq : Stmt := inClass sRow 6
abbrev sChanged : Stmt := inClass sRow 11
theorem k12 : ¬ (("_length" : Str) = "_marks") := by decide +kernel
theorem k13 : ¬ (("_length" : Str) = "_strict") := by decide +kernel
theorem k23 : ¬ (("_marks" : Str) = "_strict") := by decide +kernel
def flds (n : Int) (l1 l2 : Addr) : List (Str × V) := putF "_strict" (.ref l2) (putF "_marks" (.ref l1) (putF "_length" (.int n) []))
theorem flds_eq (n : Int) (l1 l2 : Addr) : flds n l1 l2 = ([("_length", V.int n), ("_marks", V.ref l1), ("_strict", V.ref l2)] : List (Str × V)) := by
  unfold flds
  rw [show putF "_length" (V.int n) [] = ([("_length", V.int n)] : List (Str × V)) from rfl]
  rw [show putF "_marks" (V.ref l1) ([("_length", V.int n)] : List (Str × V)) = (if ("_length" : Str) = "_marks" then ([("_length", V.ref l1)] : List (Str × V)) else ("_length", V.int n) :: putF "_marks" (V.ref l1) []) from rfl, if_neg k12]
  rw [show putF "_marks" (V.ref l1) [] = ([("_marks", V.ref l1)] : List (Str × V)) from rfl]
  rw [show putF "_strict" (V.ref l2) ([("_length", V.int n), ("_marks", V.ref l1)] : List (Str × V)) = (if ("_length" : Str) = "_strict" then ([("_length", V.ref l2), ("_marks", V.ref l1)] : List (Str × V)) else ("_length", V.int n) :: (if ("_marks" : Str) = "_strict" then ([("_marks", V.ref l2)] : List (Str × V)) else ("_marks", V.ref l1) :: putF "_strict" (V.ref l2) [])) from rfl, if_neg k13, if_neg k23]
  rfl
theorem fl_L (n : Int) (l1 l2 : Addr) : (flds n l1 l2).lookup ("_length" : Str) = some (.int n) := by
  unfold flds
  rw [lookup_putF, if_neg k13, lookup_putF, if_neg k12, lookup_putF, if_pos rfl]
theorem fl_M (n : Int) (l1 l2 : Addr) : (flds n l1 l2).lookup ("_marks" : Str) = some (.ref l1) := by
  unfold flds
  rw [lookup_putF, if_neg k23, lookup_putF, if_pos rfl]
theorem fl_S (n : Int) (l1 l2 : Addr) : (flds n l1 l2).lookup ("_strict" : Str) = some (.ref l2) := by
  unfold flds
  rw [lookup_putF, if_pos rfl]
theorem fl_no (n : Int) (l1 l2 : Addr) {m : Str} (h1 : ¬ m = "_length") (h2 : ¬ m = "_marks") (h3 : ¬ m = "_strict") : (flds n l1 l2).lookup m = none := by
  unfold flds
  rw [lookup_putF, if_neg h3, lookup_putF, if_neg h2, lookup_putF, if_neg h1]
  rfl
/-- what a row is -/
structure Good (n : Int) (ms ss : List Int) : Prop where
  pos : 1 ≤ n
  len : ms.length ≤ 400
  rng : ∀ x ∈ ms, 1 ≤ x ∧ x ≤ n - 1
  asc : Asc ms
  asc2 : Asc ss
  sub : ∀ x ∈ ss, x ∈ ms
theorem Good.len2 {n : Int} {ms ss : List Int} (g : Good n ms ss) : ss.length ≤ 400 :=
  Nat.le_trans (nodup_len (g.asc2.imp fun h e => by omega) g.sub) g.len
/-- a row stands at p -/
def RowAt (C : Addr) (H : Hp) (p : Addr) (n : Int) (ms ss : List Int) : Prop := ∃ dx l1 l2, H p = some (.ins C dx (flds n l1 l2)) ∧ IL H l1 ms ∧ IL H l2 ss
theorem RowAt.same {C : Addr} {H H' : Hp} {p : Addr} {n : Int} {ms ss : List Int} (r : RowAt C H p n ms ss) (s : Same H H') : RowAt C H' p n ms ss := by
  obtain ⟨dx, l1, l2, a, b, c⟩ := r
  exact ⟨dx, l1, l2, s _ _ a, s _ _ b, s _ _ c⟩
/-- a row has been made at p, its lists are new since H -/
def RowNew (C : Addr) (H H' : Hp) (p : Addr) (n : Int) (ms ss : List Int) : Prop := ∃ dx l1 l2, H' p = some (.ins C dx (flds n l1 l2)) ∧ IL H' l1 ms ∧ IL H' l2 ss ∧ H l1 = none ∧ H l2 = none
theorem RowNew.at {C : Addr} {H H' : Hp} {p : Addr} {n : Int} {ms ss : List Int} (r : RowNew C H H' p n ms ss) : RowAt C H' p n ms ss := by
  obtain ⟨dx, l1, l2, a, b, c, _⟩ := r
  exact ⟨dx, l1, l2, a, b, c⟩
theorem none_of {H H' : Hp} {l : Addr} (k : ∀ c o, H c = some o → ∃ o', H' c = some o') (h : H' l = none) : H l = none := by
  cases e : H l with
  | none => rfl
  | some o =>
    obtain ⟨o', z⟩ := k _ _ e
    rw [h] at z
    cases z
theorem RowNew.mono {C : Addr} {H0 H H' : Hp} {p : Addr} {n : Int} {ms ss : List Int} (r : RowNew C H H' p n ms ss) (k : ∀ c o, H0 c = some o → ∃ o', H c = some o') : RowNew C H0 H' p n ms ss := by
  obtain ⟨dx, l1, l2, a, b, c, d, e⟩ := r
  exact ⟨dx, l1, l2, a, b, c, none_of k d, none_of k e⟩
structure Cl (K : PySem.W.Frag) (mg : Str → Option Value) (C : Addr) : Prop where
  cl : Cls K C
  nL : NoAttr K C "_length"
  nM : NoAttr K C "_marks"
  nS : NoAttr K C "_strict"
  mgR : mg "Row" = some (.ref C)
  kit : PySem.W.kitOne K (.ref C) (.ref C) = some true
/-- Row(n, marks, strict): from the new instance on -/
def spInit (C : Addr) : Sp := fun vs H Q _ => ∃ (x dx a b : Addr) (n : Int) (ms ss : List Int), vs = [.ref x, .int n, .ref a, .ref b] ∧ H x = some (.ins C dx []) ∧ IL H a ms ∧ IL H b ss ∧ Good n ms ss ∧
  ∀ H', RowNew C H H' x n ms ss → (∀ c o, H c = some o → c ≠ x → H' c = some o) → Q .non H'
section
variable {P : Program} {w : World} {K : PySem.W.Frag} {mg : Str → Option Value} {base : Heap}
abbrev NI : List Str := ["self", "length", "marks", "strict"]
theorem scIn : FnScope NI NI (defScope sInit) := ⟨rfl, rfl, rfl, by decide +kernel, rfl, by decide +kernel, by decide +kernel⟩
theorem ok_init {f C fI fM fS : Addr} {fd fdI fdM fdS : FuncData} (F : Fun K "__init__" "Row.__init__" sInit f fd) (T : Bl mg) (R : Cl K mg C)
    (gI : mg "is_integer" = some (.ref fI)) (kI : PySem.W.keepIn K (.ref fI) = true) (bI : Binds K fdI ["thing"] []) (GI : FnOk P w K mg base CX0 1 fI fdI ["thing"] spOne)
    (gM : mg "are_marks" = some (.ref fM)) (kM : PySem.W.keepIn K (.ref fM) = true) (bM : Binds K fdM ["thing", "high"] []) (GM : FnOk P w K mg base CX0 4 fM fdM ["thing", "high"] spMarks)
    (gS : mg "are_some_of" = some (.ref fS)) (kS : PySem.W.keepIn K (.ref fS) = true) (bS : Binds K fdS ["thing", "marks"] []) (GS : FnOk P w K mg base CX0 4 fS fdS ["thing", "marks"] spSome) :
    FnOk P w K mg base CX0 5 f fd NI (spInit C) := by
  refine F.ok scIn (fun vs H Q E h => ?_) (fun cdv A outer s H vs Q E hr h => ?_)
  · obtain ⟨x, dx, a, b, n, ms, ss, rfl, _⟩ := h
    rfl
  · obtain ⟨x, dx, a, b, n, ms, ss, rfl, hx, hM, hS, G, k⟩ := h
    have hr1 : Room 1 (A.deeper (PyProof.Rows.envOfC "Row.__init__" (defScope sInit) s.heap.objs.size f cdv)) := hr.mono (by decide)
    refine ⟨_, pss_cons (ps_if (PW.pt (pw_or (pt_not (pt_val (pe_call GI hr1 rfl gI kI bI .nil pass0 (pa_cons (pv 1) pa_nil)))) (pw_or1 (pt_cmpR op_lt (pv 1) pe_int (nomark _))))) pss_never pss_nil)
      (pss_cons (ps_if (pt_not (pt_val (pe_call GM hr rfl gM kM bM .nil pass0 (pa_cons (pv 2) (pa_cons (pe_op op_sub (pv 1) pe_int) pa_nil))))) pss_never pss_nil)
      (pss_cons (ps_if (pt_not (pt_val (pe_call GS hr rfl gS kS bS .nil pass0 (pa_cons (pv 3) (pa_cons (pv 2) pa_nil))))) pss_never pss_nil)
      (pss_cons (ps_fld (pv 0) (pv 1) rfl)
      (pss_cons (ps_fld (pv 0) (pe_callTy call_list_of (by rfl) T.list (by decide +kernel) (pa_cons (pv 2) pa_nil)) rfl)
      (pss_one (ps_fld (pv 0) (pe_callTy call_list_of (by rfl) T.list (by decide +kernel) (pa_cons (pv 3) pa_nil)) rfl)))))), ?_⟩
    have hp := G.pos
    refine ⟨_, rfl, n, rfl, _, rfl, ?_⟩
    refine ifF rfl ?_
    refine ⟨_, rfl, _, _, rfl, rfl, _, rfl, ?_⟩
    refine ifF (decide_eq_false (by omega)) ?_
    refine ⟨_, rfl, _, rfl, _, _, rfl, rfl, a, ms, n - 1, rfl, hM, G.len, G.rng, G.asc, fun H1 s1 => ⟨_, rfl, ?_⟩⟩
    refine ifF rfl ?_
    refine ⟨_, rfl, _, rfl, b, a, ss, ms, rfl, s1 _ _ hS, s1 _ _ hM, G.len2, G.len, G.asc2, (fun y hy => (G.rng y (G.sub y hy)).1), G.sub, fun H2 s2 => ⟨_, rfl, ?_⟩⟩
    refine ifF rfl ?_
    have s12 := s1.trans s2
    refine ⟨_, rfl, _, rfl, x, C, dx, _, rfl, s12 _ _ hx, R.cl, R.nL, (by show 0 < 1000; decide), ?_⟩
    have na : a ≠ x := ne_of hM hx (by intro z; cases z)
    have nb : b ≠ x := ne_of hS hx (by intro z; cases z)
    have hM3 : ∀ o, IL (upd H2 x o) a ms := fun o => by
      show upd H2 x o a = _
      rw [upd_ne na]
      exact s12 _ _ hM
    have hS3 : ∀ o, IL (upd H2 x o) b ss := fun o => by
      show upd H2 x o b = _
      rw [upd_ne nb]
      exact s12 _ _ hS
    refine ⟨_, rfl, a, _, rfl, .inl (SqL.of (hM3 _)), fun l1 h1 => ?_⟩
    have nx1 : x ≠ l1 := ne_of_none upd_same h1
    have nb1 : b ≠ l1 := ne_of_none (hS3 _) h1
    refine ⟨_, rfl, x, C, dx, _, rfl, (by rw [upd_ne nx1]; exact upd_same), R.cl, R.nM, (by show 1 < 1000; decide), ?_⟩
    refine ⟨_, rfl, b, ss.map V.int, rfl, .inl (SqL.of (by rw [upd_ne nb, upd_ne nb1]; exact hS3 _)), fun l2 h2 => ?_⟩
    have nx2 : x ≠ l2 := ne_of_none upd_same h2
    have n12 : l1 ≠ l2 := ne_of_none (show _ = some (HO.lst (ms.map V.int)) by rw [upd_ne (Ne.symm nx1)]; exact upd_same) h2
    refine ⟨_, rfl, x, C, dx, _, rfl, (by rw [upd_ne nx2]; exact upd_same), R.cl, R.nS, (by show 2 < 1000; decide), ?_⟩
    have up : ∀ (H : Hp) (x : Addr) (o' : HO) (c : Addr) (o : HO), H c = some o → ∃ o'', upd H x o' c = some o'' := fun H x o' c o e => by
      by_cases z : c = x
      · exact ⟨o', by rw [z]; exact upd_same⟩
      · exact ⟨o, by rw [upd_ne z]; exact e⟩
    have f1 : H l1 = none := none_of (fun c o e => up _ _ _ _ _ (s12 _ _ e)) h1
    have f2 : H l2 = none := none_of (fun c o e => by
      obtain ⟨o1, e1⟩ := up H2 x (.ins C dx (putF "_length" (V.int n) [])) _ _ (s12 _ _ e)
      obtain ⟨o2, e2⟩ := up _ l1 (.lst (ms.map V.int)) _ _ e1
      exact up _ _ _ _ _ e2) h2
    refine k _ ⟨dx, l1, l2, upd_same, ?_, ?_, f1, f2⟩ ?_
    · show upd _ _ _ l1 = _
      rw [upd_ne (Ne.symm nx1), upd_ne n12, upd_ne (Ne.symm nx1)]
      exact upd_same
    · show upd _ _ _ l2 = _
      rw [upd_ne (Ne.symm nx2)]
      exact upd_same
    · intro c o ec nc
      have e3 : ∀ o', upd H2 x o' c = some o := fun o' => by
        rw [upd_ne nc]
        exact s12 _ _ ec
      have e4 := e3 (.ins C dx (putF "_length" (V.int n) []))
      have ne1 : c ≠ l1 := ne_of_none e4 h1
      rw [upd_ne nc]
      have e5 : upd (upd (upd H2 x (.ins C dx (putF "_length" (V.int n) []))) l1 (.lst (ms.map V.int))) x (.ins C dx (putF "_marks" (V.ref l1) (putF "_length" (V.int n) []))) c = some o := by
        rw [upd_ne nc, upd_ne ne1]
        exact e4
      rw [upd_ne (ne_of_none e5 h2)]
      exact e5
end
end Cw
namespace Cw
open PySem PySem.Spec PyProof.Rows L2
theorem dps_ints {K : PySem.W.Frag} {H : Hp} : ∀ ns : List Int, DpAll K H (ns.map V.int) (ns.map PyData.int)
  | [] => .nil
  | n :: r => .cons (.int n) (dps_ints r)
theorem dp_il {K : PySem.W.Frag} {H : Hp} {a : Addr} {ns : List Int} (h : IL H a ns) : Dp K H (.ref a) (.list (ns.map PyData.int)) := .lst (SqL.of h) (dps_ints ns)
theorem depth_ints : ∀ ns : List Int, PyData.depthAll (ns.map PyData.int) ≤ 1 := fun ns => by
  induction ns with
  | nil => exact Nat.zero_le _
  | cons n r ih =>
    rw [List.map_cons]
    unfold PyData.depthAll PyData.depth
    omega
theorem lay_ints : ∀ ns : List Int, PyData.canLayAll0 (ns.map PyData.int) = true := fun ns => by
  induction ns with
  | nil => rfl
  | cons n r ih =>
    rw [List.map_cons]
    unfold PyData.canLayAll0 PyData.canLay0
    rw [ih]
    rfl
theorem shape_il (ns : List Int) : SeqAt.shaped (.list (ns.map PyData.int)) = true := by
  have h1 : PyData.canLay0 (.list (ns.map PyData.int)) = true := by
    unfold PyData.canLay0
    exact lay_ints ns
  have h2 : PyData.depth (.list (ns.map PyData.int)) ≤ 64 := by
    have z := depth_ints ns
    unfold PyData.depth
    omega
  unfold SeqAt.shaped
  rw [h1, decide_eq_true h2]
  rfl
theorem eqv_il (ns : List Int) : PyData.eqv (.list (ns.map PyData.int)) (.list (ns.map PyData.int)) = true := SeqAt.eqv_refl _ (SeqAt.canLay_of_shaped (shape_il ns))
section
variable {X : Cx} {a b c d : Expr} {ta tb tc td : TE} {pos : Pos}
/-- a op1 b op2 c op3 d -/
def tChain3 (r1 r2 r3 : R2) (ta tb tc td : TE) : TE := fun σ H Q => ta σ H fun x H1 => tb σ H1 fun y H2 => r1 x y H2 fun z H3 => ∃ k, z = .bl k ∧
  (if k = true then tc σ H3 fun u H4 => r2 y u H4 fun z2 H5 => ∃ k2, z2 = .bl k2 ∧ (if k2 = true then td σ H5 fun v H6 => r3 u v H6 Q else Q (.bl false) H5) else Q (.bl false) H3)
theorem pt_chain3 {o1 o2 o3 : CmpOp} {r1 r2 r3 : R2} (h1 : OpR X (compareOp o1) r1) (h2 : OpR X (compareOp o2) r2) (h3 : OpR X (compareOp o3) r3) (ha : PE X a ta) (hb : PE X b tb) (hc : PE X c tc) (hd : PE X d td)
    (hm : lastMarks [o1, o2, o3] [b, c, d] = false := by with_unfolding_all rfl) : PT X (.Compare a [o1, o2, o3] [b, c, d] pos) (tTest (tChain3 r1 r2 r3 ta tb tc td)) := by
  refine ⟨fun pins s σ H Q I h => ?_⟩
  refine isTrue_chain (thn (ha.run pins s σ H _ I h) fun v s1 ⟨x, H1, I1, e1, q1⟩ => test_link (thn (hb.run pins s1 σ H1 _ I1 q1) fun u s2 ⟨y, H2, I2, e2, q2⟩ =>
    thn (h1 pins s2 σ H2 x y v u _ I2 e1 e2 q2) fun d1 s3 ⟨z, H3, I3, e3, k, e, q3⟩ => ?_)) hm
  subst e
  cases e3
  refine wpAny_truthy_bool ?_
  cases k with
  | false =>
    obtain ⟨k', e', q'⟩ := q3
    cases e'
    exact ite_ff ⟨H3, I3, q'⟩
  | true =>
    refine ite_tt (test_link (thn (hc.run pins s3 σ H3 _ I3 q3) fun w' s4 ⟨z', H4, I4, e4, q4⟩ => thn (h2 pins s4 σ H4 y z' u w' _ I4 e2 e4 q4) fun d' s5 ⟨z2, H5, I5, e5, k2, f2, q5⟩ => ?_))
    subst f2
    cases e5
    refine wpAny_truthy_bool ?_
    cases k2 with
    | false =>
      obtain ⟨k', e', q'⟩ := q5
      cases e'
      exact ite_ff ⟨H5, I5, q'⟩
    | true =>
      refine ite_tt (test_last (thn (hd.run pins s5 σ H5 _ I5 q5) fun w2 s6 ⟨y2, H6, I6, e6, q6⟩ => thn (h3 pins s6 σ H6 z' y2 w' w2 _ I6 e4 e6 q6) fun d2 s7 ⟨y3, H7, I7, e7, k3, f3, q7⟩ => ?_))
      subst f3
      cases e7
      exact wpAny_truthy_bool ⟨H7, I7, q7⟩
end
/-- two rows alike -/
def Alike (C : Addr) : Addr → Addr → Hp → Prop := fun a b H => ∃ n ms ss, RowAt C H a n ms ss ∧ RowAt C H b n ms ss
/-- what a row's .marks promises -/
def spGetM (C : Addr) : Sp := fun vs H Q _ => ∃ (a : Addr) (n : Int) (ms ss : List Int), vs = [.ref a] ∧ RowAt C H a n ms ss ∧ ∀ p H', Same H H' → H p = none → IL H' p ms → Q (.ref p) H'
/-- what isinstance asks of the class -/
structure Ci (K : PySem.W.Frag) (C : Addr) : Prop where
  ha : PySem.W.findIn K (.ref C) "__class__" = some (some (.builtin "object.__class__"))
  hn : PySem.W.specialIn K (.builtin "object.__class__") "__get__" = some (some (.builtin "getset_descriptor.__get__"))
  ht : PySem.W.takesIn K (.builtin "object.__class__") = some true
  hm : PySem.W.mroIn K C (.type "object") = some true
section
variable {P : Program} {w : World} {K : PySem.W.Frag} {mg : Str → Option Value} {base : Heap}
theorem scG : FnScope ["self"] ["self"] (defScope sGetM) := ⟨rfl, rfl, rfl, by decide +kernel, rfl, by decide +kernel, by decide +kernel⟩
theorem ok_getM {f C : Addr} {fd : FuncData} (F : Fun K "marks" "Row.marks" sGetM f fd) (T : Bl mg) (R : Cl K mg C) : FnOk P w K mg base CX0 1 f fd ["self"] (spGetM C) := by
  refine F.ok scG (fun vs H Q E h => ?_) (fun cdv A outer s H vs Q E hr h => ?_)
  · obtain ⟨a, n, ms, ss, rfl, _⟩ := h
    rfl
  · obtain ⟨a, n, ms, ss, rfl, ⟨dx, l1, l2, ho, h1, h2⟩, k⟩ := h
    refine ⟨_, pss_one (ps_ret (pe_callTy call_list_of (by rfl) T.list (by decide +kernel) (pa_cons (pe_fld (pv 0) rfl) pa_nil))), ?_⟩
    refine ⟨_, rfl, a, C, dx, _, _, rfl, ho, R.cl, R.nM, fl_M _ _ _, l1, _, rfl, .inl (SqL.of h1), fun p hp => ?_⟩
    exact k p _ (same_new (Same.refl H) hp) hp upd_same
theorem scE : FnScope ["self", "other"] ["self", "other"] (defScope sEq) := ⟨rfl, rfl, rfl, by decide +kernel, rfl, by decide +kernel, by decide +kernel⟩
theorem ok_eq {f C : Addr} {fd : FuncData} (F : Fun K "__eq__" "Row.__eq__" sEq f fd) (T : Bl mg) (R : Cl K mg C) (N : Ci K C) : FnOk P w K mg base CX0 1 f fd ["self", "other"] (spEq (Alike C)) := by
  refine F.ok scE (fun vs H Q E h => ?_) (fun cdv A outer s H vs Q E hr h => ?_)
  · obtain ⟨a, b, rfl, _⟩ := h
    rfl
  · obtain ⟨a, b, rfl, ⟨n, ms, ss, ⟨dx, l1, l2, ho, h1, h2⟩, ⟨dy, m1, m2, hp, g1, g2⟩⟩, k⟩ := h
    refine ⟨_, pss_cons (ps_if (pt_not (pt_val (pe_callB call_isi (by rfl) T.isi (by decide +kernel) (pa_cons (pv 1) (pa_cons (pe_glob (by rfl) R.mgR (v := V.ref C) rfl) pa_nil))))) (pss_one (ps_ret pe_bl)) pss_nil)
      (pss_cons (ps_if (pt_cmpR op_ne (pe_fld (pv 0) rfl) (pe_fld (pv 1) rfl) (nomark _)) (pss_one (ps_ret pe_bl)) pss_nil)
      (pss_one (ps_ret (pe_and (pe_cmpR (op_eqD hr.units) (pe_fld (pv 0) rfl) (pe_fld (pv 1) rfl) (nomark _)) (pe_one (pe_cmpR (op_eqD hr.units) (pe_fld (pv 0) rfl) (pe_fld (pv 1) rfl) (nomark _))))))), ?_⟩
    refine ⟨_, rfl, _, _, _, _, true, rfl, ClsV.own _, .base (.ins hp R.cl N.ha N.hn N.ht N.hm), R.kit, _, rfl, ?_⟩
    refine ifF rfl ?_
    refine ⟨_, rfl, a, C, dx, _, _, rfl, ho, R.cl, R.nL, fl_L _ _ _, _, rfl, b, C, dy, _, _, rfl, hp, R.cl, R.nL, fl_L _ _ _, rfl, _, rfl, ?_⟩
    refine ifF (by simp) ?_
    refine ⟨_, rfl, a, C, dx, _, _, rfl, ho, R.cl, R.nM, fl_M _ _ _, _, rfl, b, C, dy, _, _, rfl, hp, R.cl, R.nM, fl_M _ _ _, _, _, dp_il h1, dp_il g1, shape_il _, shape_il _, _, rfl, ?_⟩
    refine ifT (eqv_il ms) ?_
    refine ⟨_, rfl, a, C, dx, _, _, rfl, ho, R.cl, R.nS, fl_S _ _ _, _, rfl, b, C, dy, _, _, rfl, hp, R.cl, R.nS, fl_S _ _ _, _, _, dp_il h2, dp_il g2, shape_il _, shape_il _, ?_⟩
    have z := k H Ext.rfl'
    rw [← eqv_il ss] at z
    exact z
end
end Cw
namespace Cw
open PySem L2
theorem same_ins {H H1 H' : Hp} {x dx C : Addr} (s : Same H H1) (nx : H1 x = none) (nd : H1 dx = none) (k : ∀ c o, upd (upd H1 dx (.own x)) x (.ins C dx []) c = some o → c ≠ x → H' c = some o) : Same H H' := fun c o e => by
  have z := s _ _ e
  refine k c o ?_ (ne_of_none z nx)
  rw [upd_ne (ne_of_none z nx), upd_ne (ne_of_none z nd)]
  exact z
theorem ints_app {ns : List Int} {z : Int} : ns.map V.int ++ [V.int z] = (ns ++ [z]).map V.int := by rw [List.map_append]; rfl
abbrev sJar : Stmt := top 23
abbrev sDip : Stmt := top 24
abbrev sThree : Stmt := top 0
abbrev sSmall : Stmt := top 0
abbrev sGreat : Stmt := top 0
def But (H H' : Hp) (b : Addr) : Prop := ∀ a o, H a = some o → a ≠ b → H' a = some o
theorem But.refl (H : Hp) (b : Addr) : But H H b := fun _ _ e _ => e
theorem But.trans {H H1 H2 : Hp} {b : Addr} (x : But H H1 b) (y : But H1 H2 b) : But H H2 b := fun a o e n => y a o (x a o e n) n
theorem But.of {H H1 : Hp} {b : Addr} (x : Same H H1) : But H H1 b := fun a o e _ => x a o e
theorem But.upd {H H1 : Hp} {b : Addr} {o : HO} (x : But H H1 b) : But H (upd H1 b o) b := fun a u e n => by
  rw [upd_ne n]
  exact x a u e n
theorem But.put {H H1 : Hp} {b p : Addr} {o : HO} (x : But H H1 b) (h : H p = none) : But H (L2.upd H1 p o) b := fun a u e n => by
  rw [upd_ne (ne_of_none e h)]
  exact x a u e n
theorem But.new {H H1 : Hp} {b p : Addr} {o : HO} (x : But H H1 b) (h : H1 p = none) : But H (L2.upd H1 p o) b := fun a u e n => by
  rw [upd_ne (ne_of_none (x a u e n) h)]
  exact x a u e n
def CPowW (i j : Int) : Prop := 0 ≤ j ∧ ((Builtin.Int.intBits i : Nat) : Int) * j ≤ 2 ^ 27
theorem op_powW {X : Cx} : OpR X (binaryOp .Pow) (rI CPowW fun i j => .int (i ^ j.toNat)) := opI fun _ _ _ _ _ _ _ hc q => PyProof.Rows.pow_int hc.1 hc.2 q
theorem cube_ok {i : Int} (h0 : 0 ≤ i) (h1 : i < 2 ^ 250) : CPowW i 3 := by
  have z : Builtin.Int.intBits i ≤ 250 := PyProof.Rows.intBits_le (k := 250) (by
    have e : ((2 ^ 250 : Nat) : Int) = 2 ^ 250 := by norm_cast
    omega)
  refine ⟨by decide, ?_⟩
  have e : (2 : Int) ^ 27 = 134217728 := by decide
  omega
/-- the draws: what is left of the cell, the stirred number, the turns; k more draws are surely allowed -/
def JarAt (H : Hp) (a : Addr) (k : Nat) : Prop := ∃ r m n : Int, H a = some (.lst [.int r, .int m, .int n]) ∧ 0 ≤ m ∧ m < 2 ^ 200 ∧ 0 ≤ n ∧ n + k ≤ 5000
theorem JarAt.mono {H : Hp} {a : Addr} {k j : Nat} (h : JarAt H a k) (l : j ≤ k) : JarAt H a j := by
  obtain ⟨r, m, n, e, h0, h1, h2, h3⟩ := h
  exact ⟨r, m, n, e, h0, h1, h2, by omega⟩
theorem JarAt.same {H H' : Hp} {a : Addr} {k : Nat} (h : JarAt H a k) (s : Same H H') : JarAt H' a k := by
  obtain ⟨r, m, n, e, q⟩ := h
  exact ⟨r, m, n, s _ _ e, q⟩
theorem JarAt.put {H : Hp} {a p : Addr} {o : HO} {k : Nat} (h : JarAt H a k) (n : a ≠ p) : JarAt (upd H p o) a k := by
  obtain ⟨r, m, i, e, q⟩ := h
  exact ⟨r, m, i, by rw [upd_ne n]; exact e, q⟩
theorem JarAt.ne {H : Hp} {a p : Addr} {k : Nat} (h : JarAt H a k) (n : H p = none) : a ≠ p := by
  obtain ⟨r, m, i, e, q⟩ := h
  exact ne_of_none e n
theorem JarAt.no {H : Hp} {a p : Addr} {o : HO} {k : Nat} (h : JarAt H a k) (e : H p = some o) (z : ∀ r m n : Int, o ≠ .lst [.int r, .int m, .int n]) : p ≠ a := fun x => by
  obtain ⟨r, m, i, f, q⟩ := h
  rw [x, f] at e
  exact z r m i (Option.some.inj e).symm
theorem pos47 : (0 : Int) < 10 ^ Int.toNat 47 + 91 := by decide +kernel
theorem pos46 : (0 : Int) < 10 ^ Int.toNat 46 + 79 := by decide +kernel
def spDip : Sp := fun vs H Q _ => ∃ (a : Addr) (k : Nat) (w : Int), vs = [.ref a, .int w] ∧ JarAt H a (k + 1) ∧ 0 < w ∧ w < 2 ^ 120 ∧ ∀ (v : Int) (H' : Hp), 0 ≤ v → v < w → JarAt H' a k → But H H' a → Q (.int v) H'
/-- the script's jar -/
def spJar (K : PySem.W.Frag) : Sp := fun vs H Q _ => ∃ (a : Addr) (ns : List Int) (i : Nat), vs = [.ref a, .int i] ∧ SqL K H a (ns.map V.int) ∧ i ≤ ns.length ∧ ns.length ≤ 63 ∧ ∀ p H', Same H H' → H p = none → JarAt H' p 5000 → Q (.ref p) H'
section
variable {P : Program} {w : World} {K : PySem.W.Frag} {mg : Str → Option Value} {base : Heap}
theorem scD : FnScope ["jar", "many", "digit", "mixed"] ["jar", "many"] (defScope sDip) := ⟨rfl, rfl, rfl, by decide +kernel, rfl, by decide +kernel, by decide +kernel⟩
theorem ok_dip {f : Addr} {fd : FuncData} (F : Fun K "_law_dip" "_law_dip" sDip f fd) (T : Bl mg) : FnOk P w K mg base CX0 1 f fd ["jar", "many"] spDip := by
  refine F.ok scD (fun vs H Q E h => ?_) (fun cdv A outer s H vs Q E hr h => ?_)
  · obtain ⟨a, k, w, rfl, _⟩ := h
    rfl
  · obtain ⟨a, k, w, rfl, ⟨r, m, n, hj, m0, m1, n0, n1⟩, w0, w1, q⟩ := h
    have wn : w.natAbs < 2 ^ 120 := by
      have e : ((2 ^ 120 : Nat) : Int) = 2 ^ 120 := by norm_cast
      omega
    have dv : ∀ i, CDivW i w := fun i => wide_div w0 wn (by decide) (by decide)
    refine ⟨_, pss_cons (ps_if (pt_cmpR op_gt (pe_ix ix_list (pv 0) pe_int (fun _ _ => rfl)) pe_int (nomark _))
        (pss_cons (ps_set (i := 2) scD.nd rfl (Or.inl rfl) (pe_op op_mod (pe_callTy call_int1 (by rfl) T.int (by decide +kernel) (pa_cons (pe_ix ix_list (pv 0) pe_int (fun _ _ => rfl)) pa_nil)) (pv 1)))
        (pss_cons (ps_asg (pe_op op_fdivW (pe_ix ix_list (pv 0) pe_int (fun _ _ => rfl)) (pv 1)) (pg_sub (pv 0) pe_int L2.set_list))
        (pss_one (ps_ret (pv 2))))) pss_nil)
      (pss_cons (ps_asg (pe_op op_add (pe_ix ix_list (pv 0) pe_int (fun _ _ => rfl)) pe_int) (pg_sub (pv 0) pe_int L2.set_list))
      (pss_cons (ps_set (i := 3) scD.nd rfl (Or.inl rfl) (pe_op op_mod (pe_callTy call_int1 (by rfl) T.int (by decide +kernel) (pa_cons (pe_op op_powW (pe_op op_add (pe_ix ix_list (pv 0) pe_int (fun _ _ => rfl)) (pe_op op_mul pe_int (pe_ix ix_list (pv 0) pe_int (fun _ _ => rfl)))) pe_int) pa_nil)) (pe_op op_add (pe_op op_pow pe_int pe_int) pe_int)))
      (pss_cons (ps_set (i := 3) scD.nd rfl (Or.inl rfl) (pe_op op_mod (pe_callTy call_int1 (by rfl) T.int (by decide +kernel) (pa_cons (pe_op op_powW (pe_op op_add (pv 3) (pe_op op_mul pe_int (pe_ix ix_list (pv 0) pe_int (fun _ _ => rfl)))) pe_int) pa_nil)) (pe_op op_add (pe_op op_pow pe_int pe_int) pe_int)))
      (pss_one (ps_ret (pe_op op_mod (pe_callTy call_int1 (by rfl) T.int (by decide +kernel) (pa_cons (pe_op op_fdivW (pv 3) pe_int) pa_nil)) (pv 1))))))), ?_⟩
    refine ⟨_, rfl, a, _, 0, _, rfl, rfl, SqL.of hj, rfl, _, _, rfl, rfl, _, rfl, ?_⟩
    by_cases hr0 : r > 0
    · refine ifT (decide_eq_true hr0) ?_
      refine ⟨_, rfl, a, _, 0, _, rfl, rfl, SqL.of hj, rfl, .inl ⟨_, rfl, _, rfl, _, _, rfl, rfl, w0, ?_⟩⟩
      refine ⟨_, rfl, a, _, 0, _, rfl, rfl, SqL.of hj, rfl, _, rfl, _, _, rfl, rfl, dv _, _, rfl, a, _, 0, 0, rfl, rfl, hj, rfl, ?_⟩
      refine ⟨_, rfl, ?_⟩
      exact q _ _ (Int.emod_nonneg _ (by omega)) (Int.emod_lt_of_pos _ w0) ⟨_, m, n, upd_same, m0, m1, n0, by omega⟩ (But.refl H a).upd
    · refine ifF (decide_eq_false hr0) ?_
      refine ⟨_, rfl, a, _, 2, _, rfl, rfl, SqL.of hj, rfl, _, _, rfl, rfl, _, rfl, a, _, 2, 2, rfl, rfl, hj, rfl, ?_⟩
      have hj2 : upd H a (.lst [.int r, .int m, .int (n + 1)]) a = some (.lst [.int r, .int m, .int (n + 1)]) := upd_same
      refine ⟨_, rfl, a, _, 1, _, rfl, rfl, SqL.of hj2, rfl, _, rfl, a, _, 2, _, rfl, rfl, SqL.of hj2, rfl, _, _, rfl, rfl, .inl ⟨by decide, by decide⟩, _, _, rfl, rfl, ?_⟩
      have e200 : (2 : Int) ^ 200 + 60000049 * 5001 < 2 ^ 250 := by decide +kernel
      refine ⟨_, _, rfl, rfl, cube_ok (by omega) (by omega), .inl ⟨_, rfl, _, _, rfl, rfl, ⟨by decide, by decide, by decide⟩, _, _, rfl, rfl, _, _, rfl, rfl, pos47, ?_⟩⟩
      generalize hx : ((m + 60000049 * (n + 1)) ^ Int.toNat 3) % (10 ^ Int.toNat 47 + 91) = x
      have x0 : 0 ≤ x := by
        rw [← hx]
        exact Int.emod_nonneg _ (by decide +kernel)
      have x1 : x < 10 ^ Int.toNat 47 + 91 := by
        rw [← hx]
        exact Int.emod_lt_of_pos _ (by decide +kernel)
      have e47 : (10 : Int) ^ Int.toNat 47 + 91 + 35000021 * 5001 < 2 ^ 250 := by decide +kernel
      refine ⟨_, rfl, _, rfl, a, _, 2, _, rfl, rfl, SqL.of hj2, rfl, _, _, rfl, rfl, .inl ⟨by decide, by decide⟩, _, _, rfl, rfl, _, _, rfl, rfl, cube_ok (by omega) (by omega), .inl ⟨_, rfl, _, _, rfl, rfl, ⟨by decide, by decide, by decide⟩, _, _, rfl, rfl, _, _, rfl, rfl, pos46, ?_⟩⟩
      refine ⟨_, rfl, _, _, rfl, rfl, wide_div (b := 31) (by decide) (by decide) (by decide) (by decide), .inl ⟨_, rfl, _, rfl, _, _, rfl, rfl, w0, ?_⟩⟩
      exact q _ _ (Int.emod_nonneg _ (by omega)) (Int.emod_lt_of_pos _ w0) ⟨r, m, n + 1, upd_same, m0, m1, by omega, by omega⟩ (But.refl H a).upd
end
end Cw
namespace Cw
open PySem L2
theorem at_of2 {α : Type} {xs : List α} {z : Int} {j : Nat} {v : α} (e : z = (j : Int)) (h : xs[j]? = some v) : atI xs z = some v := by
  rw [e]
  exact atI_nat h
theorem at_lt {α : Type} {xs : List α} {z : Int} (h0 : 0 ≤ z) (h1 : z < xs.length) : ∃ v, atI xs z = some v ∧ v ∈ xs := by
  have hz : z.toNat < xs.length := by omega
  have hj : z = ((z.toNat : Nat) : Int) := by omega
  exact ⟨xs[z.toNat], at_of2 hj (List.getElem?_eq_getElem hz), List.getElem_mem hz⟩
/-- one of three ints -/
theorem at3 {z x y u : Int} (h0 : 0 ≤ z) (h1 : z < 3) : ∃ v, atI [V.int x, V.int y, V.int u] z = some (V.int v) ∧ (v = x ∨ v = y ∨ v = u) := by
  obtain ⟨v, e, m⟩ := at_lt (xs := [V.int x, V.int y, V.int u]) h0 (by simpa using h1)
  simp only [List.mem_cons, List.not_mem_nil, or_false] at m
  rcases m with rfl | rfl | rfl
  · exact ⟨x, e, .inl rfl⟩
  · exact ⟨y, e, .inr (.inl rfl)⟩
  · exact ⟨u, e, .inr (.inr rfl)⟩
def spThree : Sp := fun vs H Q _ => ∃ (a : Addr) (k : Nat) (w : Int), vs = [.ref a, .int w] ∧ JarAt H a (k + 7) ∧ 0 < w ∧ w < 2 ^ 120 ∧
  ∀ (p : Addr) (H' : Hp) (l n g : Int), 1 ≤ l → l ≤ w → l ≤ n → n ≤ 2 * w + 3 → n ≤ g → g ≤ 3 * w + 6 → JarAt H' a k → But H H' a → H' p = some (.tup [.int l, .int n, .int g]) → H p = none → Q (.ref p) H'
theorem pos43 : (0 : Int) < 10 ^ Int.toNat 43 + 57 := by decide +kernel
section
variable {P : Program} {w : World} {K : PySem.W.Frag} {mg : Str → Option Value} {base : Heap}
theorem scJ : FnScope ["script", "k", "cell_here"] ["script", "k"] (defScope sJar) := ⟨rfl, rfl, rfl, by decide +kernel, rfl, by decide +kernel, by decide +kernel⟩
theorem ok_jar {f : Addr} {fd : FuncData} (F : Fun K "_law_jar" "_law_jar" sJar f fd) (T : Bl mg) : FnOk P w K mg base CX0 1 f fd ["script", "k"] (spJar K) := by
  refine F.ok scJ (fun vs H Q E h => ?_) (fun cdv A outer s H vs Q E hr h => ?_)
  · obtain ⟨a, ns, i, rfl, _⟩ := h
    rfl
  · obtain ⟨a, ns, i, rfl, hS, hi, hl, q⟩ := h
    refine ⟨_, pss_cons (ps_set (i := 2) scJ.nd rfl (Or.inl rfl) (pe_ifExp (pt_cmpR op_lt (pv 1) (pe_callB call_len_seq (by rfl) T.len PySem.boot_len (pa_cons (pv 0) pa_nil)) (nomark _))
        (pe_callB call_abs (by rfl) T.abs (by decide +kernel) (pa_cons (pe_ix ix_list (pv 0) (pv 1) (fun _ _ => rfl)) pa_nil)) pe_int))
      (pss_one (ps_ret (pe_lst (pa_cons (pe_callB (call_max2 rfl) (by rfl) T.max (by decide +kernel) (pa_cons pe_int (pa_cons (pe_op op_sub (pv 2) (pe_op op_pow pe_int pe_int)) pa_nil)))
        (pa_cons (pe_op op_add (pe_op op_mul (pe_op op_mod (pe_callTy call_int1 (by rfl) T.int (by decide +kernel) (pa_cons (pv 2) pa_nil)) (pe_op op_add (pe_op op_pow pe_int pe_int) pe_int)) pe_int) (pe_op op_mul pe_int (pv 1)))
        (pa_cons pe_int pa_nil)))))), ?_⟩
    have main : ∀ c : Int, 0 ≤ (c % (10 ^ Int.toNat 43 + 57)) * 101 + 70001 * (i : Int) ∧ (c % (10 ^ Int.toNat 43 + 57)) * 101 + 70001 * (i : Int) < 2 ^ 200 := fun c => by
      have x0 := Int.emod_nonneg c (b := 10 ^ Int.toNat 43 + 57) (by decide +kernel)
      have x1 := Int.emod_lt_of_pos c pos43
      have e : ((10 : Int) ^ Int.toNat 43 + 57) * 101 + 70001 * 64 < 2 ^ 200 := by decide +kernel
      omega
    refine ⟨_, rfl, _, rfl, a, _, rfl, .inl hS, _, _, rfl, rfl, _, rfl, ?_⟩
    by_cases hi2 : i < ns.length
    · refine ifT (decide_eq_true (by rw [List.length_map]; omega)) ?_
      have e1 : (ns.map V.int)[i]? = some (V.int ns[i]) := by
        rw [List.getElem?_map, List.getElem?_eq_getElem hi2]
        rfl
      refine ⟨_, rfl, _, rfl, a, _, _, _, rfl, rfl, hS, at_of2 (j := i) rfl e1, _, rfl, ?_⟩
      generalize (if ns[i] < 0 then -ns[i] else ns[i]) = c
      refine ⟨_, rfl, _, _, rfl, rfl, ⟨by decide, by decide, by decide⟩, _, _, rfl, rfl, _, _, rfl, ?_⟩
      refine ⟨_, rfl, .inl ⟨_, rfl, _, _, rfl, rfl, ⟨by decide, by decide, by decide⟩, _, _, rfl, rfl, _, _, rfl, rfl, pos43, _, _, rfl, rfl, .inr ⟨by decide, by decide⟩, _, rfl, _, _, rfl, rfl, .inl ⟨by decide, by decide⟩, _, _, rfl, rfl, ?_⟩⟩
      refine ⟨(by show 3 ≤ sizeLine; decide), fun p hp => ?_⟩
      exact q p _ (same_new (Same.refl H) hp) hp ⟨_, _, 0, upd_same, (main c).1, (main c).2, by decide, by decide⟩
    · refine ifF (decide_eq_false (by rw [List.length_map]; omega)) ?_
      refine ⟨_, rfl, _, _, rfl, rfl, ⟨by decide, by decide, by decide⟩, _, _, rfl, rfl, _, _, rfl, ?_⟩
      refine ⟨_, rfl, .inl ⟨_, rfl, _, _, rfl, rfl, ⟨by decide, by decide, by decide⟩, _, _, rfl, rfl, _, _, rfl, rfl, pos43, _, _, rfl, rfl, .inr ⟨by decide, by decide⟩, _, rfl, _, _, rfl, rfl, .inl ⟨by decide, by decide⟩, _, _, rfl, rfl, ?_⟩⟩
      refine ⟨(by show 3 ≤ sizeLine; decide), fun p hp => ?_⟩
      exact q p _ (same_new (Same.refl H) hp) hp ⟨_, _, 0, upd_same, (main 0).1, (main 0).2, by decide, by decide⟩
end
end Cw
namespace Cw
open PySem L2
abbrev sHeap : Stmt := top 0
/-! ## raw rows: a length, pairs of a place and a kind, three numbers -/
abbrev PrAt (H : Hp) : List Addr → List (Int × Int) → Prop := Paired (fun t (p : Int × Int) => H t = some (.tup [.int p.1, .int p.2]))
theorem PrAt.imp {H H' : Hp} : ∀ {ts : List Addr} {ps : List (Int × Int)}, PrAt H ts ps → (∀ t (p : Int × Int), H t = some (.tup [.int p.1, .int p.2]) → H' t = some (.tup [.int p.1, .int p.2])) → PrAt H' ts ps
  | _, _, .nil, _ => .nil
  | _, _, .cons h r, k => .cons (k _ _ h) (PrAt.imp r k)
theorem PrAt.app {H : Hp} : ∀ {ts us : List Addr} {ps qs : List (Int × Int)}, PrAt H ts ps → PrAt H us qs → PrAt H (ts ++ us) (ps ++ qs)
  | _, _, _, _, .nil, h => h
  | _, _, _, _, .cons a r, h => .cons a (PrAt.app r h)
theorem PrAt.len {H : Hp} : ∀ {ts : List Addr} {ps : List (Int × Int)}, PrAt H ts ps → ts.length = ps.length
  | _, _, .nil => rfl
  | _, _, .cons _ r => by rw [List.length_cons, List.length_cons, PrAt.len r]
theorem PrAt.get {H : Hp} : ∀ {ts : List Addr} {ps : List (Int × Int)} {i : Nat} {v : V}, PrAt H ts ps → (ts.map V.ref)[i]? = some v → ∃ t p, v = .ref t ∧ ps[i]? = some p ∧ H t = some (.tup [.int p.1, .int p.2])
  | _, _, 0, v, .cons (a := t) (b := p) a _, e => ⟨t, p, (Option.some.inj e).symm, rfl, a⟩
  | _, _, i + 1, v, .cons _ r, e => by
    obtain ⟨t, p, h1, h2, h3⟩ := PrAt.get (i := i) r e
    exact ⟨t, p, h1, h2, h3⟩
  | _, _, _, _, .nil, e => by simp at e
def RawAt (H : Hp) (p : Addr) (n : Int) (prs : List (Int × Int)) : Prop := ∃ l t ts, H p = some (.tup [.int n, .ref l, .ref t]) ∧ H l = some (.lst (ts.map V.ref)) ∧ PrAt H ts prs
theorem RawAt.imp {H H' : Hp} {p : Addr} {n : Int} {prs : List (Int × Int)} (r : RawAt H p n prs) (k : ∀ c o, H c = some o → (∀ r m n : Int, o ≠ .lst [.int r, .int m, .int n]) → H' c = some o) : RawAt H' p n prs := by
  obtain ⟨l, t, ts, h1, h2, h3⟩ := r
  refine ⟨l, t, ts, k _ _ h1 (fun _ _ _ z => nomatch z), k _ _ h2 (fun r m n z => ?_), h3.imp fun t p h => k _ _ h (fun _ _ _ z => nomatch z)⟩
  injection z with z
  cases ts with
  | nil => cases z
  | cons t ts => cases z
theorem RawAt.same {H H' : Hp} {p : Addr} {n : Int} {prs : List (Int × Int)} (r : RawAt H p n prs) (s : Same H H') : RawAt H' p n prs := r.imp fun c o e _ => s c o e
theorem RawAt.but {H H' : Hp} {p a : Addr} {k : Nat} {n : Int} {prs : List (Int × Int)} (r : RawAt H p n prs) (J : JarAt H a k) (s : But H H' a) : RawAt H' p n prs := r.imp fun c o e z => s c o e (J.no e z)
structure GoodP (n : Int) (prs : List (Int × Int)) : Prop where
  pos : 1 ≤ n
  len : prs.length ≤ 400
  rng : ∀ q ∈ prs, 1 ≤ q.1 ∧ q.1 ≤ n - 1 ∧ (q.2 = 1 ∨ q.2 = 2)
  asc : Asc (prs.map (·.1))
abbrev marksOf (prs : List (Int × Int)) : List Int := prs.map (·.1)
abbrev strictOf (prs : List (Int × Int)) : List Int := (prs.filter fun q => decide (q.2 = 2)).map (·.1)
theorem GoodP.good {n : Int} {prs : List (Int × Int)} (g : GoodP n prs) : Good n (marksOf prs) (strictOf prs) := by
  refine ⟨g.pos, by rw [List.length_map]; have := g.len; omega, fun x hx => ?_, g.asc, ?_, fun x hx => ?_⟩
  · obtain ⟨q, hq, rfl⟩ := List.mem_map.mp hx
    have := g.rng q hq
    exact ⟨this.1, this.2.1⟩
  · have z : List.Sublist (strictOf prs) (marksOf prs) := (List.filter_sublist).map _
    exact g.asc.sublist z
  · obtain ⟨q, hq, rfl⟩ := List.mem_map.mp hx
    exact List.mem_map.mpr ⟨q, (List.mem_filter.mp hq).1, rfl⟩
def spHeap (C : Addr) : Sp := fun vs H Q _ => ∃ (p : Addr) (n : Int) (prs : List (Int × Int)), vs = [.ref p] ∧ RawAt H p n prs ∧ GoodP n prs ∧ ∀ q H', Same H H' → RowNew C H H' q n (marksOf prs) (strictOf prs) → Q (.ref q) H'
theorem ref_at {ts : List Addr} {i : Nat} {x : V} (h : (ts.map V.ref)[i]? = some x) : i < ts.length := by
  have := (List.getElem?_eq_some_iff.mp h).1
  rwa [List.length_map] at this
theorem take_map2 {ps : List (Int × Int)} {i : Nat} {z : Int × Int} (h : ps[i]? = some z) : marksOf (ps.take (i + 1)) = marksOf (ps.take i) ++ [z.1] := by
  rw [List.take_add_one, h, marksOf, List.map_append]
  rfl
theorem take_fil2 {ps : List (Int × Int)} {i : Nat} {z : Int × Int} (h : ps[i]? = some z) : strictOf (ps.take (i + 1)) = strictOf (ps.take i) ++ (if z.2 = 2 then [z.1] else []) := by
  rw [List.take_add_one, h, strictOf, List.filter_append, List.map_append]
  congr 1
  show List.map _ (List.filter _ [z]) = _
  rw [List.filter_cons]
  by_cases c : z.2 = 2 <;> simp [c]
section
variable {P : Program} {w : World} {K : PySem.W.Frag} {mg : Str → Option Value} {base : Heap}
abbrev NH : List Str := ["raw", "spot", "kind"]
end
end Cw
namespace Cw
open PySem L2
/-! ## min of four whole numbers -/
theorem min4_args (vs : List Value) (h : vs.length = 4) : argsOk "min" ⟨vs, []⟩ := by
  match vs, h with
  | [p, q, r, s], _ => unfold argsOk; kernel_rfl
section
variable {P : Program} {w : World} {A : Around} {E : Value → Shared → Prop} {s : Shared}
/-- min of four values whose tuple is walked -/
theorem min4_walked {vs : List Value} (h4 : vs.length = 4) {Q : Value → Shared → Prop}
    (go : wpAny (model P w) A.in1 (pyIter (.ref s.heap.objs.size)) (fun it s1 => ∃ J fs ws k Pv Sv less, it = .ref J ∧ Walks P w A.in1 J fs ws k Pv Sv ∧ Sv 0 s1.heap ∧ (∀ d ∈ fs, d < s1.heap.objs.size) ∧ 0 < k ∧ CmpOf P w A.in1 .Lt Pv less ∧
      ∀ v h1 t1, Pv (argBest less (k - 1)) v → (∀ d o, d ∉ ws → s1.heap.get? d = some o → h1.get? d = some o) → Q v { s1 with heap := h1, toks := t1 }) E
      { s with heap := s.heap.push { cls := .type "tuple", data := .seq vs.toArray } }) :
    wpAny (model P w) A (call (.builtin "min") vs) Q E s := by
  match vs, h4 with
  | [p, q, r, u], _ =>
    refine call_function_tree F.kind_min F.plain_min F.entry_min (min4_args [p, q, r, u] rfl) (wpAny_bind (wpAny_of_eq (a := [none, none]) rfl (wpAny_bind (wpAny_newObj_type (wpAny_bind (wpAny_mono go (fun it s1 g => ?_) fun _ _ e => e))))))
    obtain ⟨J, fs, ws, k, Pv, Sv, less, e, wk, st, fr, k0, cmp, out⟩ := g
    subst e
    have new : s1.heap.objs.size ∉ fs := fun m => absurd (fr _ m) (Nat.lt_irrefl _)
    have nm : (toString "min" ++ toString ".loop" : String) = "min.loop" := by decide
    refine wpAny_bind (wpAny_newObj_type ?_)
    rw [nm]
    refine wpAny_pure ⟨plainId_quiet F.plain_min_loop _, codeAny_min_loop_first wk less cmp s1.heap.objs.size new k0 (wk.frame _ _ _ st fun d _ o e => Heap.get?_push_of_some _ e) (Heap.get?_push_size _ rfl) fun v h1 t1 pv keep =>
      out v h1 t1 pv fun d o nd e => keep d o nd (Nat.ne_of_lt (Heap.lt_size e)) (Heap.get?_push_of_some _ e)⟩
theorem min4_ints {a b c d : Int} {t u x y : Tok} {Q : Value → Shared → Prop} (nh : A.handled = none)
    (out : ∀ m r h1 t1, (∀ z o, s.heap.get? z = some o → h1.get? z = some o) → (m = a ∨ m = b ∨ m = c ∨ m = d) → m ≤ a → m ≤ b → m ≤ c → m ≤ d → Q (.int m r) { s with heap := h1, toks := t1 }) :
    wpAny (model P w) A (call (.builtin "min") [.int a t, .int b u, .int c x, .int d y]) Q E s := by
  obtain ⟨xs, hxs⟩ : ∃ xs : Array (Int × Tok), xs = #[(a, t), (b, u), (c, x), (d, y)] := ⟨_, rfl⟩
  have items : intItems xs = #[.int a t, .int b u, .int c x, .int d y] := by rw [hxs]; simp [intItems]
  have tup : (s.heap.push { cls := .type "tuple", data := .seq #[.int a t, .int b u, .int c x, .int d y] }).IsTuple s.heap.objs.size (intItems xs) := ⟨_, Heap.get?_push_size _ rfl, rfl, 0, by rw [items]⟩
  have size1 : (s.heap.push { cls := .type "tuple", data := .seq #[.int a t, .int b u, .int c x, .int d y] }).objs.size = s.heap.objs.size + 1 := Heap.size_push ..
  have four : (intItems xs).size = 4 := by rw [items]; rfl
  have lt0 : s.heap.objs.size < s.heap.objs.size + 1 := Nat.lt_succ_self _
  refine min4_walked (vs := [.int a t, .int b u, .int c x, .int d y]) rfl (wpAny_pyIter_tuple tup ⟨_, [_, s.heap.objs.size], [_], _, _, _, _, rfl, Walks.tuple (A := A.in1) nh _ s.heap.objs.size (by rw [size1]; exact Nat.ne_of_lt lt0) (intItems xs),
    ⟨⟨_, Heap.get?_push_size _ rfl, rfl, rfl⟩, tup.push _⟩, fun z hz => ?_, by rw [four]; decide, CmpOf.ints_lt (numAt xs) (fun _ _ => intItems_at), fun v h1 t1 pv keep => ?_⟩)
  · show z < ((s.heap.push _).push _).objs.size
    rw [Heap.size_push, size1]
    simp only [List.mem_cons, List.not_mem_nil, or_false] at hz
    rcases hz with rfl | rfl
    · rw [size1]; exact Nat.lt_succ_self _
    · exact Nat.lt_succ_of_lt lt0
  have kept : ∀ z o, s.heap.get? z = some o → h1.get? z = some o := fun z o e => keep z o (fun m => by
    have l := Heap.lt_size e
    rw [List.mem_singleton.mp m, size1] at l
    exact Nat.lt_irrefl _ (Nat.lt_of_succ_lt l)) (Heap.get?_push_of_some _ (Heap.get?_push_of_some _ e))
  have pv3 : (intItems xs)[argBest (fun i j => decide (numAt xs i < numAt xs j)) 3]? = some v := by
    have e3 : (intItems xs).size - 1 = 3 := by rw [four]
    rw [← e3]
    exact pv
  obtain ⟨j3, least⟩ := argBest_lt (numAt xs) 3
  obtain ⟨r, rfl⟩ := intItems_at pv3
  have at0 : numAt xs 0 = a := by rw [hxs]; rfl
  have at1 : numAt xs 1 = b := by rw [hxs]; rfl
  have at2 : numAt xs 2 = c := by rw [hxs]; rfl
  have at3 : numAt xs 3 = d := by rw [hxs]; rfl
  refine out _ r h1 t1 kept ?_ (at0 ▸ least 0 (by decide)) (at1 ▸ least 1 (by decide)) (at2 ▸ least 2 (by decide)) (at3 ▸ least 3 (by decide))
  generalize argBest (fun i j => decide (numAt xs i < numAt xs j)) 3 = j at j3 ⊢
  match j, j3 with
  | 0, _ => exact .inl at0
  | 1, _ => exact .inr (.inl at1)
  | 2, _ => exact .inr (.inr (.inl at2))
  | 3, _ => exact .inr (.inr (.inr at3))
  | j + 4, h => omega
end
theorem vals4 {x y z u : V} {us : List Value} (r : Vals [x, y, z, u] us) : ∃ a b c d, us = [a, b, c, d] ∧ RelV x a ∧ RelV y b ∧ RelV z c ∧ RelV u d := by
  cases r with
  | cons r1 r2 =>
    obtain ⟨b, c, d, rfl, r3, r4, r5⟩ := vals3 r2
    exact ⟨_, b, c, d, rfl, r1, r3, r4, r5⟩
theorem call_min4 {X : Cx} (hc : X.calm = true) : CallR X (.builtin "min") (fun xs H Q => ∃ a b c d, xs = [.int a, .int b, .int c, .int d] ∧ ∀ m, (m = a ∨ m = b ∨ m = c ∨ m = d) → m ≤ a → m ≤ b → m ≤ c → m ≤ d → Q (.int m) H) := by
  intro pins s σ H xs us Q I r h
  obtain ⟨a, b, c, d, rfl, q⟩ := h
  obtain ⟨u1, u2, u3, u4, rfl, ⟨t, rfl⟩, ⟨t2, rfl⟩, ⟨t3, rfl⟩, ⟨t4, rfl⟩⟩ := vals4 r
  exact min4_ints (I.ok.hd hc) fun m r h2 tk k e1 l1 l2 l3 l4 => ⟨.int m, H, I.kept k, ⟨_, rfl⟩, q m e1 l1 l2 l3 l4⟩
end Cw
namespace Cw
open PySem L2
abbrev sCSet : Stmt := top 0
abbrev sCPl : Stmt := top 15
abbrev sCSz : Stmt := top 0
abbrev sCLen : Stmt := top 0
abbrev sNext : Stmt := top 0
abbrev sWalk : Stmt := top 0
abbrev sWithin : Stmt := top 0
abbrev sCWk : Stmt := top 0
abbrev sStep : Stmt := top 0
abbrev sCuts : Stmt := top 0
abbrev sFM : Stmt := top 0
abbrev sCB : Stmt := top 0
abbrev sMeet : Stmt := top 0
/-! ## how many are before -/
def cb (ns : List Int) (z : Int) : Nat := (ns.filter fun x => decide (x < z)).length
def fm (ns : List Int) (z e : Int) : Int := (ns[cb ns z]?).getD e
theorem cb_le {ns : List Int} {z : Int} : cb ns z ≤ ns.length := List.length_filter_le _ _
theorem cb_at {ns : List Int} {z : Int} {k : Nat} (hk : k ≤ ns.length) (h1 : ∀ i, i < k → ∀ x, ns[i]? = some x → x < z) (h2 : ∀ i, k ≤ i → ∀ x, ns[i]? = some x → z ≤ x) : cb ns z = k := by
  have e : ns = ns.take k ++ ns.drop k := (List.take_append_drop k ns).symm
  unfold cb
  rw [e, List.filter_append, List.length_append]
  have a1 : (ns.take k).filter (fun x => decide (x < z)) = ns.take k := List.filter_eq_self.mpr fun x hx => by
    obtain ⟨i, hi, rfl⟩ := List.mem_iff_getElem.mp hx
    rw [List.length_take] at hi
    refine decide_eq_true (h1 i (by omega) _ ?_)
    rw [List.getElem_take]
    exact List.getElem?_eq_getElem (by omega)
  have a2 : (ns.drop k).filter (fun x => decide (x < z)) = [] := List.filter_eq_nil_iff.mpr fun x hx => by
    obtain ⟨i, hi, rfl⟩ := List.mem_iff_getElem.mp hx
    rw [List.length_drop] at hi
    have := h2 (k + i) (by omega) (ns.drop k)[i] (by rw [List.getElem_drop]; exact List.getElem?_eq_getElem (by omega))
    simp only [decide_eq_true_eq]
    omega
  rw [a1, a2, List.length_take]
  simp
  omega
theorem asc_ix {ns : List Int} (h : Asc ns) {i j : Nat} {x y : Int} (hij : i < j) (hx : ns[i]? = some x) (hy : ns[j]? = some y) : x < y := by
  obtain ⟨li, rfl⟩ := List.getElem?_eq_some_iff.mp hx
  obtain ⟨lj, rfl⟩ := List.getElem?_eq_some_iff.mp hy
  exact List.pairwise_iff_getElem.mp h i j li lj hij
/-- what stands on both sides of the number of those before -/
theorem cb_split {ns : List Int} (h : Asc ns) (z : Int) : (∀ i, i < cb ns z → ∀ x, ns[i]? = some x → x < z) ∧ (∀ i, cb ns z ≤ i → ∀ x, ns[i]? = some x → z ≤ x) := by
  induction ns with
  | nil => exact ⟨fun i _ x e => by simp at e, fun i _ x e => by simp at e⟩
  | cons a r ih =>
    obtain ⟨ha, hr⟩ := List.pairwise_cons.mp h
    obtain ⟨i1, i2⟩ := ih hr
    by_cases c : a < z
    · have e : cb (a :: r) z = cb r z + 1 := by
        unfold cb
        rw [List.filter_cons, if_pos (decide_eq_true c)]
        rfl
      rw [e]
      refine ⟨fun i hi x hx => ?_, fun i hi x hx => ?_⟩
      · cases i with
        | zero => cases hx; exact c
        | succ i => exact i1 i (by omega) x hx
      · cases i with
        | zero => omega
        | succ i => exact i2 i (by omega) x hx
    · have e : cb (a :: r) z = 0 := by
        unfold cb
        rw [List.filter_eq_nil_iff.mpr fun x hx => ?_]
        · rfl
        · rcases List.mem_cons.mp hx with rfl | hx
          · simpa using c
          · have := ha x hx
            simp only [decide_eq_true_eq]
            omega
      rw [e]
      refine ⟨fun i hi => by omega, fun i _ x hx => ?_⟩
      cases i with
      | zero => cases hx; omega
      | succ i =>
        have := ha x (List.mem_of_getElem? hx)
        omega
theorem fm_or {ns : List Int} (h : Asc ns) (z e : Int) : (fm ns z e ∈ ns ∧ z ≤ fm ns z e) ∨ (fm ns z e = e ∧ ∀ x ∈ ns, x < z) := by
  obtain ⟨h1, h2⟩ := cb_split h z
  unfold fm
  by_cases c : cb ns z < ns.length
  · have hg := List.getElem?_eq_getElem c
    rw [hg]
    exact .inl ⟨List.getElem_mem c, h2 _ (Nat.le_refl _) _ hg⟩
  · rw [List.getElem?_eq_none (by omega)]
    refine .inr ⟨rfl, fun x hx => ?_⟩
    obtain ⟨i, hi, rfl⟩ := List.mem_iff_getElem.mp hx
    exact h1 i (by omega) _ (List.getElem?_eq_getElem hi)
theorem fm_le {ns : List Int} (h : Asc ns) {z e x : Int} (hx : x ∈ ns) (hz : z ≤ x) : fm ns z e ≤ x := by
  obtain ⟨h1, h2⟩ := cb_split h z
  obtain ⟨i, hi, rfl⟩ := List.mem_iff_getElem.mp hx
  have hg := List.getElem?_eq_getElem hi
  have c : cb ns z ≤ i := by
    by_cases c : i < cb ns z
    · have := h1 i c _ hg
      omega
    · omega
  unfold fm
  by_cases d : cb ns z = i
  · rw [d, hg]
    exact Int.le_refl _
  · have l : cb ns z < ns.length := by omega
    rw [List.getElem?_eq_getElem l]
    have := asc_ix h (by omega : cb ns z < i) (List.getElem?_eq_getElem l) hg
    show ns[cb ns z] ≤ ns[i]
    omega
theorem fm_top {ns : List Int} (h : Asc ns) {z e : Int} (k : ∀ x ∈ ns, x ≤ e) : fm ns z e ≤ e := by
  rcases fm_or h z e with ⟨m, _⟩ | ⟨m, _⟩
  · exact k _ m
  · omega
theorem fm_mono {ns : List Int} (h : Asc ns) {z y e : Int} (k : ∀ x ∈ ns, x ≤ e) (hz : z ≤ y) : fm ns z e ≤ fm ns y e := by
  rcases fm_or h y e with ⟨m, l⟩ | ⟨m, _⟩
  · exact fm_le h m (by omega)
  · rw [m]
    exact fm_top h k
def spCB : Sp := fun vs H Q _ => ∃ (a : Addr) (ns : List Int) (z : Int), vs = [.ref a, .int z] ∧ IL H a ns ∧ ns.length ≤ 1000 ∧ Asc ns ∧ Q (.int (cb ns z)) H
def spFM : Sp := fun vs H Q _ => ∃ (a : Addr) (ns : List Int) (z e : Int), vs = [.ref a, .int z, .int e] ∧ IL H a ns ∧ ns.length ≤ 1000 ∧ Asc ns ∧ Q (.int (fm ns z e)) H
def muCB : St → Hp → Nat := fun σ _ => match σ with | [_, _, some (.int lo), some (.int hi), _] => (hi - lo).toNat | _ => 0
section
variable {P : Program} {w : World} {K : PySem.W.Frag} {mg : Str → Option Value} {base : Heap}
abbrev NCB : List Str := ["places", "place", "low", "high", "middle"]
abbrev NFM : List Str := ["marks", "place", "end", "at"]
end
end Cw
namespace Cw
open PySem L2
abbrev sGetL : Stmt := inClass sRow 1
abbrev sGetS : Stmt := inClass sRow 3
def spGetL (C : Addr) : Sp := fun vs H Q _ => ∃ (a : Addr) (n : Int) (ms ss : List Int), vs = [.ref a] ∧ RowAt C H a n ms ss ∧ Q (.int n) H
def spGetS (C : Addr) : Sp := fun vs H Q _ => ∃ (a : Addr) (n : Int) (ms ss : List Int), vs = [.ref a] ∧ RowAt C H a n ms ss ∧ ∀ p H', Same H H' → H p = none → IL H' p ss → Q (.ref p) H'
/-! ## the next cut -/
def nx (n : Int) (ms ss : List Int) (l m g p : Int) : Int := min (min (fm ss (p + l) n) (fm ms (p + m) n)) (min (p + g) n)
/-- settings -/
structure SetOk (l m g : Int) : Prop where
  l1 : 1 ≤ l
  lm : l ≤ m
  mg : m ≤ g
/-- what a step does -/
structure Stp (F : Int → Int) (n l : Int) : Prop where
  l1 : 1 ≤ l
  le : ∀ p, F p ≤ n
  ge : ∀ p, p + l ≤ F p ∨ F p = n
  mono : ∀ p q, p ≤ q → F p ≤ F q
theorem Stp.gt {F : Int → Int} {n l p : Int} (S : Stp F n l) (h : p < n) : p < F p := by
  have := S.ge p
  have := S.l1
  omega
theorem nx_stp {n l m g : Int} {ms ss : List Int} (G : Good n ms ss) (S : SetOk l m g) : Stp (nx n ms ss l m g) n l := by
  have k1 : ∀ x ∈ ms, x ≤ n := fun x hx => by have := G.rng x hx; omega
  have k2 : ∀ x ∈ ss, x ≤ n := fun x hx => k1 x (G.sub x hx)
  have s1 := S.l1
  have s2 := S.lm
  have s3 := S.mg
  refine ⟨s1, fun p => ?_, fun p => ?_, fun p q h => ?_⟩
  · unfold nx
    omega
  · have a := fm_or G.asc2 (p + l) n
    have b := fm_or G.asc (p + m) n
    unfold nx
    omega
  · have a := fm_mono G.asc2 k2 (z := p + l) (y := q + l) (by omega)
    have b := fm_mono G.asc k1 (z := p + m) (y := q + m) (by omega)
    unfold nx
    omega
/-! ## walks -/
def kc (F : Int → Int) (n s : Int) : Nat → Int
  | 0 => s
  | k + 1 => if kc F n s k < n then F (kc F n s k) else kc F n s k
def wl (F : Int → Int) (n s : Int) (m : Nat) : List Int := (List.range (m + 1)).map (kc F n s)
theorem wl_succ {F : Int → Int} {n s : Int} {m : Nat} : wl F n s (m + 1) = wl F n s m ++ [kc F n s (m + 1)] := by
  unfold wl
  rw [List.range_succ, List.map_append]
  rfl
theorem wl_len {F : Int → Int} {n s : Int} {m : Nat} : (wl F n s m).length = m + 1 := by
  unfold wl
  rw [List.length_map, List.length_range]
theorem kc_le {F : Int → Int} {n l s : Int} (S : Stp F n l) (h : s ≤ n) : ∀ k, kc F n s k ≤ n
  | 0 => h
  | k + 1 => by
    have i := kc_le S h k
    unfold kc
    by_cases c : kc F n s k < n
    · rw [if_pos c]
      exact S.le _
    · rw [if_neg c]
      exact i
theorem kc_ge {F : Int → Int} {n l s : Int} (S : Stp F n l) : ∀ k : Nat, kc F n s k < n → s + k * l ≤ kc F n s k
  | 0, _ => by
    show s + ((0 : Nat) : Int) * l ≤ s
    simp
  | k + 1, h => by
    by_cases c : kc F n s k < n
    · have e : kc F n s (k + 1) = F (kc F n s k) := if_pos c
      have i := kc_ge S k c
      have z := S.ge (kc F n s k)
      rw [e] at h ⊢
      have w : ((k + 1 : Nat) : Int) * l = k * l + l := by
        rw [Int.natCast_add, Int.add_mul]
        simp
      rw [w]
      omega
    · have e : kc F n s (k + 1) = kc F n s k := if_neg c
      omega
theorem kc_few {F : Int → Int} {n l s : Int} (S : Stp F n l) (h0 : 0 ≤ s) (b : n ≤ 200 * l) {k : Nat} (h : kc F n s k < n) : k < 200 := by
  have z := kc_ge S k h
  have l1 := S.l1
  by_cases c : k < 200
  · exact c
  · have w : (200 : Int) * l ≤ k * l := Int.mul_le_mul_of_nonneg_right (by omega) (by omega)
    omega
theorem kc_at {F : Int → Int} {n s : Int} {k : Nat} (h : kc F n s k < n) : kc F n s (k + 1) = F (kc F n s k) := if_pos h
theorem kc_end {F : Int → Int} {n s : Int} {m : Nat} (h : ¬ kc F n s m < n) : ∀ j, kc F n s (m + j) = kc F n s m
  | 0 => rfl
  | j + 1 => by
    have i := kc_end h j
    show (if kc F n s (m + j) < n then F (kc F n s (m + j)) else kc F n s (m + j)) = _
    rw [i, if_neg h]
/-- how many cuts a walk has -/
structure WkOk (F : Int → Int) (n s : Int) (m : Nat) : Prop where
  few : m ≤ 200
  fin : kc F n s m = n
  bef : ∀ i, i < m → kc F n s i < n
def spStep (C : Addr) : Sp := fun vs H Q _ => ∃ (r t : Addr) (n l m g p : Int) (ms ss : List Int), vs = [.ref r, .ref t, .int p] ∧ RowAt C H r n ms ss ∧ H t = some (.tup [.int l, .int m, .int g]) ∧ Good n ms ss ∧ ∀ H', Same H H' → Q (.int (nx n ms ss l m g p)) H'
def spCuts (C : Addr) : Sp := fun vs H Q _ => ∃ (r t : Addr) (n l m g p : Int) (ms ss : List Int), vs = [.ref r, .ref t, .int p] ∧ RowAt C H r n ms ss ∧ H t = some (.tup [.int l, .int m, .int g]) ∧ Good n ms ss ∧ SetOk l m g ∧ n ≤ 200 * l ∧ 0 ≤ p ∧ p ≤ n ∧
  ∀ q H' k, Same H H' → H q = none → WkOk (nx n ms ss l m g) n p k → IL H' q (wl (nx n ms ss l m g) n p k) → Q (.ref q) H'
/-- the getters -/
structure Gets (P : Program) (w : World) (K : PySem.W.Frag) (mg : Str → Option Value) (base : Heap) (C pL fL pM fM pS fS : Addr) (dL dM dS : FuncData) : Prop where
  hL : PropOf K C "length" pL fL
  bL : Binds K dL ["self"] []
  GL : FnOk P w K mg base CX0 1 fL dL ["self"] (spGetL C)
  hM : PropOf K C "marks" pM fM
  bM : Binds K dM ["self"] []
  GM : FnOk P w K mg base CX0 1 fM dM ["self"] (spGetM C)
  hS : PropOf K C "strict" pS fS
  bS : Binds K dS ["self"] []
  GS : FnOk P w K mg base CX0 1 fS dS ["self"] (spGetS C)
section
variable {P : Program} {w : World} {K : PySem.W.Frag} {mg : Str → Option Value} {base : Heap}
theorem scGL : FnScope ["self"] ["self"] (defScope sGetL) := ⟨rfl, rfl, rfl, by decide +kernel, rfl, by decide +kernel, by decide +kernel⟩
theorem ok_getL {f C : Addr} {fd : FuncData} (F : Fun K "length" "Row.length" sGetL f fd) (R : Cl K mg C) : FnOk P w K mg base CX0 1 f fd ["self"] (spGetL C) := by
  refine F.ok scGL (fun vs H Q E h => ?_) (fun cdv A outer s H vs Q E hr h => ?_)
  · obtain ⟨a, n, ms, ss, rfl, _⟩ := h
    rfl
  · obtain ⟨a, n, ms, ss, rfl, ⟨dx, l1, l2, ho, h1, h2⟩, k⟩ := h
    refine ⟨_, pss_one (ps_ret (pe_fld (pv 0) rfl)), ?_⟩
    exact ⟨_, rfl, a, C, dx, _, _, rfl, ho, R.cl, R.nL, fl_L _ _ _, k⟩
theorem scGS : FnScope ["self"] ["self"] (defScope sGetS) := ⟨rfl, rfl, rfl, by decide +kernel, rfl, by decide +kernel, by decide +kernel⟩
theorem ok_getS {f C : Addr} {fd : FuncData} (F : Fun K "strict" "Row.strict" sGetS f fd) (T : Bl mg) (R : Cl K mg C) : FnOk P w K mg base CX0 1 f fd ["self"] (spGetS C) := by
  refine F.ok scGS (fun vs H Q E h => ?_) (fun cdv A outer s H vs Q E hr h => ?_)
  · obtain ⟨a, n, ms, ss, rfl, _⟩ := h
    rfl
  · obtain ⟨a, n, ms, ss, rfl, ⟨dx, l1, l2, ho, h1, h2⟩, k⟩ := h
    refine ⟨_, pss_one (ps_ret (pe_callTy call_list_of (by rfl) T.list (by decide +kernel) (pa_cons (pe_fld (pv 0) rfl) pa_nil))), ?_⟩
    refine ⟨_, rfl, a, C, dx, _, _, rfl, ho, R.cl, R.nS, fl_S _ _ _, l2, _, rfl, .inl (SqL.of h2), fun p hp => ?_⟩
    exact k p _ (same_new (Same.refl H) hp) hp upd_same
abbrev NSt : List Str := ["row", "settings", "place", "least", "normal", "greatest", "strict", "either"]
end
end Cw
namespace Cw
open PySem L2
def spCSet : Sp := fun vs H Q _ => ∃ (t : Addr) (l m g : Int), vs = [.ref t] ∧ H t = some (.tup [.int l, .int m, .int g]) ∧ SetOk l m g ∧ ∀ H', Same H H' → Q .non H'
def spPl : Sp := fun vs H Q _ => ∃ p lo hi : Int, vs = [.int p, .int lo, .int hi] ∧ lo ≤ p ∧ p ≤ hi ∧ Q .non H
def spSz (C : Addr) : Sp := fun vs H Q _ => ∃ (r t : Addr) (n l m g : Int) (ms ss : List Int), vs = [.ref r, .ref t] ∧ RowAt C H r n ms ss ∧ H t = some (.tup [.int l, .int m, .int g]) ∧ n ≤ 200 * l ∧ Q .non H
def spLen : Sp := fun vs H Q _ => ∃ (t : Addr) (n l m g : Int), vs = [.int n, .ref t] ∧ H t = some (.tup [.int l, .int m, .int g]) ∧ n ≤ 200 * l ∧ Q .non H
def lastZ : List V → Int
  | [.int z] => z
  | _ :: x :: r => lastZ (x :: r)
  | _ => 0
theorem lastZ_app (z : Int) : ∀ xs : List V, lastZ (xs ++ [.int z]) = z
  | [] => rfl
  | [x] => by cases x <;> rfl
  | x :: y :: r => by
    have i := lastZ_app z (y :: r)
    show lastZ (x :: y :: (r ++ [V.int z])) = z
    cases x <;> exact i
def muCu (n : Int) (D : Addr) : St → Hp → Nat := fun _ H => (n - (match H D with | some (.lst xs) => lastZ xs | _ => 0)).toNat
theorem muCu_at {n z : Int} {D : Addr} {H : Hp} {σ : St} {xs : List V} (h : H D = some (.lst (xs ++ [.int z]))) : muCu n D σ H = (n - z).toNat := by
  unfold muCu
  rw [h]
  show (n - lastZ (xs ++ [V.int z])).toNat = _
  rw [lastZ_app]
section
variable {P : Program} {w : World} {K : PySem.W.Frag} {mg : Str → Option Value} {base : Heap}
abbrev NCS : List Str := ["settings", "least", "normal", "greatest", "number"]
theorem scPl : FnScope ["place", "low", "high"] ["place", "low", "high"] (defScope sCPl) := ⟨rfl, rfl, rfl, by decide +kernel, rfl, by decide +kernel, by decide +kernel⟩
theorem ok_pl {f fI : Addr} {fd fdI : FuncData} (F : Fun K "check_place" "check_place" sCPl f fd) (gI : mg "is_integer" = some (.ref fI)) (kI : PySem.W.keepIn K (.ref fI) = true) (bI : Binds K fdI ["thing"] []) (GI : FnOk P w K mg base CX0 1 fI fdI ["thing"] spOne) :
    FnOk P w K mg base CX0 2 f fd ["place", "low", "high"] spPl := by
  refine F.ok scPl (fun vs H Q E h => ?_) (fun cdv A outer s H vs Q E hr h => ?_)
  · obtain ⟨p, lo, hi, rfl, _⟩ := h
    rfl
  · obtain ⟨p, lo, hi, rfl, h1, h2, q⟩ := h
    refine ⟨_, pss_one (ps_if (PW.pt (pw_or (pt_not (pt_val (pe_call GI hr rfl gI kI bI .nil pass0 (pa_cons (pv 0) pa_nil)))) (pw_or1 (pt_not (pt_chain op_le op_le (pv 1) (pv 0) (pv 2)))))) pss_never pss_nil), ?_⟩
    refine ⟨_, rfl, _, rfl, _, rfl, ?_⟩
    refine ifF rfl ?_
    refine ⟨_, rfl, _, rfl, _, _, rfl, rfl, _, rfl, ?_⟩
    refine ifT (decide_eq_true h1) ?_
    refine ⟨_, rfl, _, _, rfl, rfl, _, rfl, ?_⟩
    refine ifF (by simp [h2]) ?_
    exact q
abbrev NCu : List Str := ["row", "settings", "start", "cuts"]
end
end Cw
namespace Cw
open PySem L2
theorem kc_lt {F : Int → Int} {n l s : Int} {m : Nat} (S : Stp F n l) (w : WkOk F n s m) {i j : Nat} (hij : i < j) (hj : j ≤ m) : kc F n s i < kc F n s j := by
  induction j with
  | zero => omega
  | succ j ih =>
    have c := w.bef j (by omega)
    have e := S.gt c
    rw [kc_at c]
    by_cases d : i = j
    · rw [d]
      exact e
    · have := ih (by omega) (by omega)
      omega
theorem wl_asc {F : Int → Int} {n l s : Int} {m : Nat} (S : Stp F n l) (w : WkOk F n s m) : Asc (wl F n s m) := by
  unfold wl
  refine List.pairwise_map.mpr ?_
  refine (List.pairwise_lt_range (n := m + 1)).imp_of_mem fun {i j} hi hj hij => ?_
  rw [List.mem_range] at hj
  exact kc_lt S w hij (by omega)
theorem kc_mem {F : Int → Int} {n s : Int} {m : Nat} {x : Int} : x ∈ wl F n s m ↔ ∃ i, i ≤ m ∧ kc F n s i = x := by
  unfold wl
  rw [List.mem_map]
  constructor
  · rintro ⟨i, hi, rfl⟩
    exact ⟨i, by rw [List.mem_range] at hi; omega, rfl⟩
  · rintro ⟨i, hi, rfl⟩
    exact ⟨i, by rw [List.mem_range]; omega, rfl⟩
/-- all that the calls of a row with settings want -/
structure RwS (C : Addr) (H : Hp) (r t : Addr) (n l m g : Int) (ms ss : List Int) : Prop where
  row : RowAt C H r n ms ss
  tup : H t = some (.tup [.int l, .int m, .int g])
  good : Good n ms ss
  set : SetOk l m g
  big : n ≤ 200 * l
theorem RwS.same {C : Addr} {H H' : Hp} {r t : Addr} {n l m g : Int} {ms ss : List Int} (R : RwS C H r t n l m g ms ss) (s : Same H H') : RwS C H' r t n l m g ms ss := ⟨R.row.same s, s _ _ R.tup, R.good, R.set, R.big⟩
def spCW (C : Addr) : Sp := fun vs H Q _ => ∃ (r t c : Addr) (n l m g : Int) (ms ss ps : List Int), vs = [.ref r, .ref t, .ref c] ∧ RwS C H r t n l m g ms ss ∧ IL H c ps ∧ ps.length ≤ 1000 ∧ (∀ i, i < ps.length → (0 :: ps).getD i 0 ≤ ps.getD i 0 ∧ ps.getD i 0 ≤ n) ∧ ∀ H', Same H H' → Q .non H'
def spNext (C : Addr) : Sp := fun vs H Q _ => ∃ (r t : Addr) (n l m g p : Int) (ms ss : List Int), vs = [.ref r, .ref t, .int p] ∧ RwS C H r t n l m g ms ss ∧ 0 ≤ p ∧ p < n ∧ ∀ H', Same H H' → Q (.int (nx n ms ss l m g p)) H'
def spWalk (C : Addr) : Sp := fun vs H Q _ => ∃ (r t : Addr) (n l m g p : Int) (ms ss : List Int), vs = [.ref r, .ref t, .int p] ∧ RwS C H r t n l m g ms ss ∧ 0 ≤ p ∧ p ≤ n ∧
  ∀ q H' k, Same H H' → H q = none → WkOk (nx n ms ss l m g) n p k → IL H' q (wl (nx n ms ss l m g) n p k) → Q (.ref q) H'
def spWithin (C : Addr) : Sp := fun vs H Q _ => ∃ (r t : Addr) (n l m g p lo hi : Int) (ms ss : List Int), vs = [.ref r, .ref t, .int p, .int lo, .int hi] ∧ RwS C H r t n l m g ms ss ∧ 0 ≤ p ∧ p ≤ lo ∧ lo ≤ hi ∧ hi ≤ n ∧
  ∀ H' k, Same H H' → WkOk (nx n ms ss l m g) n p k → Q (.int ((cb (wl (nx n ms ss l m g) n p k) hi : Nat) - (cb (wl (nx n ms ss l m g) n p k) lo : Nat) : Int)) H'
section
variable {P : Program} {w : World} {K : PySem.W.Frag} {mg : Str → Option Value} {base : Heap}
abbrev NCW : List Str := ["row", "settings", "places", "low", "place"]
abbrev NWi : List Str := ["row", "settings", "start", "low", "high", "cuts"]
end
end Cw
namespace Cw
open PySem L2
abbrev sShift : Stmt := top 19
abbrev sReplaced : Stmt := top 21
/-- a change of a row of n cells -/
structure ChOk (n b e len : Int) (ms ss : List Int) : Prop where
  b0 : 0 ≤ b
  be : b ≤ e
  en : e ≤ n
  l0 : 0 ≤ len
  big : 1 ≤ n - (e - b) + len
  few : ms.length ≤ 400
  rng : ∀ x ∈ ms, 1 ≤ x ∧ x ≤ (if e = n then len - 1 else len)
  asc : Asc ms
  asc2 : Asc ss
  sub : ∀ x ∈ ss, x ∈ ms
theorem ChOk.len2 {n b e len : Int} {ms ss : List Int} (g : ChOk n b e len ms ss) : ss.length ≤ 400 :=
  Nat.le_trans (nodup_len (g.asc2.imp fun h e => by omega) g.sub) g.few
def spRepl : Sp := fun vs H Q _ => ∃ (b e len n : Int), vs = [.int b, .int e, .int len, .int n] ∧ 0 ≤ b ∧ b ≤ e ∧ e ≤ n ∧ 0 ≤ len ∧ 1 ≤ n - (e - b) + len ∧ ∀ H', Same H H' → Q (.bl true) H'
def spChange : Sp := fun vs H Q _ => ∃ (t m s : Addr) (b e len n : Int) (ms ss : List Int), vs = [.ref t, .int n] ∧ H t = some (.tup [.int b, .int e, .int len, .ref m, .ref s]) ∧ IL H m ms ∧ IL H s ss ∧ ChOk n b e len ms ss ∧ ∀ H', Same H H' → Q (.bl true) H'
section
variable {P : Program} {w : World} {K : PySem.W.Frag} {mg : Str → Option Value} {base : Heap}
abbrev NR : List Str := ["begin", "end", "length", "row_length", "number"]
theorem scR : FnScope NR ["begin", "end", "length", "row_length"] (defScope sRepl) := ⟨rfl, rfl, rfl, by decide +kernel, rfl, by decide +kernel, by decide +kernel⟩
theorem ok_repl {f fI : Addr} {fd fdI : FuncData} (F : Fun K "is_replacement" "is_replacement" sRepl f fd) (T : Bl mg) (gI : mg "is_integer" = some (.ref fI)) (kI : PySem.W.keepIn K (.ref fI) = true) (bI : Binds K fdI ["thing"] []) (GI : FnOk P w K mg base CX0 1 fI fdI ["thing"] spOne) :
    FnOk P w K mg base CX0 2 f fd ["begin", "end", "length", "row_length"] spRepl := by
  refine F.ok scR (fun vs H Q E h => ?_) (fun cdv A outer s H vs Q E hr h => ?_)
  · obtain ⟨b, e, len, n, rfl, _⟩ := h
    rfl
  · obtain ⟨b, e, len, n, rfl, b0, be, en, l0, big, k⟩ := h
    refine ⟨_, pss_cons (ps_if (pt_not (pt_val (pe_callB (cr_all rfl) (by rfl) T.all (by decide +kernel) (pa_cons (pe_lc (own := [("number", 4)]) (g := gName 4) (tt := tYes) rfl scR.nd
        (pi_tup (pe_tup (pa_cons (pv 0) (pa_cons (pv 1) (pa_cons (pv 2) pa_nil))))) (blkOk_by (own := [("number", 4)]) (N := NR) (sc := defScope sRepl) (by decide +kernel)) (fun _ _ _ _ _ => pg_name (i := 4) scR.nd rfl (Or.inl rfl)) (fun _ _ _ _ _ => pts_nil)
        (fun _ _ _ _ _ => pe_call GI hr rfl gI kI bI .nil pass0 (pa_cons (pv 4) pa_nil))) pa_nil)))) (pss_one (ps_ret pe_bl)) pss_nil)
      (pss_cons (ps_if (PW.pt (pw_or (pt_not (pt_chain3 op_le op_le op_le pe_int (pv 0) (pv 1) (pv 3))) (pw_or1 (pt_cmpR op_lt (pv 2) pe_int (nomark _))))) (pss_one (ps_ret pe_bl)) pss_nil)
      (pss_one (ps_ret (pe_cmpR op_ge (pe_op op_add (pe_op op_sub (pv 3) (pe_op op_sub (pv 1) (pv 0))) (pv 2)) pe_int (nomark _))))), ?_⟩
    refine ⟨_, rfl, _, rfl, _, rfl, (by show 3 ≤ sizeLine; decide), fun t ht => ?_⟩
    have s1 := same_new (o := .tup [.int b, .int e, .int len]) (Same.refl H) ht
    refine ⟨t, rfl, ⟨_, SqT.of upd_same⟩, fun D hD => ?_⟩
    have nt : t ≠ D := ne_of_none upd_same hD
    refine lc_tup (K := K) (a := t) (xs := [.int b, .int e, .int len]) (fun i H' => Same H H' ∧ H' t = some (.tup [.int b, .int e, .int len]) ∧ H' D = some (.lst (List.replicate i (V.bl true))))
      ⟨same_new s1 hD, by rw [upd_ne nt]; exact upd_same, upd_same⟩ (fun i H' _ q => SqT.of q.2.1) ?_ ?_
    · rintro i x H' hx ⟨s2, h2, h3⟩
      have hi : i < 3 := (List.getElem?_eq_some_iff.mp hx).1
      obtain ⟨z, rfl⟩ : ∃ z, x = V.int z := by
        have m := List.mem_of_getElem? hx
        simp only [List.mem_cons, List.not_mem_nil, or_false] at m
        rcases m with rfl | rfl | rfl <;> exact ⟨_, rfl⟩
      refine ⟨rfl, ?_⟩
      unfold tYes
      refine iteT ?_
      refine ⟨_, rfl, _, rfl, ?_⟩
      refine ⟨_, h3, by rw [List.length_replicate]; exact small1000 (by omega), same_put s2 (s1.free hD), by rw [upd_ne nt]; exact h2, ?_⟩
      rw [upd_same, List.replicate_succ']
    · rintro H' ⟨s2, h2, h3⟩
      refine ⟨D, List.replicate 3 true, rfl, SqL.of (by rw [h3, List.map_replicate]; rfl), _, rfl, ?_⟩
      rw [all_true]
      refine ifF rfl ?_
      refine ⟨_, rfl, _, _, rfl, rfl, _, rfl, ?_⟩
      refine ifT (by simp [b0]) ?_
      refine ⟨_, rfl, _, _, rfl, rfl, _, rfl, ?_⟩
      refine ifT (by simp [be]) ?_
      refine ⟨_, rfl, _, _, rfl, rfl, _, rfl, ?_⟩
      refine ifF (by simp [en]) ?_
      refine ⟨_, rfl, _, _, rfl, rfl, _, rfl, ?_⟩
      refine ifF (decide_eq_false (by omega)) ?_
      refine ⟨_, rfl, _, rfl, _, rfl, _, _, rfl, rfl, _, _, rfl, rfl, _, rfl, _, _, rfl, rfl, _, _, rfl, rfl, ?_⟩
      have z := k _ s2
      rw [← decide_eq_true (p := n - (e - b) + len ≥ 1) big] at z
      exact z
abbrev NC : List Str := ["thing", "row_length", "begin", "end", "length", "marks", "strict", "high"]
theorem scC : FnScope NC ["thing", "row_length"] (defScope sChange) := ⟨rfl, rfl, rfl, by decide +kernel, rfl, by decide +kernel, by decide +kernel⟩
theorem ok_change {f fR fM fS : Addr} {fd fdR fdM fdS : FuncData} (F : Fun K "is_change" "is_change" sChange f fd) (T : Bl mg)
    (gR : mg "is_replacement" = some (.ref fR)) (kR : PySem.W.keepIn K (.ref fR) = true) (bR : Binds K fdR ["begin", "end", "length", "row_length"] []) (GR : FnOk P w K mg base CX0 2 fR fdR ["begin", "end", "length", "row_length"] spRepl)
    (gM : mg "are_marks" = some (.ref fM)) (kM : PySem.W.keepIn K (.ref fM) = true) (bM : Binds K fdM ["thing", "high"] []) (GM : FnOk P w K mg base CX0 4 fM fdM ["thing", "high"] spMarks)
    (gS : mg "are_some_of" = some (.ref fS)) (kS : PySem.W.keepIn K (.ref fS) = true) (bS : Binds K fdS ["thing", "marks"] []) (GS : FnOk P w K mg base CX0 4 fS fdS ["thing", "marks"] spSome) :
    FnOk P w K mg base CX0 5 f fd ["thing", "row_length"] spChange := by
  refine F.ok scC (fun vs H Q E h => ?_) (fun cdv A outer s H vs Q E hr h => ?_)
  · obtain ⟨t, m, u, b, e, len, n, ms, ss, rfl, _⟩ := h
    rfl
  · obtain ⟨t, m, u, b, e, len, n, ms, ss, rfl, ht, hM, hS, G, k⟩ := h
    have hr2 : Room 2 (A.deeper (PyProof.Rows.envOfC "is_change" (defScope sChange) s.heap.objs.size f cdv)) := hr.mono (by decide)
    refine ⟨_, pss_cons (ps_if (PW.pt (pw_or (pt_not (pt_val (pe_callB call_isi (by rfl) T.isi (by decide +kernel) (pa_cons (pv 0) (pa_cons (pe_bltn (by rfl) T.tuple (by decide +kernel) (v := V.ty "tuple") rfl) pa_nil)))))
        (pw_or1 (pt_cmpR op_ne (pe_callB call_len_seq (by rfl) T.len PySem.boot_len (pa_cons (pv 0) pa_nil)) pe_int (nomark _))))) (pss_one (ps_ret pe_bl)) pss_nil)
      (pss_cons (ps_asg (pv 0) (pg_tup (by rfl) (pgs_cons (pg_name (i := 2) scC.nd rfl (Or.inl rfl)) (pgs_cons (pg_name (i := 3) scC.nd rfl (Or.inl rfl)) (pgs_cons (pg_name (i := 4) scC.nd rfl (Or.inl rfl)) (pgs_cons (pg_name (i := 5) scC.nd rfl (Or.inl rfl)) (pgs_cons (pg_name (i := 6) scC.nd rfl (Or.inl rfl)) pgs_nil)))))))
      (pss_cons (ps_if (pt_not (pt_val (pe_call GR hr2 rfl gR kR bR .nil pass0 (pa_cons (pv 2) (pa_cons (pv 3) (pa_cons (pv 4) (pa_cons (pv 1) pa_nil))))))) (pss_one (ps_ret pe_bl)) pss_nil)
      (pss_cons (ps_set (i := 7) scC.nd rfl (Or.inl rfl) (pe_ifExp (pt_cmpR op_eq (pv 3) (pv 1) (nomark _)) (pe_op op_sub (pv 4) pe_int) (pv 4)))
      (pss_one (ps_ret (pe_and (pe_call GM hr rfl gM kM bM .nil pass0 (pa_cons (pv 5) (pa_cons (pv 7) pa_nil))) (pe_one (pe_call GS hr rfl gS kS bS .nil pass0 (pa_cons (pv 6) (pa_cons (pv 5) pa_nil)))))))))), ?_⟩
    refine ⟨_, rfl, _, _, _, _, true, rfl, ClsV.ty _, .base (.tup ht), kit_ty (by decide +kernel), _, rfl, ?_⟩
    refine ifF rfl ?_
    refine ⟨_, rfl, t, _, rfl, .inr (SqT.of ht), rfl, _, rfl, ?_⟩
    refine ifF (by simp) ?_
    refine ⟨_, rfl, t, _, rfl, SqT.of ht, rfl, _, _, rfl, _, _, rfl, _, _, rfl, _, _, rfl, _, _, rfl, rfl, ?_⟩
    refine ⟨_, rfl, _, rfl, _, rfl, _, rfl, b, e, len, n, rfl, G.b0, G.be, G.en, G.l0, G.big, fun H1 s1 => ⟨_, rfl, ?_⟩⟩
    refine ifF rfl ?_
    have fin : ∀ hi, (∀ x ∈ ms, 1 ≤ x ∧ x ≤ hi) → spMarks [.ref m, .int hi] H1 (fun v H2 => ∃ c, v = .bl c ∧ (if c = true then spSome [.ref u, .ref m] H2 Q E else Q (.bl false) H2)) E := fun hi hx =>
      ⟨m, ms, hi, rfl, s1 _ _ hM, G.few, hx, G.asc, fun H2 s2 => ⟨_, rfl, iteT ⟨u, m, ss, ms, rfl, s2 _ _ (s1 _ _ hS), s2 _ _ (s1 _ _ hM), G.len2, G.few, G.asc2, fun y hy => (G.rng y (G.sub y hy)).1, G.sub, fun H3 s3 => k _ ((s1.trans s2).trans s3)⟩⟩⟩
    have rng := G.rng
    refine ⟨_, rfl, _, rfl, rfl, _, rfl, ?_⟩
    by_cases hen : e = n
    · refine ifT (by simp [hen]) ?_
      rw [if_pos hen] at rng
      refine ⟨_, rfl, _, _, rfl, rfl, ?_⟩
      refine ⟨_, rfl, _, rfl, ?_⟩
      obtain ⟨m1, ns1, hi1, e1, i1, i2, i3, i4, i5⟩ := fin _ rng
      refine ⟨m1, ns1, hi1, e1, i1, i2, i3, i4, fun H2 s2 => ?_⟩
      obtain ⟨c, ec, q⟩ := i5 H2 s2
      refine ⟨c, ec, ?_⟩
      cases ec
      exact ⟨_, rfl, _, rfl, q⟩
    · refine ifF (by simp [hen]) ?_
      rw [if_neg hen] at rng
      refine ⟨_, rfl, ?_⟩
      refine ⟨_, rfl, _, rfl, ?_⟩
      obtain ⟨m1, ns1, hi1, e1, i1, i2, i3, i4, i5⟩ := fin _ rng
      refine ⟨m1, ns1, hi1, e1, i1, i2, i3, i4, fun H2 s2 => ?_⟩
      obtain ⟨c, ec, q⟩ := i5 H2 s2
      refine ⟨c, ec, ?_⟩
      cases ec
      exact ⟨_, rfl, _, rfl, q⟩
end
end Cw
namespace Cw
open PySem L2
/-! ## the mathematics of a change -/
def rep (old new : List Int) (b e len nl : Int) : List Int := old.filter (fun x => decide (x ≤ b) && decide (x < nl)) ++ new.map (· + b) ++ (old.filter (fun x => decide (x > e))).map (· + (len - (e - b)))
theorem mem_rep {old new : List Int} {b e len nl x : Int} : x ∈ rep old new b e len nl ↔ (x ∈ old ∧ x ≤ b ∧ x < nl) ∨ (x - b ∈ new) ∨ (x - (len - (e - b)) ∈ old ∧ e < x - (len - (e - b))) := by
  unfold rep
  rw [List.mem_append, List.mem_append, List.mem_filter, List.mem_map, List.mem_map]
  constructor
  · rintro ((⟨h1, h2⟩ | ⟨y, h, rfl⟩) | ⟨y, h, rfl⟩)
    · simp only [Bool.and_eq_true, decide_eq_true_eq] at h2
      exact .inl ⟨h1, h2⟩
    · refine .inr (.inl ?_)
      have z : y + b - b = y := by omega
      rw [z]
      exact h
    · rw [List.mem_filter] at h
      have z : y + (len - (e - b)) - (len - (e - b)) = y := by omega
      refine .inr (.inr ?_)
      rw [z]
      exact ⟨h.1, of_decide_eq_true h.2⟩
  · rintro (⟨h1, h2, h3⟩ | h | ⟨h1, h2⟩)
    · exact .inl (.inl ⟨h1, by simp [h2, h3]⟩)
    · exact .inl (.inr ⟨_, h, by omega⟩)
    · exact .inr ⟨_, List.mem_filter.mpr ⟨h1, decide_eq_true h2⟩, by omega⟩
theorem asc_shift {ns : List Int} (h : Asc ns) (k : Int) : Asc (ns.map (· + k)) := by
  rw [Asc, List.pairwise_map]
  exact h.imp fun {a b} x => by omega
theorem asc_rep {old new : List Int} {b e len nl : Int} (h1 : Asc old) (h2 : Asc new) (hn : ∀ x ∈ new, 1 ≤ x ∧ x ≤ len) (hl : 0 ≤ len) : Asc (rep old new b e len nl) := by
  unfold rep
  rw [Asc, List.pairwise_append, List.pairwise_append]
  refine ⟨⟨h1.filter _, asc_shift h2 b, ?_⟩, asc_shift (h1.filter _) _, ?_⟩
  · intro x hx y hy
    obtain ⟨z, hz, rfl⟩ := List.mem_map.mp hy
    have q := (List.mem_filter.mp hx).2
    simp only [Bool.and_eq_true, decide_eq_true_eq] at q
    have := hn z hz
    omega
  · intro x hx y hy
    obtain ⟨z, hz, rfl⟩ := List.mem_map.mp hy
    have q := of_decide_eq_true (List.mem_filter.mp hz).2
    rcases List.mem_append.mp hx with hx | hx
    · have r := (List.mem_filter.mp hx).2
      simp only [Bool.and_eq_true, decide_eq_true_eq] at r
      omega
    · obtain ⟨u, hu, rfl⟩ := List.mem_map.mp hx
      have := hn u hu
      omega
theorem good_rep {n b e len : Int} {ms ss cs ds : List Int} (G : Good n ms ss) (D : ChOk n b e len cs ds) (hl : (rep ms cs b e len (n - (e - b) + len)).length ≤ 400) :
    Good (n - (e - b) + len) (rep ms cs b e len (n - (e - b) + len)) (rep ss ds b e len (n - (e - b) + len)) := by
  have b0 := D.b0
  have be := D.be
  have en := D.en
  have l0 := D.l0
  have le : ∀ x ∈ cs, 1 ≤ x ∧ x ≤ len := fun x hx => by
    have := D.rng x hx
    split at this <;> omega
  refine ⟨by have := D.big; omega, hl, fun x hx => ?_, asc_rep G.asc D.asc le l0, asc_rep G.asc2 D.asc2 (fun x hx => le x (D.sub x hx)) l0, fun x hx => ?_⟩
  · rcases mem_rep.mp hx with ⟨h1, h2, h3⟩ | h | ⟨h1, h2⟩
    · have := G.rng x h1
      omega
    · have := D.rng _ h
      split at this <;> omega
    · have := G.rng _ h1
      omega
  · rcases mem_rep.mp hx with ⟨h1, h2, h3⟩ | h | ⟨h1, h2⟩
    · exact mem_rep.mpr (.inl ⟨G.sub _ h1, h2, h3⟩)
    · exact mem_rep.mpr (.inr (.inl (D.sub _ h)))
    · exact mem_rep.mpr (.inr (.inr ⟨G.sub _ h1, h2⟩))
theorem take_map {ns : List Int} {i : Nat} {z : Int} (h : ns[i]? = some z) (f : Int → Int) : (ns.take (i + 1)).map f = (ns.take i).map f ++ [f z] := by
  rw [List.take_add_one, h, List.map_append]
  rfl
theorem take_fil {ns : List Int} {i : Nat} {z : Int} (h : ns[i]? = some z) (p : Int → Bool) : (ns.take (i + 1)).filter p = (ns.take i).filter p ++ (if p z = true then [z] else []) := by
  rw [List.take_add_one, h, List.filter_append]
  congr 1
  show List.filter p [z] = _
  rw [List.filter_cons]
  rfl
theorem small2000 {n : Nat} (h : n ≤ 2000) : n < sizeLine := Nat.lt_of_le_of_lt h (by decide)
theorem small3000 {n : Nat} (h : n ≤ 3000) : n < sizeLine := Nat.lt_of_le_of_lt h (by decide)
def spShift : Sp := fun vs H Q _ => ∃ (a : Addr) (ns : List Int) (k : Int), vs = [.ref a, .int k] ∧ IL H a ns ∧ ns.length ≤ 1000 ∧ ∀ p H', Same H H' → H p = none → IL H' p (ns.map (· + k)) → Q (.ref p) H'
def spReplaced : Sp := fun vs H Q _ => ∃ (a c t : Addr) (os ns : List Int) (b e len nl : Int) (x y : V), vs = [.ref a, .ref c, .ref t, .int nl] ∧ IL H a os ∧ IL H c ns ∧ H t = some (.tup [.int b, .int e, .int len, x, y]) ∧ os.length ≤ 1000 ∧ ns.length ≤ 1000 ∧
  ∀ p H', Same H H' → H p = none → IL H' p (rep os ns b e len nl) → Q (.ref p) H'
def spChanged (C : Addr) : Sp := fun vs H Q _ => ∃ (x t m u : Addr) (n b e len : Int) (ms ss cs ds : List Int), vs = [.ref x, .ref t] ∧ RowAt C H x n ms ss ∧ H t = some (.tup [.int b, .int e, .int len, .ref m, .ref u]) ∧ IL H m cs ∧ IL H u ds ∧ Good n ms ss ∧ ChOk n b e len cs ds ∧
  (rep ms cs b e len (n - (e - b) + len)).length ≤ 400 ∧ ∀ p H', Same H H' → RowNew C H H' p (n - (e - b) + len) (rep ms cs b e len (n - (e - b) + len)) (rep ss ds b e len (n - (e - b) + len)) → Q (.ref p) H'
section
variable {P : Program} {w : World} {K : PySem.W.Frag} {mg : Str → Option Value} {base : Heap}
abbrev NS : List Str := ["places", "number", "place"]
theorem scSh : FnScope NS ["places", "number"] (defScope sShift) := ⟨rfl, rfl, rfl, by decide +kernel, rfl, by decide +kernel, by decide +kernel⟩
theorem ok_shift {f : Addr} {fd : FuncData} (F : Fun K "shifted" "shifted" sShift f fd) : FnOk P w K mg base CX0 1 f fd ["places", "number"] spShift := by
  refine F.ok scSh (fun vs H Q E h => ?_) (fun cdv A outer s H vs Q E hr h => ?_)
  · obtain ⟨a, ns, k, rfl, _⟩ := h
    rfl
  · obtain ⟨a, ns, k, rfl, hS, hl, q⟩ := h
    refine ⟨_, pss_one (ps_ret (pe_lc (own := [("place", 2)]) (g := gName 2) (tt := tYes) rfl scSh.nd (pi_list (pv 0)) (blkOk_by (own := [("place", 2)]) (N := NS) (sc := defScope sShift) (by decide +kernel))
        (fun _ _ _ _ _ => pg_name (i := 2) scSh.nd rfl (Or.inl rfl)) (fun _ _ _ _ _ => pts_nil) (fun _ _ _ _ _ => pe_op op_add (pv 2) (pv 1)))), ?_⟩
    refine ⟨_, rfl, a, rfl, ⟨_, SqL.of hS⟩, fun D hD => ?_⟩
    refine lc_list (K := K) (a := a) (xs := ns.map V.int) (fun i H' => Same H H' ∧ IL H' D ((ns.take i).map (· + k))) ⟨same_new (Same.refl H) hD, upd_same⟩ (fun i H' _ z => SqL.of (z.1 _ _ hS)) ?_ ?_
    · rintro i x H' hx ⟨s1, hD'⟩
      obtain ⟨z, rfl, hz⟩ := il_at hx
      have hil : i < ns.length := (List.getElem?_eq_some_iff.mp hz).1
      refine ⟨rfl, ?_⟩
      unfold tYes
      refine iteT ?_
      refine ⟨_, rfl, _, rfl, _, _, rfl, rfl, ?_⟩
      refine ⟨_, hD', by rw [List.length_map, List.length_map, List.length_take]; exact small1000 (by omega), same_put s1 hD, ?_⟩
      show upd _ _ _ D = _
      rw [upd_same, ints_app, take_map hz]
    · rintro H' ⟨s1, hD'⟩
      rw [List.length_map, List.take_length] at hD'
      exact q D H' s1 hD hD'
abbrev NP : List Str := ["old", "new", "change", "new_length", "begin", "end", "length", "_", "before", "behind", "mark"]
theorem scRp : FnScope NP ["old", "new", "change", "new_length"] (defScope sReplaced) := ⟨rfl, rfl, rfl, by decide +kernel, rfl, by decide +kernel, by decide +kernel⟩
theorem ok_replaced {f fS : Addr} {fd fdS : FuncData} (F : Fun K "replaced" "replaced" sReplaced f fd) (gS : mg "shifted" = some (.ref fS)) (kS : PySem.W.keepIn K (.ref fS) = true) (bS : Binds K fdS ["places", "number"] []) (GS : FnOk P w K mg base CX0 1 fS fdS ["places", "number"] spShift) :
    FnOk P w K mg base CX0 2 f fd ["old", "new", "change", "new_length"] spReplaced := by
  refine F.ok scRp (fun vs H Q E h => ?_) (fun cdv A outer s H vs Q E hr h => ?_)
  · obtain ⟨a, c, t, os, ns, b, e, len, nl, x, y, rfl, _⟩ := h
    rfl
  · obtain ⟨a, c, t, os, ns, b, e, len, nl, x, y, rfl, hO, hN, ht, lo, ln, q⟩ := h
    refine ⟨_, pss_cons (ps_asg (pv 2) (pg_tup (by rfl) (pgs_cons (pg_name (i := 4) scRp.nd rfl (Or.inr rfl)) (pgs_cons (pg_name (i := 5) scRp.nd rfl (Or.inr rfl)) (pgs_cons (pg_name (i := 6) scRp.nd rfl (Or.inl rfl)) (pgs_cons (pg_name (i := 7) scRp.nd rfl (Or.inl rfl)) (pgs_cons (pg_name (i := 7) scRp.nd rfl (Or.inl rfl)) pgs_nil)))))))
      (pss_cons (ps_setLc (i := 8) (own := [("mark", 10)]) (g := gName 10) rfl scRp.nd rfl rfl (sw_true rfl rfl rfl (by decide +kernel)) (pi_list (pv 0)) (blkOk_by (own := [("mark", 10)]) (N := NP) (sc := defScope sReplaced) (by decide +kernel))
        (fun _ _ _ _ _ => pg_name (i := 10) scRp.nd rfl (Or.inl rfl)) (fun _ _ _ _ _ => pts_one (PW.pt (pw_and (pt_cmpR op_le (pv 10) (pv 4) (nomark _)) (pw_and1 (pt_cmpR op_lt (pv 10) (pv 3) (nomark _)))))) (fun _ _ _ _ _ => pv 10))
      (pss_cons (ps_setLc (i := 9) (own := [("mark", 10)]) (g := gName 10) rfl scRp.nd rfl rfl (sw_true rfl rfl rfl (by decide +kernel)) (pi_list (pv 0)) (blkOk_by (own := [("mark", 10)]) (N := NP) (sc := defScope sReplaced) (by decide +kernel))
        (fun _ _ _ _ _ => pg_name (i := 10) scRp.nd rfl (Or.inl rfl)) (fun _ _ _ _ _ => pts_one (pt_cmpR op_gt (pv 10) (pv 5) (nomark _))) (fun _ _ _ _ _ => pv 10))
      (pss_one (ps_ret (pe_op op_cat (pe_op op_cat (pv 8) (pe_call GS hr rfl gS kS bS .nil pass0 (pa_cons (pv 1) (pa_cons (pv 4) pa_nil))))
        (pe_call GS hr rfl gS kS bS .nil pass0 (pa_cons (pv 9) (pa_cons (pe_op op_sub (pv 6) (pe_op op_sub (pv 5) (pv 4))) pa_nil)))))))), ?_⟩
    refine ⟨_, rfl, t, _, rfl, SqT.of ht, rfl, _, _, rfl, _, _, rfl, _, _, rfl, _, _, rfl, _, _, rfl, rfl, ?_⟩
    refine ⟨_, rfl, a, rfl, ⟨_, SqL.of hO⟩, fun D hD => ?_⟩
    refine lc_list (K := K) (a := a) (xs := os.map V.int) (fun i H' => Same H H' ∧ IL H' D ((os.take i).filter (fun x => decide (x ≤ b) && decide (x < nl)))) ⟨same_new (Same.refl H) hD, upd_same⟩ (fun i H' _ z => SqL.of (z.1 _ _ hO)) ?_ ?_
    · rintro i x' H' hx ⟨s1, hD'⟩
      obtain ⟨z, rfl, hz⟩ := il_at hx
      have hil : i < os.length := (List.getElem?_eq_some_iff.mp hz).1
      have tf := take_fil hz (fun x => decide (x ≤ b) && decide (x < nl))
      have sm : (List.map V.int ((os.take i).filter (fun x => decide (x ≤ b) && decide (x < nl)))).length < sizeLine := by
        rw [List.length_map]
        have z1 := List.length_filter_le (fun x => decide (x ≤ b) && decide (x < nl)) (os.take i)
        rw [List.length_take] at z1
        exact small1000 (by omega)
      refine ⟨rfl, ?_⟩
      refine ⟨_, rfl, _, rfl, _, _, rfl, rfl, _, rfl, ?_⟩
      by_cases c1 : z ≤ b
      · refine ifT (decide_eq_true c1) ?_
        refine ⟨_, rfl, _, rfl, _, _, rfl, rfl, _, rfl, ?_⟩
        by_cases c2 : z < nl
        · refine ifT (decide_eq_true c2) ?_
          refine ⟨_, rfl, _, hD', sm, same_put s1 hD, ?_⟩
          show upd _ _ _ D = _
          rw [upd_same, ints_app, tf]
          simp [c1, c2]
        · refine ifF (decide_eq_false c2) ?_
          refine ⟨s1, ?_⟩
          show H' D = _
          rw [hD', tf]
          simp [c2]
      · refine ifF (decide_eq_false c1) ?_
        refine ifF rfl ?_
        refine ⟨s1, ?_⟩
        show H' D = _
        rw [hD', tf]
        simp [c1]
    · rintro H' ⟨s1, hD'⟩
      rw [List.length_map, List.take_length] at hD'
      have nD : H D = none := hD
      refine ⟨_, rfl, a, rfl, ⟨_, SqL.of (s1 _ _ hO)⟩, fun D2 hD2 => ?_⟩
      have nDD : D ≠ D2 := ne_of_none hD' hD2
      refine lc_list (K := K) (a := a) (xs := os.map V.int) (fun i H2 => Same H' H2 ∧ IL H2 D2 ((os.take i).filter (fun x => decide (x > e)))) ⟨same_new (Same.refl H') hD2, upd_same⟩ (fun i H2 _ z => SqL.of (z.1 _ _ (s1 _ _ hO))) ?_ ?_
      · rintro i x' H2 hx ⟨s2, hE⟩
        obtain ⟨z, rfl, hz⟩ := il_at hx
        have hil : i < os.length := (List.getElem?_eq_some_iff.mp hz).1
        have tf := take_fil hz (fun x => decide (x > e))
        have sm : (List.map V.int ((os.take i).filter (fun x => decide (x > e)))).length < sizeLine := by
          rw [List.length_map]
          have z1 := List.length_filter_le (fun x => decide (x > e)) (os.take i)
          rw [List.length_take] at z1
          exact small1000 (by omega)
        refine ⟨rfl, ?_⟩
        refine ⟨_, rfl, _, rfl, _, _, rfl, rfl, _, rfl, ?_⟩
        by_cases c1 : z > e
        · refine ifT (decide_eq_true c1) ?_
          refine ⟨_, rfl, _, hE, sm, same_put s2 hD2, ?_⟩
          show upd _ _ _ D2 = _
          rw [upd_same, ints_app, tf]
          simp [c1]
        · refine ifF (decide_eq_false c1) ?_
          refine ⟨s2, ?_⟩
          show H2 D2 = _
          rw [hE, tf]
          simp [c1]
      · rintro H2 ⟨s2, hE⟩
        rw [List.length_map, List.take_length] at hE
        have s12 := s1.trans s2
        have l1 := List.length_filter_le (fun x => decide (x ≤ b) && decide (x < nl)) os
        have l2 := List.length_filter_le (fun x => decide (x > e)) os
        refine ⟨_, rfl, _, rfl, _, rfl, c, ns, b, rfl, s12 _ _ hN, ln, fun p3 H3 s3 n3 hp3 => ?_⟩
        refine ⟨D, p3, _, _, rfl, rfl, s3 _ _ (s2 _ _ hD'), hp3, by rw [List.length_map, List.length_map, List.length_map]; exact Nat.le_of_lt (small2000 (by omega)), fun p4 n4 => ?_⟩
        have s4 := same_new (o := .lst (((os.filter (fun x => decide (x ≤ b) && decide (x < nl))).map V.int) ++ ((ns.map (· + b)).map V.int))) s3 n4
        refine ⟨_, rfl, _, rfl, _, rfl, _, rfl, _, _, rfl, rfl, _, _, rfl, rfl, ?_⟩
        refine ⟨D2, _, _, rfl, s4 _ _ hE, by omega, fun p5 H5 s5 n5 hp5 => ?_⟩
        refine ⟨p4, p5, _, _, rfl, rfl, s5 _ _ upd_same, hp5, by simp only [List.length_append, List.length_map]; exact Nat.le_of_lt (small3000 (by omega)), fun p6 n6 => ?_⟩
        have s16 : Same H (upd H5 p6 (.lst (((os.filter (fun x => decide (x ≤ b) && decide (x < nl))).map V.int ++ (ns.map (· + b)).map V.int) ++ ((os.filter (fun x => decide (x > e))).map (· + (len - (e - b)))).map V.int))) := same_new ((s12.trans s4).trans s5) n6
        have n6' : H p6 = none := ((s12.trans s4).trans s5).free n6
        refine q p6 _ s16 n6' ?_
        show upd _ _ _ p6 = _
        rw [upd_same]
        unfold rep
        rw [List.map_append, List.map_append]
end
end Cw
namespace Cw
open PySem L2
abbrev sParts : Stmt := top 20
def spParts (C : Addr) : Sp := fun vs H Q _ => ∃ (x t m u : Addr) (n b e len : Int) (ms ss cs ds : List Int), vs = [.ref x, .ref t] ∧ RowAt C H x n ms ss ∧ H t = some (.tup [.int b, .int e, .int len, .ref m, .ref u]) ∧ IL H m cs ∧ IL H u ds ∧ Good n ms ss ∧ ChOk n b e len cs ds ∧
  ∀ p p2 p3 H', Same H H' → H' p = some (.tup [.int (n - (e - b) + len), .ref p2, .ref p3]) → IL H' p2 (rep ms cs b e len (n - (e - b) + len)) → IL H' p3 (rep ss ds b e len (n - (e - b) + len)) → Q (.ref p) H'
section
variable {P : Program} {w : World} {K : PySem.W.Frag} {mg : Str → Option Value} {base : Heap}
abbrev NPq : List Str := ["row", "change", "begin", "end", "length", "marks", "strict", "new_length", "new_marks", "new_strict"]
theorem scPq : FnScope NPq ["row", "change"] (defScope sParts) := ⟨rfl, rfl, rfl, by decide +kernel, rfl, by decide +kernel, by decide +kernel⟩
theorem ok_parts {f C fP pL fL pM fM pS fS : Addr} {fd fdP dL dM dS : FuncData} (F : Fun K "changed_parts" "changed_parts" sParts f fd) (R : Cl K mg C) (Gs : Gets P w K mg base C pL fL pM fM pS fS dL dM dS)
    (gP : mg "replaced" = some (.ref fP)) (kP : PySem.W.keepIn K (.ref fP) = true) (bP : Binds K fdP ["old", "new", "change", "new_length"] []) (GP : FnOk P w K mg base CX0 2 fP fdP ["old", "new", "change", "new_length"] spReplaced) :
    FnOk P w K mg base CX0 3 f fd ["row", "change"] (spParts C) := by
  refine F.ok scPq (fun vs H Q E h => ?_) (fun cdv A outer s H vs Q E hr h => ?_)
  · obtain ⟨x, t, m, u, n, b, e, len, ms, ss, cs, ds, rfl, _⟩ := h
    rfl
  · obtain ⟨x, t, m, u, n, b, e, len, ms, ss, cs, ds, rfl, hx, ht, hM, hS, G, D, q⟩ := h
    refine ⟨_, pss_cons (ps_asg (pv 1) (pg_tup (by rfl) (pgs_cons (pg_name (i := 2) scPq.nd rfl (Or.inl rfl)) (pgs_cons (pg_name (i := 3) scPq.nd rfl (Or.inl rfl)) (pgs_cons (pg_name (i := 4) scPq.nd rfl (Or.inl rfl)) (pgs_cons (pg_name (i := 5) scPq.nd rfl (Or.inl rfl)) (pgs_cons (pg_name (i := 6) scPq.nd rfl (Or.inl rfl)) pgs_nil)))))))
      (pss_cons (ps_set (i := 7) scPq.nd rfl (Or.inl rfl) (pe_op op_add (pe_op op_sub (pe_prop (pv 0) R.cl Gs.hL Gs.GL hr Gs.bL .nil pass0 rfl) (pe_op op_sub (pv 3) (pv 2))) (pv 4)))
      (pss_cons (ps_set (i := 8) scPq.nd rfl (Or.inl rfl) (pe_call GP hr rfl gP kP bP .nil pass0 (pa_cons (pe_prop (pv 0) R.cl Gs.hM Gs.GM hr Gs.bM .nil pass0 rfl) (pa_cons (pv 5) (pa_cons (pv 1) (pa_cons (pv 7) pa_nil))))))
      (pss_cons (ps_set (i := 9) scPq.nd rfl (Or.inl rfl) (pe_call GP hr rfl gP kP bP .nil pass0 (pa_cons (pe_prop (pv 0) R.cl Gs.hS Gs.GS hr Gs.bS .nil pass0 rfl) (pa_cons (pv 6) (pa_cons (pv 1) (pa_cons (pv 7) pa_nil))))))
      (pss_one (ps_ret (pe_tup (pa_cons (pv 7) (pa_cons (pv 8) (pa_cons (pv 9) pa_nil))))))))), ?_⟩
    obtain ⟨dx, l1, l2, ho, h1, h2⟩ := id hx
    refine ⟨_, rfl, t, _, rfl, SqT.of ht, rfl, _, _, rfl, _, _, rfl, _, _, rfl, _, _, rfl, _, _, rfl, rfl, ?_⟩
    refine ⟨_, rfl, x, dx, _, rfl, ho, x, n, ms, ss, rfl, hx, _, rfl, _, rfl, _, _, rfl, rfl, _, _, rfl, rfl, _, rfl, _, _, rfl, rfl, ?_⟩
    have lm := G.len
    have ls := G.len2
    have lc := D.few
    have ld := D.len2
    refine ⟨_, rfl, x, dx, _, rfl, ho, x, n, ms, ss, rfl, hx, fun a1 H1 s1 n1 i1 => ?_⟩
    refine ⟨_, rfl, _, rfl, _, rfl, a1, m, t, ms, cs, b, e, len, _, _, _, rfl, i1, s1 _ _ hM, s1 _ _ ht, by omega, by omega, fun p2 H2 s2 n2 hp2 => ?_⟩
    have s12 := s1.trans s2
    have R2 := hx.same s12
    refine ⟨_, rfl, x, dx, _, rfl, s12 _ _ ho, x, n, ms, ss, rfl, R2, fun a3 H3 s3 n3 i3 => ?_⟩
    have s13 := s12.trans s3
    refine ⟨_, rfl, _, rfl, _, rfl, a3, u, t, ss, ds, b, e, len, _, _, _, rfl, i3, s13 _ _ hS, s13 _ _ ht, by omega, by omega, fun p3 H4 s4 n4 hp3 => ?_⟩
    refine ⟨_, rfl, _, rfl, _, rfl, (by show 3 ≤ sizeLine; decide), fun p np => ?_⟩
    have s5 := same_new (o := .tup [.int (n - (e - b) + len), .ref p2, .ref p3]) (Same.refl H4) np
    exact q p p2 p3 _ ((s13.trans s4).trans s5) upd_same (s5 _ _ (s4 _ _ (s3 _ _ hp2))) (s5 _ _ hp3)
abbrev NCh : List Str := ["self", "change", "length", "marks", "strict"]
theorem scCh : FnScope NCh ["self", "change"] (defScope sChanged) := ⟨rfl, rfl, rfl, by decide +kernel, rfl, by decide +kernel, by decide +kernel⟩
theorem ok_changed {f C fC fP fI : Addr} {fd fdC fdP fdI : FuncData} (F : Fun K "changed" "Row.changed" sChanged f fd) (R : Cl K mg C) (M : Mk K C fI)
    (gC : mg "is_change" = some (.ref fC)) (kC : PySem.W.keepIn K (.ref fC) = true) (bC : Binds K fdC ["thing", "row_length"] []) (GC : FnOk P w K mg base CX0 5 fC fdC ["thing", "row_length"] spChange)
    (gP : mg "changed_parts" = some (.ref fP)) (kP : PySem.W.keepIn K (.ref fP) = true) (bP : Binds K fdP ["row", "change"] []) (GP : FnOk P w K mg base CX0 3 fP fdP ["row", "change"] (spParts C))
    (bI : Binds K fdI NI []) (GI : FnOk P w K mg base CX0 5 fI fdI NI (spInit C)) :
    FnOk P w K mg base CX0 7 f fd ["self", "change"] (spChanged C) := by
  refine F.ok scCh (fun vs H Q E h => ?_) (fun cdv A outer s H vs Q E hr h => ?_)
  · obtain ⟨x, t, m, u, n, b, e, len, ms, ss, cs, ds, rfl, _⟩ := h
    rfl
  · obtain ⟨x, t, m, u, n, b, e, len, ms, ss, cs, ds, rfl, hx, ht, hM, hS, G, D, hl, q⟩ := h
    have hr5 : Room 5 (A.deeper (PyProof.Rows.envOfC "Row.changed" (defScope sChanged) s.heap.objs.size f cdv)) := hr.mono (by decide)
    have hr3 : Room 3 (A.deeper (PyProof.Rows.envOfC "Row.changed" (defScope sChanged) s.heap.objs.size f cdv)) := hr.mono (by decide)
    refine ⟨_, pss_cons (ps_if (pt_not (pt_val (pe_call GC hr5 rfl gC kC bC .nil pass0 (pa_cons (pv 1) (pa_cons (pe_fld (pv 0) rfl) pa_nil))))) pss_never pss_nil)
      (pss_cons (ps_asg (pe_call GP hr3 rfl gP kP bP .nil pass0 (pa_cons (pv 0) (pa_cons (pv 1) pa_nil))) (pg_tup (by rfl) (pgs_cons (pg_name (i := 2) scCh.nd rfl (Or.inl rfl)) (pgs_cons (pg_name (i := 3) scCh.nd rfl (Or.inl rfl)) (pgs_cons (pg_name (i := 4) scCh.nd rfl (Or.inl rfl)) pgs_nil)))))
      (pss_one (ps_ret (pe_make M GI hr rfl R.mgR bI .nil pass0 (pa_cons (pv 2) (pa_cons (pv 3) (pa_cons (pv 4) pa_nil))))))), ?_⟩
    obtain ⟨dx, l1, l2, ho, h1, h2⟩ := id hx
    refine ⟨_, rfl, _, rfl, x, C, dx, _, _, rfl, ho, R.cl, R.nL, fl_L _ _ _, ?_⟩
    refine ⟨t, m, u, b, e, len, n, cs, ds, rfl, ht, hM, hS, D, fun H1 s1 => ⟨_, rfl, ?_⟩⟩
    refine ifF rfl ?_
    refine ⟨_, rfl, _, rfl, x, t, m, u, n, b, e, len, ms, ss, cs, ds, rfl, hx.same s1, s1 _ _ ht, s1 _ _ hM, s1 _ _ hS, G, D, fun p p2 p3 H2 s2 hp hp2 hp3 => ?_⟩
    refine ⟨p, _, rfl, SqT.of hp, rfl, _, _, rfl, _, _, rfl, _, _, rfl, rfl, ?_⟩
    refine ⟨_, rfl, _, rfl, _, rfl, fun y dy ny nd ne => ?_⟩
    have s12 := s1.trans s2
    have s4 : Same H2 (upd (upd H2 dy (.own y)) y (.ins C dy [])) := same_new (same_new (Same.refl H2) nd) (by rw [upd_ne (Ne.symm ne)]; exact ny)
    refine ⟨y, dy, p2, p3, _, _, _, rfl, upd_same, s4 _ _ hp2, s4 _ _ hp3, good_rep G D hl, fun H5 row kp => ⟨rfl, ?_⟩⟩
    exact q y H5 (same_ins s12 ny nd kp) (row.mono fun c o e => ⟨o, s4 _ _ (s12 _ _ e)⟩)
end
end Cw
namespace Cw
open PySem PySem.Spec PyProof.Rows L2
/-! ## defs of which it is known that no list's text is being made around them -/
structure FnG (P : Program) (w : World) (K : PySem.W.Frag) (mg : Str → Option Value) (base : Heap) (k : Nat) (f : Addr) (fd : FuncData) (ps : List Str) (sp : Sp) : Prop where
  len : ∀ vs H Q E, sp vs H Q E → vs.length = ps.length
  run : ∀ (A : Around) (outer : List Env) (s : Shared) (H : Hp) (args : Args) (us : List Value) (vs : List V) (Q : VK) (E : XK), Room k A → A.guards = some [] → Env0 P w K mg base A outer s H → BindsTo s fd args (ps.zip us) → Vals vs us → sp vs H Q E →
    codeAny (model P w) A (.call (.ref f) args) (CR CX0 outer P w H s Q E) s
theorem FnG.of {P : Program} {w : World} {K : PySem.W.Frag} {mg : Str → Option Value} {base : Heap} {k : Nat} {f : Addr} {fd : FuncData} {ps : List Str} {sp : Sp} (F : FnOk P w K mg base CX0 k f fd ps sp) : FnG P w K mg base k f fd ps sp :=
  ⟨F.len, fun A outer s H args us vs Q E hr _ => F.run A outer s H args us vs Q E hr⟩
section
variable {P : Program} {w : World} {K : PySem.W.Frag} {mg : Str → Option Value} {base : Heap}
theorem okG {x qual : Str} {st : Stmt} {f : Addr} {fd : FuncData} {N ps : List Str} {k : Nat} {sp : Sp} (F : Fun K x qual st f fd) (S : FnScope N ps (defScope st)) (len : ∀ vs H Q E, sp vs H Q E → vs.length = ps.length)
    (body : ∀ (cdv : Value) (A : Around) (outer : List Env) (s : Shared) (H : Hp) (vs : List V) (Q : VK) (E : XK), Room k (A.deeper (envOfC qual (defScope st) s.heap.objs.size f cdv)) → A.guards = some [] → sp vs H Q E →
      ∃ t, PSs (cxOf CX0 P w K mg base N qual (defScope st) f cdv A outer s H E).nox (defBody st) t ∧ t { nx := fun _ H' => Q .non H', rt := Q } (start N vs) H) : FnG P w K mg base (k + 1) f fd ps sp := by
  obtain ⟨oc, od, kV, doc, pm, an, cdv, ct, osl, rfl, look, hcd⟩ := F.ex
  refine ⟨len, fun A outer s H args us vs Q E room gu env bind rel prom => ?_⟩
  have here : K.In s.heap := env.mod.kin.keeps fun b o e => (env.bs b o e).1
  have free : s.heap.NoLimit := env.mod.nolimit.keeps fun b o e => (env.bs b o e).1
  have kinds : ∀ y ∈ ps.zip us, (defScope st).names.lookup y.1 = some .local ∨ ((defScope st).names.lookup y.1 = some .cell ∧ ((cellsFrom (s.heap.objs.size + 1) (defScope st).names []).lookup y.1).isSome = true) := fun y hy =>
    (S.par y.1 (List.of_mem_zip (show (y.1, y.2) ∈ ps.zip us from hy)).1).imp id fun z => ⟨z, PySem.W.cellsFrom_some _ _ _ (.inl z)⟩
  refine codeAny_call_function room.depth (here _ _ look) rfl S.co S.gen rfl (PySem.W.codeRec_of here hcd) (bind _ _ _ _ (wpAny_newFunctionEnv_cells S.kind kinds fun e he s1 ic => ?_))
  subst he
  obtain ⟨t, ht, hq⟩ := body cdv A outer s H vs Q E (room.deeper _) gu prom
  refine ⟨free.keeps ic.toInCall.keep, codeAny_func (wpAny_mono (ht.nox.run [] s1 (start N vs) H _ (inv_start S room.hd env (len _ _ _ _ prom) rel ic) hq) (fun fl s2 z => ?_) fun _ _ z => z)⟩
  cases fl with
  | ret u =>
    obtain ⟨v, _, H2, J, rv, qq⟩ := z
    exact ⟨v, H2, J.os, J.bare, J.base, J.hok, rv, qq⟩
  | next =>
    obtain ⟨_, H2, J, qq⟩ := z
    exact ⟨V.non, H2, J.os, J.bare, J.base, J.hok, rfl, qq⟩
  | brk =>
    obtain ⟨_, _, _, qq⟩ := z
    exact qq.elim
  | cont =>
    obtain ⟨_, _, _, qq⟩ := z
    exact qq.elim
end
section
variable {X : Cx} {k : Nat} {f : Addr} {fd : FuncData} {ps : List Str} {sp : Sp} {x : Str} {p pos : Pos} {e : Expr} {es : List Expr} {t : TA}
/-- a call of such a def where no list's text is being made -/
theorem pe_callG (F : FnG X.prog X.w X.K X.mg X.base k f fd ps sp) (room : Room k X.A) (gu : X.A.guards = some []) (gl : Gl X x) (hm : X.mg x = some (.ref f)) (kp : PySem.W.keepIn X.K (.ref f) = true) (bi : Binds X.K fd ps [])
    (ha : PA X (e :: es) t) (hdb : (x == ("__debug__" : Str)) = false := by decide) (he : starEach (e :: es) X.env = (false, eval e X.env) :: starEach es X.env := by rfl) (hpl : (backTo pos (starEach es X.env)).any (·.1) = false := by rfl) :
    PE X (.Call (.Name x p) (e :: es) [] pos) (tCall sp [] E0 t) := by
  refine ⟨fun pins s σ H Q I h => wpAny_Call_Name_kw (ld_glob I gl hm (PySem.W.callWith_K (h₀ := X.base) I.ok.mod.kin kp (thn (ha.run pos pins s σ H _ I h) fun us s1 ⟨vs, H1, I1, r, q⟩ => ⟨I1.kIn, ?_⟩) he hpl) hdb)⟩
  have q' : sp vs H1 Q E0 := by
    have z : sp (vs ++ []) H1 Q E0 := q
    rw [List.append_nil] at z
    exact z
  have many : us.length = ps.length := by rw [← r.length]; exact F.len _ _ _ _ q'
  refine wpAny_call (codeAny_mono (F.run X.A X.stack s1 H1 ⟨us, []⟩ us vs Q E0 room gu I1.env0 (by have z := bi s1 us I1.kIn (by rw [List.append_nil]; exact many); rw [List.append_nil] at z; exact z) r q') fun res s2 z => ?_)
  cases res with
  | error er => exact z.elim
  | ok fl =>
    cases fl with
    | ret u => exact I1.after z
    | next => exact z.elim
    | brk => exact z.elim
    | cont => exact z.elim
/-- repr of data: none of its lists is being shown around here -/
def rReprD (K : PySem.W.Frag) : List V → Hp → VK → Prop := fun xs H Q => ∃ a d, xs = [V.ref a] ∧ Dp K H (.ref a) d ∧ d.showable = true ∧ d.hasDict = false ∧ d.depth ≤ 60 ∧ d.shown.length ≤ sizeLine ∧ Q (.str d.shown) H
theorem call_reprD (gu : X.A.guards = some []) (hu : X.A.units + 64 < cLine) : CallR X (.builtin "repr") (rReprD X.K) := by
  intro pins s σ H xs us Q I r h
  obtain ⟨a, d, rfl, hd, sh, nd, dp, sz, q⟩ := h
  obtain ⟨u, rfl, rx⟩ := vals1 r
  obtain rfl : u = Value.ref a := rx
  obtain ⟨as, rd⟩ := Dp.reads I d (.ref a) (.ref a) hd rfl
  exact repr_of_reads' rd sh (fun z => by rw [nd] at z; cases z) gu (by omega) (fun _ _ e => e) (fun h' u tk keep => ⟨.str d.shown, H, I.kept keep, ⟨_, rfl⟩, q⟩) sz
end
end Cw
namespace Cw
open PySem PySem.Spec PyProof.Rows L2
/-- the law's call, its def being one of FnG; H tracks at most the script -/
theorem startG {P : Program} {w : World} {K : PySem.W.Frag} {mg mb : Str → Option Value} {k : Nat} {fa a : Addr} {fd : FuncData} {x : Str} {sp : Sp} {s1 : Shared} {vs : List Value} {ns : List Int}
    (kin : K.In s1.heap) (glob : s1.heap.Ns mainGlobals mg) (bns : s1.heap.Ns builtinsNs mb) (boot : ∀ y : Str, y ≠ "__name__" → mb y = bootBuiltins y) (lim : s1.heap.NoLimit) (gens : s1.gens = #[])
    (scr : s1.heap.get? a = some { cls := .type "list", data := .seq vs.toArray }) (room : Room k callerA)
    (F : ∀ base : Heap, K.In base → base.Ns mainGlobals mg → FnG P w K mg base k fa fd [x] sp) (bind : ∀ (s : Shared) (u : Value), BindsTo s fd ⟨[u], []⟩ [(x, u)])
    (H : Hp) (only : Only H) (prom : sp [.ref a] H (fun v _ => v = .bl true) E0) (hok : HOk P w H s1.heap) (at_ : ∀ b, H b ≠ none → b = a) (off : H a ≠ none → K.lookup a = none) :
    codeAny (model P w) callerA (.call (.ref fa) ⟨[.ref a], []⟩) (fun r s' => r = .ok (.ret (.bool true)) ∧ OldK s1.heap s'.heap ∧ s'.os = s1.os ∧ AllBare s'.gens) s1 := by
  have none_at : ∀ {b : Addr}, b ≠ a → H b = none := fun {b} nb => by
    cases z : H b with
    | none => rfl
    | some o => exact absurd (at_ b (by rw [z]; exact fun y => nomatch y)) nb
  have dicts : ∀ {b : Addr} {m : Str → Option Value}, s1.heap.Ns b m → (hidT s1.heap H).Ns b m := fun {b m} ⟨o, es, ep, e, d, r⟩ => by
    refine ⟨o, es, ep, hidT_get e (none_at fun z => ?_), d, r⟩
    rw [z, scr] at e
    cases e
    exact nomatch (show Data.seq vs.toArray _ = Data.dict es ep from d)
  have kin2 : K.In (hidT s1.heap H) := fun b o e => by
    refine hidT_get (kin b o e) ?_
    by_cases nb : b = a
    · subst nb
      cases z : H b with
      | none => rfl
      | some y =>
        rw [off (by rw [z]; exact fun y => nomatch y)] at e
        cases e
    · exact none_at nb
  obtain ⟨mc, lm1, lm2⟩ := lim
  have e0 : Env0 P w K mg (hidT s1.heap H) callerA [] s1 H := ⟨rfl, ⟨kin2, dicts glob, ⟨mb, dicts bns, boot⟩, ⟨mc, dicts lm1, lm2⟩⟩, fun _ _ e => of_hidT e, Nat.le_of_eq (hidT_size _ _), trivial, fun b hb => (List.not_mem_nil hb).elim, hok, .of_eq gens⟩
  refine codeAny_mono ((F _ kin2 (dicts glob)).run callerA [] s1 H ⟨[.ref a], []⟩ [.ref a] [.ref a] _ E0 room rfl e0 (bind s1 (.ref a)) (.cons rfl .nil) prom) fun res s2 z => ?_
  cases res with
  | error er => exact z.elim
  | ok fl =>
    cases fl with
    | next => exact z.elim
    | brk => exact z.elim
    | cont => exact z.elim
    | ret u =>
      obtain ⟨v, H2, os, bare, un, hok2, rel, q⟩ := z
      have qv : v = .bl true := q
      subst qv
      obtain rfl : u = Value.bool true := rel
      refine ⟨rfl, OldK.of_keep fun b o e => ?_, os, bare⟩
      rcases only b with nb | ⟨ob, xs, fz⟩
      · exact un.keep b o e nb (fun y => (List.not_mem_nil y).elim) (fun y => (List.not_mem_nil y).elim)
      · obtain ⟨h1, _⟩ := hok b _ fz
        obtain ⟨h2, _⟩ := hok2 b _ (un.frzs b ob _ fz)
        rw [e] at h1
        cases h1
        exact h2
theorem callG {P : Program} {w : World} {K : PySem.W.Frag} {mg mb : Str → Option Value} {k : Nat} {fa a : Addr} {fd : FuncData} {x : Str} {sp : Sp} {s1 : Shared} {vs : List Value} {ns : List Int}
    (kin : K.In s1.heap) (glob : s1.heap.Ns mainGlobals mg) (bns : s1.heap.Ns builtinsNs mb) (boot : ∀ y : Str, y ≠ "__name__" → mb y = bootBuiltins y) (lim : s1.heap.NoLimit) (gens : s1.gens = #[])
    (scr : s1.heap.get? a = some { cls := .type "list", data := .seq vs.toArray }) (nts : IntsAre vs ns) (few : ns.length ≤ sizeLine) (room : Room k callerA)
    (F : ∀ base : Heap, K.In base → base.Ns mainGlobals mg → FnG P w K mg base k fa fd [x] sp) (bind : ∀ (s : Shared) (u : Value), BindsTo s fd ⟨[u], []⟩ [(x, u)])
    (prom : ∀ H : Hp, Only H → SqL K H a (ns.map V.int) → sp [.ref a] H (fun v _ => v = .bl true) E0) :
    codeAny (model P w) callerA (.call (.ref fa) ⟨[.ref a], []⟩) (fun r s' => r = .ok (.ret (.bool true)) ∧ OldK s1.heap s'.heap ∧ s'.os = s1.os ∧ AllBare s'.gens) s1 := by
  have rel := vals_ints nts
  have many : vs.length = ns.length := nts.length
  cases hk : K.lookup a with
  | some o =>
    have e := kin a o hk
    rw [scr] at e
    cases e
    have on : Only fun _ => none := fun _ => .inl rfl
    exact startG (ns := ns) kin glob bns boot lim gens scr room F bind (fun _ => none) on (prom _ on (.inr ⟨_, vs.toArray, _, hk, rfl, rfl, rfl, by rw [List.size_toArray, many]; exact few, by simpa using rel⟩)) (fun _ _ z => nomatch z) (fun _ z => (z rfl).elim) fun z => (z rfl).elim
  | none =>
    obtain ⟨H, hH⟩ : ∃ H : Hp, H = fun b => if b = a then some (.frz { cls := .type "list", data := .seq vs.toArray } (.lst (ns.map V.int))) else none := ⟨_, rfl⟩
    have atA : H a = some (.frz { cls := .type "list", data := .seq vs.toArray } (.lst (ns.map V.int))) := by rw [hH]; exact if_pos rfl
    have els : ∀ b, b ≠ a → H b = none := fun b nb => by rw [hH]; exact if_neg nb
    have on : Only H := fun b => by
      by_cases nb : b = a
      · exact .inr ⟨_, _, by rw [nb]; exact atA⟩
      · exact .inl (els b nb)
    refine startG (ns := ns) kin glob bns boot lim gens scr room F bind H on (prom H on (.inl (.inr ⟨_, atA⟩))) (fun b u z => ?_) (fun b z => ?_) fun _ => hk
    · by_cases nb : b = a
      · subst nb
        rw [atA] at z
        cases z
        exact ⟨scr, by rw [List.length_map]; exact few, vs, _, rel, scr⟩
      · rw [els b nb] at z
        cases z
    · by_cases nb : b = a
      · exact nb
      · exact (z (els b nb)).elim
/-- the walk of a law whose def is one of FnG -/
theorem walkG {l : PySem.W.OpenLaw} {n k : Nat} {q : Program} {loose : List Str} {XP : (Str → Option Value) → Heap → Prop} {YP : World → Heap → Prop} {d : DefRec} {K : Params → PySem.W.Frag} {sp : World → Sp} {x : Str}
    (most : l.most = some n) (n2 : n ≤ sizeLine) (dfl : d.params.defaults = []) (room : Room k callerA) (hY : ∀ (w : World) (h : Heap), YP w h → (K w.params).In h)
    (F : ∀ (w : World) (mg : Str → Option Value) (fa : Addr) (h : Heap), (K w.params).In h → h.Ns mainGlobals mg → mg d.name = some (.ref fa) →
      ∃ fd : FuncData, (∀ (s : Shared) (u : Value), BindsTo s fd ⟨[u], []⟩ [(x, u)]) ∧ ∀ base : Heap, (K w.params).In base → base.Ns mainGlobals mg → FnG l.prog w (K w.params) mg base k fa fd [x] (sp w))
    (prom : ∀ (w : World) (H : Hp) (a : Addr) (ns : List Int), ns.length ≤ n → Only H → SqL (K w.params) H a (ns.map V.int) → sp w [.ref a] H (fun v _ => v = .bl true) E0) :
    PySem.W.WalkO q loose XP YP l.row.toRowW d [] (fun f vs => PySem.call f vs) := by
  refine Att.attach_call most dfl fun w s0 s1 mg mb fa o pm cd doc a vs ns G Y ho hd hcd hmg scr nts few gens => ?_
  have kin := hY w _ Y
  obtain ⟨fd, bi, FF⟩ := F w mg fa _ kin G.T.g hmg
  exact callG kin G.T.g G.T.b G.T.builtins G.T.nolimit gens scr nts (Nat.le_trans few n2) room FF bi fun H on hs => prom w H a ns few on hs
end Cw
namespace Cw
open PySem L2
def RowOff (C : Addr) (H : Hp) (a p : Addr) (n : Int) (ms ss : List Int) : Prop := ∃ dx l1 l2, H p = some (.ins C dx (flds n l1 l2)) ∧ IL H l1 ms ∧ IL H l2 ss ∧ l1 ≠ a ∧ l2 ≠ a
theorem RowNew.off {C : Addr} {H H' : Hp} {p a : Addr} {k : Nat} {n : Int} {ms ss : List Int} (r : RowNew C H H' p n ms ss) (J : JarAt H a k) : RowOff C H' a p n ms ss := by
  obtain ⟨dx, l1, l2, h1, h2, h3, n1, n2⟩ := r
  exact ⟨dx, l1, l2, h1, h2, h3, (J.ne n1).symm, (J.ne n2).symm⟩
theorem RowOff.at {C : Addr} {H : Hp} {p a : Addr} {n : Int} {ms ss : List Int} (r : RowOff C H a p n ms ss) : RowAt C H p n ms ss := by
  obtain ⟨dx, l1, l2, h1, h2, h3, _⟩ := r
  exact ⟨dx, l1, l2, h1, h2, h3⟩
theorem RowOff.but {C : Addr} {H H' : Hp} {p a : Addr} {k : Nat} {n : Int} {ms ss : List Int} (r : RowOff C H a p n ms ss) (J : JarAt H a k) (B : But H H' a) : RowOff C H' a p n ms ss := by
  obtain ⟨dx, l1, l2, h1, h2, h3, n1, n2⟩ := r
  exact ⟨dx, l1, l2, B _ _ h1 (J.no h1 fun _ _ _ z => nomatch z), B _ _ h2 n1, B _ _ h3 n2, n1, n2⟩
/-- a row and settings that stay while the jar is drawn from -/
structure RwO (C : Addr) (H : Hp) (a r t : Addr) (n l m g : Int) (ms ss : List Int) : Prop where
  row : RowOff C H a r n ms ss
  tup : H t = some (.tup [.int l, .int m, .int g])
  good : Good n ms ss
  set : SetOk l m g
  big : n ≤ 200 * l
theorem RwO.rws {C : Addr} {H : Hp} {a r t : Addr} {n l m g : Int} {ms ss : List Int} (R : RwO C H a r t n l m g ms ss) : RwS C H r t n l m g ms ss := ⟨R.row.at, R.tup, R.good, R.set, R.big⟩
theorem RwO.but {C : Addr} {H H' : Hp} {a r t : Addr} {k : Nat} {n l m g : Int} {ms ss : List Int} (R : RwO C H a r t n l m g ms ss) (J : JarAt H a k) (B : But H H' a) : RwO C H' a r t n l m g ms ss :=
  ⟨R.row.but J B, B _ _ R.tup (J.no R.tup fun _ _ _ z => nomatch z), R.good, R.set, R.big⟩
theorem inV_il {z : Int} {ns : List Int} : inV (.int z) (ns.map V.int) = decide (z ∈ ns) := by
  unfold inV
  induction ns with
  | nil => rfl
  | cons a r ih =>
    rw [List.map_cons, List.any_cons, ih]
    have e : eqV (.int a) (.int z) = decide (a = z) := by
      by_cases c : a = z
      · subst c; simp [eqV]
      · simp [eqV, c]
    rw [e]
    by_cases c : a = z
    · subst c; simp
    · have c' : ¬ z = a := fun h => c h.symm
      simp [c, c']
theorem flat_il {ns : List Int} : (ns.map V.int).all flatV = true := by
  rw [List.all_map]
  exact List.all_eq_true.mpr fun _ _ => rfl
theorem nx_reach {n l m g p : Int} {ms ss : List Int} : nx n ms ss l m g p ≤ p + g := by
  unfold nx
  omega
/-- a comprehension that takes some whole numbers of a list -/
theorem lc_fil {K : PySem.W.Frag} {a D : Addr} {ns : List Int} {g : TG} {tt : TT} {te : TE} {vs : List Nat} {σ : St} {H1 : Hp} {Qd : Hp → Prop} (f : Int → Bool)
    (ha : IL H1 a ns) (hD : H1 D = none) (few : ns.length ≤ 999)
    (step : ∀ (z : Int) (H : Hp) (A : V → Hp → Prop) (B : Hp → Prop), Same H1 H → (f z = true → A (.int z) H) → (f z = false → B H) →
      g (.int z) (wipe σ vs) H fun σ2 H2 => wipe σ2 vs = wipe σ vs ∧ tt σ2 H2 fun b H3 => if b = true then te σ2 H3 fun y H4 => A y H4 else B H3)
    (fin : ∀ (H : Hp), Same H1 H → IL H D (ns.filter f) → Qd H) :
    ∃ W : Nat → Nat → Hp → Prop, (∃ m, W 0 m (upd H1 D (HO.lst []))) ∧ ∀ (i m : Nat) (H : Hp), W i m H → (Itl K a).stop i H ∧ Qd H ∨ (Itl K a).go i H ∧ ∃ Nx : Hp → Prop, (∀ H', Nx H' → ∃ m', m' < m ∧ W (i + 1) m' H') ∧
      ∀ (x : V) (H' : Hp), (Itl K a).yld i H x H' → g x (wipe σ vs) H' fun σ2 H2 => wipe σ2 vs = wipe σ vs ∧ tt σ2 H2 fun b H3 => if b = true then te σ2 H3 fun y H4 => ∃ acc, H4 D = some (HO.lst acc) ∧ acc.length < sizeLine ∧ Nx (upd H4 D (HO.lst (acc ++ [y]))) else Nx H3 := by
  refine lc_list (K := K) (a := a) (xs := ns.map V.int) (fun i H' => Same H1 H' ∧ IL H' D ((ns.take i).filter f)) ⟨same_new (Same.refl H1) hD, upd_same⟩ (fun i H' _ z => SqL.of (z.1 _ _ ha)) ?_ ?_
  · rintro i x H' hx ⟨s1, hE⟩
    obtain ⟨z, rfl, hz⟩ := il_at hx
    have hil := (List.getElem?_eq_some_iff.mp hz).1
    have tk := take_fil hz f
    have ln : ((ns.take i).filter f).length ≤ 999 := by
      have z1 := List.length_filter_le f (ns.take i)
      rw [List.length_take] at z1
      omega
    refine step z H' _ _ s1 (fun c => ?_) (fun c => ?_)
    · refine ⟨_, hE, by rw [List.length_map]; exact small1000 (by omega), same_put s1 hD, ?_⟩
      show upd _ _ _ D = _
      rw [upd_same, ints_app, tk, if_pos c]
    · refine ⟨s1, ?_⟩
      show H' D = _
      rw [hE, tk, if_neg (by rw [c]; exact Bool.false_ne_true), List.append_nil]
  · rintro H ⟨s1, hE⟩
    rw [List.length_map, List.take_length] at hE
    exact fin H s1 hE
theorem near_at {ks : List Int} {z : Int} (h0 : 0 ≤ z) (h1 : z < (ks.map V.int).length) : ∃ v, atI (ks.map V.int) z = some (V.int v) ∧ v ∈ ks := by
  obtain ⟨v, e, m⟩ := at_lt h0 h1
  obtain ⟨y, hy, rfl⟩ := List.mem_map.mp m
  exact ⟨y, e, hy⟩
theorem refs_no {ts : List Addr} : ∀ r m n : Int, HO.lst (ts.map V.ref) ≠ .lst [.int r, .int m, .int n] := fun r m n z => by
  injection z with z
  cases ts with
  | nil => cases z
  | cons t ts => cases z
theorem same_but {H0 H1 H' : Hp} {p : Addr} (s : Same H0 H1) (n : H0 p = none) (b : But H1 H' p) : Same H0 H' := fun c o e => b c o (s c o e) (ne_of_none e n)
/-- what is said of == of rows -/
structure Eqs (P : Program) (w : World) (K : PySem.W.Frag) (mg : Str → Option Value) (base : Heap) (C fE : Addr) (fdE : FuncData) : Prop where
  ok : FnOk P w K mg base CX0 1 fE fdE ["self", "other"] (spEq (Alike C))
  hm : PySem.W.mroIn K C (.type "object") = some true
  hn : PySem.W.findIn K (.ref C) "__ne__" = some (some (.builtin "object.__ne__"))
  hs : PySem.W.findIn K (.ref C) "__eq__" = some (some (.ref fE))
  hf : PySem.W.isFn K (.ref fE) = true
  hb : Binds K fdE ["self", "other"] []
theorem alike_ins {C : Addr} {H : Hp} {a b : Addr} {n : Int} {ms ss : List Int} (r : RowAt C H a n ms ss) (q : RowAt C H b n ms ss) : DIns C (Alike C) (.ref a) (.ref b) H := by
  obtain ⟨dx, l1, l2, h1, h2, h3⟩ := id r
  obtain ⟨dy, m1, m2, g1, g2, g3⟩ := id q
  exact ⟨a, b, dx, dy, _, _, rfl, rfl, h1, g1, n, ms, ss, r, q⟩
end Cw
namespace Cw
open PySem L2
abbrev sJoin : Stmt := inClass sRow 9
abbrev sPart : Stmt := inClass sRow 10
def spJoin (C : Addr) : Sp := fun vs H Q _ => ∃ (x y : Addr) (n n2 : Int) (ms ss ms2 ss2 : List Int) (kd : Str), vs = [.ref x, .ref y, .str kd] ∧ RowAt C H x n ms ss ∧ RowAt C H y n2 ms2 ss2 ∧ Good n ms ss ∧ Good n2 ms2 ss2 ∧
  (kd = "none" ∨ kd = "plain" ∨ kd = "strict") ∧ ms.length + ms2.length + 1 ≤ 400 ∧ ∀ p H', Same H H' → RowNew C H H' p (n + n2) (ms ++ (if kd = "none" then [] else [n]) ++ ms2.map (· + n)) (ss ++ (if kd = "strict" then [n] else []) ++ ss2.map (· + n)) → Q (.ref p) H'
/-- the marks of a joined row -/
theorem good_join {n n2 : Int} {ms ss ms2 ss2 bs fs : List Int} (G : Good n ms ss) (G2 : Good n2 ms2 ss2) (h : (bs = [] ∧ fs = []) ∨ (bs = [n] ∧ fs = []) ∨ (bs = [n] ∧ fs = [n])) (few : ms.length + ms2.length + 1 ≤ 400) :
    Good (n + n2) (ms ++ bs ++ ms2.map (· + n)) (ss ++ fs ++ ss2.map (· + n)) := by
  have n1 := G.pos
  have n2' := G2.pos
  have asc : ∀ {xs ys zs : List Int}, Asc xs → Asc ys → (∀ x ∈ xs, x ≤ n - 1) → (∀ x ∈ ys, 1 ≤ x) → (zs = [] ∨ zs = [n]) → Asc (xs ++ zs ++ ys.map (· + n)) := fun {xs ys zs} h1 h2 h3 h4 hz => by
    rw [Asc, List.pairwise_append, List.pairwise_append]
    refine ⟨⟨h1, by rcases hz with rfl | rfl; exact .nil; exact List.pairwise_singleton _ _, fun x hx y hy => ?_⟩, asc_shift h2 n, fun x hx y hy => ?_⟩
    · have := h3 x hx
      rcases hz with rfl | rfl
      · cases hy
      · rw [List.mem_singleton.mp hy]; omega
    · obtain ⟨z, hz', rfl⟩ := List.mem_map.mp hy
      have := h4 z hz'
      rcases List.mem_append.mp hx with hx | hx
      · have := h3 x hx
        omega
      · rcases hz with rfl | rfl
        · cases hx
        · rw [List.mem_singleton.mp hx]; omega
  have bz : bs = [] ∨ bs = [n] := by rcases h with h | h | h; exact .inl h.1; exact .inr h.1; exact .inr h.1
  have fz : fs = [] ∨ fs = [n] := by rcases h with h | h | h; exact .inl h.2; exact .inl h.2; exact .inr h.2
  refine ⟨by omega, ?_, fun x hx => ?_, asc G.asc G2.asc (fun x hx => (G.rng x hx).2) (fun x hx => (G2.rng x hx).1) bz, asc G.asc2 G2.asc2 (fun x hx => (G.rng x (G.sub x hx)).2) (fun x hx => (G2.rng x (G2.sub x hx)).1) fz, fun x hx => ?_⟩
  · rw [List.length_append, List.length_append, List.length_map]
    rcases bz with rfl | rfl
    · show ms.length + 0 + ms2.length ≤ 400; omega
    · show ms.length + 1 + ms2.length ≤ 400; omega
  · rcases List.mem_append.mp hx with hx | hx
    · rcases List.mem_append.mp hx with hx | hx
      · have := G.rng x hx; omega
      · rcases bz with rfl | rfl
        · cases hx
        · rw [List.mem_singleton.mp hx]; omega
    · obtain ⟨z, hz, rfl⟩ := List.mem_map.mp hx
      have := G2.rng z hz
      omega
  · rcases List.mem_append.mp hx with hx | hx
    · rcases List.mem_append.mp hx with hx | hx
      · exact List.mem_append.mpr (.inl (List.mem_append.mpr (.inl (G.sub x hx))))
      · refine List.mem_append.mpr (.inl (List.mem_append.mpr (.inr ?_)))
        rcases h with h | h | h
        · rw [h.2] at hx; cases hx
        · rw [h.2] at hx; cases hx
        · rw [h.2] at hx; rw [h.1]; exact hx
    · obtain ⟨z, hz, rfl⟩ := List.mem_map.mp hx
      exact List.mem_append.mpr (.inr (List.mem_map.mpr ⟨z, G2.sub z hz, rfl⟩))
section
variable {P : Program} {w : World} {K : PySem.W.Frag} {mg : Str → Option Value} {base : Heap}
abbrev NJo : List Str := ["self", "other", "kind", "between", "firm", "marks", "strict"]
theorem scJo : FnScope NJo ["self", "other", "kind"] (defScope sJoin) := ⟨rfl, rfl, rfl, by decide +kernel, rfl, by decide +kernel, by decide +kernel⟩
abbrev jCx (P : Program) (w : World) (K : PySem.W.Frag) (mg : Str → Option Value) (base : Heap) (f : Addr) (cdv : Value) (A : Around) (outer : List Env) (s : Shared) (H0 : Hp) (E : XK) : Cx := (cxOf CX0 P w K mg base NJo "Row.joined" (defScope sJoin) f cdv A outer s H0 E).nox
theorem join_tail {f C fI fS pL fL pM fM pS fSs : Addr} {fdI fdS dL dM dS : FuncData} (R : Cl K mg C) (M : Mk K C fI) (Gs : Gets P w K mg base C pL fL pM fM pS fSs dL dM dS)
    (gS : mg "shifted" = some (.ref fS)) (kS : PySem.W.keepIn K (.ref fS) = true) (bS : Binds K fdS ["places", "number"] []) (GS : FnOk P w K mg base CX0 1 fS fdS ["places", "number"] spShift)
    (bI : Binds K fdI NI []) (GI : FnOk P w K mg base CX0 5 fI fdI NI (spInit C))
    {cdv : Value} {A : Around} {outer : List Env} {s : Shared} {H0 : Hp} {E : XK} (hr : Room 6 (A.deeper (PyProof.Rows.envOfC "Row.joined" (defScope sJoin) s.heap.objs.size f cdv))) :
    ∃ tl, PSs (jCx P w K mg base f cdv A outer s H0 E) ((defBody sJoin).drop 3) tl ∧
      ∀ (Q : VK) (H : Hp) (x y b1 f1 : Addr) (n n2 : Int) (ms ss ms2 ss2 bs fs : List Int) (kd : Str), RowAt C H x n ms ss → RowAt C H y n2 ms2 ss2 → Good n ms ss → Good n2 ms2 ss2 → IL H b1 bs → IL H f1 fs →
        ((bs = [] ∧ fs = []) ∨ (bs = [n] ∧ fs = []) ∨ (bs = [n] ∧ fs = [n])) → ms.length + ms2.length + 1 ≤ 400 →
        (∀ p H', Same H H' → RowNew C H H' p (n + n2) (ms ++ bs ++ ms2.map (· + n)) (ss ++ fs ++ ss2.map (· + n)) → Q (.ref p) H') →
        tl { nx := fun x H' => Q V.non H', rt := Q } [some (.ref x), some (.ref y), some (.str kd), some (.ref b1), some (.ref f1), none, none] H := by
  have hr1 : Room 1 (A.deeper (PyProof.Rows.envOfC "Row.joined" (defScope sJoin) s.heap.objs.size f cdv)) := hr.mono (by decide)
  have hr2 : Room 2 (A.deeper (PyProof.Rows.envOfC "Row.joined" (defScope sJoin) s.heap.objs.size f cdv)) := hr.mono (by decide)
  refine ⟨_, (pss_cons (ps_set (i := 5) scJo.nd rfl (Or.inl rfl) (pe_op op_cat (pe_op op_cat (pe_fld (pv 0) rfl) (pv 3)) (pe_call GS hr1 rfl gS kS bS .nil pass0 (pa_cons (pe_prop (pv 1) R.cl Gs.hM Gs.GM hr2 Gs.bM .nil pass0 rfl) (pa_cons (pe_fld (pv 0) rfl) pa_nil)))))
      (pss_cons (ps_set (i := 6) scJo.nd rfl (Or.inl rfl) (pe_op op_cat (pe_op op_cat (pe_fld (pv 0) rfl) (pv 4)) (pe_call GS hr1 rfl gS kS bS .nil pass0 (pa_cons (pe_prop (pv 1) R.cl Gs.hS Gs.GS hr2 Gs.bS .nil pass0 rfl) (pa_cons (pe_fld (pv 0) rfl) pa_nil)))))
      (pss_one (ps_ret (pe_make M GI hr rfl R.mgR bI .nil pass0 (pa_cons (pe_op op_add (pe_fld (pv 0) rfl) (pe_prop (pv 1) R.cl Gs.hL Gs.GL hr2 Gs.bL .nil pass0 rfl)) (pa_cons (pv 5) (pa_cons (pv 6) pa_nil)))))))), ?_⟩
  intro Q H x y b1 f1 n n2 ms ss ms2 ss2 bs fs kd hx hy G G2 hb hf hz few q
  obtain ⟨dx, l1, l2, ho, h1, h2⟩ := id hx
  obtain ⟨dy, m1, m2, go, g1, g2⟩ := id hy
  have lm := G.len
  have ls := G.len2
  have lm2 := G2.len
  have ls2 := G2.len2
  have lb : bs.length ≤ 1 := by rcases hz with ⟨rfl, _⟩ | ⟨rfl, _⟩ | ⟨rfl, _⟩ <;> simp
  have lf : fs.length ≤ 1 := by rcases hz with ⟨_, rfl⟩ | ⟨_, rfl⟩ | ⟨_, rfl⟩ <;> simp
  -- the marks
  refine ⟨_, rfl, x, C, dx, _, _, rfl, ho, R.cl, R.nM, fl_M _ _ _, _, rfl, ?_⟩
  refine ⟨l1, b1, _, _, rfl, rfl, h1, hb, by rw [List.length_map, List.length_map]; exact Nat.le_of_lt (small1000 (by omega)), fun c1 hc1 => ?_⟩
  have s1 := same_new (o := .lst (ms.map V.int ++ bs.map V.int)) (Same.refl H) hc1
  have k1 : IL (upd H c1 (.lst (ms.map V.int ++ bs.map V.int))) c1 (ms ++ bs) := by
    show upd _ _ _ c1 = _
    rw [upd_same, List.map_append]
  generalize upd H c1 (.lst (ms.map V.int ++ bs.map V.int)) = H1 at s1 k1 ⊢
  refine ⟨_, rfl, y, dy, _, rfl, s1 _ _ go, y, n2, ms2, ss2, rfl, hy.same s1, fun u H2 s2 nu hu => ?_⟩
  have s12 := s1.trans s2
  refine ⟨_, rfl, x, C, dx, _, _, rfl, s12 _ _ ho, R.cl, R.nL, fl_L _ _ _, ?_⟩
  refine ⟨u, ms2, n, rfl, hu, by omega, fun p3 H3 s3 np3 hp3 => ?_⟩
  have s13 := s12.trans s3
  refine ⟨c1, p3, _, _, rfl, rfl, s3 _ _ (s2 _ _ k1), hp3, by rw [List.length_map, List.length_map, List.length_append, List.length_map]; exact Nat.le_of_lt (small1000 (by omega)), fun c2 hc2 => ?_⟩
  have s4 := same_new (o := .lst ((ms ++ bs).map V.int ++ (ms2.map (· + n)).map V.int)) s13 hc2
  have k2 : IL (upd H3 c2 (.lst ((ms ++ bs).map V.int ++ (ms2.map (· + n)).map V.int))) c2 (ms ++ bs ++ ms2.map (· + n)) := by
    show upd _ _ _ c2 = _
    rw [upd_same, List.map_append (l₁ := ms ++ bs)]
  generalize upd H3 c2 (.lst ((ms ++ bs).map V.int ++ (ms2.map (· + n)).map V.int)) = H4 at s4 k2 ⊢
  try dsimp only [L2.start, List.set, List.map, List.append, List.replicate, List.length]
  -- the strict ones
  refine ⟨_, rfl, x, C, dx, _, _, rfl, s4 _ _ ho, R.cl, R.nS, fl_S _ _ _, _, rfl, ?_⟩
  refine ⟨l2, f1, _, _, rfl, rfl, s4 _ _ h2, s4 _ _ hf, by rw [List.length_map, List.length_map]; exact Nat.le_of_lt (small1000 (by omega)), fun c3 hc3 => ?_⟩
  have s5 := same_new (o := .lst (ss.map V.int ++ fs.map V.int)) (Same.refl H4) hc3
  have k3 : IL (upd H4 c3 (.lst (ss.map V.int ++ fs.map V.int))) c3 (ss ++ fs) := by
    show upd _ _ _ c3 = _
    rw [upd_same, List.map_append]
  generalize upd H4 c3 (.lst (ss.map V.int ++ fs.map V.int)) = H5 at s5 k3 ⊢
  have s45 := s4.trans s5
  refine ⟨_, rfl, y, dy, _, rfl, s45 _ _ go, y, n2, ms2, ss2, rfl, hy.same s45, fun u2 H6 s6 nu2 hu2 => ?_⟩
  have s46 := s45.trans s6
  refine ⟨_, rfl, x, C, dx, _, _, rfl, s46 _ _ ho, R.cl, R.nL, fl_L _ _ _, ?_⟩
  refine ⟨u2, ss2, n, rfl, hu2, by omega, fun p7 H7 s7 np7 hp7 => ?_⟩
  have s47 := s46.trans s7
  refine ⟨c3, p7, _, _, rfl, rfl, s7 _ _ (s6 _ _ k3), hp7, by rw [List.length_map, List.length_map, List.length_append, List.length_map]; exact Nat.le_of_lt (small1000 (by omega)), fun c4 hc4 => ?_⟩
  have t8 := same_new (o := .lst ((ss ++ fs).map V.int ++ (ss2.map (· + n)).map V.int)) (Same.refl H7) hc4
  have k4 : IL (upd H7 c4 (.lst ((ss ++ fs).map V.int ++ (ss2.map (· + n)).map V.int))) c4 (ss ++ fs ++ ss2.map (· + n)) := by
    show upd _ _ _ c4 = _
    rw [upd_same, List.map_append (l₁ := ss ++ fs)]
  generalize upd H7 c4 (.lst ((ss ++ fs).map V.int ++ (ss2.map (· + n)).map V.int)) = H8 at t8 k4 ⊢
  have s8 := s47.trans t8
  have k2' := t8 _ _ (s7 _ _ (s6 _ _ (s5 _ _ k2)))
  try dsimp only [L2.start, List.set, List.map, List.append, List.replicate, List.length]
  refine ⟨_, rfl, x, C, dx, _, _, rfl, s8 _ _ ho, R.cl, R.nL, fl_L _ _ _, ?_⟩
  refine ⟨_, rfl, y, dy, _, rfl, s8 _ _ go, y, n2, ms2, ss2, rfl, hy.same s8, _, _, rfl, rfl, _, rfl, _, rfl, fun z dz nz nd ne => ?_⟩
  have s9 : Same H8 (upd (upd H8 dz (.own z)) z (.ins C dz [])) := same_new (same_new (Same.refl H8) nd) (by rw [upd_ne (Ne.symm ne)]; exact nz)
  refine ⟨z, dz, c2, c4, _, _, _, rfl, upd_same, s9 _ _ k2', s9 _ _ k4, good_join G G2 hz few, fun H9 row kp => ⟨rfl, ?_⟩⟩
  exact q z H9 (same_ins s8 nz nd kp) (row.mono fun c o e => ⟨o, s9 _ _ (s8 _ _ e)⟩)
end
end Cw
namespace Cw
open PySem L2
abbrev kinds3 : List V := [.str "none", .str "plain", .str "strict"]
/-- the marks between two ends -/
def cutM (ns : List Int) (b e : Int) : List Int := (ns.filter fun x => decide (b < x) && decide (x < e)).map (· - b)
theorem mem_cutM {ns : List Int} {b e x : Int} : x ∈ cutM ns b e ↔ x + b ∈ ns ∧ 0 < x ∧ x < e - b := by
  unfold cutM
  rw [List.mem_map]
  constructor
  · rintro ⟨y, hy, rfl⟩
    obtain ⟨h1, h2⟩ := List.mem_filter.mp hy
    simp only [Bool.and_eq_true, decide_eq_true_eq] at h2
    have z : y - b + b = y := by omega
    rw [z]
    exact ⟨h1, by omega, by omega⟩
  · rintro ⟨h1, h2, h3⟩
    refine ⟨x + b, List.mem_filter.mpr ⟨h1, ?_⟩, by omega⟩
    simp only [Bool.and_eq_true, decide_eq_true_eq]
    omega
theorem asc_cutM {ns : List Int} (h : Asc ns) (b e : Int) : Asc (cutM ns b e) := by
  unfold cutM
  rw [Asc, List.pairwise_map]
  exact (h.filter _).imp fun {a c} x => by omega
theorem good_part {n b e : Int} {ms ss : List Int} (G : Good n ms ss) (be : b < e) : Good (e - b) (cutM ms b e) (cutM ss b e) := by
  refine ⟨by omega, ?_, fun x hx => ?_, asc_cutM G.asc _ _, asc_cutM G.asc2 _ _, fun x hx => ?_⟩
  · unfold cutM
    rw [List.length_map]
    exact Nat.le_trans (List.length_filter_le _ _) G.len
  · have := mem_cutM.mp hx
    omega
  · have z := mem_cutM.mp hx
    exact mem_cutM.mpr ⟨G.sub _ z.1, z.2⟩
/-- a comprehension that takes some whole numbers of a list and changes them -/
theorem lc_fmI {K : PySem.W.Frag} {a D : Addr} {ns : List Int} {g : TG} {tt : TT} {te : TE} {vs : List Nat} {σ : St} {H1 : Hp} {Qd : Hp → Prop} (f : Int → Bool) (h : Int → Int)
    (ha : IL H1 a ns) (hD : H1 D = none) (few : ns.length ≤ 999)
    (step : ∀ (z : Int) (H : Hp) (A : V → Hp → Prop) (B : Hp → Prop), Same H1 H → (f z = true → A (.int (h z)) H) → (f z = false → B H) →
      g (.int z) (wipe σ vs) H fun σ2 H2 => wipe σ2 vs = wipe σ vs ∧ tt σ2 H2 fun b H3 => if b = true then te σ2 H3 fun y H4 => A y H4 else B H3)
    (fin : ∀ (H : Hp), Same H1 H → IL H D ((ns.filter f).map h) → Qd H) :
    ∃ W : Nat → Nat → Hp → Prop, (∃ m, W 0 m (upd H1 D (HO.lst []))) ∧ ∀ (i m : Nat) (H : Hp), W i m H → (Itl K a).stop i H ∧ Qd H ∨ (Itl K a).go i H ∧ ∃ Nx : Hp → Prop, (∀ H', Nx H' → ∃ m', m' < m ∧ W (i + 1) m' H') ∧
      ∀ (x : V) (H' : Hp), (Itl K a).yld i H x H' → g x (wipe σ vs) H' fun σ2 H2 => wipe σ2 vs = wipe σ vs ∧ tt σ2 H2 fun b H3 => if b = true then te σ2 H3 fun y H4 => ∃ acc, H4 D = some (HO.lst acc) ∧ acc.length < sizeLine ∧ Nx (upd H4 D (HO.lst (acc ++ [y]))) else Nx H3 := by
  refine lc_list (K := K) (a := a) (xs := ns.map V.int) (fun i H' => Same H1 H' ∧ IL H' D (((ns.take i).filter f).map h)) ⟨same_new (Same.refl H1) hD, upd_same⟩ (fun i H' _ z => SqL.of (z.1 _ _ ha)) ?_ ?_
  · rintro i x H' hx ⟨s1, hE⟩
    obtain ⟨z, rfl, hz⟩ := il_at hx
    have hil := (List.getElem?_eq_some_iff.mp hz).1
    have tk := take_fil hz f
    have ln : (((ns.take i).filter f).map h).length ≤ 999 := by
      have z1 := List.length_filter_le f (ns.take i)
      rw [List.length_take] at z1
      rw [List.length_map]
      omega
    refine step z H' _ _ s1 (fun c => ?_) (fun c => ?_)
    · refine ⟨_, hE, by rw [List.length_map]; exact small1000 (by omega), same_put s1 hD, ?_⟩
      show upd _ _ _ D = _
      rw [upd_same, ints_app, tk, if_pos c, List.map_append (f := h)]
      rfl
    · refine ⟨s1, ?_⟩
      show H' D = _
      rw [hE, tk, if_neg (by rw [c]; exact Bool.false_ne_true), List.append_nil]
  · rintro H ⟨s1, hE⟩
    rw [List.length_map, List.take_length] at hE
    exact fin H s1 hE
def spPart (C : Addr) : Sp := fun vs H Q _ => ∃ (x : Addr) (n b e : Int) (ms ss : List Int), vs = [.ref x, .int b, .int e] ∧ RowAt C H x n ms ss ∧ Good n ms ss ∧ 0 ≤ b ∧ b < e ∧ e ≤ n ∧ ∀ p H', Same H H' → RowNew C H H' p (e - b) (cutM ms b e) (cutM ss b e) → Q (.ref p) H'
section
variable {P : Program} {w : World} {K : PySem.W.Frag} {mg : Str → Option Value} {base : Heap}
theorem ok_join {f C fI fS pL fL pM fM pS fSs kn : Addr} {fd fdI fdS dL dM dS : FuncData} (F : Fun K "joined" "Row.joined" sJoin f fd) (R : Cl K mg C) (M : Mk K C fI) (Gs : Gets P w K mg base C pL fL pM fM pS fSs dL dM dS)
    (gN : mg "KINDS" = some (.ref kn)) (hN : ∀ H : Hp, SqT K H kn kinds3)
    (gS : mg "shifted" = some (.ref fS)) (kS : PySem.W.keepIn K (.ref fS) = true) (bS : Binds K fdS ["places", "number"] []) (GS : FnOk P w K mg base CX0 1 fS fdS ["places", "number"] spShift)
    (bI : Binds K fdI NI []) (GI : FnOk P w K mg base CX0 5 fI fdI NI (spInit C)) :
    FnOk P w K mg base CX0 7 f fd ["self", "other", "kind"] (spJoin C) := by
  refine F.ok scJo (fun vs H Q E h => ?_) (fun cdv A outer s H vs Q E hr h => ?_)
  · obtain ⟨x, y, n, n2, ms, ss, ms2, ss2, kd, rfl, _⟩ := h
    rfl
  · obtain ⟨x, y, n, n2, ms, ss, ms2, ss2, kd, rfl, hx, hy, G, G2, hk, few, q⟩ := h
    obtain ⟨tl, hTL, hQ⟩ := join_tail (P := P) (w := w) (K := K) (mg := mg) (base := base) R M Gs gS kS bS GS bI GI (f := f) (cdv := cdv) (outer := outer) (H0 := H) (E := E) hr
    refine ⟨_, pss_cons (ps_if (pt_cmpR (show OpR _ (compareOp .NotIn) (rIn K true) from op_notIn_seq) (pv 2) (pe_glob (by rfl) gN (v := .ref kn) rfl) (by rfl)) pss_never pss_nil)
      (pss_cons (ps_set (i := 3) scJo.nd rfl (Or.inl rfl) (pe_ifExp (pt_cmpR op_eq (pv 2) pe_str (nomark _)) (pe_lst pa_nil) (pe_lst (pa_cons (pe_fld (pv 0) rfl) pa_nil))))
      (pss_cons (ps_set (i := 4) scJo.nd rfl (Or.inl rfl) (pe_ifExp (pt_cmpR op_eq (pv 2) pe_str (nomark _)) (pv 3) (pe_lst pa_nil))) hTL)), ?_⟩
    obtain ⟨dx, l1, l2, ho, h1, h2⟩ := id hx
    have inK : (if true = true then !inV (.str kd) kinds3 else inV (.str kd) kinds3) = false := by rcases hk with rfl | rfl | rfl <;> decide +kernel
    refine ⟨_, rfl, kn, _, rfl, .inr (hN _), rfl, rfl, _, rfl, ?_⟩
    refine ifF inK ?_
    rcases hk with rfl | rfl | rfl
    · refine ⟨_, rfl, rfl, _, rfl, ?_⟩
      refine ifT (by decide +kernel) ?_
      refine ⟨Nat.zero_le _, fun b1 hb1 => ?_⟩
      have s1 := same_new (o := .lst []) (Same.refl H) hb1
      have y1 : IL (upd H b1 (.lst [])) b1 [] := upd_same
      generalize upd H b1 (.lst []) = H1 at s1 y1 ⊢
      refine ⟨_, rfl, rfl, _, rfl, ?_⟩
      refine ifF (by decide +kernel) ?_
      refine ⟨Nat.zero_le _, fun f1 hf1 => ?_⟩
      have s2 := same_new (o := .lst []) (Same.refl H1) hf1
      have y2 : IL (upd H1 f1 (.lst [])) f1 [] := upd_same
      generalize upd H1 f1 (.lst []) = H2 at s2 y2 ⊢
      have s12 := s1.trans s2
      refine hQ Q H2 x y b1 f1 n n2 ms ss ms2 ss2 [] [] _ (hx.same s12) (hy.same s12) G G2 (s2 _ _ y1) y2 (.inl ⟨rfl, rfl⟩) (by omega) fun p H' sx row => q p H' (s12.trans sx) ?_
      exact row.mono fun c o e => ⟨o, s12 _ _ e⟩
    · refine ⟨_, rfl, rfl, _, rfl, ?_⟩
      refine ifF (by decide +kernel) ?_
      refine ⟨_, rfl, x, C, dx, _, _, rfl, ho, R.cl, R.nL, fl_L _ _ _, (by show 1 ≤ sizeLine; decide), fun b1 hb1 => ?_⟩
      have s1 := same_new (o := .lst [.int n]) (Same.refl H) hb1
      have y1 : IL (upd H b1 (.lst [.int n])) b1 [n] := upd_same
      generalize upd H b1 (.lst [.int n]) = H1 at s1 y1 ⊢
      refine ⟨_, rfl, rfl, _, rfl, ?_⟩
      refine ifF (by decide +kernel) ?_
      refine ⟨Nat.zero_le _, fun f1 hf1 => ?_⟩
      have s2 := same_new (o := .lst []) (Same.refl H1) hf1
      have y2 : IL (upd H1 f1 (.lst [])) f1 [] := upd_same
      generalize upd H1 f1 (.lst []) = H2 at s2 y2 ⊢
      have s12 := s1.trans s2
      refine hQ Q H2 x y b1 f1 n n2 ms ss ms2 ss2 [n] [] _ (hx.same s12) (hy.same s12) G G2 (s2 _ _ y1) y2 (.inr (.inl ⟨rfl, rfl⟩)) (by omega) fun p H' sx row => q p H' (s12.trans sx) ?_
      exact row.mono fun c o e => ⟨o, s12 _ _ e⟩
    · refine ⟨_, rfl, rfl, _, rfl, ?_⟩
      refine ifF (by decide +kernel) ?_
      refine ⟨_, rfl, x, C, dx, _, _, rfl, ho, R.cl, R.nL, fl_L _ _ _, (by show 1 ≤ sizeLine; decide), fun b1 hb1 => ?_⟩
      have s1 := same_new (o := .lst [.int n]) (Same.refl H) hb1
      have y1 : IL (upd H b1 (.lst [.int n])) b1 [n] := upd_same
      generalize upd H b1 (.lst [.int n]) = H1 at s1 y1 ⊢
      refine ⟨_, rfl, rfl, _, rfl, ?_⟩
      refine ifT (by decide +kernel) ?_
      refine ⟨_, rfl, ?_⟩
      refine hQ Q H1 x y b1 b1 n n2 ms ss ms2 ss2 [n] [n] _ (hx.same s1) (hy.same s1) G G2 y1 y1 (.inr (.inr ⟨rfl, rfl⟩)) (by omega) fun p H' sx row => q p H' (s1.trans sx) ?_
      exact row.mono fun c o e => ⟨o, s1 _ _ e⟩
end
end Cw
namespace Cw
open PySem L2
abbrev sShown : Stmt := top 0
abbrev sDue : Stmt := top 0
/-- length, marks and strict marks as a list -/
def ShAt (H : Hp) (p : Addr) (n : Int) (ms ss : List Int) : Prop := ∃ a b, H p = some (.lst [.int n, .ref a, .ref b]) ∧ IL H a ms ∧ IL H b ss
def spShown (C : Addr) : Sp := fun vs H Q _ => ∃ (x : Addr) (n : Int) (ms ss : List Int), vs = [.ref x] ∧ RowAt C H x n ms ss ∧ ∀ p H', Same H H' → ShAt H' p n ms ss → Q (.ref p) H'
def spDue : Sp := fun vs H Q _ => ∃ (l : Addr) (n : Int) (ts : List Addr) (prs : List (Int × Int)), vs = [.int n, .ref l] ∧ H l = some (.lst (ts.map V.ref)) ∧ PrAt H ts prs ∧ prs.length ≤ 900 ∧ ∀ p H', Same H H' → ShAt H' p n (marksOf prs) (strictOf prs) → Q (.ref p) H'
section
variable {P : Program} {w : World} {K : PySem.W.Frag} {mg : Str → Option Value} {base : Heap}
abbrev NPa : List Str := ["self", "begin", "end", "marks", "strict", "mark"]
theorem scPa : FnScope NPa ["self", "begin", "end"] (defScope sPart) := ⟨rfl, rfl, rfl, by decide +kernel, rfl, by decide +kernel, by decide +kernel⟩
theorem ok_part {f C fI fP : Addr} {fd fdI fdP : FuncData} (F : Fun K "part" "Row.part" sPart f fd) (R : Cl K mg C) (M : Mk K C fI)
    (gP : mg "check_place" = some (.ref fP)) (kP : PySem.W.keepIn K (.ref fP) = true) (bP : Binds K fdP ["place", "low", "high"] []) (GP : FnOk P w K mg base CX0 2 fP fdP ["place", "low", "high"] spPl)
    (bI : Binds K fdI NI []) (GI : FnOk P w K mg base CX0 5 fI fdI NI (spInit C)) :
    FnOk P w K mg base CX0 7 f fd ["self", "begin", "end"] (spPart C) := by
  refine F.ok scPa (fun vs H Q E h => ?_) (fun cdv A outer s H vs Q E hr h => ?_)
  · obtain ⟨x, n, b, e, ms, ss, rfl, _⟩ := h
    rfl
  · obtain ⟨x, n, b, e, ms, ss, rfl, hx, G, b0, be, en, q⟩ := h
    have hr2 : Room 2 (A.deeper (PyProof.Rows.envOfC "Row.part" (defScope sPart) s.heap.objs.size f cdv)) := hr.mono (by decide)
    refine ⟨_, pss_cons (ps_expr (pe_call GP hr2 rfl gP kP bP .nil pass0 (pa_cons (pv 1) (pa_cons pe_int (pa_cons (pe_fld (pv 0) rfl) pa_nil)))))
      (pss_cons (ps_expr (pe_call GP hr2 rfl gP kP bP .nil pass0 (pa_cons (pv 2) (pa_cons (pe_op op_add (pv 1) pe_int) (pa_cons (pe_fld (pv 0) rfl) pa_nil)))))
      (pss_cons (ps_setLc (i := 3) (own := [("mark", 5)]) (g := gName 5) rfl scPa.nd rfl rfl (sw_true rfl rfl rfl (by decide +kernel)) (pi_list (pe_fld (pv 0) rfl)) (blkOk_by (own := [("mark", 5)]) (N := NPa) (sc := defScope sPart) (by decide +kernel))
          (fun _ _ _ _ _ => pg_name (i := 5) scPa.nd rfl (Or.inl rfl)) (fun _ _ _ _ _ => pts_one (pt_chain op_lt op_lt (pv 1) (pv 5) (pv 2))) (fun _ _ _ _ _ => pe_op op_sub (pv 5) (pv 1)))
      (pss_cons (ps_setLc (i := 4) (own := [("mark", 5)]) (g := gName 5) rfl scPa.nd rfl rfl (sw_true rfl rfl rfl (by decide +kernel)) (pi_list (pe_fld (pv 0) rfl)) (blkOk_by (own := [("mark", 5)]) (N := NPa) (sc := defScope sPart) (by decide +kernel))
          (fun _ _ _ _ _ => pg_name (i := 5) scPa.nd rfl (Or.inl rfl)) (fun _ _ _ _ _ => pts_one (pt_chain op_lt op_lt (pv 1) (pv 5) (pv 2))) (fun _ _ _ _ _ => pe_op op_sub (pv 5) (pv 1)))
      (pss_one (ps_ret (pe_make M GI hr rfl R.mgR bI .nil pass0 (pa_cons (pe_op op_sub (pv 2) (pv 1)) (pa_cons (pv 3) (pa_cons (pv 4) pa_nil))))))))), ?_⟩
    obtain ⟨dx, l1, l2, ho, h1, h2⟩ := id hx
    have lm := G.len
    have ls := G.len2
    refine ⟨_, rfl, _, rfl, x, C, dx, _, _, rfl, ho, R.cl, R.nL, fl_L _ _ _, b, 0, n, rfl, by omega, by omega, ?_⟩
    refine ⟨_, rfl, _, rfl, _, _, rfl, rfl, _, rfl, x, C, dx, _, _, rfl, ho, R.cl, R.nL, fl_L _ _ _, e, b + 1, n, rfl, by omega, by omega, ?_⟩
    have stepT : ∀ z : Int, (b < z ∧ z < e) → (decide (b < z) && decide (z < e)) = true := fun z h => by simp [h.1, h.2]
    have stepF : ∀ z : Int, ¬ (b < z ∧ z < e) → (decide (b < z) && decide (z < e)) = false := fun z h => by
      by_cases c : b < z
      · have : ¬ z < e := fun y => h ⟨c, y⟩
        simp [this]
      · simp [c]
    refine ⟨_, rfl, x, C, dx, _, _, rfl, ho, R.cl, R.nM, fl_M _ _ _, l1, rfl, ⟨_, SqL.of h1⟩, fun D hD => ?_⟩
    refine lc_fmI (fun z => decide (b < z) && decide (z < e)) (· - b) h1 hD (by omega) ?_ ?_
    · intro z H' A B s1 ka kb
      refine ⟨rfl, ?_⟩
      refine ⟨_, rfl, _, rfl, _, _, rfl, rfl, _, rfl, ?_⟩
      by_cases c1 : b < z
      · refine ifT (decide_eq_true c1) ?_
        refine ⟨_, rfl, _, _, rfl, rfl, _, rfl, ?_⟩
        by_cases c2 : z < e
        · refine ifT (decide_eq_true c2) ?_
          exact ⟨_, rfl, _, rfl, _, _, rfl, rfl, ka (stepT z ⟨c1, c2⟩)⟩
        · refine ifF (decide_eq_false c2) ?_
          exact kb (stepF z fun y => c2 y.2)
      · refine ifF (decide_eq_false c1) ?_
        refine ⟨_, rfl, ?_⟩
        exact ifF rfl (kb (stepF z fun y => c1 y.1))
    intro H1 s1 hD1
    try dsimp only [L2.start, List.set, List.map, List.append, List.replicate, List.length]
    refine ⟨_, rfl, x, C, dx, _, _, rfl, s1 _ _ ho, R.cl, R.nS, fl_S _ _ _, l2, rfl, ⟨_, SqL.of (s1 _ _ h2)⟩, fun D2 hD2 => ?_⟩
    refine lc_fmI (fun z => decide (b < z) && decide (z < e)) (· - b) (s1 _ _ h2) hD2 (by omega) ?_ ?_
    · intro z H' A B s1 ka kb
      refine ⟨rfl, ?_⟩
      refine ⟨_, rfl, _, rfl, _, _, rfl, rfl, _, rfl, ?_⟩
      by_cases c1 : b < z
      · refine ifT (decide_eq_true c1) ?_
        refine ⟨_, rfl, _, _, rfl, rfl, _, rfl, ?_⟩
        by_cases c2 : z < e
        · refine ifT (decide_eq_true c2) ?_
          exact ⟨_, rfl, _, rfl, _, _, rfl, rfl, ka (stepT z ⟨c1, c2⟩)⟩
        · refine ifF (decide_eq_false c2) ?_
          exact kb (stepF z fun y => c2 y.2)
      · refine ifF (decide_eq_false c1) ?_
        refine ⟨_, rfl, ?_⟩
        exact ifF rfl (kb (stepF z fun y => c1 y.1))
    intro H2 s2 hE2
    have s12 := s1.trans s2
    try dsimp only [L2.start, List.set, List.map, List.append, List.replicate, List.length]
    refine ⟨_, rfl, _, rfl, _, _, rfl, rfl, _, rfl, _, rfl, fun z dz nz nd ne => ?_⟩
    have s9 : Same H2 (upd (upd H2 dz (.own z)) z (.ins C dz [])) := same_new (same_new (Same.refl H2) nd) (by rw [upd_ne (Ne.symm ne)]; exact nz)
    refine ⟨z, dz, D, D2, _, _, _, rfl, upd_same, s9 _ _ (s2 _ _ hD1), s9 _ _ hE2, good_part G be, fun H9 row kp => ⟨rfl, ?_⟩⟩
    exact q z H9 (same_ins s12 nz nd kp) (row.mono fun c o y => ⟨o, s9 _ _ (s12 _ _ y)⟩)
abbrev NDu : List Str := ["length", "marked", "place", "sort"]
end
end Cw
namespace Cw
open PySem PySem.Spec PyProof.Rows L2
/-! ## x -> 5 x + 1 meets all numbers below a power of two -/
def ff : Nat → Nat → Nat
  | 0, i => i
  | n + 1, i => 5 * ff n i + 1
theorem ff_add (a i : Nat) : ∀ b, ff (a + b) i = ff b (ff a i)
  | 0 => rfl
  | b + 1 => by
    show 5 * ff (a + b) i + 1 = 5 * ff b (ff a i) + 1
    rw [ff_add a i b]
theorem ff_two (k : Nat) : ∃ u v : Nat, ∀ i, ff (2 ^ k) i = (1 + 4 * 2 ^ k * u) * i + 2 ^ k * (1 + 2 * v) := by
  induction k with
  | zero => exact ⟨1, 0, fun i => by show 5 * i + 1 = _; omega⟩
  | succ k ih =>
    obtain ⟨u, v, h⟩ := ih
    generalize hK : 2 ^ k = K at h
    refine ⟨u + 2 * K * u * u, v + K * u * (1 + 2 * v), fun i => ?_⟩
    have e : 2 ^ (k + 1) = K + K := by rw [Nat.pow_succ, hK]; omega
    rw [e, ff_add, h, h]
    grind
theorem ff_half (k i : Nat) : ∃ c, ff (2 ^ k) i = i + 2 ^ k + 2 ^ (k + 1) * c := by
  obtain ⟨u, v, h⟩ := ff_two k
  refine ⟨2 * u * i + v, ?_⟩
  rw [h, Nat.pow_succ]
  generalize 2 ^ k = K
  grind
/-- each residue comes -/
theorem ff_all : ∀ (k i j : Nat), j < 2 ^ k → ∃ n, n < 2 ^ k ∧ ff n i % 2 ^ k = j
  | 0, i, j, h => ⟨0, by decide, by
    have : j < 1 := h
    show i % 1 = j
    omega⟩
  | k + 1, i, j, h => by
    obtain ⟨n, hn, e⟩ := ff_all k i (j % 2 ^ k) (Nat.mod_lt _ (Nat.pow_pos (by decide)))
    obtain ⟨c, hc⟩ := ff_half k (ff n i)
    have e1 : 2 ^ (k + 1) = 2 * 2 ^ k := by rw [Nat.pow_succ]; omega
    rw [e1] at h hc ⊢
    have pos : 0 < 2 ^ k := Nat.pow_pos (by decide)
    generalize 2 ^ k = K at *
    generalize hx : ff n i = x at *
    have d1 := Nat.div_add_mod x (2 * K)
    have m1 := Nat.mod_lt x (show 0 < 2 * K by omega)
    have key : x % (2 * K) % K = j % K := by rw [Nat.mod_mul_left_mod]; exact e
    by_cases q : x % (2 * K) = j
    · exact ⟨n, by omega, by rw [hx]; exact q⟩
    · refine ⟨n + K, by omega, ?_⟩
      rw [ff_add, hx, hc]
      have z : x + K + 2 * K * c = (x % (2 * K) + K) + 2 * K * (x / (2 * K) + c) := by
        rw [Nat.mul_add]
        omega
      rw [z, Nat.add_mul_mod_self_left]
      generalize x % (2 * K) = y at *
      have dy : y % K = if y < K then y else y - K := by
        split
        · exact Nat.mod_eq_of_lt (by assumption)
        · rw [Nat.mod_eq_sub_mod (by omega), Nat.mod_eq_of_lt (by omega)]
      have dj : j % K = if j < K then j else j - K := by
        split
        · exact Nat.mod_eq_of_lt (by assumption)
        · rw [Nat.mod_eq_sub_mod (by omega), Nat.mod_eq_of_lt (by omega)]
      rw [dy, dj] at key
      by_cases a : y < K
      · rw [if_pos a] at key
        have b : ¬ j < K := fun b => by rw [if_pos b] at key; exact q key
        rw [if_neg b] at key
        rw [Nat.mod_eq_of_lt (by omega)]
        omega
      · rw [if_neg a] at key
        have b : j < K := by
          by_cases b : j < K
          · exact b
          · rw [if_neg b] at key
            omega
        rw [if_pos b] at key
        rw [Nat.mod_eq_sub_mod (by omega), Nat.mod_eq_of_lt (by omega)]
        omega
/-- a mask of a set's table -/
def MaskG (m : Nat) : Prop := ∃ k, m + 1 = 2 ^ k
theorem lcgI_ff (m i : Nat) : ∀ n, 0 < n → lcgI m i n = ff n i % (m + 1)
  | 0, h => absurd h (Nat.lt_irrefl _)
  | 1, _ => by
    show (i * 5 + 1) % (m + 1) = (5 * i + 1) % (m + 1)
    rw [Nat.mul_comm]
  | n + 2, _ => by
    have ih := lcgI_ff m i (n + 1) (Nat.succ_pos _)
    show (lcgI m i (n + 1) * 5 + 1) % (m + 1) = (5 * ff (n + 1) i + 1) % (m + 1)
    rw [ih, Nat.mul_comm, Nat.add_mod, Nat.mul_mod, Nat.mod_mod, ← Nat.mul_mod, ← Nat.add_mod]
theorem lcgI_any {m i j : Nat} (G : MaskG m) (hi : i ≤ m) (hj : j ≤ m) : ∃ n, n ≤ m ∧ lcgI m i n = j := by
  obtain ⟨k, e⟩ := G
  obtain ⟨n, hn, h⟩ := ff_all k i j (by omega)
  refine ⟨n, by omega, ?_⟩
  cases n with
  | zero =>
    have : i % 2 ^ k = j := h
    rw [Nat.mod_eq_of_lt (by omega)] at this
    exact this
  | succ n => rw [lcgI_ff m i _ (Nat.succ_pos _), e, h]
end Cw
namespace Cw
open PySem PySem.Spec PyProof.Rows L2
/-! ## a table is laid for any mask -/
theorem runs_meet {m j : Nat} (G : MaskG m) (h : Int) (hj : j ≤ m) : ∃ n, n ≤ m + 12 ∧ runI m (SetTable.bits h) n = j := by
  obtain ⟨k, hk, e⟩ := lcgI_any G (runI_le m (SetTable.bits h) 12) hj
  refine ⟨12 + k, by omega, ?_⟩
  rw [runI_tail (bits_lt h) k, e]
/-- one more hash finds its slot -/
theorem free_got {m j : Nat} (G : MaskG m) (owner : Array (Option Nat)) (h : Int) (hj : j ≤ m) (hf : oAt owner j = none) :
    ∃ i, i ≤ m ∧ oAt owner i = none ∧ SetTable.layClean.free m owner (SetTable.turns m) (SetTable.bits h % (m + 1)) (SetTable.bits h) = some i := by
  obtain ⟨n, hn, e⟩ := runs_meet G h hj
  let P : Nat → Prop := fun k => oAt owner (nth m (runAt m (SetTable.bits h % (m + 1)) (SetTable.bits h)) k).j = none
  have at_n : P (off m (SetTable.bits h % (m + 1)) (SetTable.bits h) n) := by
    show oAt owner (nth m (runAt m _ _) (off m _ _ n)).j = none
    rw [nth_off, itL_run]
    show oAt owner (runI m (SetTable.bits h) n) = none
    rw [e]
    exact hf
  obtain ⟨k, h1, h2, h3⟩ := st_least (p := P) _ at_n
  refine ⟨_, ?_, h2, free_spec m owner (SetTable.turns m) n _ _ k (by unfold SetTable.turns; omega) h1 (fun i hi => ?_) ?_⟩
  · have i0 : SetTable.bits h % (m + 1) ≤ m := Nat.le_of_lt_succ (Nat.mod_lt _ (Nat.succ_pos _))
    have r0 := runEnd_bd i0
    have z := nth_in (m := m) k (runAt m (SetTable.bits h % (m + 1)) (SetTable.bits h)) (show SetTable.bits h % (m + 1) + (SetTable.runEnd m (SetTable.bits h % (m + 1)) - SetTable.bits h % (m + 1)) ≤ m by omega)
    omega
  · have q := h3 i hi
    cases z : oAt owner (nth m (runAt m (SetTable.bits h % (m + 1)) (SetTable.bits h)) i).j with
    | none => exact absurd z q
    | some _ => rfl
  · have q : oAt owner (nth m (runAt m (SetTable.bits h % (m + 1)) (SetTable.bits h)) k).j = none := h2
    rw [q]
    rfl
/-- the first c hashes have their slots -/
structure Ow (m c : Nat) (u : Array (Option Nat)) : Prop where
  sz : u.size = m + 1
  has : ∀ k, k < c → ∃ j, j ≤ m ∧ oAt u j = some k
  occ : ∃ ps : List Nat, ps.length = c ∧ ∀ j, j ≤ m → oAt u j ≠ none → j ∈ ps
theorem ow_one {m c : Nat} {u : Array (Option Nat)} (G : MaskG m) (O : Ow m c u) (few : c ≤ m) (h : Int) :
    ∃ i, SetTable.layClean.free m u (SetTable.turns m) (SetTable.bits h % (m + 1)) (SetTable.bits h) = some i ∧ Ow m (c + 1) (u.setIfInBounds i (some c)) := by
  obtain ⟨ps, pl, pm⟩ := O.occ
  obtain ⟨j, j1, j2⟩ := st_missing ps (m + 1) (by omega)
  have fj : oAt u j = none := by
    cases z : oAt u j with
    | none => rfl
    | some k => exact absurd (pm j (by omega) (by rw [z]; exact Option.some_ne_none k)) j2
  obtain ⟨i, im, fi, e⟩ := free_got G u h (by omega) fj
  have ib : i < u.size := by rw [O.sz]; omega
  have other : ∀ {x : Nat}, x ≠ i → oAt (u.setIfInBounds i (some c)) x = oAt u x := fun {x} hx => oAt_set_ne _ hx
  refine ⟨i, e, by rw [Array.size_setIfInBounds]; exact O.sz, fun k hk => ?_, i :: ps, by rw [List.length_cons, pl], fun x hx hne => ?_⟩
  · rcases Nat.lt_or_ge k c with q | q
    · obtain ⟨x, x1, x2⟩ := O.has k q
      refine ⟨x, x1, (other fun z => ?_).trans x2⟩
      rw [z, fi] at x2
      cases x2
    · have : k = c := by omega
      exact ⟨i, im, by rw [this]; exact oAt_set_self _ ib⟩
  · by_cases q : x = i
    · rw [q]
      exact List.mem_cons_self ..
    · rw [other q] at hne
      exact List.mem_cons_of_mem _ (pm x hx hne)
theorem ow_fold {m : Nat} (G : MaskG m) : ∀ (rest : List Int) (c : Nat) (u : Array (Option Nat)), Ow m c u → c + rest.length ≤ m + 1 →
    ∃ v, rest.foldl (stepF m) (some (u, c)) = some (v, c + rest.length) ∧ Ow m (c + rest.length) v
  | [], c, u, O, _ => ⟨u, rfl, O⟩
  | h :: rest, c, u, O, few => by
    rw [List.length_cons] at few
    obtain ⟨i, e, O2⟩ := ow_one G O (by omega) h
    obtain ⟨v, f, O3⟩ := ow_fold G rest (c + 1) _ O2 (by omega)
    have z : c + 1 + rest.length = c + (h :: rest).length := by rw [List.length_cons]; omega
    rw [z] at f O3
    exact ⟨v, by rw [List.foldl_cons, stepF_some e]; exact f, O3⟩
theorem clean_got {m : Nat} (G : MaskG m) {hs : Array Int} (few : hs.size ≤ m + 1) : ∃ u, SetTable.layClean m hs = some u ∧ Ow m hs.size u := by
  have O0 : Ow m 0 (Array.replicate (m + 1) none) := ⟨by simp, fun k hk => absurd hk (Nat.not_lt_zero _), [], rfl, fun j hj e => absurd (oAt_init hj) e⟩
  have hl : hs.toList.length = hs.size := Array.length_toList
  obtain ⟨u, f, O⟩ := ow_fold G hs.toList 0 _ O0 (by omega)
  rw [Nat.zero_add, hl] at O
  refine ⟨u, ?_, O⟩
  rw [layClean_eq, f]
  rfl
theorem laid_got {m : Nat} (G : MaskG m) (fi mo : Nat) (ld pl : Bool) {hs : Array Int} (few : hs.size ≤ m) :
    ∃ t order, SetTable.laid m fi mo ld pl hs = some (t, order) ∧ order.toList.Perm (List.range hs.size) ∧ t.fits hs.size = true ∧ Ris t.place.toList ∧ t.led = ld ∧ t.plain = pl := by
  obtain ⟨u, e, O⟩ := clean_got G (hs := hs) (by omega)
  have rl := ris_live (fun j => u.getD j none) (List.range (m + 1)) (by unfold Ris; exact List.pairwise_lt_range)
  have r1 : Ris ((liveOf m u).map (·.1)) := rl.1
  have nd : ((liveOf m u).map (·.1)).Nodup := List.Pairwise.imp (fun h => Nat.ne_of_lt h) r1
  have inn : ∀ k, k < hs.size → k ∈ (liveOf m u).map (·.2) := fun k hk => by
    obtain ⟨j, j1, j2⟩ := O.has k hk
    exact List.mem_map.mpr ⟨(j, k), (mem_live O.sz).mpr ⟨j1, j2⟩, rfl⟩
  have up : (liveOf m u).length ≤ hs.size := by
    obtain ⟨ps, p1, p2⟩ := O.occ
    have z := nat_nodup_len _ ps nd fun x hx => by
      obtain ⟨⟨a, b⟩, hab, rfl⟩ := List.mem_map.mp hx
      obtain ⟨h1, h2⟩ := (mem_live O.sz).mp hab
      exact p2 a h1 (by rw [h2]; exact Option.some_ne_none b)
    rw [List.length_map, p1] at z
    exact z
  have dn : hs.size ≤ (liveOf m u).length := by
    have z := nat_nodup_len (List.range hs.size) _ List.nodup_range fun x hx => inn x (List.mem_range.mp hx)
    rw [List.length_range, List.length_map] at z
    exact z
  refine ⟨{ mask := m, place := ((liveOf m u).map (·.1)).toArray, dummies := #[], finger := fi, led := ld, moves := mo, plain := pl }, ((liveOf m u).map (·.2)).toArray, ?_, ?_, ?_, ?_, rfl, rfl⟩
  · show (SetTable.layClean m hs).bind _ = _
    rw [e]
    rfl
  · rw [List.toList_toArray]
    exact perm_range _ _ (by rw [List.length_map]; omega) inn
  · unfold SetTable.fits SetTable.fill
    dsimp only
    rw [List.size_toArray, List.length_map]
    simp only [Bool.and_eq_true, beq_iff_eq, decide_eq_true_eq]
    exact ⟨by omega, by show (liveOf m u).length + 0 ≤ m; omega⟩
  · exact r1
theorem pick_range {α : Type} : ∀ l : List α, (List.range l.length).filterMap (fun i => l[i]?) = l
  | [] => rfl
  | x :: r => by
    rw [List.length_cons, List.range_succ_eq_map, List.filterMap_cons_some (f := fun i => (x :: r)[i]?) (a := 0) (b := x) rfl, List.filterMap_map]
    show x :: (List.range r.length).filterMap (fun i => r[i]?) = _
    rw [pick_range r]
theorem order_perm {α : Type} (es : Array α) {order : Array Nat} (h : order.toList.Perm (List.range es.size)) : (order.filterMap (es[·]?)).toList.Perm es.toList := by
  rw [Array.toList_filterMap]
  have e : (fun i => es[i]?) = fun i : Nat => es.toList[i]? := funext fun i => Array.getElem?_toList.symm
  rw [e]
  refine (h.filterMap _).trans ?_
  rw [← Array.length_toList, pick_range]
theorem above_go : ∀ (f size n : Nat), (∃ k, size = 2 ^ k) → n < size * 2 ^ f → (∃ k, SetTable.sizeAbove.go n f size = 2 ^ k) ∧ n < SetTable.sizeAbove.go n f size ∧ (SetTable.sizeAbove.go n f size ≤ size ∨ SetTable.sizeAbove.go n f size ≤ 2 * n)
  | 0, size, n, h, l => ⟨h, by rw [Nat.pow_zero, Nat.mul_one] at l; exact l, .inl (Nat.le_refl _)⟩
  | f + 1, size, n, h, l => by
    obtain ⟨k, rfl⟩ := h
    show (∃ k', (if 2 ^ k ≤ n then SetTable.sizeAbove.go n f (2 ^ k * 2) else 2 ^ k) = 2 ^ k') ∧ n < (if 2 ^ k ≤ n then SetTable.sizeAbove.go n f (2 ^ k * 2) else 2 ^ k) ∧ ((if 2 ^ k ≤ n then SetTable.sizeAbove.go n f (2 ^ k * 2) else 2 ^ k) ≤ 2 ^ k ∨ (if 2 ^ k ≤ n then SetTable.sizeAbove.go n f (2 ^ k * 2) else 2 ^ k) ≤ 2 * n)
    by_cases c : 2 ^ k ≤ n
    · rw [if_pos c]
      obtain ⟨h1, h2, h3⟩ := above_go f (2 ^ k * 2) n ⟨k + 1, by rw [Nat.pow_succ]⟩ (by rw [Nat.pow_succ] at l; rw [Nat.mul_assoc, Nat.mul_comm 2]; exact l)
      exact ⟨h1, h2, .inr (by omega)⟩
    · rw [if_neg c]
      exact ⟨⟨k, rfl⟩, by omega, .inl (Nat.le_refl _)⟩
/-- the new size is a power of two, above what is wanted, and not far above -/
theorem above_ok {n : Nat} (h : n < 100000) : MaskG (SetTable.sizeAbove n - 1) ∧ n < SetTable.sizeAbove n ∧ SetTable.sizeAbove n ≤ 8 + 2 * n := by
  obtain ⟨⟨k, e⟩, h2, h3⟩ := above_go 64 8 n ⟨3, rfl⟩ (Nat.lt_of_lt_of_le h (by decide))
  have e0 : SetTable.sizeAbove n = SetTable.sizeAbove.go n 64 8 := rfl
  rw [e0]
  refine ⟨⟨k, by omega⟩, h2, by omega⟩
end Cw
namespace Cw
open PySem PySem.Spec PyProof.Rows L2
section
variable {P : Program} {w : World} {A : Around} {E : Value → Shared → Prop} {s : Shared} {a b : Addr} {S T : Int → Bool} {n m : Nat}
/-- more of a laid table -/
theorem laid_more {m : Nat} {fi mo : Nat} {ld pl : Bool} {hs : Array Int} {t : SetTable} {order : Array Nat} (e : SetTable.laid m fi mo ld pl hs = some (t, order)) : t.mask = m ∧ t.dummies = #[] := by
  have e2 : (SetTable.layClean m hs).bind (fun u => some (({ mask := m, place := ((liveOf m u).map (·.1)).toArray, dummies := #[], finger := fi, led := ld, moves := mo, plain := pl } : SetTable), ((liveOf m u).map (·.2)).toArray)) = some (t, order) := e
  cases z : SetTable.layClean m hs with
  | none => rw [z] at e2; cases e2
  | some u =>
    rw [z] at e2
    injection e2 with e3
    injection e3 with e4 e5
    rw [← e4]
    exact ⟨rfl, rfl⟩
/-- laid anew with more room -/
theorem relay_got {wanted : Nat} (R : SetR w s.heap a S n) (hw : wanted < 100000) (few : n < SetTable.sizeAbove wanted) {Q : Unit → Shared → Prop}
    (q : ∀ h' o es ep t, Heap.SameBut a s.heap h' → SetR w h' a S n → h'.get? a = some o → o.data = .set es ep t → MaskG t.mask → t.mask = SetTable.sizeAbove wanted - 1 → t.dummies = #[] → Q () { s with heap := h' }) : wpAny (model P w) A (setRelay a wanted) Q E s := by
  obtain ⟨o, es, ep, t, ho, hx, hd, g, nd, hm, hb, hf, hn, hr, hl⟩ := R
  obtain ⟨G, h1, h2⟩ := above_ok hw
  have hs0 : (es.map (·.1)).size = es.size := Array.size_map ..
  obtain ⟨t', order, e, p, f, r, l1, l2⟩ := laid_got G t.finger (t.movedTo (SetTable.sizeAbove wanted - 1)) t.led t.plain (hs := es.map (·.1)) (by omega)
  obtain ⟨m1, m2⟩ := laid_more e
  rw [hs0] at p f
  have pm := order_perm es p
  have sz : (order.filterMap (es[·]?)).size = es.size := by rw [← Array.length_toList, pm.length_eq, Array.length_toList]
  have er : t.relaid (es.map (·.1)) wanted = some (t', order) := e
  rw [setRelay_eq]
  refine wpAny_bind (wpAny_setState_of ho hd hf ?_)
  dsimp only
  refine wp_if_neg (by rw [sizeLine_eq]; omega) ?_
  try refine wpAny_bind (wpAny_pure ?_)
  rw [er]
  dsimp only
  refine wpAny_bind ?_
  refine wp_if_neg (by rw [sz]; simp) ?_
  try refine wpAny_bind (wpAny_pure ?_)
  refine wpAny_pure ?_
  dsimp only
  refine wpAny_storeSet_of ho hd ?_ (fits_of_scanBound (by rw [sz]; exact hb))
  refine q _ _ _ _ _ (Heap.SameBut.update ..) ⟨_, _, _, _, store_at ho hd, ⟨hx.1, hx.2.1, hx.2.2⟩, rfl, fun e he => g e (pm.mem_iff.mp he), (pm.map keyOf).nodup_iff.mpr nd, fun k => (hm k).trans (pm.map keyOf).mem_iff.symm, by rw [sz]; exact hb, by rw [sz]; exact f, by rw [sz]; exact hn, r, hl.imp id fun z => by rw [l1]; exact z⟩ (store_at ho hd) rfl (by rw [m1]; exact G) m1 m2
/-- all of the set's members are walked -/
def MemAll (xs : Array (Int × Value)) (S : Int → Bool) (n : Nat) : Prop := (∀ e ∈ xs.toList, GoodE e) ∧ (∀ k, S k = true ↔ k ∈ xs.toList.map keyOf) ∧ xs.size = n
theorem walk_all {o : Obj} {es : Array (Int × Value)} {ep : Nat} {t : SetTable} (ho : s.heap.get? a = some o) (hd : o.data = .set es ep t) (hf : t.fits es.size = true) (hl : w.params.followText "set-order" = true ∨ t.led = true) (hp : w.params.followText "set-order" = true ∨ (!t.plain && decide (es.size > 1)) = false)
    {Q : Array (Int × Value) → Shared → Prop} (q : ∀ xs : Array (Int × Value), xs.toList.Perm es.toList → Q xs s) : wpAny (model P w) A (setWalk a) Q E s := by
  unfold setWalk
  refine wpAny_bind (wpAny_setState_of ho hd hf ?_)
  dsimp only
  refine wpAny_bind (wpAny_byText ?_)
  by_cases c : w.params.followText "set-order" = true
  · refine wp_if_pos c ?_
    exact wpAny_bind (wpAny_askSetting (wpAny_pure (q _ (pick_perm _ es))))
  · have p1 := hp.resolve_left c
    have p2 := hl.resolve_left c
    refine wp_if_neg c ?_
    try refine wpAny_bind (wpAny_pure ?_)
    refine wp_if_neg (by show ¬ ((!t.plain && decide (es.size > 1)) = true); rw [p1]; exact Bool.false_ne_true) ?_
    try refine wpAny_bind (wpAny_pure ?_)
    refine wpAny_bind (wpAny_of_eq (a := ()) ?_ (wpAny_pure (q es (List.Perm.refl _))))
    show (if (!t.led && decide (es.size > 1)) = true then unsupported "set:maker-not-led" else pure ()) = pure ()
    rw [p2]
    rfl
/-- the set at a walked while the set at r is filled -/
theorem unseen_all {r : Addr} {U : Int → Bool} {c : Nat} (R : SetR w s.heap a S n) (Rr : SetR w s.heap r U c) {l : List Addr} (hall : ∀ c ∈ a :: l, ∃ S n, SetR w s.heap c S n) {Q : Array (Int × Value) → Shared → Prop}
    (q : ∀ xs h', MemAll xs S n → Heap.SameBut r s.heap h' → SetR w h' r U c → Q xs { s with heap := h' }) : wpAny (model P w) A (setWalkUnseen a l (some r)) Q E s := by
  obtain ⟨o, es, ep, t, ho, hx, hd, g, nd, hm, hb, hf, hn, hr, hl⟩ := R
  have mem : ∀ xs : Array (Int × Value), xs.toList.Perm es.toList → MemAll xs S n := fun xs h => ⟨fun e he => g e (h.mem_iff.mp he), fun k => (hm k).trans (h.map keyOf).mem_iff.symm, by rw [← Array.length_toList, h.length_eq, Array.length_toList, hn]⟩
  unfold setWalkUnseen
  refine wpAny_bind (wpAny_setState_of ho hd hf ?_)
  dsimp only
  refine wpAny_bind (wpAny_byText ?_)
  by_cases c : (w.params.followText "set-order" || t.led && t.plain || decide (es.size ≤ 1)) = true
  · refine wp_if_pos c ?_
    refine walk_all ho hd hf hl ?_ fun xs h => q xs s.heap (mem xs h) (Heap.SameBut.refl _ _) Rr
    simp only [Bool.or_eq_true, Bool.and_eq_true, decide_eq_true_eq] at c
    rcases c with (c | c) | c
    · exact .inl c
    · exact .inr (by rw [c.2]; rfl)
    · exact .inr (by rw [decide_eq_false (by omega), Bool.and_false])
  · refine wp_if_neg c ?_
    try refine wpAny_bind (wpAny_pure ?_)
    refine wpAny_bind (quiet_at (a :: l) hall ?_)
    refine wp_if_neg (by decide) ?_
    try refine wpAny_bind (wpAny_pure ?_)
    refine wpAny_bind (wpAny_rule ?_)
    obtain ⟨o2, es2, ep2, t2, ho2, hx2, hd2, g2, nd2, hm2, hb2, hf2, hn2, hr2, hl2⟩ := Rr
    try dsimp only
    refine wpAny_bind (wpAny_setState_of ho2 hd2 hf2 ?_)
    dsimp only
    have nb : w.params.followText "set-order" = false := by
      cases z : w.params.followText "set-order" with
      | false => rfl
      | true => rw [z] at c; simp at c
    have l1 : t.led = true := hl.resolve_left (by rw [nb]; exact Bool.false_ne_true)
    have l2 : t2.led = true := hl2.resolve_left (by rw [nb]; exact Bool.false_ne_true)
    by_cases c2 : (t2.led && !t.led || t2.plain && !t.plain) = true
    · refine wp_if_pos c2 ?_
      refine wpAny_bind (wpAny_storeSet_of ho2 hd2 ?_ (fits_of_scanBound hb2))
      refine wpAny_pure (q es _ (mem es (List.Perm.refl _)) (Heap.SameBut.update ..) ?_)
      exact ⟨_, es2, _, _, store_at ho2 hd2, ⟨hx2.1, hx2.2.1, hx2.2.2⟩, rfl, g2, nd2, hm2, hb2, by exact hf2, hn2, hr2, .inr (by rw [l1, l2]; rfl)⟩
    · refine wp_if_neg c2 ?_
      try refine wpAny_bind (wpAny_pure ?_)
      exact wpAny_pure (q es s.heap (mem es (List.Perm.refl _)) (Heap.SameBut.refl _ _) ⟨o2, es2, ep2, t2, ho2, hx2, hd2, g2, nd2, hm2, hb2, hf2, hn2, hr2, hl2⟩)
end
end Cw
namespace Cw
open PySem PySem.Spec PyProof.Rows L2
theorem merge_eq (s o : Addr) (each : Sem Unit) : setMerge s o each = (do
    if s == o then return
    let (eo, epoch, to) ← setState o
    if eo.isEmpty then return
    (do if let some wanted := (← setState s).2.2.roomFor eo.size then setRelay s wanted)
    let (_, _, ts) ← setState s
    match ts.road to with
    | .slotForSlot => storeSet s eo { to with finger := ts.finger, led := ts.led && to.led, moves := ts.moves, plain := ts.plain && to.plain }
    | .clean =>
      let (es, t) ← (do
        let some (t, order) := SetTable.laid ts.mask ts.finger ts.moves (ts.led && to.led) (ts.plain && to.plain) (eo.map (·.1)) | unsupported "internal:set-table-without-room"
        let es' := order.filterMap (eo[·]?)
        if es'.size != eo.size then unsupported "internal:set-table-lost-an-element"
        pure (es', t) : Sem (Array (Int × Value) × SetTable))
      storeSet s es t
    | .oneByOne =>
      for (h, x) in ← setWalkUnseen o [s] (some s) do
        let _ ← holding [x] (setAddHashed s x h)
        each
        if (← setState o).2.1 != epoch then unsupported "set.changed-during-merge") := by rfl
section
variable {P : Program} {w : World} {A : Around} {E : Value → Shared → Prop} {s : Shared} {a b : Addr} {S T : Int → Bool} {n m : Nat}
/-- the empty new set -/
def Fresh (w : World) (h : Heap) (r : Addr) : Prop := ∃ o ep ld, h.get? r = some o ∧ o.ExactSet ∧ o.data = .set #[] ep (.fresh 0 0 ld) ∧ (w.params.followText "set-order" = true ∨ ld = true)
theorem Fresh.setR {h : Heap} {r : Addr} (f : Fresh w h r) : SetR w h r (fun _ => false) 0 := by
  obtain ⟨o, ep, ld, ho, hx, hd, hl⟩ := f
  exact ⟨o, #[], ep, _, ho, hx, hd, (fun e he => by simp at he), (by simp), (fun k => by simp), (by decide), rfl, rfl, List.Pairwise.nil, hl⟩
/-- all of b's members into a new set -/
theorem merge_fresh {r : Addr} {each : Sem Unit} (f : Fresh w s.heap r) (R : SetR w s.heap b T m) (ne : r ≠ b) {Q : Unit → Shared → Prop}
    (q : ∀ h', Heap.SameBut r s.heap h' → SetR w h' r T m → (m = 0 → Fresh w h' r) → Q () { s with heap := h' }) : wpAny (model P w) A (setMerge r b each) Q E s := by
  have Rr := f.setR
  obtain ⟨o, es, ep, t, ho, hx, hd, g, nd, hm, hb, hf, hn, hr, hl⟩ := id R
  rw [merge_eq]
  refine wp_if_neg (by simp [ne]) ?_
  try refine wpAny_bind (wpAny_pure ?_)
  refine wpAny_bind (wpAny_setState_of ho hd hf ?_)
  dsimp only
  by_cases c0 : es = #[]
  · have m0 : m = 0 := by rw [← hn, c0]; rfl
    refine wp_if_pos (by rw [c0]; rfl) (wpAny_pure ?_)
    refine q s.heap (Heap.SameBut.refl _ _) ?_ fun _ => f
    have e : T = fun _ => false := funext fun k => by
      cases z : T k with
      | false => rfl
      | true =>
        have := (hm k).mp z
        rw [c0] at this
        simp at this
    rw [e, m0]
    exact Rr
  · have pos : 0 < es.size := Array.size_pos_iff.mpr c0
    refine wp_if_neg (by simp [c0]) ?_
    try refine wpAny_bind (wpAny_pure ?_)
    obtain ⟨o1, ep1, ld, ho1, hx1, hd1, hl1⟩ := f
    have hb' : es.size < 4096 := hb
    -- the last part, for any table without members
    have last : ∀ (h1 : Heap) (o2 : Obj) (e2 : Nat) (t2 : SetTable), Heap.SameBut r s.heap h1 → h1.get? r = some o2 → o2.ExactSet → o2.data = .set #[] e2 t2 → t2.dummies = #[] → t2.fits 0 = true → MaskG t2.mask → es.size ≤ t2.mask → (w.params.followText "set-order" = true ∨ t2.led = true) →
        wpAny (model P w) A (do
          let (_, _, ts) ← setState r
          match ts.road t with
          | .slotForSlot => storeSet r es { t with finger := ts.finger, led := ts.led && t.led, moves := ts.moves, plain := ts.plain && t.plain }
          | .clean =>
            let (es, t) ← (do
              let some (t, order) := SetTable.laid ts.mask ts.finger ts.moves (ts.led && t.led) (ts.plain && t.plain) (es.map (·.1)) | unsupported "internal:set-table-without-room"
              let es' := order.filterMap (es[·]?)
              if es'.size != es.size then unsupported "internal:set-table-lost-an-element"
              pure (es', t) : Sem (Array (Int × Value) × SetTable))
            storeSet r es t
          | .oneByOne =>
            for (h, x) in ← setWalkUnseen b [r] (some r) do
              let _ ← holding [x] (setAddHashed r x h)
              each
              if (← setState b).2.1 != ep then unsupported "set.changed-during-merge") Q E { s with heap := h1 } := by
      intro h1 o2 e2 t2 sb ho2 hx2 hd2 dm2 f2 G2 few2 l2
      refine wpAny_bind (wpAny_setState_of ho2 hd2 f2 ?_)
      dsimp only
      have p0 : t2.place.size = 0 := by
        unfold SetTable.fits at f2
        simp only [Bool.and_eq_true, beq_iff_eq] at f2
        exact f2.1
      have fill0 : t2.fill = 0 := by
        unfold SetTable.fill
        rw [p0, dm2]
        rfl
      have led2 : w.params.followText "set-order" = true ∨ (t2.led && t.led) = true := by
        rcases l2 with x | x
        · exact .inl x
        · rcases hl with y | y
          · exact .inl y
          · exact .inr (by rw [x, y]; rfl)
      have m0 : m ≠ 0 := by omega
      unfold SetTable.road
      rw [fill0, if_neg (by decide)]
      by_cases c1 : (t2.mask == t.mask && t.dummies.isEmpty) = true
      · rw [if_pos c1]
        dsimp only
        refine wpAny_storeSet_of ho2 hd2 ?_ (fits_of_scanBound hb)
        exact q _ (sb.trans (Heap.SameBut.update ..)) ⟨_, _, _, _, store_at ho2 hd2, ⟨hx2.1, hx2.2.1, hx2.2.2⟩, rfl, g, nd, hm, hb, hf, hn, hr, led2⟩ fun z => absurd z m0
      · rw [if_neg c1]
        dsimp only
        have hs0 : (es.map (·.1)).size = es.size := Array.size_map ..
        obtain ⟨t', order, e, p, f', r', k1, k2⟩ := laid_got G2 t2.finger t2.moves (t2.led && t.led) (t2.plain && t.plain) (hs := es.map (·.1)) (by omega)
        rw [hs0] at p f'
        have pm := order_perm es p
        have sz : (order.filterMap (es[·]?)).size = es.size := by rw [← Array.length_toList, pm.length_eq, Array.length_toList]
        rw [e]
        dsimp only
        refine wpAny_bind ?_
        refine wp_if_neg (by rw [sz]; simp) ?_
        try refine wpAny_bind (wpAny_pure ?_)
        refine wpAny_pure ?_
        dsimp only
        refine wpAny_storeSet_of ho2 hd2 ?_ (fits_of_scanBound (by rw [sz]; exact hb))
        exact q _ (sb.trans (Heap.SameBut.update ..)) ⟨_, _, _, _, store_at ho2 hd2, ⟨hx2.1, hx2.2.1, hx2.2.2⟩, rfl, fun e he => g e (pm.mem_iff.mp he), (pm.map keyOf).nodup_iff.mpr nd, fun k => (hm k).trans (pm.map keyOf).mem_iff.symm, by rw [sz]; exact hb, by rw [sz]; exact f', by rw [sz]; exact hn, r', by rw [k1]; exact led2⟩ fun z => absurd z m0
    refine wpAny_bind ?_
    refine wpAny_bind (wpAny_setState_of ho1 hd1 rfl ?_)
    dsimp only
    unfold SetTable.roomFor
    by_cases c2 : ((SetTable.fresh 0 0 ld).fill + es.size) * 5 ≥ (SetTable.fresh 0 0 ld).mask * 3
    · rw [if_pos c2]
      dsimp only
      have wn : ((SetTable.fresh 0 0 ld).place.size + es.size) * 2 = es.size * 2 := by
        show (0 + es.size) * 2 = _
        rw [Nat.zero_add]
      rw [wn]
      obtain ⟨G3, k3, k4⟩ := above_ok (n := es.size * 2) (by omega)
      refine relay_got Rr (by omega) (by omega) fun h' o2 es2 e2 t2 sb R2 ho2 hd2 G2 mk dm => ?_
      obtain ⟨o3, es3, ep3, t3, ho3, hx3, hd3, g3, nd3, hm3, hb3, hf3, hn3, hr3, hl3⟩ := R2
      rw [ho2] at ho3
      cases ho3
      rw [hd2] at hd3
      cases hd3
      have e0 : es2 = #[] := Array.size_eq_zero_iff.mp hn3
      subst e0
      exact last h' o2 e2 t2 sb ho2 hx3 hd2 dm hf3 G2 (by rw [mk]; omega) hl3
    · rw [if_neg c2]
      dsimp only
      refine wpAny_pure ?_
      have c3 : ¬ ((0 + es.size) * 5 ≥ 7 * 3) := c2
      exact last s.heap o1 ep1 _ (Heap.SameBut.refl _ _) ho1 hx1 hd1 rfl rfl ⟨3, rfl⟩ (by show es.size ≤ 7; omega) hl1
theorem forIn_upto {α β : Type} {M : Model} {f : α → β → Sem (ForInStep β)} {b : β} (I : List α → Shared → Prop) : ∀ (l done : List α) {s : Shared} {Q : β → Shared → Prop},
    (∀ (d : List α) (x : α) (r : List α), d ++ x :: r = done ++ l → ∀ (s : Shared) (Q' : ForInStep β → Shared → Prop), I d s → (∀ s', I (d ++ [x]) s' → Q' (.yield b) s') → wpAny M A (f x b) Q' E s) → I done s → (∀ s', I (done ++ l) s' → Q b s') → wpAny M A (forIn l b f) Q E s
  | [], done, s, Q, _, i, q => by
    rw [List.forIn_nil]
    rw [List.append_nil] at q
    exact wpAny_pure (q s i)
  | x :: l, done, s, Q, h, i, q => by
    rw [List.forIn_cons]
    have e : (done ++ [x]) ++ l = done ++ x :: l := by rw [List.append_assoc]; rfl
    refine wpAny_bind (h done x l rfl s _ i fun s' i' => ?_)
    refine forIn_upto I l (done ++ [x]) (fun d y r z => h d y r (z.trans e)) i' ?_
    rw [e]
    exact q
/-- all of b's members, one by one, into a set that isn't empty -/
theorem merge_more {each : Sem Unit} (R : SetR w s.heap a S n) (R2 : SetR w s.heap b T m) (ne : a ≠ b) (pos : 0 < n) (room : n + m + 1 < scanBound)
    (he : ∀ (h' : Heap) (Q' : Unit → Shared → Prop), (∀ o, s.heap.get? b = some o → h'.get? b = some o) → Q' () { s with heap := h' } → wpAny (model P w) A each Q' E { s with heap := h' }) {Q : Unit → Shared → Prop}
    (q : ∀ h' c, Heap.SameBut a s.heap h' → SetR w h' a (fun j => S j || T j) c → c ≤ n + m → Q () { s with heap := h' }) : wpAny (model P w) A (setMerge a b each) Q E s := by
  obtain ⟨o, es, ep, t, ho, hx, hd, g, nd, hm, hb, hf, hn, hr, hl⟩ := id R2
  rw [merge_eq]
  refine wp_if_neg (by simp [ne]) ?_
  try refine wpAny_bind (wpAny_pure ?_)
  refine wpAny_bind (wpAny_setState_of ho hd hf ?_)
  dsimp only
  by_cases c0 : es = #[]
  · refine wp_if_pos (by rw [c0]; rfl) (wpAny_pure ?_)
    refine q s.heap n (Heap.SameBut.refl _ _) (R.congr fun k => ?_) (Nat.le_add_right _ _)
    have z : T k = false := by
      cases z : T k with
      | false => rfl
      | true =>
        have := (hm k).mp z
        rw [c0] at this
        simp at this
    rw [z, Bool.or_false]
  · refine wp_if_neg (by simp [c0]) ?_
    try refine wpAny_bind (wpAny_pure ?_)
    have rm : n + m + 1 < 4096 := room
    have last : ∀ h1 : Heap, Heap.SameBut a s.heap h1 → SetR w h1 a S n →
        wpAny (model P w) A (do
          let (_, _, ts) ← setState a
          match ts.road t with
          | .slotForSlot => storeSet a es { t with finger := ts.finger, led := ts.led && t.led, moves := ts.moves, plain := ts.plain && t.plain }
          | .clean =>
            let (es, t) ← (do
              let some (t, order) := SetTable.laid ts.mask ts.finger ts.moves (ts.led && t.led) (ts.plain && t.plain) (es.map (·.1)) | unsupported "internal:set-table-without-room"
              let es' := order.filterMap (es[·]?)
              if es'.size != es.size then unsupported "internal:set-table-lost-an-element"
              pure (es', t) : Sem (Array (Int × Value) × SetTable))
            storeSet a es t
          | .oneByOne =>
            for (h, x) in ← setWalkUnseen b [a] (some a) do
              let _ ← holding [x] (setAddHashed a x h)
              each
              if (← setState b).2.1 != ep then unsupported "set.changed-during-merge") Q E { s with heap := h1 } := by
      intro h1 sb R1
      obtain ⟨o1, es1, ep1, t1, ho1, hx1, hd1, g1, nd1, hm1, hb1, hf1, hn1, hr1, hl1⟩ := id R1
      refine wpAny_bind (wpAny_setState_of ho1 hd1 hf1 ?_)
      dsimp only
      have fill1 : t1.fill ≠ 0 := by
        have z := hf1
        unfold SetTable.fits at z
        simp only [Bool.and_eq_true, beq_iff_eq] at z
        unfold SetTable.fill
        omega
      unfold SetTable.road
      rw [if_pos (by simp [fill1])]
      dsimp only
      have ob : ∀ {h : Heap}, Heap.SameBut a s.heap h → ∀ o, s.heap.get? b = some o → h.get? b = some o := fun {h} k o e => by rw [k.2 b (Ne.symm ne)]; exact e
      refine wpAny_bind (unseen_all (R2.at (ob sb)) R1 (fun c hc => ?_) fun xs h2 M sb2 R3 => ?_)
      · rcases List.mem_cons.mp hc with rfl | hc
        · exact ⟨_, _, R2.at (ob sb)⟩
        rcases List.mem_cons.mp hc with rfl | hc
        · exact ⟨_, _, R1⟩
        · cases hc
      · obtain ⟨M1, M2, M3⟩ := M
        rw [← Array.forIn_toList]
        have len : xs.toList.length = m := by rw [Array.length_toList]; exact M3
        refine wpAny_bind (forIn_upto (fun d s' => ∃ h' c, s' = { s with heap := h' } ∧ Heap.SameBut a s.heap h' ∧ SetR w h' a (fun j => S j || decide (j ∈ d.map keyOf)) c ∧ c ≤ n + d.length) xs.toList [] (fun d x r e s' Q' i k => ?_)
          ⟨h2, n, rfl, sb.trans sb2, R3.congr fun j => by simp, Nat.le_add_right _ _⟩ fun s' i => ?_)
        · obtain ⟨h', c, rfl, sb', Rc, cl⟩ := i
          have hxm : x ∈ xs.toList := by
            rw [List.nil_append] at e
            rw [← e]
            simp
          have dl : d.length + 1 ≤ m := by
            have := congrArg List.length e
            simp at this
            omega
          obtain ⟨i, tk, e1, e2⟩ := M1 x hxm
          obtain ⟨x1, x2⟩ := x
          dsimp only at e1 e2
          subst e1 e2
          have kk : keyOf (hashInt i, Value.int i tk) = i := rfl
          dsimp only
          refine wpAny_bind (wpAny_holding (setR_add_hashed Rc (by show c + 1 < 4096; omega) fun h3 sb3 R4 => ?_))
          have sb4 := sb'.trans sb3
          refine wpAny_bind (he h3 _ (ob sb4) ?_)
          refine wpAny_bind (wpAny_setState_of (ob sb4 _ ho) hd hf ?_)
          refine wp_if_neg (by simp) ?_
          try refine wpAny_bind (wpAny_pure ?_)
          refine wpAny_pure (k _ ⟨h3, _, rfl, sb4, R4.congr fun j => ?_, ?_⟩)
          · try dsimp only
            rw [Bool.or_assoc]
            congr 1
            rw [List.map_append, Bool.eq_iff_iff, Bool.or_eq_true, decide_eq_true_eq, decide_eq_true_eq, decide_eq_true_eq, List.mem_append, List.map_cons, kk]
            simp
          · try dsimp only
            rw [List.length_append]
            show _ ≤ n + (d.length + 1)
            split <;> omega
        · obtain ⟨h', c, rfl, sb', Rc, cl⟩ := i
          rw [List.nil_append] at Rc cl
          refine wpAny_pure (q h' c sb' (Rc.congr fun j => ?_) (by omega))
          congr 1
          rw [Bool.eq_iff_iff, decide_eq_true_eq]
          exact M2 j
    obtain ⟨o1, es1, ep1, t1, ho1, hx1, hd1, g1, nd1, hm1, hb1, hf1, hn1, hr1, hl1⟩ := id R
    refine wpAny_bind ?_
    refine wpAny_bind (wpAny_setState_of ho1 hd1 hf1 ?_)
    dsimp only
    unfold SetTable.roomFor
    have z : t1.place.size = n := by
      have z := hf1
      unfold SetTable.fits at z
      simp only [Bool.and_eq_true, beq_iff_eq] at z
      omega
    by_cases c2 : (t1.fill + es.size) * 5 ≥ t1.mask * 3
    · rw [if_pos c2]
      dsimp only
      rw [z]
      obtain ⟨G3, k3, k4⟩ := above_ok (n := (n + es.size) * 2) (by omega)
      exact relay_got R (by omega) (by omega) fun h' o2 es2 e2 t2 sb R4 _ _ _ _ _ => last h' sb R4
    · rw [if_neg c2]
      dsimp only
      exact wpAny_pure (last s.heap (Heap.SameBut.refl _ _) R)
end
end Cw
namespace Cw
open PySem PySem.Spec PyProof.Rows L2
section
variable {P : Program} {w : World} {A : Around} {E : Value → Shared → Prop} {s : Shared} {a b : Addr} {S T : Int → Bool} {n m : Nat}
theorem entry_or : entryFor table "set.__or__" = some Builtin.«frozenset.__or__» := entryFor_alias (id' := "frozenset.__or__") (by kernel_rfl) rfl (by decide +kernel) (by kernel_rfl)
theorem or_form (a b : Value) : Builtin.«frozenset.__or__» ⟨[a, b], []⟩ = (do
    let p ← Builtin.Frozenset.slot1 "__or__" ⟨[a, b], []⟩
    if !(← (Builtin.Frozenset.isAnySet p.1 <&&> Builtin.Frozenset.isAnySet p.2)) then
      rule "frozenset.__or__.declined"
      ret .notImplemented
    else do
      let la ← Builtin.Frozenset.addrOf p.1
      let v ← (do
        let result ← Builtin.Frozenset.copyOf la
        if p.2 != .ref la then holding [result] (Builtin.Frozenset.updateFrom "frozenset.__or__" (← Builtin.Frozenset.addrOf result) p.2)
        return result)
      ret v) := by
  rfl
/-- a | b: a new set -/
theorem or_new (R1 : SetR w s.heap a S n) (R2 : SetR w s.heap b T m) (ne : a ≠ b) (room : n + m + 1 < scanBound) {Q : Value → Shared → Prop}
    (q : ∀ h' c, (∀ x o, s.heap.get? x = some o → h'.get? x = some o) → SetR w h' s.heap.objs.size (fun j => S j || T j) c → c ≤ n + m → Q (.ref s.heap.objs.size) { s with heap := h' }) : wpAny (model P w) A (binaryOp .BitOr (.ref a) (.ref b)) Q E s := by
  have ta : s.TypeIs (.ref a) "set" := (R1.setOf (P := P)).typeIs
  have tb : s.TypeIs (.ref b) "set" := (R2.setOf (P := P)).typeIs
  refine wpAny_binaryOp_same (T := "set") ta tb F.fills_set_or F.slot_set_or ?_
  refine wpAny_call_entry F.slot_set_or ta entry_or ?_ (F.args_set_or_2 _ _)
  rw [or_form]
  unfold Builtin.Frozenset.slot1 slotArgs
  refine wpAny_bind (wpAny_bind (wpAny_of_eq (a := (Value.ref a, [Value.ref b])) rfl (wpAny_pure ?_)))
  dsimp only
  refine wpAny_bind (m := _ <&&> _) ?_
  unfold andM
  refine wpAny_bind (isSet_at ta ?_)
  show wpAny _ _ (Builtin.Frozenset.isAnySet (.ref b)) _ _ _
  refine isSet_at tb (wp_if_neg (by decide) ?_)
  try refine wpAny_bind (wpAny_pure ?_)
  refine wpAny_bind ?_
  unfold Builtin.Frozenset.copyOf Builtin.Frozenset.baseOf isInstance
  have z := sub_set_self
  obtain ⟨hp, gg, dr, tk, os⟩ := s
  dsimp only at q R1 R2
  have k1 : ∀ c o, hp.get? c = some o → (hp.push (newS w)).get? c = some o := fun c o e => Heap.get?_push_of_some _ e
  have fr : Fresh w (hp.push (newS w)) hp.objs.size := by
    refine ⟨newS w, 0, _, Heap.get?_push_size _ rfl, ⟨rfl, rfl, rfl⟩, rfl, ?_⟩
    cases w.params.followText "set-order"
    · exact .inr rfl
    · exact .inl rfl
  have na : hp.objs.size ≠ a := Nat.ne_of_gt R1.lt
  have nb : hp.objs.size ≠ b := Nat.ne_of_gt R2.lt
  wp_walk
  refine wpAny_askSetting (wpAny_pure ?_)
  simp only [newObj, if_true]
  refine wpAny_bind (wpAny_alloc (wpAny_pure ?_))
  dsimp only
  refine wpAny_bind (m := Builtin.Frozenset.addrOf (.ref hp.objs.size)) (wpAny_pure ?_)
  refine wpAny_bind (merge_fresh fr (R1.at fun o e => k1 _ _ e) na fun h1 sb1 Rr f1 => ?_)
  have k2 : ∀ c o, c ≠ hp.objs.size → hp.get? c = some o → h1.get? c = some o := fun c o hc e => by
    rw [sb1.2 c hc]
    exact k1 c o e
  have k3 : ∀ c o, hp.get? c = some o → h1.get? c = some o := fun c o e => k2 c o (Nat.ne_of_lt (Heap.lt_size e)) e
  have R3 : SetR w h1 b T m := R2.at fun o e => k3 _ _ e
  refine wpAny_pure ?_
  refine wp_if_pos (by simp [Ne.symm ne]) ?_
  refine wpAny_bind (m := Builtin.Frozenset.addrOf (.ref hp.objs.size)) (wpAny_pure ?_)
  refine wpAny_bind (wpAny_holding ?_)
  unfold Builtin.Frozenset.updateFrom
  refine wpAny_bind (isSet_at (R3.setOf (P := P)).typeIs ?_)
  refine wp_if_pos rfl ?_
  refine wpAny_bind (m := Builtin.Frozenset.addrOf (.ref b)) (wpAny_pure ?_)
  unfold Builtin.Frozenset.merge
  obtain ⟨o, es, ep, t, ho, hx, hd, g, nd, hm, hb, hf, hn, hr, hl⟩ := id R3
  refine wpAny_bind (wpAny_setEpoch_of ho hd hf ?_)
  have fin : ∀ h' c, Heap.SameBut hp.objs.size h1 h' → SetR w h' hp.objs.size (fun j => S j || T j) c → c ≤ n + m → Q (.ref hp.objs.size) ⟨h', gg, dr, tk, os⟩ := fun h' c sb R le =>
    q h' c (fun x o e => by rw [sb.2 x (Nat.ne_of_lt (Heap.lt_size e))]; exact k3 x o e) R le
  have done : ∀ h' c, Heap.SameBut hp.objs.size h1 h' → SetR w h' hp.objs.size (fun j => S j || T j) c → c ≤ n + m →
      wpAny (model P w) A.in1 (pure (Value.ref hp.objs.size)) (fun a s' => wpAny (model P w) A.in1 (ret a) (fun fin s' => ∃ v, fin = Fin.done (Flow.ret v) ∧ v ≠ Value.notImplemented ∧ Q v s') E s') E ⟨h', gg, dr, tk, os⟩ := fun h' c sb R le =>
    wpAny_pure (wpAny_pure ⟨_, rfl, (fun z => nomatch z), fin h' c sb R le⟩)
  by_cases n0 : n = 0
  · refine merge_fresh (f1 n0) R3 nb fun h2 sb2 R4 _ => ?_
    refine done h2 m sb2 (R4.congr fun k => ?_) (Nat.le_add_left _ _)
    obtain ⟨o5, es5, ep5, t5, ho5, hx5, hd5, g5, nd5, hm5, hb5, hf5, hn5, _⟩ := R1
    have e0 : es5 = #[] := Array.size_eq_zero_iff.mp (by omega)
    have z : S k = false := by
      cases z : S k with
      | false => rfl
      | true =>
        have := (hm5 k).mp z
        rw [e0] at this
        simp at this
    rw [z, Bool.false_or]
  · refine merge_more Rr R3 nb (Nat.pos_of_ne_zero n0) room (fun h' Q' kb qq => ?_) fun h2 c sb2 R4 le => done h2 c sb2 R4 le
    unfold Builtin.Frozenset.unchanged
    refine wpAny_bind (wpAny_setEpoch_of (kb _ ho) hd hf ?_)
    refine wp_if_neg (by simp) (wpAny_pure qq)
end
end Cw
namespace Cw
open PySem PySem.Spec PyProof.Rows L2
section
variable {X : Cx}
/-- a | b -/
def rOrN (w : World) : R2 := fun x y H Q => ∃ (a b : Addr) (S T : Int → Bool) (n m : Nat), x = .ref a ∧ y = .ref b ∧ a ≠ b ∧ H a = some (SetO w a S n) ∧ H b = some (SetO w b T m) ∧ n + m ≤ 4000 ∧ ∀ p c, c ≤ n + m → H p = none → Q (.ref p) (upd H p (SetO w p (fun j => S j || T j) c))
theorem op_orN : OpR X (binaryOp .BitOr) (rOrN X.w) := by
  intro pins s σ H x y v u Q I rx ry h
  obtain ⟨a, b, S, T, n, m, rfl, rfl, ne, ha, hb, le, q⟩ := h
  cases rx
  cases ry
  refine or_new (setO_get I ha) (setO_get I hb) ne (by show n + m + 1 < 4096; omega) fun h' c k R lc => ?_
  exact ⟨.ref s.heap.objs.size, _, I.laid (t' := s.toks) k (Nat.le_refl _) (setO_new R), rfl, q _ c lc (I.hok.fresh (Nat.le_refl _))⟩
end
end Cw
namespace Cw
open PySem PySem.Spec PyProof.Rows L2
section
variable {P : Program} {w : World} {A : Around} {E : Value → Shared → Prop} {s : Shared} {a : Addr}
/-- sorted of a set of ints, as many as there are -/
theorem sorted_all {S : Int → Bool} {n : Nat} {Q : Value → Shared → Prop} (R : SetR w s.heap a S n) (calm : A.handled = none)
    (q : ∀ (t : Shared) (p : Addr) (out : Array Value) (c : Nat) (ns : List Int), (∀ x o, s.heap.get? x = some o → t.heap.get? x = some o) → t.gens = s.gens → t.os = s.os → s.heap.objs.size ≤ p →
      t.heap.get? p = some (seqObj "list" out c) → IntsAre out.toList ns → List.Pairwise (· < ·) ns → (∀ k, k ∈ ns ↔ S k = true) → ns.length = n → Q (.ref p) t) :
    wpAny (model P w) A (call (.builtin "sorted") [.ref a]) Q E s := by
  obtain ⟨o, es, ep, t, ho, hx, hd, g, nd, hm, hb, hf, hn, hr, hl⟩ := R
  refine Calls.call_function_entry kind_sorted
    plain_sorted entry_sorted (args_sorted1 _) ?_
  unfold Builtin.«sorted»
  refine wpAny_bind (m := checkCount "sorted" 1 1 _)
    (wpAny_pure ?_)
  refine wpAny_bind (collect_set (A := A.in1) calm ⟨o, ho, hx.1, hd⟩ hf hb hr hl fun u vs old sz ge oss pm => ?_)
  have len : vs.length = n := by
    rw [pm.length_eq, List.length_map, Array.length_toList, hn]
  have iz : IntsAre vs (vs.map Builtin.Re.reRawOf) := ints_of vs fun v hv => by
    obtain ⟨e, he, z⟩ := List.mem_map.mp (pm.mem_iff.mp hv)
    obtain ⟨k, tk, e1, _⟩ := g e he
    exact ⟨k, tk, by rw [← z]; exact e1⟩
  have keys : (vs.map Builtin.Re.reRawOf).Perm (es.toList.map keyOf) := by
    have z := pm.map Builtin.Re.reRawOf
    rw [List.map_map] at z
    exact z
  have nb : n < 4096 := by rw [← hn]; exact hb
  refine wpAny_bind (wpAny_newList ?_ (by rw [len, sizeLine_eq]; omega))
  have at0 : (u.heap.push (seqObj "list" vs.toArray 0)).get? u.heap.objs.size = some (seqObj "list" vs.toArray 0) := Heap.get?_push_size _ rfl
  refine wpAny_bind (wpAny_holding (wpAny_call_entry slot_list_sort ⟨_, at0, rfl⟩ entry_list_sort
    (SrtO.list_sort_ord SrtO.swo_int at0 (by rw [len, sizeLine_eq]; omega) (fun h2 => SrtO.ints_sortable iz h2) fun out h1 h2 => ⟨.none, rfl, ?_⟩) (args_list_sort _)))
  obtain ⟨k1, k2, k3⟩ := SrtO.ints_out iz h1 h2
  obtain ⟨c, hc⟩ := sortedHeap_at (vs := vs) (out := out.toArray) at0
  have perm := k2.trans keys
  refine wpAny_pure ⟨_, rfl, q _ u.heap.objs.size out.toArray c (out.map SrtO.iv) (fun x v e => ?_) ge oss sz hc k1 (lt_of_le_nodup _ k3 (perm.nodup_iff.mpr nd)) (fun k => ?_) ?_⟩
  · have z := old x v e
    have lt := Heap.lt_size z
    show (sortedHeap (u.heap.push (seqObj "list" vs.toArray 0)) u.heap.objs.size vs out.toArray).get? x = some v
    rw [sortedHeap_old (Nat.ne_of_lt lt) (Nat.lt_of_lt_of_le lt (by rw [size_push']; exact Nat.le_succ _))]
    exact Heap.get?_push_of_some _ z
  · rw [perm.mem_iff]
    exact (hm k).symm
  · rw [perm.length_eq, List.length_map, Array.length_toList, hn]
end
section
variable {X : Cx}
/-- sorted(s), s a set of ints -/
def rSortSet (w : World) : List V → Hp → VK → Prop := fun vs H Q => ∃ (a : Addr) (S : Int → Bool) (n : Nat), vs = [V.ref a] ∧ H a = some (SetO w a S n) ∧
  ∀ (ns : List Int) (p : Addr), List.Pairwise (· < ·) ns → (∀ k, k ∈ ns ↔ S k = true) → H p = none → Q (.ref p) (upd H p (.lst (ns.map V.int)))
theorem cr_sortSet (hc : X.calm = true) : CallR X (.builtin "sorted") (rSortSet X.w) := by
  intro pins s σ H vs us Q I r h
  obtain ⟨a, S, n, rfl, ha, q⟩ := h
  have R := setO_get I ha
  rw [Vals.ref1 r]
  obtain ⟨o, es, ep, t, ho, hx, hd, g, nd, hm, hb, hf, hn, hr, hl⟩ := id R
  have nb : n < 4096 := by rw [← hn]; exact hb
  refine sorted_all R (I.ok.hd hc) fun t p out c ns k ge oss sz hg hi hs hm' hl' => ?_
  have few : (ns.map V.int).length ≤ sizeLine := by
    rw [List.length_map, hl', sizeLine_eq]
    omega
  have np : H p = none := I.hok.fresh sz
  obtain ⟨hp2, g2, d2, tk2, os2⟩ := t
  dsimp only at k ge oss hg
  subst ge oss
  refine ⟨.ref p, upd H p (.lst (ns.map V.int)), ?_, rfl, q ns p hs hm' np⟩
  exact I.call (ch := []) (Un.laid k sz np) (I.hok.laid k sz ⟨few, out.toList, c, vals_of_ints hi, hg⟩) I.bare (fun _ z => nomatch z)
end
end Cw
namespace Cw
open PySem L2
/-! ## marks put and taken -/
abbrev sCI : Stmt := inClass sRow 12
abbrev sWith : Stmt := inClass sRow 7
abbrev sWout : Stmt := inClass sRow 8
def spCI (C : Addr) : Sp := fun vs H Q _ => ∃ (x g : Addr) (n : Int) (ms ss gs : List Int), vs = [.ref x, .ref g] ∧ RowAt C H x n ms ss ∧ IL H g gs ∧ gs.length ≤ 1000 ∧ (∀ z ∈ gs, 1 ≤ z ∧ z ≤ n - 1) ∧ ∀ H', Same H H' → Q .non H'
def spWith (C : Addr) : Sp := fun vs H Q _ => ∃ (x g : Addr) (b : Bool) (n : Int) (ms ss gs : List Int), vs = [.ref x, .ref g, .bl b] ∧ RowAt C H x n ms ss ∧ Good n ms ss ∧ IL H g gs ∧ gs.length ≤ 1000 ∧ (∃ L : List Int, L.length ≤ 400 ∧ (∀ z ∈ ms, z ∈ L) ∧ ∀ z ∈ gs, z ∈ L) ∧ (∀ z ∈ gs, 1 ≤ z ∧ z ≤ n - 1) ∧
  ∀ p H' ms' ss', Same H H' → Good n ms' ss' → (∀ z, z ∈ ms' ↔ z ∈ ms ∨ z ∈ gs) → (∀ z, z ∈ ss' ↔ if b = true then z ∈ ss ∨ z ∈ gs else z ∈ ss ∧ z ∉ gs) → RowNew C H H' p n ms' ss' → Q (.ref p) H'
def offM (ms gs : List Int) : List Int := ms.filter fun z => !decide (z ∈ gs)
def spWout (C : Addr) : Sp := fun vs H Q _ => ∃ (x g : Addr) (n : Int) (ms ss gs : List Int), vs = [.ref x, .ref g] ∧ RowAt C H x n ms ss ∧ Good n ms ss ∧ IL H g gs ∧ gs.length ≤ 1000 ∧ (∀ z ∈ gs, 1 ≤ z ∧ z ≤ n - 1) ∧
  ∀ p H', Same H H' → RowNew C H H' p n (offM ms gs) (offM ss gs) → Q (.ref p) H'
/-- set(xs), told by its parts -/
def rSetOfW (K : PySem.W.Frag) (w : World) : List V → Hp → VK → Prop := fun xs H Q => ∃ (l : Addr) (ns : List Int), xs = [.ref l] ∧ SqL K H l (ns.map V.int) ∧ ns.length ≤ 4000 ∧ ∀ p c, c ≤ ns.length → H p = none → Q (.ref p) (upd H p (SetO w p (fun j => decide (j ∈ ns)) c))
theorem mem_off {ms gs : List Int} {z : Int} : z ∈ offM ms gs ↔ z ∈ ms ∧ z ∉ gs := by
  unfold offM
  rw [List.mem_filter]
  simp
theorem good_off {n : Int} {ms ss gs : List Int} (G : Good n ms ss) : Good n (offM ms gs) (offM ss gs) :=
  ⟨G.pos, Nat.le_trans (List.length_filter_le _ _) G.len, fun x hx => G.rng x (mem_off.mp hx).1, G.asc.filter _, G.asc2.filter _, fun x hx => mem_off.mpr ⟨G.sub x (mem_off.mp hx).1, (mem_off.mp hx).2⟩⟩
section
variable {P : Program} {w : World} {K : PySem.W.Frag} {mg : Str → Option Value} {base : Heap}
theorem scCI : FnScope ["self", "places"] ["self", "places"] (defScope sCI) := ⟨rfl, rfl, rfl, by decide +kernel, rfl, by decide +kernel, by decide +kernel⟩
theorem ok_ci {f C fP : Addr} {fd fdP : FuncData} (F : Fun K "_check_inner" "Row._check_inner" sCI f fd) (R : Cl K mg C)
    (gP : mg "are_places" = some (.ref fP)) (kP : PySem.W.keepIn K (.ref fP) = true) (bP : Binds K fdP ["thing", "low", "high"] []) (GP : FnOk P w K mg base CX0 2 fP fdP ["thing", "low", "high"] spPlaces) :
    FnOk P w K mg base CX0 3 f fd ["self", "places"] (spCI C) := by
  refine F.ok scCI (fun vs H Q E h => ?_) (fun cdv A outer s H vs Q E hr h => ?_)
  · obtain ⟨x, g, n, ms, ss, gs, rfl, _⟩ := h
    rfl
  · obtain ⟨x, g, n, ms, ss, gs, rfl, ⟨dx, l1, l2, ho, h1, h2⟩, hg, few, rg, q⟩ := h
    refine ⟨_, pss_one (ps_if (pt_not (pt_val (pe_call GP hr rfl gP kP bP .nil pass0 (pa_cons (pv 1) (pa_cons pe_int (pa_cons (pe_op op_sub (pe_fld (pv 0) rfl) pe_int) pa_nil)))))) pss_never pss_nil), ?_⟩
    refine ⟨_, rfl, _, rfl, x, C, dx, _, _, rfl, ho, R.cl, R.nL, fl_L _ _ _, _, _, rfl, rfl, ?_⟩
    refine ⟨g, gs, 1, n - 1, rfl, hg, few, rg, fun H1 s1 => ⟨_, rfl, ?_⟩⟩
    refine ifF rfl ?_
    exact q _ s1
abbrev NWt : List Str := ["self", "places", "is_strict", "given", "marks", "strict", "mark"]
theorem scWt : FnScope NWt ["self", "places", "is_strict"] (defScope sWith) := ⟨rfl, rfl, rfl, by decide +kernel, rfl, by decide +kernel, by decide +kernel⟩
theorem ok_with {f C fI fC : Addr} {fd fdI fdC : FuncData} (F : Fun K "with_marks" "Row.with_marks" sWith f fd) (T : Bl mg) (R : Cl K mg C) (M : Mk K C fI)
    (mC : Meth K C "_check_inner" fC) (bC : Binds K fdC ["self", "places"] []) (GC : FnOk P w K mg base CX0 3 fC fdC ["self", "places"] (spCI C))
    (bI : Binds K fdI NI []) (GI : FnOk P w K mg base CX0 5 fI fdI NI (spInit C)) :
    FnOk P w K mg base CX0 7 f fd ["self", "places", "is_strict"] (spWith C) := by
  refine F.ok scWt (fun vs H Q E h => ?_) (fun cdv A outer s H vs Q E hr h => ?_)
  · obtain ⟨x, g, b, n, ms, ss, gs, rfl, _⟩ := h
    rfl
  · obtain ⟨x, g, b, n, ms, ss, gs, rfl, hx, G, hg, lg, ⟨L, lL, mL, gL⟩, rg, q⟩ := h
    have lm := G.len
    have hr3 : Room 3 (A.deeper (PyProof.Rows.envOfC "Row.with_marks" (defScope sWith) s.heap.objs.size f cdv)) := hr.mono (by decide)
    refine ⟨_, pss_cons (ps_expr (pe_meth (pv 0) R.cl mC GC hr3 bC .nil pass0 (pa_cons (pv 1) pa_nil)))
      (pss_cons (ps_set (i := 3) scWt.nd rfl (Or.inr rfl) (pe_callTy (show CallR _ (.type "set") (rSetOfW K w) from cr_setOf rfl) (by rfl) T.set (by decide +kernel) (pa_cons (pv 1) pa_nil)))
      (pss_cons (ps_set (i := 4) scWt.nd rfl (Or.inl rfl) (pe_callB (show CallR _ (.builtin "sorted") (rSortSet w) from cr_sortSet rfl) (by rfl) T.sorted (by decide +kernel) (pa_cons (pe_op (show OpR _ (binaryOp .BitOr) (rOrN w) from op_orN) (pe_callTy (show CallR _ (.type "set") (rSetOfW K w) from cr_setOf rfl) (by rfl) T.set (by decide +kernel) (pa_cons (pe_fld (pv 0) rfl) pa_nil)) (pe_callTy (show CallR _ (.type "set") (rSetOfW K w) from cr_setOf rfl) (by rfl) T.set (by decide +kernel) (pa_cons (pv 1) pa_nil))) pa_nil)))
      (pss_cons (ps_setLc (i := 5) (own := [("mark", 6)]) (g := gName 6) rfl scWt.nd rfl rfl (sw_true rfl rfl rfl (by decide +kernel)) (pi_list (pe_fld (pv 0) rfl)) (blkOk_by (own := [("mark", 6)]) (N := NWt) (sc := defScope sWith) (by decide +kernel))
          (fun _ _ _ _ _ => pg_name (i := 6) scWt.nd rfl (Or.inl rfl)) (fun _ _ _ _ _ => pts_one (pt_cmpR (show OpR _ (compareOp .NotIn) (rSNotIn w) from or_snotin) (pv 6) (pv 3) (by rfl))) (fun _ _ _ _ _ => pv 6))
      (pss_cons (ps_if (pt_val (pv 2)) (pss_one (ps_set (i := 5) scWt.nd rfl (Or.inl rfl) (pe_callB (show CallR _ (.builtin "sorted") (rSortSet w) from cr_sortSet rfl) (by rfl) T.sorted (by decide +kernel) (pa_cons (pe_op (show OpR _ (binaryOp .BitOr) (rOrN w) from op_orN) (pe_callTy (show CallR _ (.type "set") (rSetOfW K w) from cr_setOf rfl) (by rfl) T.set (by decide +kernel) (pa_cons (pe_fld (pv 0) rfl) pa_nil)) (pe_callTy (show CallR _ (.type "set") (rSetOfW K w) from cr_setOf rfl) (by rfl) T.set (by decide +kernel) (pa_cons (pv 1) pa_nil))) pa_nil)))) pss_nil)
      (pss_one (ps_ret (pe_make M GI hr rfl R.mgR bI .nil pass0 (pa_cons (pe_fld (pv 0) rfl) (pa_cons (pv 4) (pa_cons (pv 5) pa_nil)))))))))), ?_⟩
    obtain ⟨dx, l1, l2, ho, h1, h2⟩ := id hx
    have ls := G.len2
    refine ⟨_, rfl, x, dx, _, rfl, ho, fl_no _ _ _ (by decide +kernel) (by decide +kernel) (by decide +kernel), ?_⟩
    refine ⟨_, rfl, x, g, n, ms, ss, gs, rfl, hx, hg, by omega, rg, fun H1 s1 => ?_⟩
    have hg1 := s1 _ _ hg
    refine ⟨_, rfl, g, gs, rfl, SqL.of hg1, by omega, fun p0 c0 hc0 hp0 => ?_⟩
    have s2 := same_new (o := SetO w p0 (fun j => decide (j ∈ gs)) c0) s1 hp0
    have k0 : upd H1 p0 (SetO w p0 (fun j => decide (j ∈ gs)) c0) p0 = some (SetO w p0 (fun j => decide (j ∈ gs)) c0) := upd_same
    generalize upd H1 p0 (SetO w p0 (fun j => decide (j ∈ gs)) c0) = H2 at s2 k0 ⊢
    -- the marks
    refine ⟨_, rfl, x, C, dx, _, _, rfl, s2 _ _ ho, R.cl, R.nM, fl_M _ _ _, l1, ms, rfl, SqL.of (s2 _ _ h1), by omega, fun p1 c1 hc1 hp1 => ?_⟩
    have s3 := same_new (o := SetO w p1 (fun j => decide (j ∈ ms)) c1) (Same.refl H2) hp1
    have k1 : upd H2 p1 (SetO w p1 (fun j => decide (j ∈ ms)) c1) p1 = some (SetO w p1 (fun j => decide (j ∈ ms)) c1) := upd_same
    generalize upd H2 p1 (SetO w p1 (fun j => decide (j ∈ ms)) c1) = H3 at s3 k1 ⊢
    refine ⟨_, rfl, g, gs, rfl, SqL.of (s3 _ _ (s2 _ _ hg)), by omega, fun p2 c2 hc2 hp2 => ?_⟩
    have n12 : p1 ≠ p2 := ne_of_none k1 hp2
    refine ⟨p1, p2, _, _, c1, c2, rfl, rfl, n12, by rw [upd_ne n12]; exact k1, upd_same, by omega, fun p3 c3 hc3 hp3 => ?_⟩
    refine ⟨p3, _, c3, rfl, upd_same, fun ns p4 nasc nmem hp4 => ?_⟩
    have s4 := same_new (o := .lst (ns.map V.int)) (same_new (o := SetO w p3 (fun j => decide (j ∈ ms) || decide (j ∈ gs)) c3) (same_new (o := SetO w p2 (fun j => decide (j ∈ gs)) c2) s3 hp2) hp3) hp4
    have k4 : IL (upd (upd (upd H3 p2 (SetO w p2 (fun j => decide (j ∈ gs)) c2)) p3 (SetO w p3 (fun j => decide (j ∈ ms) || decide (j ∈ gs)) c3)) p4 (.lst (ns.map V.int))) p4 ns := upd_same
    generalize upd (upd (upd H3 p2 (SetO w p2 (fun j => decide (j ∈ gs)) c2)) p3 (SetO w p3 (fun j => decide (j ∈ ms) || decide (j ∈ gs)) c3)) p4 (.lst (ns.map V.int)) = H4 at s4 k4 ⊢
    have mem1 : ∀ z, z ∈ ns ↔ z ∈ ms ∨ z ∈ gs := fun z => by
      rw [nmem z, Bool.or_eq_true, decide_eq_true_eq, decide_eq_true_eq]
    have lns : ns.length ≤ L.length := nodup_len (nasc.imp fun h e => by omega) fun z hz => by rcases (mem1 z).mp hz with h | h; exact mL z h; exact gL z h
    have s24 := s2.trans s4
    try dsimp only [L2.start, List.set, List.map, List.append, List.replicate, List.length]
    -- the strict ones that stay
    refine ⟨_, rfl, x, C, dx, _, _, rfl, s24 _ _ ho, R.cl, R.nS, fl_S _ _ _, l2, rfl, ⟨_, SqL.of (s24 _ _ h2)⟩, fun D hD => ?_⟩
    refine lc_fil (K := K) (fun z => !decide (z ∈ gs)) (s24 _ _ h2) hD (by omega) ?_ ?_
    · intro z H' A B sx ka kb
      refine ⟨rfl, ?_⟩
      refine ⟨_, rfl, _, rfl, z, p0, _, _, rfl, rfl, sx _ _ (s4 _ _ k0), _, rfl, ?_⟩
      by_cases c : z ∈ gs
      · exact ifF (by simp [c]) (kb (by simp [c]))
      · refine ifT (by simp [c]) ?_
        exact ⟨_, rfl, ka (by simp [c])⟩
    intro H5 s5 k5
    have s45 := s4.trans s5
    have s25 := s24.trans s5
    have k4' := s5 _ _ k4
    have rng : ∀ z ∈ ns, 1 ≤ z ∧ z ≤ n - 1 := fun z hz => by
      rcases (mem1 z).mp hz with h | h
      · exact G.rng z h
      · exact rg z h
    try dsimp only [L2.start, List.set, List.map, List.append, List.replicate, List.length]
    cases b with
    | false =>
      refine ⟨_, rfl, _, rfl, ?_⟩
      refine ifF rfl ?_
      have G' : Good n ns (offM ss gs) := ⟨G.pos, by omega, rng, nasc, G.asc2.filter _, fun z hz => (mem1 z).mpr (.inl (G.sub z (mem_off.mp hz).1))⟩
      refine ⟨_, rfl, x, C, dx, _, _, rfl, s25 _ _ ho, R.cl, R.nL, fl_L _ _ _, _, rfl, _, rfl, fun z dz nz nd ne => ?_⟩
      have s9 : Same H5 (upd (upd H5 dz (.own z)) z (.ins C dz [])) := same_new (same_new (Same.refl H5) nd) (by rw [upd_ne (Ne.symm ne)]; exact nz)
      refine ⟨z, dz, p4, D, _, _, _, rfl, upd_same, s9 _ _ k4', s9 _ _ k5, G', fun H9 row kp => ⟨rfl, ?_⟩⟩
      exact q z H9 ns (offM ss gs) (same_ins s25 nz nd kp) G' mem1 (fun y => by rw [if_neg Bool.false_ne_true]; exact mem_off) (row.mono fun c o e => ⟨o, s9 _ _ (s25 _ _ e)⟩)
    | true =>
      refine ⟨_, rfl, _, rfl, ?_⟩
      refine ifT rfl ?_
      refine ⟨_, rfl, x, C, dx, _, _, rfl, s25 _ _ ho, R.cl, R.nS, fl_S _ _ _, l2, ss, rfl, SqL.of (s25 _ _ h2), by omega, fun q1 d1 hd1 hq1 => ?_⟩
      have t3 := same_new (o := SetO w q1 (fun j => decide (j ∈ ss)) d1) (Same.refl H5) hq1
      have u1 : upd H5 q1 (SetO w q1 (fun j => decide (j ∈ ss)) d1) q1 = some (SetO w q1 (fun j => decide (j ∈ ss)) d1) := upd_same
      generalize upd H5 q1 (SetO w q1 (fun j => decide (j ∈ ss)) d1) = H6 at t3 u1 ⊢
      refine ⟨_, rfl, g, gs, rfl, SqL.of (t3 _ _ (s25 _ _ hg)), by omega, fun q2 d2 hd2 hq2 => ?_⟩
      have m12 : q1 ≠ q2 := ne_of_none u1 hq2
      refine ⟨q1, q2, _, _, d1, d2, rfl, rfl, m12, by rw [upd_ne m12]; exact u1, upd_same, by omega, fun q3 d3 hd3 hq3 => ?_⟩
      refine ⟨q3, _, d3, rfl, upd_same, fun us q4 uasc umem hq4 => ?_⟩
      have t4 := same_new (o := .lst (us.map V.int)) (same_new (o := SetO w q3 (fun j => decide (j ∈ ss) || decide (j ∈ gs)) d3) (same_new (o := SetO w q2 (fun j => decide (j ∈ gs)) d2) t3 hq2) hq3) hq4
      have u4 : IL (upd (upd (upd H6 q2 (SetO w q2 (fun j => decide (j ∈ gs)) d2)) q3 (SetO w q3 (fun j => decide (j ∈ ss) || decide (j ∈ gs)) d3)) q4 (.lst (us.map V.int))) q4 us := upd_same
      generalize upd (upd (upd H6 q2 (SetO w q2 (fun j => decide (j ∈ gs)) d2)) q3 (SetO w q3 (fun j => decide (j ∈ ss) || decide (j ∈ gs)) d3)) q4 (.lst (us.map V.int)) = H7 at t4 u4 ⊢
      have mem2 : ∀ z, z ∈ us ↔ z ∈ ss ∨ z ∈ gs := fun z => by
        rw [umem z, Bool.or_eq_true, decide_eq_true_eq, decide_eq_true_eq]
      have G' : Good n ns us := ⟨G.pos, by omega, rng, nasc, uasc, fun z hz => (mem1 z).mpr (by rcases (mem2 z).mp hz with h | h; exact .inl (G.sub z h); exact .inr h)⟩
      have s27 := s25.trans t4
      try dsimp only [L2.start, List.set, List.map, List.append, List.replicate, List.length]
      refine ⟨_, rfl, x, C, dx, _, _, rfl, s27 _ _ ho, R.cl, R.nL, fl_L _ _ _, _, rfl, _, rfl, fun z dz nz nd ne => ?_⟩
      have s9 : Same H7 (upd (upd H7 dz (.own z)) z (.ins C dz [])) := same_new (same_new (Same.refl H7) nd) (by rw [upd_ne (Ne.symm ne)]; exact nz)
      refine ⟨z, dz, p4, q4, _, _, _, rfl, upd_same, s9 _ _ (t4 _ _ k4'), s9 _ _ u4, G', fun H9 row kp => ⟨rfl, ?_⟩⟩
      exact q z H9 ns us (same_ins s27 nz nd kp) G' mem1 (fun y => by rw [if_pos rfl]; exact mem2 y) (row.mono fun c o e => ⟨o, s9 _ _ (s27 _ _ e)⟩)
abbrev NWo : List Str := ["self", "places", "gone", "marks", "strict", "mark"]
theorem scWo : FnScope NWo ["self", "places"] (defScope sWout) := ⟨rfl, rfl, rfl, by decide +kernel, rfl, by decide +kernel, by decide +kernel⟩
theorem ok_wout {f C fI fC : Addr} {fd fdI fdC : FuncData} (F : Fun K "without_marks" "Row.without_marks" sWout f fd) (T : Bl mg) (R : Cl K mg C) (M : Mk K C fI)
    (mC : Meth K C "_check_inner" fC) (bC : Binds K fdC ["self", "places"] []) (GC : FnOk P w K mg base CX0 3 fC fdC ["self", "places"] (spCI C))
    (bI : Binds K fdI NI []) (GI : FnOk P w K mg base CX0 5 fI fdI NI (spInit C)) :
    FnOk P w K mg base CX0 7 f fd ["self", "places"] (spWout C) := by
  refine F.ok scWo (fun vs H Q E h => ?_) (fun cdv A outer s H vs Q E hr h => ?_)
  · obtain ⟨x, g, n, ms, ss, gs, rfl, _⟩ := h
    rfl
  · obtain ⟨x, g, n, ms, ss, gs, rfl, hx, G, hg, few, rg, q⟩ := h
    have hr3 : Room 3 (A.deeper (PyProof.Rows.envOfC "Row.without_marks" (defScope sWout) s.heap.objs.size f cdv)) := hr.mono (by decide)
    refine ⟨_, pss_cons (ps_expr (pe_meth (pv 0) R.cl mC GC hr3 bC .nil pass0 (pa_cons (pv 1) pa_nil)))
      (pss_cons (ps_set (i := 2) scWo.nd rfl (Or.inr rfl) (pe_callTy (show CallR _ (.type "set") (rSetOfW K w) from cr_setOf rfl) (by rfl) T.set (by decide +kernel) (pa_cons (pv 1) pa_nil)))
      (pss_cons (ps_setLc (i := 3) (own := [("mark", 5)]) (g := gName 5) rfl scWo.nd rfl rfl (sw_true rfl rfl rfl (by decide +kernel)) (pi_list (pe_fld (pv 0) rfl)) (blkOk_by (own := [("mark", 5)]) (N := NWo) (sc := defScope sWout) (by decide +kernel))
          (fun _ _ _ _ _ => pg_name (i := 5) scWo.nd rfl (Or.inl rfl)) (fun _ _ _ _ _ => pts_one (pt_cmpR (show OpR _ (compareOp .NotIn) (rSNotIn w) from or_snotin) (pv 5) (pv 2) (by rfl))) (fun _ _ _ _ _ => pv 5))
      (pss_cons (ps_setLc (i := 4) (own := [("mark", 5)]) (g := gName 5) rfl scWo.nd rfl rfl (sw_true rfl rfl rfl (by decide +kernel)) (pi_list (pe_fld (pv 0) rfl)) (blkOk_by (own := [("mark", 5)]) (N := NWo) (sc := defScope sWout) (by decide +kernel))
          (fun _ _ _ _ _ => pg_name (i := 5) scWo.nd rfl (Or.inl rfl)) (fun _ _ _ _ _ => pts_one (pt_cmpR (show OpR _ (compareOp .NotIn) (rSNotIn w) from or_snotin) (pv 5) (pv 2) (by rfl))) (fun _ _ _ _ _ => pv 5))
      (pss_one (ps_ret (pe_make M GI hr rfl R.mgR bI .nil pass0 (pa_cons (pe_fld (pv 0) rfl) (pa_cons (pv 3) (pa_cons (pv 4) pa_nil))))))))), ?_⟩
    obtain ⟨dx, l1, l2, ho, h1, h2⟩ := id hx
    have lm := G.len
    have ls := G.len2
    refine ⟨_, rfl, x, dx, _, rfl, ho, fl_no _ _ _ (by decide +kernel) (by decide +kernel) (by decide +kernel), ?_⟩
    refine ⟨_, rfl, x, g, n, ms, ss, gs, rfl, hx, hg, few, rg, fun H1 s1 => ?_⟩
    refine ⟨_, rfl, g, gs, rfl, SqL.of (s1 _ _ hg), by omega, fun p0 c0 hc0 hp0 => ?_⟩
    have s2 := same_new (o := SetO w p0 (fun j => decide (j ∈ gs)) c0) s1 hp0
    have k0 : upd H1 p0 (SetO w p0 (fun j => decide (j ∈ gs)) c0) p0 = some (SetO w p0 (fun j => decide (j ∈ gs)) c0) := upd_same
    generalize upd H1 p0 (SetO w p0 (fun j => decide (j ∈ gs)) c0) = H2 at s2 k0 ⊢
    refine ⟨_, rfl, x, C, dx, _, _, rfl, s2 _ _ ho, R.cl, R.nM, fl_M _ _ _, l1, rfl, ⟨_, SqL.of (s2 _ _ h1)⟩, fun D hD => ?_⟩
    refine lc_fil (K := K) (fun z => !decide (z ∈ gs)) (s2 _ _ h1) hD (by omega) ?_ ?_
    · intro z H' A B sx ka kb
      refine ⟨rfl, ?_⟩
      refine ⟨_, rfl, _, rfl, z, p0, _, _, rfl, rfl, sx _ _ k0, _, rfl, ?_⟩
      by_cases c : z ∈ gs
      · exact ifF (by simp [c]) (kb (by simp [c]))
      · refine ifT (by simp [c]) ?_
        exact ⟨_, rfl, ka (by simp [c])⟩
    intro H3 s3 k3
    have s23 := s2.trans s3
    try dsimp only [L2.start, List.set, List.map, List.append, List.replicate, List.length]
    refine ⟨_, rfl, x, C, dx, _, _, rfl, s23 _ _ ho, R.cl, R.nS, fl_S _ _ _, l2, rfl, ⟨_, SqL.of (s23 _ _ h2)⟩, fun D2 hD2 => ?_⟩
    refine lc_fil (K := K) (fun z => !decide (z ∈ gs)) (s23 _ _ h2) hD2 (by omega) ?_ ?_
    · intro z H' A B sx ka kb
      refine ⟨rfl, ?_⟩
      refine ⟨_, rfl, _, rfl, z, p0, _, _, rfl, rfl, sx _ _ (s3 _ _ k0), _, rfl, ?_⟩
      by_cases c : z ∈ gs
      · exact ifF (by simp [c]) (kb (by simp [c]))
      · refine ifT (by simp [c]) ?_
        exact ⟨_, rfl, ka (by simp [c])⟩
    intro H4 s4 k4
    have s24 := s23.trans s4
    try dsimp only [L2.start, List.set, List.map, List.append, List.replicate, List.length]
    refine ⟨_, rfl, x, C, dx, _, _, rfl, s24 _ _ ho, R.cl, R.nL, fl_L _ _ _, _, rfl, _, rfl, fun z dz nz nd ne => ?_⟩
    have s9 : Same H4 (upd (upd H4 dz (.own z)) z (.ins C dz [])) := same_new (same_new (Same.refl H4) nd) (by rw [upd_ne (Ne.symm ne)]; exact nz)
    refine ⟨z, dz, D, D2, _, _, _, rfl, upd_same, s9 _ _ (s4 _ _ k3), s9 _ _ k4, good_off G, fun H9 row kp => ⟨rfl, ?_⟩⟩
    exact q z H9 (same_ins s24 nz nd kp) (row.mono fun c o e => ⟨o, s9 _ _ (s24 _ _ e)⟩)
end
end Cw
namespace Cw
open PySem L2
/-! ## errors -/
/-- what is known of a class of errors -/
structure ErrC (K : PySem.W.Frag) (mg : Str → Option Value) (D : Addr) (x : Str) : Prop where
  g : mg x = some (.ref D)
  x : PySem.W.excIn K D [.type "ValueError", .type "Exception", .type "BaseException", .type "object"] "ValueError.__new__" = true
  k : PySem.W.keepIn K (.ref D) = true
  b : PySem.W.subIn K (.ref D) (.type "BaseException") = some true
  t : PySem.W.typeIn K (.ref D) = some (.type "type")
section
variable {P : Program} {w : World} {K : PySem.W.Frag} {mg : Str → Option Value} {base : Heap}
/-- a def's promise, its errors with no context -/
theorem okN {x qual : Str} {st : Stmt} {f : Addr} {fd : FuncData} {N ps : List Str} {k : Nat} {sp : Sp} (F : Fun K x qual st f fd) (S : FnScope N ps (defScope st)) (len : ∀ vs H Q E, sp vs H Q E → vs.length = ps.length)
    (hbody : ∀ (cdv : Value) (A : Around) (outer : List Env) (s : Shared) (H : Hp) (vs : List V) (Q : VK) (E : XK), Room k (A.deeper (PyProof.Rows.envOfC qual (defScope st) s.heap.objs.size f cdv)) → sp vs H Q E →
      ∃ t, PSs (cxOf (L2N.CX P w) P w K mg base N qual (defScope st) f cdv A outer s H E) (defBody st) t ∧ t { nx := fun _ H' => Q .non H', rt := Q } (start N vs) H) : FnOk P w K mg base (L2N.CX P w) (k + 1) f fd ps sp := by
  obtain ⟨_, _, _, _, _, _, cdv, _, _, rfl, lk, hcd⟩ := F.ex
  exact fn_of lk hcd S len fun A outer s H vs Q E hr h => hbody cdv A outer s H vs Q E hr h
/-- a promise without errors from one with them -/
theorem FnOk.calm {k : Nat} {f : Addr} {fd : FuncData} {ps : List Str} {sp sp' : Sp} (F : FnOk P w K mg base (L2N.CX P w) k f fd ps sp) (h : ∀ vs H Q E, sp' vs H Q E → sp vs H Q E0) : FnOk P w K mg base CX0 k f fd ps sp' := by
  refine ⟨fun vs H Q E q => F.len vs H Q E0 (h _ _ _ _ q), fun A outer s H args us vs Q E hr he hb hv hs => ?_⟩
  refine codeAny_mono (F.run A outer s H args us vs Q E0 hr he hb hv (h _ _ _ _ hs)) fun r s' hq => ?_
  cases r with
  | error e =>
    obtain ⟨_, _, _, _, _, _, _, _, _, _, _, _, z⟩ := (show L2N.CX P w outer H s E0 e s' from hq)
    exact z.elim
  | ok fl =>
    cases fl <;> exact hq
theorem ps_nox {X : Cx} {st : Stmt} {t : TS} (h : PS X.nox st t) : PS X st t := ⟨fun pins s σ H D I hw =>
  wpAny_mono (h.run pins s σ H D (I.wish _) hw) (fun _ _ q => q.unwish) fun _ _ z => False.elim z⟩
def spMarksB : Sp := fun vs H Q _ => ∃ (a : Addr) (ns : List Int) (hi : Int), vs = [.ref a, .int hi] ∧ IL H a ns ∧ ns.length ≤ 1000 ∧ (∀ x ∈ ns, 1 ≤ x ∧ x ≤ hi) ∧ Asc ns ∧ ∀ H', Same H H' → Q (.bl (decide (ns.length ≤ 400))) H'
theorem ok_marksb {f fA : Addr} {fd fdA : FuncData} {t : Tok} (F : Fun K "are_marks" "are_marks" sMarks f fd) (T : Bl mg) (gN : mg "MOST_MARKS" = some (.int 400 t)) (gA : mg "are_ascending" = some (.ref fA)) (kA : PySem.W.keepIn K (.ref fA) = true) (bA : Binds K fdA ["thing", "low", "high"] []) (GA : FnOk P w K mg base CX0 3 fA fdA ["thing", "low", "high"] spAsc) :
    FnOk P w K mg base CX0 4 f fd ["thing", "high"] spMarksB := by
  refine F.ok scM (fun vs H Q E h => ?_) (fun cdv A outer s H vs Q E hr h => ?_)
  · obtain ⟨a, ns, hi, rfl, _⟩ := h
    rfl
  · obtain ⟨a, ns, hi, rfl, hS, hl, hb, ha, k⟩ := h
    refine ⟨_, pss_one (ps_ret (pe_and (pe_call GA hr rfl gA kA bA .nil pass0 (pa_cons (pv 0) (pa_cons pe_int (pa_cons (pv 1) pa_nil))))
      (pe_one (pe_cmpR op_le (pe_callB call_len_seq (by rfl) T.len PySem.boot_len (pa_cons (pv 0) pa_nil)) (pe_glob rfl gN (v := V.int 400) ⟨_, rfl⟩) (nomark _))))), ?_⟩
    refine ⟨_, rfl, _, rfl, a, ns, 1, hi, rfl, hS, by omega, hb, ha, fun H1 s1 => ⟨_, rfl, ?_⟩⟩
    refine ifT rfl ?_
    refine ⟨_, rfl, a, _, rfl, .inl (SqL.of (s1 _ _ hS)), _, _, rfl, rfl, ?_⟩
    have e : decide (((ns.map V.int).length : Int) ≤ 400) = decide (ns.length ≤ 400) := by
      rw [List.length_map]
      by_cases c : ns.length ≤ 400
      · rw [decide_eq_true c, decide_eq_true (by omega)]
      · rw [decide_eq_false c, decide_eq_false (by omega)]
    have z := k _ s1
    rw [← e] at z
    exact z
/-- a row but for the number of its marks -/
structure GoodL (n : Int) (ms ss : List Int) : Prop where
  pos : 1 ≤ n
  len : ms.length ≤ 1000
  rng : ∀ x ∈ ms, 1 ≤ x ∧ x ≤ n - 1
  asc : Asc ms
  asc2 : Asc ss
  sub : ∀ x ∈ ss, x ∈ ms
theorem GoodL.good {n : Int} {ms ss : List Int} (g : GoodL n ms ss) (h : ms.length ≤ 400) : Good n ms ss := ⟨g.pos, h, g.rng, g.asc, g.asc2, g.sub⟩
theorem Good.goodL {n : Int} {ms ss : List Int} (g : Good n ms ss) : GoodL n ms ss := ⟨g.pos, Nat.le_trans g.len (by decide), g.rng, g.asc, g.asc2, g.sub⟩
/-- Row(n, marks, strict), which raises for more than 400 marks -/
def spInitX (C CI : Addr) : Sp := fun vs H Q E => ∃ (x dx a b : Addr) (n : Int) (ms ss : List Int), vs = [.ref x, .int n, .ref a, .ref b] ∧ H x = some (.ins C dx []) ∧ IL H a ms ∧ IL H b ss ∧ GoodL n ms ss ∧
  (ms.length ≤ 400 → ∀ H', RowNew C H H' x n ms ss → (∀ c o, H c = some o → c ≠ x → H' c = some o) → Q .non H') ∧ (400 < ms.length → ∀ H', Same H H' → E (.ref CI) none H')
theorem ok_initx {f C CI fI fM fS : Addr} {fd fdI fdM fdS : FuncData} (F : Fun K "__init__" "Row.__init__" sInit f fd) (T : Bl mg) (R : Cl K mg C) (EI : ErrC K mg CI "InvalidRow")
    (gI : mg "is_integer" = some (.ref fI)) (kI : PySem.W.keepIn K (.ref fI) = true) (bI : Binds K fdI ["thing"] []) (GI : FnOk P w K mg base CX0 1 fI fdI ["thing"] spOne)
    (gM : mg "are_marks" = some (.ref fM)) (kM : PySem.W.keepIn K (.ref fM) = true) (bM : Binds K fdM ["thing", "high"] []) (GM : FnOk P w K mg base CX0 4 fM fdM ["thing", "high"] spMarksB)
    (gS : mg "are_some_of" = some (.ref fS)) (kS : PySem.W.keepIn K (.ref fS) = true) (bS : Binds K fdS ["thing", "marks"] []) (GS : FnOk P w K mg base CX0 4 fS fdS ["thing", "marks"] spSome) :
    FnOk P w K mg base (L2N.CX P w) 5 f fd NI (spInitX C CI) := by
  refine okN F scIn (fun vs H Q E h => ?_) (fun cdv A outer s H vs Q E hr h => ?_)
  · obtain ⟨x, dx, a, b, n, ms, ss, rfl, _⟩ := h
    rfl
  · obtain ⟨x, dx, a, b, n, ms, ss, rfl, hx, hM, hS, GL, k, ke⟩ := h
    refine ⟨_, pss_cons (ps_if (PW.pt (pw_or (pt_not (pt_val (pe_call GI (hr.mono (by decide)) rfl gI kI bI .nil pass0 (pa_cons (pv 1) pa_nil)))) (pw_or1 (pt_cmpR op_lt (pv 1) pe_int (nomark _))))) pss_never pss_nil)
      (pss_cons (ps_if (pt_not (pt_val (pe_call GM (hr.mono (by decide)) rfl gM kM bM .nil pass0 (pa_cons (pv 2) (pa_cons (pe_op op_sub (pv 1) pe_int) pa_nil))))) (pss_one (L2N.ps_raise rfl (L2N.takes_of rfl rfl rfl rfl) (L2N.pmk_own PySem.F.excBase_ValueError EI.x EI.g EI.k (raises_own EI.b EI.t) rfl))) pss_nil)
      (PSs.nox (pss_cons (ps_if (pt_not (pt_val (pe_call GS (hr.mono (by decide)) rfl gS kS bS .nil pass0 (pa_cons (pv 3) (pa_cons (pv 2) pa_nil))))) pss_never pss_nil)
      (pss_cons (ps_fld (pv 0) (pv 1) rfl)
      (pss_cons (ps_fld (pv 0) (pe_callTy call_list_of (by rfl) T.list (by decide +kernel) (pa_cons (pv 2) pa_nil)) rfl)
      (pss_one (ps_fld (pv 0) (pe_callTy call_list_of (by rfl) T.list (by decide +kernel) (pa_cons (pv 3) pa_nil)) rfl))))))), ?_⟩
    have hp := GL.pos
    refine ⟨_, rfl, n, rfl, _, rfl, ?_⟩
    refine ifF rfl ?_
    refine ⟨_, rfl, _, _, rfl, rfl, _, rfl, ?_⟩
    refine ifF (decide_eq_false (by omega)) ?_
    refine ⟨_, rfl, _, rfl, _, _, rfl, rfl, a, ms, n - 1, rfl, hM, GL.len, GL.rng, GL.asc, fun H1 s1 => ⟨_, rfl, ?_⟩⟩
    rcases Nat.lt_or_ge 400 ms.length with c | c
    · refine ifT (by rw [decide_eq_false (by omega)]; rfl) ?_
      exact ke c H1 s1
    have G := GL.good c
    have k := k c
    refine ifF (by rw [decide_eq_true c]; rfl) ?_
    refine ⟨_, rfl, _, rfl, b, a, ss, ms, rfl, s1 _ _ hS, s1 _ _ hM, G.len2, G.len, G.asc2, (fun y hy => (G.rng y (G.sub y hy)).1), G.sub, fun H2 s2 => ⟨_, rfl, ?_⟩⟩
    refine ifF rfl ?_
    have s12 := s1.trans s2
    refine ⟨_, rfl, _, rfl, x, C, dx, _, rfl, s12 _ _ hx, R.cl, R.nL, (by show 0 < 1000; decide), ?_⟩
    have na : a ≠ x := ne_of hM hx (by intro z; cases z)
    have nb : b ≠ x := ne_of hS hx (by intro z; cases z)
    have hM3 : ∀ o, IL (upd H2 x o) a ms := fun o => by
      show upd H2 x o a = _
      rw [upd_ne na]
      exact s12 _ _ hM
    have hS3 : ∀ o, IL (upd H2 x o) b ss := fun o => by
      show upd H2 x o b = _
      rw [upd_ne nb]
      exact s12 _ _ hS
    refine ⟨_, rfl, a, _, rfl, .inl (SqL.of (hM3 _)), fun l1 h1 => ?_⟩
    have nx1 : x ≠ l1 := ne_of_none upd_same h1
    have nb1 : b ≠ l1 := ne_of_none (hS3 _) h1
    refine ⟨_, rfl, x, C, dx, _, rfl, (by rw [upd_ne nx1]; exact upd_same), R.cl, R.nM, (by show 1 < 1000; decide), ?_⟩
    refine ⟨_, rfl, b, ss.map V.int, rfl, .inl (SqL.of (by rw [upd_ne nb, upd_ne nb1]; exact hS3 _)), fun l2 h2 => ?_⟩
    have nx2 : x ≠ l2 := ne_of_none upd_same h2
    have n12 : l1 ≠ l2 := ne_of_none (show _ = some (HO.lst (ms.map V.int)) by rw [upd_ne (Ne.symm nx1)]; exact upd_same) h2
    refine ⟨_, rfl, x, C, dx, _, rfl, (by rw [upd_ne nx2]; exact upd_same), R.cl, R.nS, (by show 2 < 1000; decide), ?_⟩
    have up : ∀ (H : Hp) (x : Addr) (o' : HO) (c : Addr) (o : HO), H c = some o → ∃ o'', upd H x o' c = some o'' := fun H x o' c o e => by
      by_cases z : c = x
      · exact ⟨o', by rw [z]; exact upd_same⟩
      · exact ⟨o, by rw [upd_ne z]; exact e⟩
    have f1 : H l1 = none := none_of (fun c o e => up _ _ _ _ _ (s12 _ _ e)) h1
    have f2 : H l2 = none := none_of (fun c o e => by
      obtain ⟨o1, e1⟩ := up H2 x (.ins C dx (putF "_length" (V.int n) [])) _ _ (s12 _ _ e)
      obtain ⟨o2, e2⟩ := up _ l1 (.lst (ms.map V.int)) _ _ e1
      exact up _ _ _ _ _ e2) h2
    refine k _ ⟨dx, l1, l2, upd_same, ?_, ?_, f1, f2⟩ ?_
    · show upd _ _ _ l1 = _
      rw [upd_ne (Ne.symm nx1), upd_ne n12, upd_ne (Ne.symm nx1)]
      exact upd_same
    · show upd _ _ _ l2 = _
      rw [upd_ne (Ne.symm nx2)]
      exact upd_same
    · intro c o ec nc
      have e3 : ∀ o', upd H2 x o' c = some o := fun o' => by
        rw [upd_ne nc]
        exact s12 _ _ ec
      have e4 := e3 (.ins C dx (putF "_length" (V.int n) []))
      have ne1 : c ≠ l1 := ne_of_none e4 h1
      rw [upd_ne nc]
      have e5 : upd (upd (upd H2 x (.ins C dx (putF "_length" (V.int n) []))) l1 (.lst (ms.map V.int))) x (.ins C dx (putF "_marks" (V.ref l1) (putF "_length" (V.int n) []))) c = some o := by
        rw [upd_ne nc, upd_ne ne1]
        exact e4
      rw [upd_ne (ne_of_none e5 h2)]
      exact e5
end
end Cw
namespace Cw
open PySem L2
def spWithX (C CI : Addr) : Sp := fun vs H Q E => ∃ (x g : Addr) (b : Bool) (n : Int) (ms ss gs : List Int), vs = [.ref x, .ref g, .bl b] ∧ RowAt C H x n ms ss ∧ Good n ms ss ∧ IL H g gs ∧ gs.length ≤ 1000 ∧ (∃ L : List Int, L.length ≤ 1000 ∧ (∀ z ∈ ms, z ∈ L) ∧ ∀ z ∈ gs, z ∈ L) ∧ (∀ z ∈ gs, 1 ≤ z ∧ z ≤ n - 1) ∧
  (∀ p H' ms' ss', Same H H' → Good n ms' ss' → (∀ z, z ∈ ms' ↔ z ∈ ms ∨ z ∈ gs) → (∀ z, z ∈ ss' ↔ if b = true then z ∈ ss ∨ z ∈ gs else z ∈ ss ∧ z ∉ gs) → RowNew C H H' p n ms' ss' → Q (.ref p) H') ∧
  (∀ H' ms', Same H H' → Asc ms' → (∀ z, z ∈ ms' ↔ z ∈ ms ∨ z ∈ gs) → 400 < ms'.length → E (.ref CI) none H')
section
variable {P : Program} {w : World} {K : PySem.W.Frag} {mg : Str → Option Value} {base : Heap}
theorem ok_withx {f C CI fI fC : Addr} {fd fdI fdC : FuncData} (F : Fun K "with_marks" "Row.with_marks" sWith f fd) (T : Bl mg) (R : Cl K mg C) (M : Mk K C fI)
    (mC : Meth K C "_check_inner" fC) (bC : Binds K fdC ["self", "places"] []) (GC : FnOk P w K mg base CX0 3 fC fdC ["self", "places"] (spCI C))
    (bI : Binds K fdI NI []) (GI : FnOk P w K mg base (L2N.CX P w) 5 fI fdI NI (spInitX C CI)) :
    FnOk P w K mg base (L2N.CX P w) 7 f fd ["self", "places", "is_strict"] (spWithX C CI) := by
  refine okN F scWt (fun vs H Q E h => ?_) (fun cdv A outer s H vs Q E hr h => ?_)
  · obtain ⟨x, g, b, n, ms, ss, gs, rfl, _⟩ := h
    rfl
  · obtain ⟨x, g, b, n, ms, ss, gs, rfl, hx, G, hg, lg, ⟨L, lL, mL, gL⟩, rg, q, qe⟩ := h
    have lm := G.len
    have hr3 : Room 3 (A.deeper (PyProof.Rows.envOfC "Row.with_marks" (defScope sWith) s.heap.objs.size f cdv)) := hr.mono (by decide)
    refine ⟨_, pss_cons (ps_nox (ps_expr (pe_meth (pv 0) R.cl mC GC hr3 bC .nil pass0 (pa_cons (pv 1) pa_nil))))
      (pss_cons (ps_nox (ps_set (i := 3) scWt.nd rfl (Or.inr rfl) (pe_callTy (show CallR _ (.type "set") (rSetOfW K w) from cr_setOf rfl) (by rfl) T.set (by decide +kernel) (pa_cons (pv 1) pa_nil))))
      (pss_cons (ps_nox (ps_set (i := 4) scWt.nd rfl (Or.inl rfl) (pe_callB (show CallR _ (.builtin "sorted") (rSortSet w) from cr_sortSet rfl) (by rfl) T.sorted (by decide +kernel) (pa_cons (pe_op (show OpR _ (binaryOp .BitOr) (rOrN w) from op_orN) (pe_callTy (show CallR _ (.type "set") (rSetOfW K w) from cr_setOf rfl) (by rfl) T.set (by decide +kernel) (pa_cons (pe_fld (pv 0) rfl) pa_nil)) (pe_callTy (show CallR _ (.type "set") (rSetOfW K w) from cr_setOf rfl) (by rfl) T.set (by decide +kernel) (pa_cons (pv 1) pa_nil))) pa_nil))))
      (pss_cons (ps_nox (ps_setLc (i := 5) (own := [("mark", 6)]) (g := gName 6) rfl scWt.nd rfl rfl (sw_true rfl rfl rfl (by decide +kernel)) (pi_list (pe_fld (pv 0) rfl)) (blkOk_by (own := [("mark", 6)]) (N := NWt) (sc := defScope sWith) (by decide +kernel))
          (fun _ _ _ _ _ => pg_name (i := 6) scWt.nd rfl (Or.inl rfl)) (fun _ _ _ _ _ => pts_one (pt_cmpR (show OpR _ (compareOp .NotIn) (rSNotIn w) from or_snotin) (pv 6) (pv 3) (by rfl))) (fun _ _ _ _ _ => pv 6)))
      (pss_cons (ps_nox (ps_if (pt_val (pv 2)) (pss_one (ps_set (i := 5) scWt.nd rfl (Or.inl rfl) (pe_callB (show CallR _ (.builtin "sorted") (rSortSet w) from cr_sortSet rfl) (by rfl) T.sorted (by decide +kernel) (pa_cons (pe_op (show OpR _ (binaryOp .BitOr) (rOrN w) from op_orN) (pe_callTy (show CallR _ (.type "set") (rSetOfW K w) from cr_setOf rfl) (by rfl) T.set (by decide +kernel) (pa_cons (pe_fld (pv 0) rfl) pa_nil)) (pe_callTy (show CallR _ (.type "set") (rSetOfW K w) from cr_setOf rfl) (by rfl) T.set (by decide +kernel) (pa_cons (pv 1) pa_nil))) pa_nil)))) pss_nil))
      (pss_one (ps_ret (pe_make M GI hr rfl R.mgR bI .nil (L2N.passes_call (L2N.takes_of rfl rfl rfl rfl) fun _ _ _ _ h => h) (pa_cons (pe_fld (pv 0) rfl) (pa_cons (pv 4) (pa_cons (pv 5) pa_nil)))))))))), ?_⟩
    obtain ⟨dx, l1, l2, ho, h1, h2⟩ := id hx
    have ls := G.len2
    refine ⟨_, rfl, x, dx, _, rfl, ho, fl_no _ _ _ (by decide +kernel) (by decide +kernel) (by decide +kernel), ?_⟩
    refine ⟨_, rfl, x, g, n, ms, ss, gs, rfl, hx, hg, by omega, rg, fun H1 s1 => ?_⟩
    have hg1 := s1 _ _ hg
    refine ⟨_, rfl, g, gs, rfl, SqL.of hg1, by omega, fun p0 c0 hc0 hp0 => ?_⟩
    have s2 := same_new (o := SetO w p0 (fun j => decide (j ∈ gs)) c0) s1 hp0
    have k0 : upd H1 p0 (SetO w p0 (fun j => decide (j ∈ gs)) c0) p0 = some (SetO w p0 (fun j => decide (j ∈ gs)) c0) := upd_same
    generalize upd H1 p0 (SetO w p0 (fun j => decide (j ∈ gs)) c0) = H2 at s2 k0 ⊢
    -- the marks
    refine ⟨_, rfl, x, C, dx, _, _, rfl, s2 _ _ ho, R.cl, R.nM, fl_M _ _ _, l1, ms, rfl, SqL.of (s2 _ _ h1), by omega, fun p1 c1 hc1 hp1 => ?_⟩
    have s3 := same_new (o := SetO w p1 (fun j => decide (j ∈ ms)) c1) (Same.refl H2) hp1
    have k1 : upd H2 p1 (SetO w p1 (fun j => decide (j ∈ ms)) c1) p1 = some (SetO w p1 (fun j => decide (j ∈ ms)) c1) := upd_same
    generalize upd H2 p1 (SetO w p1 (fun j => decide (j ∈ ms)) c1) = H3 at s3 k1 ⊢
    refine ⟨_, rfl, g, gs, rfl, SqL.of (s3 _ _ (s2 _ _ hg)), by omega, fun p2 c2 hc2 hp2 => ?_⟩
    have n12 : p1 ≠ p2 := ne_of_none k1 hp2
    refine ⟨p1, p2, _, _, c1, c2, rfl, rfl, n12, by rw [upd_ne n12]; exact k1, upd_same, by omega, fun p3 c3 hc3 hp3 => ?_⟩
    refine ⟨p3, _, c3, rfl, upd_same, fun ns p4 nasc nmem hp4 => ?_⟩
    have s4 := same_new (o := .lst (ns.map V.int)) (same_new (o := SetO w p3 (fun j => decide (j ∈ ms) || decide (j ∈ gs)) c3) (same_new (o := SetO w p2 (fun j => decide (j ∈ gs)) c2) s3 hp2) hp3) hp4
    have k4 : IL (upd (upd (upd H3 p2 (SetO w p2 (fun j => decide (j ∈ gs)) c2)) p3 (SetO w p3 (fun j => decide (j ∈ ms) || decide (j ∈ gs)) c3)) p4 (.lst (ns.map V.int))) p4 ns := upd_same
    generalize upd (upd (upd H3 p2 (SetO w p2 (fun j => decide (j ∈ gs)) c2)) p3 (SetO w p3 (fun j => decide (j ∈ ms) || decide (j ∈ gs)) c3)) p4 (.lst (ns.map V.int)) = H4 at s4 k4 ⊢
    have mem1 : ∀ z, z ∈ ns ↔ z ∈ ms ∨ z ∈ gs := fun z => by
      rw [nmem z, Bool.or_eq_true, decide_eq_true_eq, decide_eq_true_eq]
    have lns : ns.length ≤ L.length := nodup_len (nasc.imp fun h e => by omega) fun z hz => by rcases (mem1 z).mp hz with h | h; exact mL z h; exact gL z h
    have s24 := s2.trans s4
    try dsimp only [L2.start, List.set, List.map, List.append, List.replicate, List.length]
    -- the strict ones that stay
    refine ⟨_, rfl, x, C, dx, _, _, rfl, s24 _ _ ho, R.cl, R.nS, fl_S _ _ _, l2, rfl, ⟨_, SqL.of (s24 _ _ h2)⟩, fun D hD => ?_⟩
    refine lc_fil (K := K) (fun z => !decide (z ∈ gs)) (s24 _ _ h2) hD (by omega) ?_ ?_
    · intro z H' A B sx ka kb
      refine ⟨rfl, ?_⟩
      refine ⟨_, rfl, _, rfl, z, p0, _, _, rfl, rfl, sx _ _ (s4 _ _ k0), _, rfl, ?_⟩
      by_cases c : z ∈ gs
      · exact ifF (by simp [c]) (kb (by simp [c]))
      · refine ifT (by simp [c]) ?_
        exact ⟨_, rfl, ka (by simp [c])⟩
    intro H5 s5 k5
    have s45 := s4.trans s5
    have s25 := s24.trans s5
    have k4' := s5 _ _ k4
    have rng : ∀ z ∈ ns, 1 ≤ z ∧ z ≤ n - 1 := fun z hz => by
      rcases (mem1 z).mp hz with h | h
      · exact G.rng z h
      · exact rg z h
    try dsimp only [L2.start, List.set, List.map, List.append, List.replicate, List.length]
    cases b with
    | false =>
      refine ⟨_, rfl, _, rfl, ?_⟩
      refine ifF rfl ?_
      have G' : GoodL n ns (offM ss gs) := ⟨G.pos, by omega, rng, nasc, G.asc2.filter _, fun z hz => (mem1 z).mpr (.inl (G.sub z (mem_off.mp hz).1))⟩
      refine ⟨_, rfl, x, C, dx, _, _, rfl, s25 _ _ ho, R.cl, R.nL, fl_L _ _ _, _, rfl, _, rfl, fun z dz nz nd ne => ?_⟩
      have s9 : Same H5 (upd (upd H5 dz (.own z)) z (.ins C dz [])) := same_new (same_new (Same.refl H5) nd) (by rw [upd_ne (Ne.symm ne)]; exact nz)
      refine ⟨z, dz, p4, D, _, _, _, rfl, upd_same, s9 _ _ k4', s9 _ _ k5, G', fun c4 H9 row kp => ⟨rfl, ?_⟩, fun c4 H9 s9' => qe H9 ns (s25.trans (s9.trans s9')) nasc mem1 c4⟩
      exact q z H9 ns (offM ss gs) (same_ins s25 nz nd kp) (G'.good c4) mem1 (fun y => by rw [if_neg Bool.false_ne_true]; exact mem_off) (row.mono fun c o e => ⟨o, s9 _ _ (s25 _ _ e)⟩)
    | true =>
      refine ⟨_, rfl, _, rfl, ?_⟩
      refine ifT rfl ?_
      refine ⟨_, rfl, x, C, dx, _, _, rfl, s25 _ _ ho, R.cl, R.nS, fl_S _ _ _, l2, ss, rfl, SqL.of (s25 _ _ h2), by omega, fun q1 d1 hd1 hq1 => ?_⟩
      have t3 := same_new (o := SetO w q1 (fun j => decide (j ∈ ss)) d1) (Same.refl H5) hq1
      have u1 : upd H5 q1 (SetO w q1 (fun j => decide (j ∈ ss)) d1) q1 = some (SetO w q1 (fun j => decide (j ∈ ss)) d1) := upd_same
      generalize upd H5 q1 (SetO w q1 (fun j => decide (j ∈ ss)) d1) = H6 at t3 u1 ⊢
      refine ⟨_, rfl, g, gs, rfl, SqL.of (t3 _ _ (s25 _ _ hg)), by omega, fun q2 d2 hd2 hq2 => ?_⟩
      have m12 : q1 ≠ q2 := ne_of_none u1 hq2
      refine ⟨q1, q2, _, _, d1, d2, rfl, rfl, m12, by rw [upd_ne m12]; exact u1, upd_same, by omega, fun q3 d3 hd3 hq3 => ?_⟩
      refine ⟨q3, _, d3, rfl, upd_same, fun us q4 uasc umem hq4 => ?_⟩
      have t4 := same_new (o := .lst (us.map V.int)) (same_new (o := SetO w q3 (fun j => decide (j ∈ ss) || decide (j ∈ gs)) d3) (same_new (o := SetO w q2 (fun j => decide (j ∈ gs)) d2) t3 hq2) hq3) hq4
      have u4 : IL (upd (upd (upd H6 q2 (SetO w q2 (fun j => decide (j ∈ gs)) d2)) q3 (SetO w q3 (fun j => decide (j ∈ ss) || decide (j ∈ gs)) d3)) q4 (.lst (us.map V.int))) q4 us := upd_same
      generalize upd (upd (upd H6 q2 (SetO w q2 (fun j => decide (j ∈ gs)) d2)) q3 (SetO w q3 (fun j => decide (j ∈ ss) || decide (j ∈ gs)) d3)) q4 (.lst (us.map V.int)) = H7 at t4 u4 ⊢
      have mem2 : ∀ z, z ∈ us ↔ z ∈ ss ∨ z ∈ gs := fun z => by
        rw [umem z, Bool.or_eq_true, decide_eq_true_eq, decide_eq_true_eq]
      have G' : GoodL n ns us := ⟨G.pos, by omega, rng, nasc, uasc, fun z hz => (mem1 z).mpr (by rcases (mem2 z).mp hz with h | h; exact .inl (G.sub z h); exact .inr h)⟩
      have s27 := s25.trans t4
      try dsimp only [L2.start, List.set, List.map, List.append, List.replicate, List.length]
      refine ⟨_, rfl, x, C, dx, _, _, rfl, s27 _ _ ho, R.cl, R.nL, fl_L _ _ _, _, rfl, _, rfl, fun z dz nz nd ne => ?_⟩
      have s9 : Same H7 (upd (upd H7 dz (.own z)) z (.ins C dz [])) := same_new (same_new (Same.refl H7) nd) (by rw [upd_ne (Ne.symm ne)]; exact nz)
      refine ⟨z, dz, p4, q4, _, _, _, rfl, upd_same, s9 _ _ (t4 _ _ k4'), s9 _ _ u4, G', fun c4 H9 row kp => ⟨rfl, ?_⟩, fun c4 H9 s9' => qe H9 ns (s27.trans (s9.trans s9')) nasc mem1 c4⟩
      exact q z H9 ns us (same_ins s27 nz nd kp) (G'.good c4) mem1 (fun y => by rw [if_pos rfl]; exact mem2 y) (row.mono fun c o e => ⟨o, s9 _ _ (s27 _ _ e)⟩)
end
end Cw
namespace Cw
open PySem L2
theorem good_joinL {n n2 : Int} {ms ss ms2 ss2 bs fs : List Int} (G : Good n ms ss) (G2 : Good n2 ms2 ss2) (h : (bs = [] ∧ fs = []) ∨ (bs = [n] ∧ fs = []) ∨ (bs = [n] ∧ fs = [n])) (few : ms.length + ms2.length + 1 ≤ 1000) :
    GoodL (n + n2) (ms ++ bs ++ ms2.map (· + n)) (ss ++ fs ++ ss2.map (· + n)) := by
  have n1 := G.pos
  have n2' := G2.pos
  have asc : ∀ {xs ys zs : List Int}, Asc xs → Asc ys → (∀ x ∈ xs, x ≤ n - 1) → (∀ x ∈ ys, 1 ≤ x) → (zs = [] ∨ zs = [n]) → Asc (xs ++ zs ++ ys.map (· + n)) := fun {xs ys zs} h1 h2 h3 h4 hz => by
    rw [Asc, List.pairwise_append, List.pairwise_append]
    refine ⟨⟨h1, by rcases hz with rfl | rfl; exact .nil; exact List.pairwise_singleton _ _, fun x hx y hy => ?_⟩, asc_shift h2 n, fun x hx y hy => ?_⟩
    · have := h3 x hx
      rcases hz with rfl | rfl
      · cases hy
      · rw [List.mem_singleton.mp hy]; omega
    · obtain ⟨z, hz', rfl⟩ := List.mem_map.mp hy
      have := h4 z hz'
      rcases List.mem_append.mp hx with hx | hx
      · have := h3 x hx
        omega
      · rcases hz with rfl | rfl
        · cases hx
        · rw [List.mem_singleton.mp hx]; omega
  have bz : bs = [] ∨ bs = [n] := by rcases h with h | h | h; exact .inl h.1; exact .inr h.1; exact .inr h.1
  have fz : fs = [] ∨ fs = [n] := by rcases h with h | h | h; exact .inl h.2; exact .inl h.2; exact .inr h.2
  refine ⟨by omega, ?_, fun x hx => ?_, asc G.asc G2.asc (fun x hx => (G.rng x hx).2) (fun x hx => (G2.rng x hx).1) bz, asc G.asc2 G2.asc2 (fun x hx => (G.rng x (G.sub x hx)).2) (fun x hx => (G2.rng x (G2.sub x hx)).1) fz, fun x hx => ?_⟩
  · rw [List.length_append, List.length_append, List.length_map]
    rcases bz with rfl | rfl
    · show ms.length + 0 + ms2.length ≤ 1000; omega
    · show ms.length + 1 + ms2.length ≤ 1000; omega
  · rcases List.mem_append.mp hx with hx | hx
    · rcases List.mem_append.mp hx with hx | hx
      · have := G.rng x hx; omega
      · rcases bz with rfl | rfl
        · cases hx
        · rw [List.mem_singleton.mp hx]; omega
    · obtain ⟨z, hz, rfl⟩ := List.mem_map.mp hx
      have := G2.rng z hz
      omega
  · rcases List.mem_append.mp hx with hx | hx
    · rcases List.mem_append.mp hx with hx | hx
      · exact List.mem_append.mpr (.inl (List.mem_append.mpr (.inl (G.sub x hx))))
      · refine List.mem_append.mpr (.inl (List.mem_append.mpr (.inr ?_)))
        rcases h with h | h | h
        · rw [h.2] at hx; cases hx
        · rw [h.2] at hx; cases hx
        · rw [h.2] at hx; rw [h.1]; exact hx
    · obtain ⟨z, hz, rfl⟩ := List.mem_map.mp hx
      exact List.mem_append.mpr (.inr (List.mem_map.mpr ⟨z, G2.sub z hz, rfl⟩))
def spJoinX (C CI : Addr) : Sp := fun vs H Q E => ∃ (x y : Addr) (n n2 : Int) (ms ss ms2 ss2 : List Int) (kd : Str), vs = [.ref x, .ref y, .str kd] ∧ RowAt C H x n ms ss ∧ RowAt C H y n2 ms2 ss2 ∧ Good n ms ss ∧ Good n2 ms2 ss2 ∧
  (kd = "none" ∨ kd = "plain" ∨ kd = "strict") ∧ ms.length + ms2.length + 1 ≤ 1000 ∧ ((ms ++ (if kd = "none" then [] else [n]) ++ ms2.map (· + n)).length ≤ 400 → ∀ p H', Same H H' → RowNew C H H' p (n + n2) (ms ++ (if kd = "none" then [] else [n]) ++ ms2.map (· + n)) (ss ++ (if kd = "strict" then [n] else []) ++ ss2.map (· + n)) → Q (.ref p) H') ∧ (400 < (ms ++ (if kd = "none" then [] else [n]) ++ ms2.map (· + n)).length → ∀ H', Same H H' → E (.ref CI) none H')
abbrev jCxX (P : Program) (w : World) (K : PySem.W.Frag) (mg : Str → Option Value) (base : Heap) (f : Addr) (cdv : Value) (A : Around) (outer : List Env) (s : Shared) (H0 : Hp) (E : XK) : Cx := cxOf (L2N.CX P w) P w K mg base NJo "Row.joined" (defScope sJoin) f cdv A outer s H0 E
section
variable {P : Program} {w : World} {K : PySem.W.Frag} {mg : Str → Option Value} {base : Heap}
theorem join_tailx {f C CI fI fS pL fL pM fM pS fSs : Addr} {fdI fdS dL dM dS : FuncData} (R : Cl K mg C) (M : Mk K C fI) (Gs : Gets P w K mg base C pL fL pM fM pS fSs dL dM dS)
    (gS : mg "shifted" = some (.ref fS)) (kS : PySem.W.keepIn K (.ref fS) = true) (bS : Binds K fdS ["places", "number"] []) (GS : FnOk P w K mg base CX0 1 fS fdS ["places", "number"] spShift)
    (bI : Binds K fdI NI []) (GI : FnOk P w K mg base (L2N.CX P w) 5 fI fdI NI (spInitX C CI))
    {cdv : Value} {A : Around} {outer : List Env} {s : Shared} {H0 : Hp} {E : XK} (hr : Room 6 (A.deeper (PyProof.Rows.envOfC "Row.joined" (defScope sJoin) s.heap.objs.size f cdv))) :
    ∃ tl, PSs (jCxX P w K mg base f cdv A outer s H0 E) ((defBody sJoin).drop 3) tl ∧
      ∀ (Q : VK) (H : Hp) (x y b1 f1 : Addr) (n n2 : Int) (ms ss ms2 ss2 bs fs : List Int) (kd : Str), RowAt C H x n ms ss → RowAt C H y n2 ms2 ss2 → Good n ms ss → Good n2 ms2 ss2 → IL H b1 bs → IL H f1 fs →
        ((bs = [] ∧ fs = []) ∨ (bs = [n] ∧ fs = []) ∨ (bs = [n] ∧ fs = [n])) → ms.length + ms2.length + 1 ≤ 1000 →
        ((ms ++ bs ++ ms2.map (· + n)).length ≤ 400 → ∀ p H', Same H H' → RowNew C H H' p (n + n2) (ms ++ bs ++ ms2.map (· + n)) (ss ++ fs ++ ss2.map (· + n)) → Q (.ref p) H') →
        (400 < (ms ++ bs ++ ms2.map (· + n)).length → ∀ H', Same H H' → E (.ref CI) none H') →
        tl { nx := fun x H' => Q V.non H', rt := Q } [some (.ref x), some (.ref y), some (.str kd), some (.ref b1), some (.ref f1), none, none] H := by
  have hr1 : Room 1 (A.deeper (PyProof.Rows.envOfC "Row.joined" (defScope sJoin) s.heap.objs.size f cdv)) := hr.mono (by decide)
  have hr2 : Room 2 (A.deeper (PyProof.Rows.envOfC "Row.joined" (defScope sJoin) s.heap.objs.size f cdv)) := hr.mono (by decide)
  refine ⟨_, (pss_cons (ps_nox (ps_set (i := 5) scJo.nd rfl (Or.inl rfl) (pe_op op_cat (pe_op op_cat (pe_fld (pv 0) rfl) (pv 3)) (pe_call GS hr1 rfl gS kS bS .nil pass0 (pa_cons (pe_prop (pv 1) R.cl Gs.hM Gs.GM hr2 Gs.bM .nil pass0 rfl) (pa_cons (pe_fld (pv 0) rfl) pa_nil))))))
      (pss_cons (ps_nox (ps_set (i := 6) scJo.nd rfl (Or.inl rfl) (pe_op op_cat (pe_op op_cat (pe_fld (pv 0) rfl) (pv 4)) (pe_call GS hr1 rfl gS kS bS .nil pass0 (pa_cons (pe_prop (pv 1) R.cl Gs.hS Gs.GS hr2 Gs.bS .nil pass0 rfl) (pa_cons (pe_fld (pv 0) rfl) pa_nil))))))
      (pss_one (ps_ret (pe_make M GI hr rfl R.mgR bI .nil (L2N.passes_call (L2N.takes_of rfl rfl rfl rfl) fun _ _ _ _ h => h) (pa_cons (pe_op op_add (pe_fld (pv 0) rfl) (pe_prop (pv 1) R.cl Gs.hL Gs.GL hr2 Gs.bL .nil pass0 rfl)) (pa_cons (pv 5) (pa_cons (pv 6) pa_nil)))))))), ?_⟩
  intro Q H x y b1 f1 n n2 ms ss ms2 ss2 bs fs kd hx hy G G2 hb hf hz few q qe
  obtain ⟨dx, l1, l2, ho, h1, h2⟩ := id hx
  obtain ⟨dy, m1, m2, go, g1, g2⟩ := id hy
  have lm := G.len
  have ls := G.len2
  have lm2 := G2.len
  have ls2 := G2.len2
  have lb : bs.length ≤ 1 := by rcases hz with ⟨rfl, _⟩ | ⟨rfl, _⟩ | ⟨rfl, _⟩ <;> simp
  have lf : fs.length ≤ 1 := by rcases hz with ⟨_, rfl⟩ | ⟨_, rfl⟩ | ⟨_, rfl⟩ <;> simp
  -- the marks
  refine ⟨_, rfl, x, C, dx, _, _, rfl, ho, R.cl, R.nM, fl_M _ _ _, _, rfl, ?_⟩
  refine ⟨l1, b1, _, _, rfl, rfl, h1, hb, by rw [List.length_map, List.length_map]; exact Nat.le_of_lt (small1000 (by omega)), fun c1 hc1 => ?_⟩
  have s1 := same_new (o := .lst (ms.map V.int ++ bs.map V.int)) (Same.refl H) hc1
  have k1 : IL (upd H c1 (.lst (ms.map V.int ++ bs.map V.int))) c1 (ms ++ bs) := by
    show upd _ _ _ c1 = _
    rw [upd_same, List.map_append]
  generalize upd H c1 (.lst (ms.map V.int ++ bs.map V.int)) = H1 at s1 k1 ⊢
  refine ⟨_, rfl, y, dy, _, rfl, s1 _ _ go, y, n2, ms2, ss2, rfl, hy.same s1, fun u H2 s2 nu hu => ?_⟩
  have s12 := s1.trans s2
  refine ⟨_, rfl, x, C, dx, _, _, rfl, s12 _ _ ho, R.cl, R.nL, fl_L _ _ _, ?_⟩
  refine ⟨u, ms2, n, rfl, hu, by omega, fun p3 H3 s3 np3 hp3 => ?_⟩
  have s13 := s12.trans s3
  refine ⟨c1, p3, _, _, rfl, rfl, s3 _ _ (s2 _ _ k1), hp3, by rw [List.length_map, List.length_map, List.length_append, List.length_map]; exact Nat.le_of_lt (small1000 (by omega)), fun c2 hc2 => ?_⟩
  have s4 := same_new (o := .lst ((ms ++ bs).map V.int ++ (ms2.map (· + n)).map V.int)) s13 hc2
  have k2 : IL (upd H3 c2 (.lst ((ms ++ bs).map V.int ++ (ms2.map (· + n)).map V.int))) c2 (ms ++ bs ++ ms2.map (· + n)) := by
    show upd _ _ _ c2 = _
    rw [upd_same, List.map_append (l₁ := ms ++ bs)]
  generalize upd H3 c2 (.lst ((ms ++ bs).map V.int ++ (ms2.map (· + n)).map V.int)) = H4 at s4 k2 ⊢
  try dsimp only [L2.start, List.set, List.map, List.append, List.replicate, List.length]
  -- the strict ones
  refine ⟨_, rfl, x, C, dx, _, _, rfl, s4 _ _ ho, R.cl, R.nS, fl_S _ _ _, _, rfl, ?_⟩
  refine ⟨l2, f1, _, _, rfl, rfl, s4 _ _ h2, s4 _ _ hf, by rw [List.length_map, List.length_map]; exact Nat.le_of_lt (small1000 (by omega)), fun c3 hc3 => ?_⟩
  have s5 := same_new (o := .lst (ss.map V.int ++ fs.map V.int)) (Same.refl H4) hc3
  have k3 : IL (upd H4 c3 (.lst (ss.map V.int ++ fs.map V.int))) c3 (ss ++ fs) := by
    show upd _ _ _ c3 = _
    rw [upd_same, List.map_append]
  generalize upd H4 c3 (.lst (ss.map V.int ++ fs.map V.int)) = H5 at s5 k3 ⊢
  have s45 := s4.trans s5
  refine ⟨_, rfl, y, dy, _, rfl, s45 _ _ go, y, n2, ms2, ss2, rfl, hy.same s45, fun u2 H6 s6 nu2 hu2 => ?_⟩
  have s46 := s45.trans s6
  refine ⟨_, rfl, x, C, dx, _, _, rfl, s46 _ _ ho, R.cl, R.nL, fl_L _ _ _, ?_⟩
  refine ⟨u2, ss2, n, rfl, hu2, by omega, fun p7 H7 s7 np7 hp7 => ?_⟩
  have s47 := s46.trans s7
  refine ⟨c3, p7, _, _, rfl, rfl, s7 _ _ (s6 _ _ k3), hp7, by rw [List.length_map, List.length_map, List.length_append, List.length_map]; exact Nat.le_of_lt (small1000 (by omega)), fun c4 hc4 => ?_⟩
  have t8 := same_new (o := .lst ((ss ++ fs).map V.int ++ (ss2.map (· + n)).map V.int)) (Same.refl H7) hc4
  have k4 : IL (upd H7 c4 (.lst ((ss ++ fs).map V.int ++ (ss2.map (· + n)).map V.int))) c4 (ss ++ fs ++ ss2.map (· + n)) := by
    show upd _ _ _ c4 = _
    rw [upd_same, List.map_append (l₁ := ss ++ fs)]
  generalize upd H7 c4 (.lst ((ss ++ fs).map V.int ++ (ss2.map (· + n)).map V.int)) = H8 at t8 k4 ⊢
  have s8 := s47.trans t8
  have k2' := t8 _ _ (s7 _ _ (s6 _ _ (s5 _ _ k2)))
  try dsimp only [L2.start, List.set, List.map, List.append, List.replicate, List.length]
  refine ⟨_, rfl, x, C, dx, _, _, rfl, s8 _ _ ho, R.cl, R.nL, fl_L _ _ _, ?_⟩
  refine ⟨_, rfl, y, dy, _, rfl, s8 _ _ go, y, n2, ms2, ss2, rfl, hy.same s8, _, _, rfl, rfl, _, rfl, _, rfl, fun z dz nz nd ne => ?_⟩
  have s9 : Same H8 (upd (upd H8 dz (.own z)) z (.ins C dz [])) := same_new (same_new (Same.refl H8) nd) (by rw [upd_ne (Ne.symm ne)]; exact nz)
  refine ⟨z, dz, c2, c4, _, _, _, rfl, upd_same, s9 _ _ k2', s9 _ _ k4, good_joinL G G2 hz few, fun c4 H9 row kp => ⟨rfl, ?_⟩, fun c4 H9 s9' => qe c4 H9 (s8.trans (s9.trans s9'))⟩
  exact q c4 z H9 (same_ins s8 nz nd kp) (row.mono fun c o e => ⟨o, s9 _ _ (s8 _ _ e)⟩)
theorem ok_joinx {f C CI fI fS pL fL pM fM pS fSs kn : Addr} {fd fdI fdS dL dM dS : FuncData} (F : Fun K "joined" "Row.joined" sJoin f fd) (R : Cl K mg C) (M : Mk K C fI) (Gs : Gets P w K mg base C pL fL pM fM pS fSs dL dM dS)
    (gN : mg "KINDS" = some (.ref kn)) (hN : ∀ H : Hp, SqT K H kn kinds3)
    (gS : mg "shifted" = some (.ref fS)) (kS : PySem.W.keepIn K (.ref fS) = true) (bS : Binds K fdS ["places", "number"] []) (GS : FnOk P w K mg base CX0 1 fS fdS ["places", "number"] spShift)
    (bI : Binds K fdI NI []) (GI : FnOk P w K mg base (L2N.CX P w) 5 fI fdI NI (spInitX C CI)) :
    FnOk P w K mg base (L2N.CX P w) 7 f fd ["self", "other", "kind"] (spJoinX C CI) := by
  refine okN F scJo (fun vs H Q E h => ?_) (fun cdv A outer s H vs Q E hr h => ?_)
  · obtain ⟨x, y, n, n2, ms, ss, ms2, ss2, kd, rfl, _⟩ := h
    rfl
  · obtain ⟨x, y, n, n2, ms, ss, ms2, ss2, kd, rfl, hx, hy, G, G2, hk, few, q, qe⟩ := h
    obtain ⟨tl, hTL, hQ⟩ := join_tailx (P := P) (w := w) (K := K) (mg := mg) (base := base) R M Gs gS kS bS GS bI GI (f := f) (cdv := cdv) (outer := outer) (H0 := H) (E := E) hr
    refine ⟨_, pss_cons (ps_nox (ps_if (pt_cmpR (show OpR _ (compareOp .NotIn) (rIn K true) from op_notIn_seq) (pv 2) (pe_glob (by rfl) gN (v := .ref kn) rfl) (by rfl)) pss_never pss_nil))
      (pss_cons (ps_nox (ps_set (i := 3) scJo.nd rfl (Or.inl rfl) (pe_ifExp (pt_cmpR op_eq (pv 2) pe_str (nomark _)) (pe_lst pa_nil) (pe_lst (pa_cons (pe_fld (pv 0) rfl) pa_nil)))))
      (pss_cons (ps_nox (ps_set (i := 4) scJo.nd rfl (Or.inl rfl) (pe_ifExp (pt_cmpR op_eq (pv 2) pe_str (nomark _)) (pv 3) (pe_lst pa_nil)))) hTL)), ?_⟩
    obtain ⟨dx, l1, l2, ho, h1, h2⟩ := id hx
    have inK : (if true = true then !inV (.str kd) kinds3 else inV (.str kd) kinds3) = false := by rcases hk with rfl | rfl | rfl <;> decide +kernel
    refine ⟨_, rfl, kn, _, rfl, .inr (hN _), rfl, rfl, _, rfl, ?_⟩
    refine ifF inK ?_
    rcases hk with rfl | rfl | rfl
    · refine ⟨_, rfl, rfl, _, rfl, ?_⟩
      refine ifT (by decide +kernel) ?_
      refine ⟨Nat.zero_le _, fun b1 hb1 => ?_⟩
      have s1 := same_new (o := .lst []) (Same.refl H) hb1
      have y1 : IL (upd H b1 (.lst [])) b1 [] := upd_same
      generalize upd H b1 (.lst []) = H1 at s1 y1 ⊢
      refine ⟨_, rfl, rfl, _, rfl, ?_⟩
      refine ifF (by decide +kernel) ?_
      refine ⟨Nat.zero_le _, fun f1 hf1 => ?_⟩
      have s2 := same_new (o := .lst []) (Same.refl H1) hf1
      have y2 : IL (upd H1 f1 (.lst [])) f1 [] := upd_same
      generalize upd H1 f1 (.lst []) = H2 at s2 y2 ⊢
      have s12 := s1.trans s2
      refine hQ Q H2 x y b1 f1 n n2 ms ss ms2 ss2 [] [] _ (hx.same s12) (hy.same s12) G G2 (s2 _ _ y1) y2 (.inl ⟨rfl, rfl⟩) (by omega) (fun c4 p H' sx row => q (by first | (rw [if_neg (by decide +kernel)]; exact c4) | (rw [if_pos rfl]; exact c4) | simpa using c4) p H' (s12.trans sx) ?_) (fun c4 H' sx => qe (by first | (rw [if_neg (by decide +kernel)]; exact c4) | (rw [if_pos rfl]; exact c4) | simpa using c4) H' (s12.trans sx))
      exact row.mono fun c o e => ⟨o, s12 _ _ e⟩
    · refine ⟨_, rfl, rfl, _, rfl, ?_⟩
      refine ifF (by decide +kernel) ?_
      refine ⟨_, rfl, x, C, dx, _, _, rfl, ho, R.cl, R.nL, fl_L _ _ _, (by show 1 ≤ sizeLine; decide), fun b1 hb1 => ?_⟩
      have s1 := same_new (o := .lst [.int n]) (Same.refl H) hb1
      have y1 : IL (upd H b1 (.lst [.int n])) b1 [n] := upd_same
      generalize upd H b1 (.lst [.int n]) = H1 at s1 y1 ⊢
      refine ⟨_, rfl, rfl, _, rfl, ?_⟩
      refine ifF (by decide +kernel) ?_
      refine ⟨Nat.zero_le _, fun f1 hf1 => ?_⟩
      have s2 := same_new (o := .lst []) (Same.refl H1) hf1
      have y2 : IL (upd H1 f1 (.lst [])) f1 [] := upd_same
      generalize upd H1 f1 (.lst []) = H2 at s2 y2 ⊢
      have s12 := s1.trans s2
      refine hQ Q H2 x y b1 f1 n n2 ms ss ms2 ss2 [n] [] _ (hx.same s12) (hy.same s12) G G2 (s2 _ _ y1) y2 (.inr (.inl ⟨rfl, rfl⟩)) (by omega) (fun c4 p H' sx row => q (by first | (rw [if_neg (by decide +kernel)]; exact c4) | (rw [if_pos rfl]; exact c4) | simpa using c4) p H' (s12.trans sx) ?_) (fun c4 H' sx => qe (by first | (rw [if_neg (by decide +kernel)]; exact c4) | (rw [if_pos rfl]; exact c4) | simpa using c4) H' (s12.trans sx))
      exact row.mono fun c o e => ⟨o, s12 _ _ e⟩
    · refine ⟨_, rfl, rfl, _, rfl, ?_⟩
      refine ifF (by decide +kernel) ?_
      refine ⟨_, rfl, x, C, dx, _, _, rfl, ho, R.cl, R.nL, fl_L _ _ _, (by show 1 ≤ sizeLine; decide), fun b1 hb1 => ?_⟩
      have s1 := same_new (o := .lst [.int n]) (Same.refl H) hb1
      have y1 : IL (upd H b1 (.lst [.int n])) b1 [n] := upd_same
      generalize upd H b1 (.lst [.int n]) = H1 at s1 y1 ⊢
      refine ⟨_, rfl, rfl, _, rfl, ?_⟩
      refine ifT (by decide +kernel) ?_
      refine ⟨_, rfl, ?_⟩
      refine hQ Q H1 x y b1 b1 n n2 ms ss ms2 ss2 [n] [n] _ (hx.same s1) (hy.same s1) G G2 y1 y1 (.inr (.inr ⟨rfl, rfl⟩)) (by omega) (fun c4 p H' sx row => q (by first | (rw [if_neg (by decide +kernel)]; exact c4) | (rw [if_pos rfl]; exact c4) | simpa using c4) p H' (s1.trans sx) ?_) (fun c4 H' sx => qe (by first | (rw [if_neg (by decide +kernel)]; exact c4) | (rw [if_pos rfl]; exact c4) | simpa using c4) H' (s1.trans sx))
      exact row.mono fun c o e => ⟨o, s1 _ _ e⟩
end
end Cw
namespace Cw
open PySem L2
structure ChOkL (n b e len : Int) (ms ss : List Int) : Prop where
  b0 : 0 ≤ b
  be : b ≤ e
  en : e ≤ n
  l0 : 0 ≤ len
  big : 1 ≤ n - (e - b) + len
  few : ms.length ≤ 1000
  rng : ∀ x ∈ ms, 1 ≤ x ∧ x ≤ (if e = n then len - 1 else len)
  asc : Asc ms
  asc2 : Asc ss
  sub : ∀ x ∈ ss, x ∈ ms
theorem ChOkL.ok {n b e len : Int} {ms ss : List Int} (g : ChOkL n b e len ms ss) (h : ms.length ≤ 400) : ChOk n b e len ms ss := ⟨g.b0, g.be, g.en, g.l0, g.big, h, g.rng, g.asc, g.asc2, g.sub⟩
theorem ChOk.okL {n b e len : Int} {ms ss : List Int} (g : ChOk n b e len ms ss) : ChOkL n b e len ms ss := ⟨g.b0, g.be, g.en, g.l0, g.big, Nat.le_trans g.few (by decide), g.rng, g.asc, g.asc2, g.sub⟩
def spChangeB : Sp := fun vs H Q _ => ∃ (t m s : Addr) (b e len n : Int) (ms ss : List Int), vs = [.ref t, .int n] ∧ H t = some (.tup [.int b, .int e, .int len, .ref m, .ref s]) ∧ IL H m ms ∧ IL H s ss ∧ ChOkL n b e len ms ss ∧ ∀ H', Same H H' → Q (.bl (decide (ms.length ≤ 400))) H'
theorem good_repL {n b e len : Int} {ms ss cs ds : List Int} (G : Good n ms ss) (D : ChOk n b e len cs ds) (hl : (rep ms cs b e len (n - (e - b) + len)).length ≤ 1000) :
    GoodL (n - (e - b) + len) (rep ms cs b e len (n - (e - b) + len)) (rep ss ds b e len (n - (e - b) + len)) := by
  have b0 := D.b0
  have be := D.be
  have en := D.en
  have l0 := D.l0
  have le : ∀ x ∈ cs, 1 ≤ x ∧ x ≤ len := fun x hx => by
    have := D.rng x hx
    split at this <;> omega
  refine ⟨by have := D.big; omega, hl, fun x hx => ?_, asc_rep G.asc D.asc le l0, asc_rep G.asc2 D.asc2 (fun x hx => le x (D.sub x hx)) l0, fun x hx => ?_⟩
  · rcases mem_rep.mp hx with ⟨h1, h2, h3⟩ | h | ⟨h1, h2⟩
    · have := G.rng x h1
      omega
    · have := D.rng _ h
      split at this <;> omega
    · have := G.rng _ h1
      omega
  · rcases mem_rep.mp hx with ⟨h1, h2, h3⟩ | h | ⟨h1, h2⟩
    · exact mem_rep.mpr (.inl ⟨G.sub _ h1, h2, h3⟩)
    · exact mem_rep.mpr (.inr (.inl (D.sub _ h)))
    · exact mem_rep.mpr (.inr (.inr ⟨G.sub _ h1, h2⟩))
def spChangedX (C CI CC : Addr) : Sp := fun vs H Q E => ∃ (x t m u : Addr) (n b e len : Int) (ms ss cs ds : List Int), vs = [.ref x, .ref t] ∧ RowAt C H x n ms ss ∧ H t = some (.tup [.int b, .int e, .int len, .ref m, .ref u]) ∧ IL H m cs ∧ IL H u ds ∧ Good n ms ss ∧ ChOkL n b e len cs ds ∧
  (rep ms cs b e len (n - (e - b) + len)).length ≤ 1000 ∧
  (400 < cs.length → ∀ H', Same H H' → E (.ref CC) none H') ∧ (cs.length ≤ 400 → (rep ms cs b e len (n - (e - b) + len)).length ≤ 400 → ∀ p H', Same H H' → RowNew C H H' p (n - (e - b) + len) (rep ms cs b e len (n - (e - b) + len)) (rep ss ds b e len (n - (e - b) + len)) → Q (.ref p) H') ∧ (cs.length ≤ 400 → 400 < (rep ms cs b e len (n - (e - b) + len)).length → ∀ H', Same H H' → E (.ref CI) none H')
section
variable {P : Program} {w : World} {K : PySem.W.Frag} {mg : Str → Option Value} {base : Heap}
theorem ok_changeb {f fR fM fS : Addr} {fd fdR fdM fdS : FuncData} (F : Fun K "is_change" "is_change" sChange f fd) (T : Bl mg)
    (gR : mg "is_replacement" = some (.ref fR)) (kR : PySem.W.keepIn K (.ref fR) = true) (bR : Binds K fdR ["begin", "end", "length", "row_length"] []) (GR : FnOk P w K mg base CX0 2 fR fdR ["begin", "end", "length", "row_length"] spRepl)
    (gM : mg "are_marks" = some (.ref fM)) (kM : PySem.W.keepIn K (.ref fM) = true) (bM : Binds K fdM ["thing", "high"] []) (GM : FnOk P w K mg base CX0 4 fM fdM ["thing", "high"] spMarksB)
    (gS : mg "are_some_of" = some (.ref fS)) (kS : PySem.W.keepIn K (.ref fS) = true) (bS : Binds K fdS ["thing", "marks"] []) (GS : FnOk P w K mg base CX0 4 fS fdS ["thing", "marks"] spSome) :
    FnOk P w K mg base CX0 5 f fd ["thing", "row_length"] spChangeB := by
  refine F.ok scC (fun vs H Q E h => ?_) (fun cdv A outer s H vs Q E hr h => ?_)
  · obtain ⟨t, m, u, b, e, len, n, ms, ss, rfl, _⟩ := h
    rfl
  · obtain ⟨t, m, u, b, e, len, n, ms, ss, rfl, ht, hM, hS, G, k⟩ := h
    have hr2 : Room 2 (A.deeper (PyProof.Rows.envOfC "is_change" (defScope sChange) s.heap.objs.size f cdv)) := hr.mono (by decide)
    refine ⟨_, pss_cons (ps_if (PW.pt (pw_or (pt_not (pt_val (pe_callB call_isi (by rfl) T.isi (by decide +kernel) (pa_cons (pv 0) (pa_cons (pe_bltn (by rfl) T.tuple (by decide +kernel) (v := V.ty "tuple") rfl) pa_nil)))))
        (pw_or1 (pt_cmpR op_ne (pe_callB call_len_seq (by rfl) T.len PySem.boot_len (pa_cons (pv 0) pa_nil)) pe_int (nomark _))))) (pss_one (ps_ret pe_bl)) pss_nil)
      (pss_cons (ps_asg (pv 0) (pg_tup (by rfl) (pgs_cons (pg_name (i := 2) scC.nd rfl (Or.inl rfl)) (pgs_cons (pg_name (i := 3) scC.nd rfl (Or.inl rfl)) (pgs_cons (pg_name (i := 4) scC.nd rfl (Or.inl rfl)) (pgs_cons (pg_name (i := 5) scC.nd rfl (Or.inl rfl)) (pgs_cons (pg_name (i := 6) scC.nd rfl (Or.inl rfl)) pgs_nil)))))))
      (pss_cons (ps_if (pt_not (pt_val (pe_call GR hr2 rfl gR kR bR .nil pass0 (pa_cons (pv 2) (pa_cons (pv 3) (pa_cons (pv 4) (pa_cons (pv 1) pa_nil))))))) (pss_one (ps_ret pe_bl)) pss_nil)
      (pss_cons (ps_set (i := 7) scC.nd rfl (Or.inl rfl) (pe_ifExp (pt_cmpR op_eq (pv 3) (pv 1) (nomark _)) (pe_op op_sub (pv 4) pe_int) (pv 4)))
      (pss_one (ps_ret (pe_and (pe_call GM hr rfl gM kM bM .nil pass0 (pa_cons (pv 5) (pa_cons (pv 7) pa_nil))) (pe_one (pe_call GS hr rfl gS kS bS .nil pass0 (pa_cons (pv 6) (pa_cons (pv 5) pa_nil)))))))))), ?_⟩
    refine ⟨_, rfl, _, _, _, _, true, rfl, ClsV.ty _, .base (.tup ht), kit_ty (by decide +kernel), _, rfl, ?_⟩
    refine ifF rfl ?_
    refine ⟨_, rfl, t, _, rfl, .inr (SqT.of ht), rfl, _, rfl, ?_⟩
    refine ifF (by simp) ?_
    refine ⟨_, rfl, t, _, rfl, SqT.of ht, rfl, _, _, rfl, _, _, rfl, _, _, rfl, _, _, rfl, _, _, rfl, rfl, ?_⟩
    refine ⟨_, rfl, _, rfl, _, rfl, _, rfl, b, e, len, n, rfl, G.b0, G.be, G.en, G.l0, G.big, fun H1 s1 => ⟨_, rfl, ?_⟩⟩
    refine ifF rfl ?_
    have fin : ∀ hi, (∀ x ∈ ms, 1 ≤ x ∧ x ≤ hi) → spMarksB [.ref m, .int hi] H1 (fun v H2 => ∃ c, v = .bl c ∧ (if c = true then spSome [.ref u, .ref m] H2 Q E else Q (.bl false) H2)) E := fun hi hx => by
      refine ⟨m, ms, hi, rfl, s1 _ _ hM, G.few, hx, G.asc, fun H2 s2 => ⟨_, rfl, ?_⟩⟩
      rcases Nat.lt_or_ge 400 ms.length with c | c
      · rw [decide_eq_false (by omega)]
        have z := k H2 (s1.trans s2)
        rw [decide_eq_false (by omega)] at z
        exact ifF rfl z
      · have G' := G.ok c
        rw [decide_eq_true c]
        refine ifT rfl ⟨u, m, ss, ms, rfl, s2 _ _ (s1 _ _ hS), s2 _ _ (s1 _ _ hM), G'.len2, c, G.asc2, fun y hy => (G.rng y (G.sub y hy)).1, G.sub, fun H3 s3 => ?_⟩
        have z := k _ ((s1.trans s2).trans s3)
        rw [decide_eq_true c] at z
        exact z
    have rng := G.rng
    refine ⟨_, rfl, _, rfl, rfl, _, rfl, ?_⟩
    by_cases hen : e = n
    · refine ifT (by simp [hen]) ?_
      rw [if_pos hen] at rng
      refine ⟨_, rfl, _, _, rfl, rfl, ?_⟩
      refine ⟨_, rfl, _, rfl, ?_⟩
      obtain ⟨m1, ns1, hi1, e1, i1, i2, i3, i4, i5⟩ := fin _ rng
      refine ⟨m1, ns1, hi1, e1, i1, i2, i3, i4, fun H2 s2 => ?_⟩
      obtain ⟨c, ec, q⟩ := i5 H2 s2
      refine ⟨c, ec, ?_⟩
      cases ec
      by_cases c : ns1.length ≤ 400
      · rw [decide_eq_true c] at q ⊢
        rw [if_pos rfl] at q
        exact ifT rfl ⟨_, rfl, _, rfl, q⟩
      · rw [decide_eq_false c] at q ⊢
        rw [if_neg Bool.false_ne_true] at q
        exact ifF rfl q
    · refine ifF (by simp [hen]) ?_
      rw [if_neg hen] at rng
      refine ⟨_, rfl, ?_⟩
      refine ⟨_, rfl, _, rfl, ?_⟩
      obtain ⟨m1, ns1, hi1, e1, i1, i2, i3, i4, i5⟩ := fin _ rng
      refine ⟨m1, ns1, hi1, e1, i1, i2, i3, i4, fun H2 s2 => ?_⟩
      obtain ⟨c, ec, q⟩ := i5 H2 s2
      refine ⟨c, ec, ?_⟩
      cases ec
      by_cases c : ns1.length ≤ 400
      · rw [decide_eq_true c] at q ⊢
        rw [if_pos rfl] at q
        exact ifT rfl ⟨_, rfl, _, rfl, q⟩
      · rw [decide_eq_false c] at q ⊢
        rw [if_neg Bool.false_ne_true] at q
        exact ifF rfl q
theorem ok_changedx {f C CI CC fC fP fI : Addr} {fd fdC fdP fdI : FuncData} (F : Fun K "changed" "Row.changed" sChanged f fd) (R : Cl K mg C) (EC : ErrC K mg CC "InvalidChange") (M : Mk K C fI)
    (gC : mg "is_change" = some (.ref fC)) (kC : PySem.W.keepIn K (.ref fC) = true) (bC : Binds K fdC ["thing", "row_length"] []) (GC : FnOk P w K mg base CX0 5 fC fdC ["thing", "row_length"] spChangeB)
    (gP : mg "changed_parts" = some (.ref fP)) (kP : PySem.W.keepIn K (.ref fP) = true) (bP : Binds K fdP ["row", "change"] []) (GP : FnOk P w K mg base CX0 3 fP fdP ["row", "change"] (spParts C))
    (bI : Binds K fdI NI []) (GI : FnOk P w K mg base (L2N.CX P w) 5 fI fdI NI (spInitX C CI)) :
    FnOk P w K mg base (L2N.CX P w) 7 f fd ["self", "change"] (spChangedX C CI CC) := by
  refine okN F scCh (fun vs H Q E h => ?_) (fun cdv A outer s H vs Q E hr h => ?_)
  · obtain ⟨x, t, m, u, n, b, e, len, ms, ss, cs, ds, rfl, _⟩ := h
    rfl
  · obtain ⟨x, t, m, u, n, b, e, len, ms, ss, cs, ds, rfl, hx, ht, hM, hS, G, DL, hl, qc, q, qe⟩ := h
    have hr5 : Room 5 (A.deeper (PyProof.Rows.envOfC "Row.changed" (defScope sChanged) s.heap.objs.size f cdv)) := hr.mono (by decide)
    have hr3 : Room 3 (A.deeper (PyProof.Rows.envOfC "Row.changed" (defScope sChanged) s.heap.objs.size f cdv)) := hr.mono (by decide)
    refine ⟨_, pss_cons (ps_if (pt_not (pt_val (pe_call GC hr5 rfl gC kC bC .nil pass0 (pa_cons (pv 1) (pa_cons (pe_fld (pv 0) rfl) pa_nil))))) (pss_one (L2N.ps_raise rfl (L2N.takes_of rfl rfl rfl rfl) (L2N.pmk_own PySem.F.excBase_ValueError EC.x EC.g EC.k (raises_own EC.b EC.t) rfl))) pss_nil)
      (pss_cons (ps_nox (ps_asg (pe_call GP hr3 rfl gP kP bP .nil pass0 (pa_cons (pv 0) (pa_cons (pv 1) pa_nil))) (pg_tup (by rfl) (pgs_cons (pg_name (i := 2) scCh.nd rfl (Or.inl rfl)) (pgs_cons (pg_name (i := 3) scCh.nd rfl (Or.inl rfl)) (pgs_cons (pg_name (i := 4) scCh.nd rfl (Or.inl rfl)) pgs_nil))))))
      (pss_one (ps_ret (pe_make M GI hr rfl R.mgR bI .nil (L2N.passes_call (L2N.takes_of rfl rfl rfl rfl) fun _ _ _ _ h => h) (pa_cons (pv 2) (pa_cons (pv 3) (pa_cons (pv 4) pa_nil))))))), ?_⟩
    obtain ⟨dx, l1, l2, ho, h1, h2⟩ := id hx
    refine ⟨_, rfl, _, rfl, x, C, dx, _, _, rfl, ho, R.cl, R.nL, fl_L _ _ _, ?_⟩
    refine ⟨t, m, u, b, e, len, n, cs, ds, rfl, ht, hM, hS, DL, fun H1 s1 => ⟨_, rfl, ?_⟩⟩
    rcases Nat.lt_or_ge 400 cs.length with c | c
    · refine ifT (by rw [decide_eq_false (by omega)]; rfl) ?_
      exact qc c H1 s1
    have D := DL.ok c
    refine ifF (by rw [decide_eq_true c]; rfl) ?_
    refine ⟨_, rfl, _, rfl, x, t, m, u, n, b, e, len, ms, ss, cs, ds, rfl, hx.same s1, s1 _ _ ht, s1 _ _ hM, s1 _ _ hS, G, D, fun p p2 p3 H2 s2 hp hp2 hp3 => ?_⟩
    refine ⟨p, _, rfl, SqT.of hp, rfl, _, _, rfl, _, _, rfl, _, _, rfl, rfl, ?_⟩
    refine ⟨_, rfl, _, rfl, _, rfl, fun y dy ny nd ne => ?_⟩
    have s12 := s1.trans s2
    have s4 : Same H2 (upd (upd H2 dy (.own y)) y (.ins C dy [])) := same_new (same_new (Same.refl H2) nd) (by rw [upd_ne (Ne.symm ne)]; exact ny)
    refine ⟨y, dy, p2, p3, _, _, _, rfl, upd_same, s4 _ _ hp2, s4 _ _ hp3, good_repL G D hl, fun c4 H5 row kp => ⟨rfl, ?_⟩, fun c4 H5 s5 => qe c c4 H5 (s12.trans (s4.trans s5))⟩
    exact q c c4 y H5 (same_ins s12 ny nd kp) (row.mono fun c o e => ⟨o, s4 _ _ (s12 _ _ e)⟩)
end
end Cw
namespace Cw
open PySem PySem.Spec PyProof.Rows L2
/-! ## in a try: what is raised is wished for at the slots -/
section
variable {X : Cx} {CX : CXT} {k : Nat} {f C : Addr} {fd : FuncData} {ps : List Str} {sp : Sp} {E : L2.St → XK} {x m : Str} {p pos apos : Pos} {e o : Expr} {es : List Expr} {ta : TE} {t : TA}
def tMethS (C : Addr) (m : Str) (sp : Sp) (E : L2.St → XK) (ta : TE) (t : TA) : TE := fun σ H Q => ta σ H fun x H1 => ∃ a dx fs, x = .ref a ∧ H1 a = some (.ins C dx fs) ∧ fs.lookup m = none ∧ t σ H1 fun vs H2 => sp (.ref a :: vs) H2 Q (E σ)
theorem pe_mthS {pl : Sem Bool} (he : PE X o ta) (c : Cls X.K C) (hm : Meth X.K C m f) (F : FnOk X.prog X.w X.K X.mg X.base CX k f fd ps sp) (hr : Room k X.A) (hb : Binds X.K fd ps []) (hx : ∀ σ, PassesAt CX X σ (E σ)) (ha : PA X (e :: es) t)
    (hst : starEach (e :: es) X.env = (false, eval e X.env) :: starEach es X.env := by rfl) (hpl : (backTo pos (starEach es X.env)).any (·.1) = false := by rfl)
    (ht : eval (.Call (.Attribute o m apos) (e :: es) [] pos) X.env = (do
      let ov ← eval o X.env
      standAt apos.atName
      let (f, first) ← holding [ov] (getMethod ov m pl)
      callWith pos f first (backTo pos (starEach (e :: es) X.env)) (backToKw pos (keywordEach [] X.env))) := by rfl) :
    PE X (.Call (.Attribute o m apos) (e :: es) [] pos) (tMethS C m sp E ta t) := by
  refine ⟨fun pins s σ H Q I h => ?_⟩
  refine PySem.W.methodCall_KW (pl := pl) (thn (he.run pins s σ H _ I h) fun u s1 ⟨x, H1, I1, rx, a, dx, fs, ex, ea, l, q⟩ => ?_) ht
  subst ex
  obtain rfl : u = Value.ref a := rx
  refine getmeth_ok I1 ea c hm l ?_
  refine PySem.W.callWith_K (first := [.ref a]) (h₀ := X.base) I.ok.mod.kin hm.kp (thn (ha.run pos pins s1 σ H1 _ I1 q) fun us s2 ⟨vs, H2, I2, r, q2⟩ => ⟨I2.kIn, ?_⟩) hst hpl
  exact run_fnS (us := .ref a :: us) (vs := .ref a :: vs) F hr hb (hx σ) I2 (.cons rfl r) q2
def tMakeS (C : Addr) (sp : Sp) (E : L2.St → XK) (t : TA) : TE := fun σ H Q => t σ H fun vs H1 => ∀ x dx, H1 x = none → H1 dx = none → dx ≠ x → sp (.ref x :: vs) (L2.upd (L2.upd H1 dx (.own x)) x (.ins C dx [])) (fun v H2 => v = .non ∧ Q (.ref x) H2) (E σ)
theorem run_makeS {pins : List (Addr × Obj)} {σ : L2.St} {H : Hp} {s : Shared} {Q : VK} {us : List Value} {vs : List V} (M : Mk X.K C f) (F : FnOk X.prog X.w X.K X.mg X.base CX k f fd ps sp) (hr : Room (k + 1) X.A) (hb : Binds X.K fd ps [])
    (hx : PassesAt CX X σ (E σ)) (I : Inv X pins σ H s) (r : Vals vs us)
    (h : ∀ x dx, H x = none → H dx = none → dx ≠ x → sp (.ref x :: vs) (L2.upd (L2.upd H dx (.own x)) x (.ins C dx [])) (fun v H2 => v = .non ∧ Q (.ref x) H2) (E σ)) :
    wpAny (model X.prog X.w) X.A (call (.ref C) us) (EP X pins σ Q) X.xe s := by
  have hq := h (s.heap.objs.size + 1) s.heap.objs.size (I.hok.fresh (Nat.le_succ _)) (I.hok.fresh (Nat.le_refl _)) (Nat.ne_of_lt (Nat.lt_succ_self _))
  have I2 := Inv.made (C := C) I
  have r2 : Vals (V.ref (s.heap.objs.size + 1) :: vs) (Value.ref (s.heap.objs.size + 1) :: us) := .cons rfl r
  have hl : (Value.ref (s.heap.objs.size + 1) :: us).length = ps.length := by
    have e := r2.length
    rw [F.len _ _ _ _ hq] at e
    exact e.symm
  have b := hb { s with heap := (s.heap.push { cls := .type "dict", dict := none, data := .dict {} }) } (Value.ref (s.heap.objs.size + 1) :: us)
  refine wpAny_call (make_map (f := f) I.kIn M.makes M.init (beq_iff_eq.mp M.fn) (codeAny_mono (F.run _ X.stack _ _ ⟨Value.ref (s.heap.objs.size + 1) :: us, []⟩ (Value.ref (s.heap.objs.size + 1) :: us) _ _ (E σ) (hr.make C us [])
    (I2.env0.make C us []) (by
      have b2 := hb _ (Value.ref (s.heap.objs.size + 1) :: us) I2.kIn (by rw [List.append_nil]; exact hl)
      rw [List.append_nil] at b2
      exact b2) r2 hq) fun r s' hq' => ?_))
  cases r with
  | error e => exact hx pins _ _ e s' I2 hq'
  | ok fl =>
    cases fl with
    | ret u =>
      obtain ⟨v, H', I3, rv, ev, q3⟩ := I2.after hq'
      subst ev
      exact ⟨rv, ⟨V.ref (s.heap.objs.size + 1), H', I3, rfl, q3⟩⟩
    | next => exact False.elim hq'
    | brk => exact False.elim hq'
    | cont => exact False.elim hq'
theorem pe_makS (M : Mk X.K C f) (F : FnOk X.prog X.w X.K X.mg X.base CX k f fd ps sp) (hr : Room (k + 1) X.A) (hg : Gl X x) (hm : X.mg x = some (.ref C)) (hb : Binds X.K fd ps []) (hx : ∀ σ, PassesAt CX X σ (E σ))
    (ha : PA X (e :: es) t) (hdb : (x == ("__debug__" : Str)) = false := by decide) (he : starEach (e :: es) X.env = (false, eval e X.env) :: starEach es X.env := by rfl) (hpl : (backTo pos (starEach es X.env)).any (·.1) = false := by rfl) :
    PE X (.Call (.Name x p) (e :: es) [] pos) (tMakeS C sp E t) := by
  refine ⟨fun pins s σ H Q I h => ?_⟩
  refine wpAny_Call_Name_kw (ld_glob I hg hm ?_ hdb)
  refine PySem.W.callWith_K (h₀ := X.base) I.ok.mod.kin M.kp (thn (ha.run pos pins s σ H _ I h) fun us s1 ⟨vs, H1, I1, r, q⟩ => ⟨I1.kIn, ?_⟩) he hpl
  exact run_makeS M F hr hb (hx σ) I1 r q
/-- isinstance(e, c), e the error that the suite holds -/
def rIsE2 (K : PySem.W.Frag) (cls : Value) (d : Option Addr) (a : Addr) : List V → Hp → VK → Prop := fun xs H Q => ∃ (D : Addr) (c : V) (cv : Value) (b : Bool), cls = .ref D ∧ d = none ∧ ExcC K D ∧ xs = [.ref a, c] ∧ (∀ u, RelV c u → u = cv) ∧ PySem.W.kitOne K (.ref D) cv = some b ∧ Q (.bl b) H
theorem call_isE2 {a : Addr} {oe : Obj} {pn : List (Addr × Obj)} {cls : Value} {d : Option Addr} (hz : Zc cls d oe) (hf : ∃ vs, oe.data = .fields vs) : CallR (X.suite a ((a, oe) :: pn)) (.builtin "isinstance") (rIsE2 X.K cls d a) := by
  intro pins s σ H xs us Q I r h
  obtain ⟨D, c, cv, b, rfl, rfl, EC, hxs, hcv, e, q⟩ := h
  exact call_isE EC hz hf pins s σ H xs us Q I r ⟨c, cv, b, hxs, hcv, e, q⟩
end
end Cw
namespace Cw
open PySem PySem.Spec PyProof.Rows L2 HotX
/-! ## where an error is handled: an iterator's end, a tuple taken apart -/
section
variable {prog : Program} {w : World} {A : Around} {E : Value → Shared → Prop} {s : Shared}
theorem HotAt.push {x1 : Addr} {h : Heap} (o : Obj) (t : HotAt A x1 h) : HotAt A x1 (h.push o) := by
  obtain ⟨a, o1, vs, e, d, c⟩ := t
  exact ⟨a, o1, vs, Heap.get?_push_of_some _ e, d, c⟩
theorem HotAt.keeps {x1 : Addr} {h h' : Heap} (t : HotAt A x1 h) (k : ∀ o, h.get? x1 = some o → h'.get? x1 = some o) : HotAt A x1 h' := by
  obtain ⟨a, o1, vs, e, d, c⟩ := t
  exact ⟨a, o1, vs, k _ e, d, c⟩
/-- an object of two fields isn't the handled error -/
theorem HotAt.ne2 {x1 it : Addr} {h : Heap} {o : Obj} {u v : Value} (t : HotAt A x1 h) (e : h.get? it = some o) (d : o.data = .fields #[u, v]) : x1 ≠ it := by
  intro z
  subst z
  obtain ⟨_, o1, vs, e1, d1, c1⟩ := t
  rw [e] at e1
  cases e1
  rw [d] at d1
  cases d1
  simp at c1
theorem next_list_end_hot {it l x1 : Addr} {i : Nat} {items : Array Value} {Q : Option Value → Shared → Prop} (hot : HotAt A x1 s.heap)
    (hit : s.heap.IsListIter it l i) (hl : s.heap.IsList l items) (hx : items[i]? = none)
    (hQ : ∀ h', Heap.ExtBut it s.heap h' → Q none { s with heap := h' }) : wpAny (model prog w) A (pyNext (.ref it)) Q E s := by
  obtain ⟨o, ho, hc, hd⟩ := id hit
  obtain ⟨ol, hol, _, nl, hdl⟩ := hl
  have ne := HotAt.ne2 hot ho hd
  unfold pyNext
  refine wpAny_bind (wpAny_attempt (wpAny_callSpecial?_slot (name := Str.ofString "__next__") hit.typeIs slot_listiter_next
    (wpAny_call_entry slot_listiter_next hit.typeIs entry_listiter_next ?_ (args_listiter_next _))))
  show wpAny _ _ (field (.ref it) 0 >>= _) _ _ s
  refine wpAny_bind (wpAny_field ho hd (x := .ref l) rfl ?_)
  show wpAny _ _ (if (Value.ref l == Value.none) = true then _ else _) _ _ s
  rw [if_neg (show ¬ ((Value.ref l == Value.none) = true) from Bool.false_ne_true)]
  show wpAny _ _ (field (.ref it) 1 >>= _) _ _ s
  refine wpAny_bind (wpAny_field ho hd (x := .int i 0) rfl ?_)
  show wpAny _ _ (seqItems? (.ref l) >>= _) _ _ s
  refine wpAny_bind (wpAny_seqItems hol hdl ?_)
  simp only [Int.toNat_natCast, hx]
  refine wpAny_bind (wpAny_rule (wpAny_bind (wpAny_setField ho hd (by simp) ?_)))
  show wpAny _ _ (newExc (.type "StopIteration") [] >>= _) _ _ _
  refine wpAny_bind ?_
  simp only [newExc, newTuple]
  refine wpAny_bind (wpAny_newObj_type ?_ (by size_fits))
  refine wpAny_bind (m := firstArgMember _ _) (wpAny_of_eq (a := Value.none) (by first | rfl | (simp only [firstArgMember]; rfl)) ?_)
  refine wpAny_newObj_type ?_ (by size_fits)
  have hot1 := HotAt.keeps (h' := s.heap.update it (Obj.mapFields (·.setIfInBounds 0 .none))) hot fun o1 e => by rw [Heap.get?_update_other _ _ ne.symm]; exact e
  obtain ⟨hh, o1, vs1, h1, d1, c1⟩ := hot1
  refine raiseNew_hot ⟨hh, o1, vs1, Heap.get?_push_of_some _ (Heap.get?_push_of_some _ h1), d1, c1⟩ (Nat.ne_of_lt (Heap.lt_size (Heap.get?_push_of_some _ h1))) (Heap.get?_push_size _ rfl) rfl (by first | (simp; done) | (simp; omega) | (simp only [Array.size_append]; simp; omega)) ?_
  refine wpAny_bind (wpAny_isInstance (T := "StopIteration") (b := true) ⟨_, Heap.get?_update_self _ (Heap.get?_push_size _ rfl) rfl, rfl⟩ isSubtype_stop ?_)
  refine wpAny_pure (hQ _ fun b o e z => ?_)
  have z1 : (s.heap.update it (Obj.mapFields (·.setIfInBounds 0 .none))).get? b = some o := by rw [Heap.get?_update_other _ _ (Ne.symm e)]; exact z
  rw [Heap.get?_update_other _ _ (Nat.ne_of_gt (Heap.lt_size (Heap.get?_push_of_some _ z1)))]
  exact Heap.get?_push_of_some _ (Heap.get?_push_of_some _ z1)
theorem next_tuple_end_hot {it l x1 : Addr} {i : Nat} {items : Array Value} {Q : Option Value → Shared → Prop} (hot : HotAt A x1 s.heap)
    (hit : IsTupIter s.heap it l i) (hl : IsTup s.heap l items) (hx : items[i]? = none)
    (hQ : ∀ h', Heap.ExtBut it s.heap h' → Q none { s with heap := h' }) : wpAny (model prog w) A (pyNext (.ref it)) Q E s := by
  obtain ⟨o, ho, hc, hd⟩ := id hit
  obtain ⟨ol, hol, _, nl, hdl⟩ := hl
  have ne := HotAt.ne2 hot ho hd
  unfold pyNext
  refine wpAny_bind (wpAny_attempt (wpAny_callSpecial?_slot (name := Str.ofString "__next__") hit.typeIs slot_tupleiter_next
    (wpAny_call_entry slot_tupleiter_next hit.typeIs entry_tupleiter_next ?_ (args_tupleiter_next _))))
  show wpAny _ _ (field (.ref it) 0 >>= _) _ _ s
  refine wpAny_bind (wpAny_field ho hd (x := .ref l) rfl ?_)
  show wpAny _ _ (if (Value.ref l == Value.none) = true then _ else _) _ _ s
  rw [if_neg (show ¬ ((Value.ref l == Value.none) = true) from Bool.false_ne_true)]
  show wpAny _ _ (field (.ref it) 1 >>= _) _ _ s
  refine wpAny_bind (wpAny_field ho hd (x := .int i 0) rfl ?_)
  show wpAny _ _ (seqItems? (.ref l) >>= _) _ _ s
  refine wpAny_bind (wpAny_seqItems hol hdl ?_)
  simp only [Int.toNat_natCast, hx]
  refine wpAny_bind (wpAny_rule (wpAny_bind (wpAny_setField ho hd (by simp) ?_)))
  show wpAny _ _ (newExc (.type "StopIteration") [] >>= _) _ _ _
  refine wpAny_bind ?_
  simp only [newExc, newTuple]
  refine wpAny_bind (wpAny_newObj_type ?_ (by size_fits))
  refine wpAny_bind (m := firstArgMember _ _) (wpAny_of_eq (a := Value.none) (by first | rfl | (simp only [firstArgMember]; rfl)) ?_)
  refine wpAny_newObj_type ?_ (by size_fits)
  have hot1 := HotAt.keeps (h' := s.heap.update it (Obj.mapFields (·.setIfInBounds 0 .none))) hot fun o1 e => by rw [Heap.get?_update_other _ _ ne.symm]; exact e
  obtain ⟨hh, o1, vs1, h1, d1, c1⟩ := hot1
  refine raiseNew_hot ⟨hh, o1, vs1, Heap.get?_push_of_some _ (Heap.get?_push_of_some _ h1), d1, c1⟩ (Nat.ne_of_lt (Heap.lt_size (Heap.get?_push_of_some _ h1))) (Heap.get?_push_size _ rfl) rfl (by first | (simp; done) | (simp; omega) | (simp only [Array.size_append]; simp; omega)) ?_
  refine wpAny_bind (wpAny_isInstance (T := "StopIteration") (b := true) ⟨_, Heap.get?_update_self _ (Heap.get?_push_size _ rfl) rfl, rfl⟩ isSubtype_stop ?_)
  refine wpAny_pure (hQ _ fun b o e z => ?_)
  have z1 : (s.heap.update it (Obj.mapFields (·.setIfInBounds 0 .none))).get? b = some o := by rw [Heap.get?_update_other _ _ (Ne.symm e)]; exact z
  rw [Heap.get?_update_other _ _ (Nat.ne_of_gt (Heap.lt_size (Heap.get?_push_of_some _ z1)))]
  exact Heap.get?_push_of_some _ (Heap.get?_push_of_some _ z1)
theorem assign_tuple_hot {x1 : Addr} {env : Env} {elts : List Expr} {k : Nat} {pos : Pos} {t : Addr} {items : Array Value} {Q : Unit → Shared → Prop} (hot : HotAt A x1 s.heap) (ht : IsTup s.heap t items)
    (hn : (assignEach elts env).length = items.size) (hstar : (assignEach elts env).findIdx? (·.1) = none)
    (h : ∀ h', Heap.ExtBut s.heap.objs.size s.heap h' → wpAny (model prog w) A (assignInOrder ((assignEach elts env).map (·.2)) items.toList) Q E { s with heap := h' }) :
    wpAny (model prog w) A (assign (.Tuple elts k pos) env (.ref t)) Q E s := by
  have hlt : t ≠ s.heap.objs.size := by obtain ⟨o, ho, _⟩ := ht; exact Nat.ne_of_lt (Heap.lt_size ho)
  have hx1 : x1 ≠ s.heap.objs.size := by obtain ⟨_, o, _, ho, _⟩ := hot; exact Nat.ne_of_lt (Heap.lt_size ho)
  rw [assign_Tuple]
  refine wpAny_bind (wpAny_standAt ?_)
  unfold unpack
  rw [hn, hstar]
  refine wpAny_bind (wpAny_holding ?_)
  unfold unpackItems
  refine wpAny_bind ?_
  unfold notIterableAtAll
  refine wpAny_bind (wpAny_specialOf ht.typeIs slot_tuple_iter.lookup (wpAny_pure ?_))
  simp only [Bool.false_eq_true, if_false]
  refine wpAny_bind (wpAny_holding (iter_tuple ht ?_))
  refine wpAny_bind (wpAny_holding (draw_tuple hlt items.size 0 _ _ ⟨_, Heap.get?_push_size _ rfl, rfl, rfl⟩ (ht.push _) (by omega) fun h₁ it₁ s₁ => ?_))
  rw [show List.take items.size (List.drop 0 items.toList) = items.toList from by rw [List.drop_zero]; exact List.take_of_length_le (by simp)]
  rw [if_neg (by simp)]
  refine wpAny_bind (wpAny_holding (next_tuple_end_hot (x1 := x1) (HotAt.keeps hot fun o e => s₁.extBut x1 o hx1 (Heap.get?_push_of_some _ e)) it₁ ((ht.push _).extBut s₁.extBut hlt) (by simp) fun h₂ e₂ => ?_))
  simp only [Option.isSome_none, Bool.false_eq_true, if_false]
  exact wpAny_pure (h h₂ fun b o hb e => e₂ b o hb (s₁.extBut b o hb (Heap.get?_push_of_some _ e)))
end
end Cw
namespace Cw
open PySem PySem.Spec PyProof.Rows L2 HotX
/-! ## a comprehension over a list where an error is handled -/
/-- assigning where p, the handled error, is pinned -/
structure PGP (X : Cx) (p : Addr × Obj) (tg : Expr) (g : TG) : Prop where
  run : ∀ (pins : List (Addr × Obj)) (s : Shared) (σ : L2.St) (H : Hp) (v : V) (u : Value) (Q : L2.St → Hp → Prop), p ∈ X.pn ++ pins → Inv X pins σ H s → RelV v u → g v σ H Q →
    wpAny (model X.prog X.w) X.A (assign tg X.env u) (fun _ s' => ∃ σ' H', Inv X pins σ' H' s' ∧ Q σ' H') X.xe s
section
variable {X : Cx} {p : Addr × Obj}
theorem hotAt_of {pins : List (Addr × Obj)} {σ : L2.St} {H : Hp} {s : Shared} (hot : L2H.Hot1 X.A p) (hp : p ∈ X.pn ++ pins) (I : Inv X pins σ H s) : HotAt X.A p.1 s.heap := by
  obtain ⟨hh, vs, e, c⟩ := hot
  exact ⟨hh, p.2, vs, (I.pin p hp).1, e, c⟩
theorem pgp_tup {es : List Expr} {k : Nat} {t : TGs} {n : Nat} {pos : Pos} (hot : L2H.Hot1 X.A p) (h : PGs X es t)
    (hn : (assignEach es X.env).length = n := by rfl) (hst : (assignEach es X.env).findIdx? (·.1) = none := by rfl) : PGP X p (.Tuple es k pos) (gTup X.K n t) := by
  refine ⟨fun pins s σ H v u Q hp I r hw => ?_⟩
  obtain ⟨a, xs, e1, hq, hl, hw⟩ := hw
  subst e1
  cases r
  obtain ⟨its, rv, ht, hz⟩ := I.tuple hq
  refine assign_tuple_hot (hotAt_of hot hp I) ht (by simp [hn, ← hl, rv.length]) hst fun h' hx => ?_
  exact h.run pins _ σ H xs _ Q (I.kept (t' := s.toks) fun b o e => hx b o (Nat.ne_of_lt (Heap.lt_size e)) e) (by simpa using rv) hw
theorem lc_hot {pins : List (Addr × Obj)} {s : Shared} {σ : L2.St} {H : Hp} {Q : VK} {elt tg iter : Expr} {ifs : List Expr} {scope : Scope} {own : List (Str × Nat)} {pos pos' : Pos} {tl : TE} {g : TG} {tt : TT} {te : TE} {use : Option (Value → Sem Unit)} {Qf : Value → Shared → Prop}
    (hot : L2H.Hot1 X.A p) (hpn : p ∈ X.pn) (hN : X.N.Nodup) (I : Inv X pins σ H s) (hl : PE X iter tl) (ok : BlkOk X.N X.env.scope scope own)
    (hg : ∀ (s : Shared) (H : Hp) (C : Addr) (cl : List (Str × Addr)) (fp : List Addr), PGP (X.blk s H scope (compEnvC scope cl C X.env) fp) p tg g) (ht : ∀ (s : Shared) (H : Hp) (C : Addr) (cl : List (Str × Addr)) (fp : List Addr), PTs (X.blk s H scope (compEnvC scope cl C X.env) fp) ifs tt)
    (he : ∀ (s : Shared) (H : Hp) (C : Addr) (cl : List (Str × Addr)) (fp : List Addr), PE (X.blk s H scope (compEnvC scope cl C X.env) fp) elt te) (hs : ∀ x, foldedSetIterable iter X.env x = pure x)
    (h : tLc (iList X.K tl) g tt te (own.map (·.2)) σ H Q)
    (hRR : ∀ D C s' m H', Inv X pins σ H' s' → Q (.ref D) H' → s'.heap.Ns C m → FpOk X pins H' C → compPost (model X.prog X.w) X.A X.xe use Qf (.ref D) C (.ok .next) s') :
    wpAny (model X.prog X.w) X.A (comprehension (.ListComp elt [⟨tg, iter, ifs, 0⟩] scope pos) scope X.env pos' (newList []) false (eval iter X.env) use) Qf X.xe s := by
  have hfree : ∀ y ∈ scope.names, y.2 = .free → ∃ c, X.env.cells.lookup y.1 = some c := fun y hy e => (ok.free y hy e).elim (fun k => I.ok.has _ (.inl k)) fun k => I.ok.has _ (.inr k)
  refine wpAny_comprehension_free (use := use) rfl hs (closure_ok hfree) ok.kind (fun y hy e => by rw [ok.uniq y hy, e]) (thn (hl.run pins s σ H _ I h) fun v s1 ⟨x, H2, I1, r1, a, e1, hsq, q⟩ => ?_)
  subst e1
  cases r1
  obtain ⟨xs0, hq0⟩ := hsq
  obtain ⟨its0, rv0, p0, hz0⟩ := I1.list hq0
  refine wpAny_pyIter_list p0.isList ?_
  generalize hit : s1.heap.objs.size = it
  have fp1 : FpOk X pins H2 it := I1.fpOk (Nat.le_of_eq hit) (I1.hok.fresh (Nat.le_of_eq hit))
  generalize hs2 : ({ s1 with heap := s1.heap.push { cls := .type "list_iterator", data := .fields #[.ref a, .int 0 0] } } : Shared) = s2
  have I2 : Inv X pins σ H2 s2 := by
    rw [← hs2]
    exact I1.kept (t' := s1.toks) fun b o e => Heap.get?_push_of_some _ e
  have st2 : s2.heap.IsListIter it a 0 := by
    rw [← hs2, ← hit]
    exact ⟨_, Heap.get?_push_size _ rfl, rfl, rfl⟩
  have lt2 : it < s2.heap.objs.size := by
    obtain ⟨o, e, _⟩ := st2
    exact Heap.lt_size e
  refine wpAny_newObj_type (newEnv_comp ?_) (by show 0 ≤ sizeLine; decide)
  generalize hD : s2.heap.objs.size = D
  obtain ⟨W, ⟨m0, w0⟩, turn⟩ := q D (I2.hok.fresh (Nat.le_of_eq hD))
  generalize hs3 : ({ s2 with heap := s2.heap.push { cls := .type "list", data := .seq ([] : List Value).toArray } } : Shared) = s3
  have I3 : Inv X pins σ (upd H2 D (.lst [])) s3 := by
    rw [← hs3]
    refine I2.laid (t' := s2.toks) (fun b o e => Heap.get?_push_of_some _ e) (Nat.le_of_eq hD) ⟨Nat.zero_le _, [], 0, .nil, ?_⟩
    rw [← hD]
    exact Heap.get?_push_size _ rfl
  have h3 : s3.heap = s2.heap.push { cls := .type "list", data := .seq ([] : List Value).toArray } := by rw [← hs3]
  have f3 : ∀ b ∈ [it], FpOk X pins (upd H2 D (.lst [])) b ∧ b < s3.heap.objs.size := fun b hb => by
    obtain rfl : b = it := by simpa using hb
    refine ⟨⟨?_, fp1.2⟩, by rw [h3, Heap.size_push]; exact Nat.lt_succ_of_lt lt2⟩
    rw [upd_ne (by rw [← hD]; exact Nat.ne_of_lt lt2)]
    exact fp1.1
  have st3 : s3.heap.IsListIter it a 0 := by
    obtain ⟨o, e, r⟩ := st2
    exact ⟨o, by rw [h3]; exact Heap.get?_push_of_some _ e, r⟩
  have I4 := block_start I3 ok hN f3
  have pg := hg s3 (upd H2 D (.lst [])) s3.heap.objs.size (cellsFrom (s3.heap.objs.size + 1) scope.names (cloFrom X.env.cells scope.names [])) [it]
  have pt := ht s3 (upd H2 D (.lst [])) s3.heap.objs.size (cellsFrom (s3.heap.objs.size + 1) scope.names (cloFrom X.env.cells scope.names [])) [it]
  have pe := he s3 (upd H2 D (.lst [])) s3.heap.objs.size (cellsFrom (s3.heap.objs.size + 1) scope.names (cloFrom X.env.cells scope.names [])) [it]
  show codeAny _ _ (.compStart (.ListComp elt [⟨tg, iter, ifs, 0⟩] scope pos) 0 (.ref it) (.ref D) (compEnvC scope (cellsFrom (s3.heap.objs.size + 1) scope.names (cloFrom X.env.cells scope.names [])) s3.heap.objs.size X.env)) (compPost (model X.prog X.w) X.A X.xe use Qf (.ref D) s3.heap.objs.size) { s3 with heap := pushCells (s3.heap.push { cls := .type "dict", data := .dict #[] }) scope.names }
  generalize hce : compEnvC scope (cellsFrom (s3.heap.objs.size + 1) scope.names (cloFrom X.env.cells scope.names [])) s3.heap.objs.size X.env = ce at I4 pg pt pe ⊢
  have cL : ce.locals = s3.heap.objs.size := by subst hce; rfl
  generalize hH3 : upd H2 D (.lst []) = H3 at I3 I4 pg pt pe w0 f3
  have kp4 : ∀ b o, s3.heap.get? b = some o → (pushCells (s3.heap.push { cls := .type "dict", data := .dict #[] }) scope.names).get? b = some o := fun b o e => pushCells_keeps _ _ _ _ (Heap.get?_push_of_some _ e)
  generalize hs4 : ({ s3 with heap := pushCells (s3.heap.push { cls := .type "dict", data := .dict #[] }) scope.names } : Shared) = s4 at I4 ⊢
  have h4 : s4.heap = pushCells (s3.heap.push { cls := .type "dict", data := .dict #[] }) scope.names := by rw [← hs4]
  have st4 : s4.heap.IsListIter it a 0 := by
    obtain ⟨o, e, r⟩ := st3
    exact ⟨o, by rw [h4]; exact kp4 _ _ e, r⟩
  -- the handled error, pinned
  have hpp := I3.pin p (List.mem_append_left _ hpn)
  have pne : p.1 ≠ it := fp1.2.2.2.2.2 p (List.mem_append_left _ hpn)
  have I4p : Inv (X.blk s3 H3 scope ce [it]) [p] (wipe σ (own.map (·.2))) H3 s4 := I4.pins_of fun r hr => by
    obtain rfl : r = p := by simpa using hr
    refine ⟨by rw [h4]; exact kp4 _ _ hpp.1, hpp.2.1, ?_, fun z => ?_, hpp.2.2.2.2⟩
    · show r.1 ≠ ce.locals
      rw [cL]
      exact Nat.ne_of_lt (Heap.lt_size hpp.1)
    · rcases List.mem_cons.mp (I3.stkSub _ z) with e | e
      · exact hpp.2.2.1 e
      · exact hpp.2.2.2.1 e
  have stat : ∀ {σ' : L2.St} {H' : Hp} {s' : Shared}, Inv (X.blk s3 H3 scope ce [it]) [p] σ' H' s' → H' it = none → ∀ b ∈ [it], FpOk (X.blk s3 H3 scope ce [it]) [p] H' b := fun {σ' H' s'} I' hn b hb => by
    have e : b = it := by simpa using hb
    subst e
    refine ⟨hn, (I'.ok.exf b hb).1, I'.ok.exfs b hb, .inl hb, fun x c e => (I'.ok.exf b hb).2 x c e, fun r hr => ?_⟩
    have er : r = p := by simpa using (show r ∈ ([] : List (Addr × Obj)) ++ [p] from hr)
    subst er
    exact pne
  have loop : codeAny (model X.prog X.w) X.A (.compLoop (.ListComp elt [⟨tg, iter, ifs, 0⟩] scope pos) 0 (.ref it) (.ref D) ce) (compPost (model X.prog X.w) X.A X.xe use Qf (.ref D) s3.heap.objs.size) s4 := by
    refine compLoop_any (fun n s' => ∃ i H', Inv (X.blk s3 H3 scope ce [it]) [p] (wipe σ (own.map (·.2))) H' s' ∧ s'.heap.IsListIter it a i ∧ H' it = none ∧ W i n H') ?_ m0 ⟨0, H3, I4p, st4, (f3 it (by simp)).1.1, w0⟩
    rintro n s5 ⟨i, H5, I5, st5, n5, w5⟩
    obtain ⟨f0, f1, f2, f3', f4, f5⟩ := stat I5 n5 it (by simp)
    rcases turn i n H5 w5 with ⟨⟨xs, hq, hx⟩, qq⟩ | ⟨⟨xs, x, hq, hx⟩, Nx, hNx, step⟩
    · obtain ⟨its, rv, pl, hz⟩ := I5.list hq
      have hln := rv.length
      refine next_list_end_hot (x1 := p.1) (hotAt_of (X := X.blk s3 H3 scope ce [it]) hot (List.mem_append_right _ (by simp)) I5) st5 pl.isList (by simp; omega) fun h' eb => ?_
      have I6 : Inv (X.blk s3 H3 scope ce [it]) [p] (wipe σ (own.map (·.2))) H5 { s5 with heap := h' } := I5.turned (t' := s5.toks) (fun b o hb e => eb b o hb e) f0 f1 f3' f4 f5
      have I7 : Inv X pins σ H5 { s5 with heap := h' } := I3.call' (ch := [it]) I6.os I6.base I6.hok I6.bare fun b hb => ⟨(f3 b hb).1.2.2.2.1, (f3 b hb).1.2.1, (f3 b hb).1.2.2.2.2.1, (f3 b hb).1.2.2.2.2.2⟩
      have nC : H5 s3.heap.objs.size = none := by
        have z : H5 ce.locals = none := I6.free
        rw [cL] at z
        exact z
      obtain ⟨m, hn, _⟩ := I6.loc
      have hn : (({ s5 with heap := h' } : Shared).heap).Ns ce.locals m := hn
      rw [cL] at hn
      exact hRR D s3.heap.objs.size _ m H5 I7 qq hn (I3.fpOk (Nat.le_refl _) nC)
    · obtain ⟨its, rv, pl, hz⟩ := I5.list hq
      obtain ⟨u, hu, ru⟩ := rv.get hx
      refine wpAny_pyNext_list_item st5 pl.isList (x := u) (by simpa using hu) fun h' st6 sb => ?_
      have I6 : Inv (X.blk s3 H3 scope ce [it]) [p] (wipe σ (own.map (·.2))) H5 { s5 with heap := h' } := I5.turned (t' := s5.toks) (fun b o hb e => (sb.2 b hb).trans e) f0 f1 f3' f4 f5
      obtain ⟨oi, ei, ci, di⟩ := id st6
      have I6' := I6.pinned (stat I6 n5) (fun b hb => by
        obtain rfl : b = it := by simpa using hb
        exact ⟨oi, ei, fun v z => by rw [di] at z; cases z⟩)
      refine go_of (s := { s5 with heap := h' }) ei ci di (by decide) ?_
      refine thnF (pg.run _ { s5 with heap := h' } _ H5 x u _ (List.mem_append_right _ (List.mem_append_left _ (by simp))) I6' ru (step x H5 ⟨rfl, fun ys hy => by rw [I5.list_inj hy hq]; exact hx⟩)) fun _ s8 ⟨σ8, H8, I8, hw8, q8⟩ => ?_
      refine thnF (pt.run _ s8 σ8 H8 _ I8 q8) fun b s9 ⟨H9, I9, q9⟩ => ?_
      have fin : ∀ {s' : Shared} {H' : Hp}, Inv (X.blk s3 H3 scope ce [it]) ([p] ++ pinsAt [it] h') σ8 H' s' → Nx H' → ∃ m, m < n ∧ ∃ i H', Inv (X.blk s3 H3 scope ce [it]) [p] (wipe σ (own.map (·.2))) H' s' ∧ s'.heap.IsListIter it a i ∧ H' it = none ∧ W i m H' := fun {s' H'} I' nx => by
        obtain ⟨m', hm, w'⟩ := hNx H' nx
        have z := I'.pin (it, oi) (List.mem_append_right _ (List.mem_append_right _ (mem_pinsAt (by simp) ei)))
        refine ⟨m', hm, i + 1, H', (I'.unpinned (pins := [p])).weak (by rw [← hw8, wipe_length]) (fun j v e => ?_), ⟨oi, z.1, ci, di⟩, z.2.1, w'⟩
        rw [← hw8] at e
        exact (wipe_some e).1
      cases b with
      | false =>
        simp only [Bool.false_eq_true, if_false] at q9 ⊢
        exact fin I9 q9
      | true =>
        simp only [if_true] at q9 ⊢
        refine thnF (pe.run _ s9 σ8 H9 _ I9 q9) fun z s10 ⟨yv, H10, I10, r10, acc, hD10, hz10, nx⟩ => ?_
        exact app_ok (X := X.blk s3 H3 scope ce [it]) I10 hD10 hz10 r10 fun s11 I11 => fin I11 nx
  exact codeAny_compStart_list loop (wpAny_pyIter_listiter st4 loop)
theorem pe_lcH {elt tg iter : Expr} {ifs : List Expr} {scope : Scope} {own : List (Str × Nat)} {pos : Pos} {tl : TE} {g : TG} {tt : TT} {te : TE} (hot : L2H.Hot1 X.A p) (hpn : p ∈ X.pn) (hN : X.N.Nodup) (hl : PE X iter tl) (ok : BlkOk X.N X.env.scope scope own)
    (hg : ∀ (s : Shared) (H : Hp) (C : Addr) (cl : List (Str × Addr)) (fp : List Addr), PGP (X.blk s H scope (compEnvC scope cl C X.env) fp) p tg g) (ht : ∀ (s : Shared) (H : Hp) (C : Addr) (cl : List (Str × Addr)) (fp : List Addr), PTs (X.blk s H scope (compEnvC scope cl C X.env) fp) ifs tt)
    (he : ∀ (s : Shared) (H : Hp) (C : Addr) (cl : List (Str × Addr)) (fp : List Addr), PE (X.blk s H scope (compEnvC scope cl C X.env) fp) elt te) (hs : ∀ x, foldedSetIterable iter X.env x = pure x := by intro _; rfl) :
    PE X (.ListComp elt [⟨tg, iter, ifs, 0⟩] scope pos) (tLc (iList X.K tl) g tt te (own.map (·.2))) := by
  refine ⟨fun pins s σ H Q I h => ?_⟩
  rw [eval_ListComp]
  refine lc_hot hot hpn hN I hl ok hg ht he hs h fun D C s' m H' I' q hn f => ⟨m, hn, fun h'' sb => ?_⟩
  obtain ⟨f0, f1, f2, f3, f4, f5⟩ := f
  exact ⟨.ref D, H', I'.turned (t' := s'.toks) (fun b o hb e => (sb.2 b hb).trans e) f0 f1 f3 f4 f5, rfl, q⟩
end
end Cw
namespace Cw
open PySem L2
abbrev sTo : Stmt := top 26
/-- what catching and isinstance say of the classes -/
structure ErrX (K : PySem.W.Frag) (CI CC CE : Addr) : Prop where
  ei : PySem.W.exmOne K (.ref CI) (.ref CE) = some true
  ec : PySem.W.exmOne K (.ref CC) (.ref CE) = some true
  xi : ExcC K CI
  xc : ExcC K CC
  ii : PySem.W.kitOne K (.ref CI) (.ref CI) = some true
  ic : PySem.W.kitOne K (.ref CI) (.ref CC) = some false
  ci : PySem.W.kitOne K (.ref CC) (.ref CI) = some false
  cc : PySem.W.kitOne K (.ref CC) (.ref CC) = some true
def wT : Bool → Str
  | true => "row"
  | false => "change"
def wOf (N : Nat) : Str := if N ≤ 400 then ("fine" : Str) else ("row" : Str)
theorem wOf_fine {N : Nat} (h : N ≤ 400) : wOf N = "fine" := if_pos h
theorem wOf_row {N : Nat} (h : 400 < N) : wOf N = wT true := if_neg (by omega)
/-- what _law_told tells -/
def ToldAt (C : Addr) (H : Hp) (way : Int) (x y : V) (wd : Str) : Prop :=
  (way = 0 ∧ ∃ (a b : Addr) (ms ss : List Int) (l : Int), x = .ref a ∧ y = .ref b ∧ IL H a (ms ++ [l]) ∧ IL H b ss ∧ GoodL (l + 2) (ms ++ [l]) ss ∧ wd = wOf (ms.length + 1)) ∨
  (way = 1 ∧ ∃ (r g : Addr) (n : Int) (ms ss gs : List Int) (N : Nat), x = .ref r ∧ y = .ref g ∧ RowAt C H r n ms ss ∧ Good n ms ss ∧ IL H g gs ∧ gs.length ≤ 1000 ∧ (∃ L : List Int, L.length ≤ 1000 ∧ (∀ z ∈ ms, z ∈ L) ∧ ∀ z ∈ gs, z ∈ L) ∧ (∀ z ∈ gs, 1 ≤ z ∧ z ≤ n - 1) ∧ (∀ ms', Asc ms' → (∀ z, z ∈ ms' ↔ z ∈ ms ∨ z ∈ gs) → ms'.length = N) ∧ wd = wOf N) ∨
  ((way = 2 ∨ way = 3) ∧ ∃ (r r2 : Addr) (n n2 : Int) (ms ss ms2 ss2 : List Int), x = .ref r ∧ y = .ref r2 ∧ RowAt C H r n ms ss ∧ RowAt C H r2 n2 ms2 ss2 ∧ Good n ms ss ∧ Good n2 ms2 ss2 ∧ wd = wOf (ms.length + (if way = 2 then 1 else 0) + ms2.length)) ∨
  (way = 4 ∧ ∃ (r t m u : Addr) (n b e len : Int) (ms ss cs ds : List Int), x = .ref r ∧ y = .ref t ∧ RowAt C H r n ms ss ∧ H t = some (.tup [.int b, .int e, .int len, .ref m, .ref u]) ∧ IL H m cs ∧ IL H u ds ∧ Good n ms ss ∧ ChOkL n b e len cs ds ∧ (rep ms cs b e len (n - (e - b) + len)).length ≤ 1000 ∧
    wd = if cs.length ≤ 400 then wOf (rep ms cs b e len (n - (e - b) + len)).length else wT false)
def spTold (C : Addr) : Sp := fun vs H Q _ => ∃ (way : Int) (x y : V) (wd : Str), vs = [.int way, x, y] ∧ ToldAt C H way x y wd ∧ ∀ H', Same H H' → Q (.str wd) H'
/-- what join asks of its list -/
abbrev rJoin (K : PySem.W.Frag) : V → List V → Hp → VK → Prop := fun x xs H Q => ∃ a p, ∃ ys : List Str, x = .str a ∧ xs = [.ref p] ∧ (SqL K H p (ys.map V.str) ∨ SqT K H p (ys.map V.str)) ∧
      (ys.map (·.length)).sum + ys.length * a.length ≤ 16777216 ∧ Q (.str (Txt.join a ys)) H
/-- what the suite of _law_told wishes -/
abbrev tsT (K : PySem.W.Frag) (CI CC : Addr) (a : Addr) (cls : Value) (d : Option Addr) : TS :=
  tSeq (tAsg (tLst (tCons (tTup (tCons (tC (.str "row")) (tCons (tCB (rIsE2 K cls d a) (tCons (tVar 3) (tCons (tC (.ref CI)) tNil))) tNil))) (tCons (tTup (tCons (tC (.str "change")) (tCons (tCB (rIsE2 K cls d a) (tCons (tVar 3) (tCons (tC (.ref CC)) tNil))) tNil))) tNil))) (gName 4))
    (tRet (tM1 (rJoin K) (tC (.str " ")) (tLc (iList K (tVar 4)) (gTup K 2 (gCons (gName 5) (gCons (gName 6) gNil))) (tB (tVar 6)) (tVar 5) [5, 6])))
theorem hot_suite {X : Cx} {a : Addr} {oe : Obj} {pn : List (Addr × Obj)} {cls : Value} {d : Option Addr} (hz : L2N.Zn cls d oe) (hf : ∃ vs, oe.data = .fields vs) : L2H.Hot1 (X.suite a ((a, oe) :: pn)).A (a, oe) := by
  obtain ⟨vs, e⟩ := hf
  exact ⟨rfl, vs, e, hz.2.2 vs e⟩
theorem takes0N {X : Cx} : L2N.Takes X (fun _ _ _ _ => False) := fun _ _ x => by
  obtain ⟨_, _, _, _, _, _, _, _, _, _, _, _, _, _, _, _, z⟩ := x
  exact z.elim
abbrev accT (one : Bool) (i : Nat) : List V := if i = 0 then [] else if i = 1 then (if one then [.str "row"] else []) else [.str (wT one)]
/-- what the suite of _law_told answers -/
theorem told_suite {K : PySem.W.Frag} {CI CC Z a : Addr} {one : Bool} (XC : ExcC K Z) (e1 : PySem.W.kitOne K (.ref Z) (.ref CI) = some one) (e2 : PySem.W.kitOne K (.ref Z) (.ref CC) = some (!one)) {D : Ends} {v0 v1 v2 v4 v5 v6 : Option V} {H : Hp}
    (k : ∀ H', Same H H' → D.rt (.str (wT one)) H') : tsT K CI CC a (.ref Z) none D [v0, v1, v2, some (.ref a), v4, v5, v6] H := by
  refine ⟨.ref a, rfl, Z, .ref CI, .ref CI, one, rfl, rfl, XC, rfl, (fun u r => by cases r; rfl), e1, small1000 (by show (1 : Nat) ≤ 1000; decide), fun p hp => ?_⟩
  refine ⟨.ref a, rfl, Z, .ref CC, .ref CC, !one, rfl, rfl, XC, rfl, (fun u r => by cases r; rfl), e2, small1000 (by show (1 : Nat) ≤ 1000; decide), fun p2 hp2 => ?_⟩
  refine ⟨small1000 (by show (1 : Nat) ≤ 1000; decide), fun q hq => ?_⟩
  have s1 : Same H (upd H p (.tup [.str "row", .bl one])) := same_new (Same.refl H) hp
  have s2 := same_new (o := .tup [.str "change", .bl !one]) s1 hp2
  have s3 := same_new (o := .lst [.ref p, .ref p2]) s2 hq
  have hP2 : (upd (upd (upd H p (.tup [.str "row", .bl one])) p2 (.tup [.str "change", .bl !one])) q (.lst [.ref p, .ref p2])) p2 = some (.tup [.str "change", .bl !one]) := by
    rw [upd_ne (fun z => by subst z; rw [upd_same] at hq; cases hq), upd_same]
  have hP1 : (upd (upd (upd H p (.tup [.str "row", .bl one])) p2 (.tup [.str "change", .bl !one])) q (.lst [.ref p, .ref p2])) p = some (.tup [.str "row", .bl one]) := by
    have n1 : p ≠ p2 := fun z => by subst z; rw [upd_same] at hp2; cases hp2
    rw [upd_ne (fun z => by subst z; rw [upd_ne n1, upd_same] at hq; cases hq), upd_ne n1, upd_same]
  refine ⟨⟨_, rfl⟩, .ref q, rfl, q, rfl, ⟨_, SqL.of upd_same⟩, fun D2 hD => ?_⟩
  generalize hH3 : upd (upd (upd H p (.tup [.str "row", .bl one])) p2 (.tup [.str "change", .bl !one])) q (.lst [.ref p, .ref p2]) = H3 at s3 hP1 hP2 hD ⊢
  have hQ : H3 q = some (.lst [.ref p, .ref p2]) := by rw [← hH3, upd_same]
  refine lc_list (K := K) (a := q) (xs := [.ref p, .ref p2]) (fun i H' => Same H3 H' ∧ H' D2 = some (.lst (accT one i))) ⟨same_new (Same.refl H3) hD, upd_same⟩ (fun i H' _ z => SqL.of (z.1 _ _ hQ)) ?_ ?_
  · rintro i x H' hx ⟨sm, hE⟩
    have ix : (i = 0 ∧ x = .ref p) ∨ (i = 1 ∧ x = .ref p2) := by
      match i, hx with
      | 0, hx => exact .inl ⟨rfl, by cases hx; rfl⟩
      | 1, hx => exact .inr ⟨rfl, by cases hx; rfl⟩
      | n + 2, hx => cases hx
    have step : ∀ (pp : Addr) (wd : Str) (c : Bool), x = .ref pp → H3 pp = some (.tup [.str wd, .bl c]) → (c = true → accT one (i + 1) = accT one i ++ [.str wd]) → (c = false → accT one (i + 1) = accT one i) → (accT one i).length ≤ 1 →
        gTup K 2 (gCons (gName 5) (gCons (gName 6) gNil)) x (wipe [v0, v1, v2, some (.ref a), some (.ref q), v5, v6] [5, 6]) H' fun σ2 H2 => wipe σ2 [5, 6] = wipe [v0, v1, v2, some (.ref a), some (.ref q), v5, v6] [5, 6] ∧ tB (tVar 6) σ2 H2 fun b H3' =>
          if b = true then tVar 5 σ2 H3' fun y H4 => ∃ acc, H4 D2 = some (.lst acc) ∧ acc.length < sizeLine ∧ Same H3 (upd H4 D2 (.lst (acc ++ [y]))) ∧ upd H4 D2 (.lst (acc ++ [y])) D2 = some (.lst (accT one (i + 1))) else Same H3 H3' ∧ H3' D2 = some (.lst (accT one (i + 1))) := by
      rintro pp wd c rfl hp ct cf ln
      refine ⟨pp, _, rfl, SqT.of (sm _ _ hp), rfl, _, _, rfl, _, _, rfl, rfl, ?_, _, rfl, c, rfl, ?_⟩
      · rfl
      · cases c with
        | true =>
          refine ifT rfl ⟨_, rfl, ?_⟩
          exact ⟨_, hE, small1000 (by omega), same_put sm hD, by rw [upd_same, ct rfl]⟩
        | false => exact iteF ⟨sm, by rw [cf rfl]; exact hE⟩
    rcases ix with ⟨rfl, rfl⟩ | ⟨rfl, rfl⟩
    · exact step p _ one rfl hP1 (fun c => by subst c; rfl) (fun c => by subst c; rfl) (Nat.zero_le _)
    · exact step p2 _ (!one) rfl hP2 (fun c => by cases one <;> first | rfl | cases c) (fun c => by cases one <;> first | rfl | cases c) (by cases one <;> decide)
  · rintro H' ⟨sm, hE⟩
    refine ⟨" ", D2, [wT one], rfl, rfl, .inl (SqL.of hE), ?_, ?_⟩
    · cases one <;> decide
    · have e : Txt.join " " [wT one] = wT one := by cases one <;> decide
      rw [e]
      exact k _ (s3.trans sm)
theorem told_raiseI {K : PySem.W.Frag} {CI CC CE : Addr} (X : ErrX K CI CC CE) {D : Ends} {v0 v1 v2 v3 v4 v5 v6 : Option V} {H : Hp} (k : ∀ H', Same H H' → D.rt (.str (wT true)) H') :
    wAs K (.ref CE) 3 (tsT K CI CC) (fun _ _ _ _ => False) D (.ref CI) none [v0, v1, v2, v3, v4, v5, v6] H :=
  ⟨true, X.ei, fun _ a _ => told_suite X.xi X.ii X.ic k, fun q => nomatch q⟩
theorem told_raiseC {K : PySem.W.Frag} {CI CC CE : Addr} (X : ErrX K CI CC CE) {D : Ends} {v0 v1 v2 v3 v4 v5 v6 : Option V} {H : Hp} (k : ∀ H', Same H H' → D.rt (.str (wT false)) H') :
    wAs K (.ref CE) 3 (tsT K CI CC) (fun _ _ _ _ => False) D (.ref CC) none [v0, v1, v2, v3, v4, v5, v6] H :=
  ⟨true, X.ec, fun _ a _ => told_suite X.xc X.ci X.cc k, fun q => nomatch q⟩
section
variable {P : Program} {w : World} {K : PySem.W.Frag} {mg : Str → Option Value} {base : Heap}
abbrev NTo : List Str := ["way", "one", "two", "e", "some", "word", "is_one"]
theorem scTo : FnScope NTo ["way", "one", "two"] (defScope sTo) := ⟨rfl, rfl, rfl, by decide +kernel, rfl, by decide +kernel, by decide +kernel⟩
theorem ok_to {f C CI CC CE fI fW fJ fC : Addr} {fd fdI fdW fdJ fdC : FuncData} (F : Fun K "_law_told" "_law_told" sTo f fd) (T : Bl mg) (R : Cl K mg C) (M : Mk K C fI) (EI : ErrC K mg CI "InvalidRow") (EC : ErrC K mg CC "InvalidChange") (EE : ErrC K mg CE "CutError") (X : ErrX K CI CC CE) (bI : Binds K fdI NI []) (GI : FnOk P w K mg base (L2N.CX P w) 5 fI fdI NI (spInitX C CI)) (mW : Meth K C "with_marks" fW) (bW : Binds K fdW ["self", "places", "is_strict"] []) (GW : FnOk P w K mg base (L2N.CX P w) 7 fW fdW ["self", "places", "is_strict"] (spWithX C CI)) (mJ : Meth K C "joined" fJ) (bJ : Binds K fdJ ["self", "other", "kind"] []) (GJ : FnOk P w K mg base (L2N.CX P w) 7 fJ fdJ ["self", "other", "kind"] (spJoinX C CI)) (mC : Meth K C "changed" fC) (bC : Binds K fdC ["self", "change"] []) (GC : FnOk P w K mg base (L2N.CX P w) 7 fC fdC ["self", "change"] (spChangedX C CI CC)) :
    FnOk P w K mg base CX0 8 f fd ["way", "one", "two"] (spTold C) := by
  refine F.ok scTo (fun vs H Q E h => ?_) (fun cdv A outer s H vs Q E hr h => ?_)
  · obtain ⟨way, x, y, wd, rfl, _⟩ := h
    rfl
  · obtain ⟨way, x, y, wd, rfl, TA, q⟩ := h
    refine ⟨_, (pss_cons (L2N.ps_try_as (ts := tsT K CI CC) (i := 3) rfl rfl scTo.nd rfl rfl ⟨rfl, by decide, .inl EE.g⟩ takes0N (fun W pn xe tk _ => (pss_one (ps_if (pt_cmpR op_eq (pv 0) pe_int (nomark _)) (pss_one (ps_expr (pe_makS M GI (hr.mono (by decide)) rfl R.mgR bI (fun σ => L2N.passAt tk σ) (pa_cons (pe_op op_add (pe_ix (r := rIxL K) ix_list (pv 1) (pe_un un_neg pe_int) (fun _ _ => rfl)) pe_int) (pa_cons (pv 1) (pa_cons (pv 2) pa_nil)))))) (pss_one (ps_if (pt_cmpR op_eq (pv 0) pe_int (nomark _)) (pss_one (ps_expr (pe_mthS (pv 1) R.cl mW GW (hr.mono (by decide)) bW (fun σ => L2N.passAt tk σ) (pa_cons (pv 2) (pa_cons pe_bl pa_nil))))) (pss_one (ps_if (pt_cmpR op_eq (pv 0) pe_int (nomark _)) (pss_one (ps_expr (pe_mthS (pv 1) R.cl mJ GJ (hr.mono (by decide)) bJ (fun σ => L2N.passAt tk σ) (pa_cons (pv 2) (pa_cons pe_str pa_nil))))) (pss_one (ps_if (pt_cmpR op_eq (pv 0) pe_int (nomark _)) (pss_one (ps_expr (pe_mthS (pv 1) R.cl mJ GJ (hr.mono (by decide)) bJ (fun σ => L2N.passAt tk σ) (pa_cons (pv 2) (pa_cons pe_str pa_nil))))) (pss_one (ps_expr (pe_mthS (pv 1) R.cl mC GC (hr.mono (by decide)) bC (fun σ => L2N.passAt tk σ) (pa_cons (pv 2) pa_nil)))))))))))))
      (fun a oe cls d pn hz hf => (pss_cons (ps_set (i := 4) scTo.nd rfl (Or.inl rfl) (pe_lst (pa_cons (pe_tup (pa_cons pe_str (pa_cons (pe_callB (show CallR _ (.builtin "isinstance") (rIsE2 K cls d a) from call_isE2 hz.zc hf) (by rfl) T.isi (by decide +kernel) (pa_cons (pv 3) (pa_cons (pe_glob (by rfl) EI.g (v := V.ref CI) rfl) pa_nil))) pa_nil))) (pa_cons (pe_tup (pa_cons pe_str (pa_cons (pe_callB (show CallR _ (.builtin "isinstance") (rIsE2 K cls d a) from call_isE2 hz.zc hf) (by rfl) T.isi (by decide +kernel) (pa_cons (pv 3) (pa_cons (pe_glob (by rfl) EC.g (v := V.ref CC) rfl) pa_nil))) pa_nil))) pa_nil))))
        (pss_one (ps_ret (pe_join pe_str (pe_lcH (own := [("word", 5), ("is_one", 6)]) (g := (gTup K 2 (gCons (gName 5) (gCons (gName 6) gNil)))) (hot_suite hz hf) List.mem_cons_self scTo.nd (pv 4) (blkOk_by (own := [("word", 5), ("is_one", 6)]) (N := NTo) (sc := defScope sTo) (by decide +kernel)) (fun _ _ _ _ _ => (pgp_tup (hot_suite (pn := pn) hz hf) (pgs_cons (pg_name (i := 5) scTo.nd rfl (Or.inl rfl)) (pgs_cons (pg_name (i := 6) scTo.nd rfl (Or.inl rfl)) pgs_nil)))) (fun _ _ _ _ _ => (pts_one (pt_val (pv 6)))) (fun _ _ _ _ _ => (pv 5)))))))))
        (pss_one (ps_ret pe_str))), ?_⟩
    rcases TA with ⟨rfl, a, b, ms, ss, l, rfl, rfl, ha, hb, G, rfl⟩ | ⟨rfl, r, g, n, ms, ss, gs, N, rfl, rfl, hr', Gd, hg, lg, hL, rg, hN, rfl⟩ | ⟨hw, r, r2, n, n2, ms, ss, ms2, ss2, rfl, rfl, h1, h2, G1, G2, rfl⟩ | ⟨rfl, r, t, m, u, n, b, e, len, ms, ss, cs, ds, rfl, rfl, h1, ht, hm, hu, G1, Co, hl, rfl⟩
    · refine ⟨_, rfl, rfl, _, rfl, ifT (dec_int.trans (by decide)) ?_⟩
      refine ⟨_, rfl, _, rfl, a, _, -1, .int l, rfl, rfl, SqL.of ha, ?_, _, _, rfl, rfl, _, rfl, _, rfl, fun p dx hp hd ne => ?_⟩
      · have z0 : ixN ((ms ++ [l]).map V.int).length (-1) = some ms.length := by
          rw [List.length_map, List.length_append]
          unfold ixN
          rw [if_neg (by omega), if_pos (by have z : [l].length = 1 := rfl; omega)]
          congr 1
          have z : [l].length = 1 := rfl
          omega
        unfold atI
        rw [z0]
        show ((ms ++ [l]).map V.int)[ms.length]? = _
        rw [List.getElem?_map, List.getElem?_append_right (Nat.le_refl _), Nat.sub_self]
        rfl
      have s1 : Same H (upd (upd H dx (.own p)) p (.ins C dx [])) := same_new (same_new (Same.refl H) hd) (by rw [upd_ne ne.symm]; exact hp)
      refine ⟨p, dx, a, b, l + 2, ms ++ [l], ss, rfl, upd_same, s1 _ _ ha, s1 _ _ hb, G, fun hle H2 _ k2 => ⟨rfl, ?_⟩, fun hgt H2 s2 => ?_⟩
      · have e : wOf (ms.length + 1) = "fine" := wOf_fine (by rw [List.length_append] at hle; exact hle)
        have r := q H2 (fun c o z => k2 c o (s1 _ _ z) (fun y => by subst y; rw [hp] at z; cases z))
        rw [e] at r
        exact r
      · refine told_raiseI X fun H3 s3 => ?_
        have e : wOf (ms.length + 1) = wT true := wOf_row (by rw [List.length_append] at hgt; exact hgt)
        have r := q H3 ((s1.trans s2).trans s3)
        rw [e] at r
        exact r
    · refine ⟨_, rfl, rfl, _, rfl, ifF (dec_int.trans (by decide)) ⟨_, rfl, rfl, _, rfl, ifT (dec_int.trans (by decide)) ?_⟩⟩
      obtain ⟨dx, l1, l2, z1, z2, z3⟩ := id hr'
      refine ⟨_, rfl, r, dx, flds n l1 l2, rfl, z1, rfl, _, rfl, r, g, true, n, ms, ss, gs, rfl, hr', Gd, hg, lg, hL, rg, fun p H2 ms' ss' s2 G2 m2 _ _ => ?_, fun H2 ms' s2 as m2 gt => ?_⟩
      · have e : wOf N = "fine" := wOf_fine (by rw [← hN ms' G2.asc m2]; exact G2.len)
        have r := q H2 s2
        rw [e] at r
        exact r
      · refine told_raiseI X fun H3 s3 => ?_
        have e : wOf N = wT true := wOf_row (by rw [← hN ms' as m2]; exact gt)
        have r := q H3 (s2.trans s3)
        rw [e] at r
        exact r
    · have e1 : decide (V.int way = V.int 0) = false := dec_int.trans (by rcases hw with rfl | rfl <;> decide)
      have e2 : decide (V.int way = V.int 1) = false := dec_int.trans (by rcases hw with rfl | rfl <;> decide)
      obtain ⟨dx, l1, l2, z1, z2, z3⟩ := id h1
      refine ⟨_, rfl, rfl, _, rfl, ifF e1 ⟨_, rfl, rfl, _, rfl, ifF e2 ⟨_, rfl, rfl, _, rfl, ?_⟩⟩⟩
      rcases hw with rfl | rfl
      · refine ifT (dec_int.trans (by decide)) ⟨_, rfl, r, dx, flds n l1 l2, rfl, z1, rfl, _, rfl, r, r2, n, n2, ms, ss, ms2, ss2, "plain", rfl, h1, h2, G1, G2, .inr (.inl rfl), ?_, fun le p H2 s2 _ => ?_, fun gt H2 s2 => ?_⟩
        · have z1 := G1.len
          have z2 := G2.len
          omega
        · have e : wOf (ms.length + 1 + ms2.length) = "fine" := wOf_fine (by rw [if_neg (by decide)] at le; simp at le; omega)
          have r := q H2 s2
          rw [if_pos rfl, e] at r
          exact r
        · refine told_raiseI X fun H3 s3 => ?_
          have e : wOf (ms.length + 1 + ms2.length) = wT true := wOf_row (by rw [if_neg (by decide)] at gt; simp at gt; omega)
          have r := q H3 (s2.trans s3)
          rw [if_pos rfl, e] at r
          exact r
      · refine ifF (dec_int.trans (by decide)) ⟨_, rfl, rfl, _, rfl, ifT (dec_int.trans (by decide)) ⟨_, rfl, r, dx, flds n l1 l2, rfl, z1, rfl, _, rfl, r, r2, n, n2, ms, ss, ms2, ss2, "none", rfl, h1, h2, G1, G2, .inl rfl, ?_, fun le p H2 s2 _ => ?_, fun gt H2 s2 => ?_⟩⟩
        · have z1 := G1.len
          have z2 := G2.len
          omega
        · have e : wOf (ms.length + 0 + ms2.length) = "fine" := wOf_fine (by simpa using le)
          have r := q H2 s2
          rw [if_neg (by decide), e] at r
          exact r
        · refine told_raiseI X fun H3 s3 => ?_
          have e : wOf (ms.length + 0 + ms2.length) = wT true := wOf_row (by simpa using gt)
          have r := q H3 (s2.trans s3)
          rw [if_neg (by decide), e] at r
          exact r
    · obtain ⟨dx, l1, l2, z1, z2, z3⟩ := id h1
      refine ⟨_, rfl, rfl, _, rfl, ifF (dec_int.trans (by decide)) ⟨_, rfl, rfl, _, rfl, ifF (dec_int.trans (by decide)) ⟨_, rfl, rfl, _, rfl, ifF (dec_int.trans (by decide)) ⟨_, rfl, rfl, _, rfl, ifF (dec_int.trans (by decide)) ?_⟩⟩⟩⟩
      refine ⟨_, rfl, r, dx, flds n l1 l2, rfl, z1, rfl, _, rfl, r, t, m, u, n, b, e, len, ms, ss, cs, ds, rfl, h1, ht, hm, hu, G1, Co, hl, fun gt H2 s2 => ?_, fun lc le p H2 s2 _ => ?_, fun lc gt H2 s2 => ?_⟩
      · refine told_raiseC X fun H3 s3 => ?_
        have r := q H3 (s2.trans s3)
        rw [if_neg (by omega)] at r
        exact r
      · have r := q H2 s2
        rw [if_pos lc, wOf_fine le] at r
        exact r
      · refine told_raiseI X fun H3 s3 => ?_
        have r := q H3 (s2.trans s3)
        rw [if_pos lc, wOf_row gt] at r
        exact r
end
end Cw
namespace Cw
open PySem L2
abbrev sSp : Stmt := top 25
def spSpots : Sp := fun vs H Q _ => ∃ (a : Addr) (k N : Nat), vs = [.ref a, .int N] ∧ JarAt H a (k + N + 1) ∧ N ≤ 402 ∧ ∀ (p : Addr) (ns : List Int) (H' : Hp), H p = none → ns.length = N → Asc ns → (∀ z ∈ ns, 1 ≤ z) → JarAt H' a k → But H H' a → IL H' p ns → Q (.ref p) H'
theorem asc_end {ms : List Int} {z : Int} (h : Asc ms) (k : ∀ x ∈ ms, x < z) : Asc (ms ++ [z]) := by
  rw [Asc, List.pairwise_append]
  refine ⟨h, List.pairwise_singleton _ _, fun x hx y hy => ?_⟩
  rw [List.mem_singleton.mp hy]
  exact k x hx
theorem rest_oZ {C R : Int → Prop} {G : Prop} (a : (∀ x, C x → R x) → G) (b : ∀ x, C x → R x) : G := a b
theorem wide_at {w : Int} (h0 : 0 ≤ w) (h3 : w < 3) : ∃ wd : Int, atI [V.int 1, V.int 3, V.int (10 ^ (20 : Int).toNat)] w = some (.int wd) ∧ 0 < wd ∧ wd < 2 ^ 120 := by
  obtain rfl | rfl | rfl : w = 0 ∨ w = 1 ∨ w = 2 := by omega
  · exact ⟨1, rfl, by decide, by decide +kernel⟩
  · exact ⟨3, rfl, by decide, by decide +kernel⟩
  · exact ⟨_, rfl, by decide +kernel, by decide +kernel⟩
section
variable {P : Program} {w : World} {K : PySem.W.Frag} {mg : Str → Option Value} {base : Heap}
abbrev NSp : List Str := ["jar", "many", "found", "wide", "turn"]
theorem scSp : FnScope NSp ["jar", "many"] (defScope sSp) := ⟨rfl, rfl, rfl, by decide +kernel, rfl, by decide +kernel, by decide +kernel⟩
theorem ok_sp {f fD : Addr} {fd fdD : FuncData} (F : Fun K "_law_spots" "_law_spots" sSp f fd) (T : Bl mg)
    (gD : mg "_law_dip" = some (.ref fD)) (kD : PySem.W.keepIn K (.ref fD) = true) (bD : Binds K fdD ["jar", "many"] []) (GD : FnOk P w K mg base CX0 1 fD fdD ["jar", "many"] spDip) :
    FnOk P w K mg base CX0 3 f fd ["jar", "many"] (spSpots) := by
  refine F.ok scSp (fun vs H Q E h => ?_) (fun cdv A outer s H vs Q E hr h => ?_)
  · obtain ⟨a, k, N, rfl, _⟩ := h
    rfl
  · obtain ⟨a, k, N, rfl, J, hN, q⟩ := h
    refine ⟨_, (pss_cons (ps_par (i := 2) (j := 3) rfl scSp.nd rfl rfl (by decide) rfl rfl (pa_cons (pe_lst pa_nil) (pa_cons (pe_ix (r := rIxL K) ix_list (pe_lst (pa_cons pe_int (pa_cons pe_int (pa_cons (pe_op op_pow pe_int pe_int) pa_nil)))) (pe_call GD (hr.mono (by decide)) rfl gD kD bD .nil pass0 (pa_cons (pv 0) (pa_cons pe_int pa_nil))) (fun _ _ => rfl)) pa_nil)) (by rfl))
        (pss_cons (ps_for PassesOwn.never rfl (pi_range1 (by rfl) T.range (pa_cons (pv 1) pa_nil)) (pg_name (i := 4) scSp.nd rfl (Or.inl rfl))
        (pss_one (ps_expr (pe_bm PySem.F.plainAttrs_list PySem.F.slot_list_append PySem.F.type_list_append mt_append (pv 2) (pa_cons (pe_op op_add (pe_op op_add (pe_ifExp (pt_cmpR (op_neD hr.units) (pv 2) (pe_lst pa_nil) (nomark _)) (pe_ix (r := rIxL K) ix_list (pv 2) (pe_un un_neg pe_int) (fun _ _ => rfl)) pe_int) pe_int) (pe_call GD (hr.mono (by decide)) rfl gD kD bD .nil pass0 (pa_cons (pv 0) (pa_cons (pv 3) pa_nil)))) pa_nil)))))
        (pss_one (ps_ret (pv 2))))), ?_⟩
    refine ⟨Nat.zero_le _, fun L hL => ?_⟩
    have nLa : L ≠ a := (J.ne hL).symm
    have J1 : JarAt (upd H L (.lst [])) a (k + N + 1) := J.put nLa.symm
    have parts : ∀ ns : List Int, ns = [] ∨ ∃ xs z, ns = xs ++ [z] := fun ns => by
      by_cases c : ns = []
      · exact .inl c
      · exact .inr ⟨ns.dropLast, ns.getLast c, (List.dropLast_concat_getLast c).symm⟩
    refine ⟨_, _, rfl, rfl, ⟨by decide, by decide, by decide⟩, by show (3 : Nat) ≤ sizeLine; decide, fun p3 hp3 => ?_⟩
    have n3a : p3 ≠ a := (J1.ne hp3).symm
    have n3L : L ≠ p3 := fun z => by subst z; rw [upd_same] at hp3; cases hp3
    refine ⟨_, rfl, a, k + N, 3, rfl, J1.put n3a.symm, by decide, by decide, fun w H1 w0 w3 J2 B2 => ?_⟩
    obtain ⟨wd, aw, wd0, wd1⟩ := wide_at w0 w3
    refine ⟨p3, _, w, .int wd, rfl, rfl, SqL.of (B2 _ _ upd_same n3a), aw, _, _, rfl, ?_⟩
    have hL1 : IL H1 L [] := B2 _ _ (by rw [upd_ne n3L, upd_same]; rfl) nLa
    have B1 : But H H1 a := (((But.refl H a).new hL).new hp3).trans B2
    try dsimp only [L2.start, List.set, List.map, List.append, List.replicate, List.length]
    refine ⟨_, rfl, _, rfl, by omega, by omega, ?_⟩
    refine for_range (lo := 0) (n := N) (fun j σ H' => ∃ (v2 : Option V) (ns : List Int), σ = [some (.ref a), some (.int N), some (.ref L), some (.int wd), v2] ∧ JarAt H' a (k + (N - j)) ∧ But H H' a ∧ IL H' L ns ∧ ns.length = j ∧ Asc ns ∧ (∀ x ∈ ns, 1 ≤ x))
      ⟨_, [], rfl, J2, B1, hL1, rfl, List.Pairwise.nil, fun _ h => (nomatch h)⟩ ?_ ?_
    · rintro j σ H2 hj ⟨v2, ns, rfl, J2, B2, hN', hNl, asc, rng⟩
      have Kd : JarAt H2 a (k + (N - (j + 1)) + 1) := J2.mono (by omega)
      generalize k + (N - (j + 1)) = kj at Kd ⊢
      try dsimp only [L2.start, List.set, List.map, List.append, List.replicate, List.length]
      refine ⟨_, rfl, .inl ⟨rfl, _, SqL.of hN'⟩, ?_⟩
      refine ⟨_, rfl, Nat.zero_le _, fun E0 hE0 => ?_⟩
      have s3 := same_new (o := .lst []) (Same.refl H2) hE0
      have e0 : IL (upd H2 E0 (.lst [])) E0 [] := upd_same
      generalize upd H2 E0 (.lst []) = H3 at s3 e0 ⊢
      have hN3 := s3 _ _ hN'
      have K3 := Kd.same s3
      apply rest_oZ (C := fun v => (∀ x ∈ ns, x ≤ v) ∧ 0 ≤ v)
      · intro rest
        refine ⟨_, _, dp_il hN3, dp_il (ns := []) e0, shape_il _, shape_il [], _, rfl, ?_⟩
        have ev : PyData.eqv (.list (ns.map PyData.int)) (.list (([] : List Int).map PyData.int)) = decide (ns = []) := by
          cases ns <;> rfl
        rw [ev]
        obtain em | ⟨xs, z, em⟩ := (parts ns).symm.symm
        rotate_left
        · refine ifT (by rw [em]; simp) ?_
          have at1 : atI (ns.map V.int) (-1) = some (V.int z) := by
            rw [em, List.map_append]
            exact atI_last _ _
          refine ⟨_, rfl, _, rfl, L, _, _, _, rfl, rfl, SqL.of hN3, at1, ?_⟩
          have rz := rng z (by rw [em]; simp)
          have up : ∀ x ∈ ns, x ≤ z := fun x hx => by
            rw [em] at hx asc
            rcases List.mem_append.mp hx with hx | hx
            · have := (List.pairwise_append.mp asc).2.2 x hx z (List.mem_singleton.mpr rfl)
              omega
            · rw [List.mem_singleton.mp hx]
              omega
          exact rest z ⟨up, by omega⟩
        · refine ifF (by rw [em]; rfl) ?_
          exact rest 0 ⟨fun x hx => (by rw [em] at hx; cases hx), by omega⟩
      rintro v ⟨up, v0⟩
      refine ⟨_, _, rfl, rfl, _, rfl, _, rfl, a, _, _, rfl, K3, wd0, wd1, fun u G u0 u1 K4 C4 => ⟨_, _, rfl, rfl, ?_⟩⟩
      have hN4 := C4 _ _ hN3 nLa
      refine ⟨L, _, _, rfl, rfl, hN4, by rw [List.length_map]; exact small1000 (by omega), ?_⟩
      refine ⟨_, ns ++ [v + 1 + u], rfl, K4.put nLa.symm, ((B2.trans (But.of s3)).trans C4).put hL, ?_, by rw [List.length_append, hNl]; rfl, asc_end asc fun x hx => ?_, fun x hx => ?_⟩
      · show upd _ _ _ L = _
        rw [upd_same, ints_app]
      · have := up x hx
        omega
      · rcases List.mem_append.mp hx with hx | hx
        · exact rng x hx
        · rw [List.mem_singleton.mp hx]
          omega
    · rintro σ H2 ⟨v2, ns, rfl, J2, B2, hN', hNl, asc, rng⟩
      rw [Nat.sub_self] at J2
      exact ⟨_, rfl, q L ns H2 hL hNl asc rng J2 B2 hN'⟩
end
end Cw
namespace Cw
open PySem PySem.Spec PyProof.Rows PySem.SeqAt L2
/-! ## in by an own __contains__, len by an own __len__ -/
section
variable {X : Cx} {n : Nat} {CX : CXT} {C f : Addr} {fd : FuncData} {ps : List Str} {sp : Sp} {E : XK}
def rInOwn (C : Addr) (sp : Sp) (E : XK) : R2 := fun x y H Q => ∃ (a dx : Addr) (fs : List (Str × V)), y = .ref a ∧ H a = some (.ins C dx fs) ∧ sp [.ref a, x] H (fun v H' => ∃ k, v = .bl k ∧ Q (.bl k) H') E
theorem op_inOwn (F : FnOk X.prog X.w X.K X.mg X.base CX n f fd ps sp) (hs : PySem.W.findIn X.K (.ref C) "__contains__" = some (some (.ref f))) (hf : PySem.W.isFn X.K (.ref f) = true)
    (hb : Binds X.K fd ps []) (hx : Passes CX X E) (hr : Room n X.A) : OpR X (compareOp .In) (rInOwn C sp E) := by
  intro pins s σ H x y v u Q I rx ry h
  obtain ⟨a, dx, fs, rfl, ha, hsp⟩ := h
  cases ry
  obtain ⟨mA, J, _⟩ := ins_get I.hok ha
  obtain ⟨od, J, _⟩ := J.look
  obtain ⟨m, hF⟩ := I.fr
  refine PySem.W.in_K hF I.ok.mod.kin J hs hf ?_
  have r2 : Vals [V.ref a, x] [Value.ref a, v] := .cons rfl (.cons rx .nil)
  refine wpAny_mono (run_fn F hr hb .nil hx I r2 (show sp ([V.ref a, x] ++ []) H _ E from hsp)) (fun r s' z => ?_) fun _ _ e => e
  obtain ⟨w, H', I', rw', k, rfl, q⟩ := z
  cases rw'
  exact wpAny_truthy_bool ⟨.bl k, H', I', rfl, q⟩
def rLenOwn (C : Addr) (sp : Sp) (E : XK) : List V → Hp → VK → Prop := fun xs H Q => ∃ (a dx : Addr) (fs : List (Str × V)), xs = [.ref a] ∧ H a = some (.ins C dx fs) ∧ sp [.ref a] H (fun v H' => ∃ k : Nat, v = .int k ∧ k ≤ 1000000 ∧ Q (.int k) H') E
theorem call_lenOwn (F : FnOk X.prog X.w X.K X.mg X.base CX n f fd ps sp) (hs : PySem.W.findIn X.K (.ref C) "__len__" = some (some (.ref f))) (hf : PySem.W.isFn X.K (.ref f) = true)
    (hb : Binds X.K fd ps []) (hx : Passes CX X E) (hr : Room (n + 1) X.A) : CallR X (.builtin "len") (rLenOwn C sp E) := by
  intro pins s σ H xs us Q I r h
  obtain ⟨a, dx, fs, rfl, ha, hsp⟩ := h
  rw [Vals.ref1 r]
  obtain ⟨mA, J, _⟩ := ins_get I.hok ha
  obtain ⟨od, J, _⟩ := J.look
  obtain ⟨m, hF⟩ := I.fr
  refine PySem.W.len_K hF I.ok.mod.kin J hs hf ?_
  have hl := F.len _ _ _ _ hsp
  have r2 : Vals [V.ref a] [Value.ref a] := .cons rfl .nil
  have e0 : Env0 X.prog X.w X.K X.mg X.base X.A.in1 X.stack s H := I.env0.in1
  refine wpAny_call (codeAny_mono (F.run X.A.in1 X.stack s H ⟨[.ref a], []⟩ [.ref a] [.ref a] _ E hr.in1 e0 (by
    have := hb s [.ref a] I.kIn (by simpa using hl)
    simpa using this) r2 hsp) fun r s' hq => ?_)
  cases r with
  | error e => exact hx pins σ H s e s' I hq
  | ok fl =>
    cases fl with
    | ret w =>
      obtain ⟨z, H', I', rz, k, rfl, kb, q⟩ := I.after hq
      obtain ⟨t, rfl⟩ := rz
      exact ⟨⟨by omega, by have : (k : Int) ≤ 1000000 := by omega
                           exact Int.lt_of_le_of_lt this (by decide)⟩, .int k, H', I'.tok _, ⟨_, rfl⟩, q⟩
    | next => exact False.elim hq
    | brk => exact False.elim hq
    | cont => exact False.elim hq
end
end Cw
namespace Cw
open PySem L2
abbrev sRi : Stmt := top 27
def spLenR (C : Addr) : Sp := fun vs H Q _ => ∃ (a : Addr) (n : Int) (ms ss : List Int), vs = [.ref a] ∧ RowAt C H a n ms ss ∧ Q (.int ms.length) H
def spRi (C : Addr) : Sp := fun vs H Q _ => ∃ (a : Addr) (k : Nat), vs = [.ref a] ∧ JarAt H a (k + 803) ∧ ∀ H', JarAt H' a k → But H H' a → Q (.bl true) H'
theorem cut_to {ns : List Int} {k : Nat} (h : k ≤ ns.length) : cutV (ns.map V.int) none (some (k : Int)) = (ns.take k).map V.int := by
  unfold cutV
  rw [HT.sIx_nat, HT.sIx_none, List.length_map, Nat.min_eq_left h, List.drop_zero, Nat.sub_zero, List.map_take]
theorem cut_mid {ns : List Int} {i j : Nat} (h : i ≤ ns.length) (h2 : j ≤ ns.length) : cutV (ns.map V.int) (some (i : Int)) (some (j : Int)) = ((ns.drop i).take (j - i)).map V.int := by
  unfold cutV
  rw [HT.sIx_nat, HT.sIx_nat, List.length_map, Nat.min_eq_left h, Nat.min_eq_left h2, List.map_take, List.map_drop]
theorem asc_before {ns : List Int} {i : Nat} {z : Int} (h : Asc ns) (e : ns[i]? = some z) : ∀ x ∈ ns.take i, x < z := fun x hx => by
  obtain ⟨j, hj, ej⟩ := List.mem_iff_getElem.mp hx
  obtain ⟨hi, ei⟩ := List.getElem?_eq_some_iff.mp e
  rw [List.length_take] at hj
  rw [List.getElem_take] at ej
  have := List.pairwise_iff_getElem.mp h j i (by omega) hi (by omega)
  rw [← ej, ← ei]
  exact this
theorem le_at {ns : List Int} {i : Nat} {z : Int} (h : Asc ns) (e : ns[i]? = some z) : ∀ x ∈ ns.take (i + 1), x ≤ z := fun x hx => by
  rw [List.take_add_one, e] at hx
  rcases List.mem_append.mp hx with hx | hx
  · have := asc_before h e x hx
    omega
  · have : x = z := by simpa using hx
    omega
theorem off_first {z : Int} {r : List Int} (h : Asc (z :: r)) : offM (z :: r) [z] = r := by
  have e : offM r [z] = r := by
    unfold offM
    rw [List.filter_eq_self]
    intro y hy
    have := (List.pairwise_cons.mp h).1 y hy
    have : y ≠ z := by omega
    simp [this]
  unfold offM at e ⊢
  rw [List.filter_cons, if_neg (by simp), e]
/-- the rows and lists that _law_right keeps -/
structure RF (C : Addr) (H : Hp) (sp so fu mo : Addr) (ns ss r4 t1 : List Int) (lst : Int) : Prop where
  il : IL H sp ns
  is : IL H so ss
  hf : RowAt C H fu (lst + 9) (ns.take 400) ss
  hm : RowAt C H mo (lst + 9) r4 t1
theorem RF.same {C : Addr} {H H' : Hp} {sp so fu mo : Addr} {ns ss r4 t1 : List Int} {lst : Int} (r : RF C H sp so fu mo ns ss r4 t1 lst) (s : Same H H') : RF C H' sp so fu mo ns ss r4 t1 lst :=
  ⟨s _ _ r.il, s _ _ r.is, r.hf.same s, r.hm.same s⟩
theorem told0 {C : Addr} {H : Hp} {q s : Addr} {L ss : List Int} (hq : IL H q L) (hs : IL H s ss) (hL : Asc L) (pL : ∀ z ∈ L, 1 ≤ z) (ne : L ≠ []) (len : L.length ≤ 1000) (as : Asc ss) (sub : ∀ z ∈ ss, z ∈ L) : ToldAt C H 0 (.ref q) (.ref s) (wOf L.length) := by
  obtain ⟨ms, l, rfl⟩ : ∃ ms l, L = ms ++ [l] := ⟨L.dropLast, L.getLast ne, (List.dropLast_concat_getLast ne).symm⟩
  refine .inl ⟨rfl, q, s, ms, ss, l, rfl, rfl, hq, hs, ⟨?_, len, fun z hz => ⟨pL z hz, ?_⟩, hL, as, sub⟩, by rw [List.length_append]; rfl⟩
  · have := pL l (by simp)
    omega
  · rcases List.mem_append.mp hz with hz | hz
    · have := (List.pairwise_append.mp hL).2.2 z hz l (by simp)
      omega
    · rw [List.mem_singleton.mp hz]
      omega
theorem asc_ext : ∀ {xs ys : List Int}, Asc xs → Asc ys → (∀ z, z ∈ xs ↔ z ∈ ys) → xs = ys
  | [], [], _, _, _ => rfl
  | [], y :: ys, _, _, h => by have := (h y).mpr (List.mem_cons_self ..); cases this
  | x :: xs, [], _, _, h => by have := (h x).mp (List.mem_cons_self ..); cases this
  | x :: xs, y :: ys, hx, hy, h => by
    obtain ⟨x1, x2⟩ := List.pairwise_cons.mp hx
    obtain ⟨y1, y2⟩ := List.pairwise_cons.mp hy
    have e : x = y := by
      rcases List.mem_cons.mp ((h x).mp (List.mem_cons_self ..)) with a | a
      · exact a
      · rcases List.mem_cons.mp ((h y).mpr (List.mem_cons_self ..)) with b | b
        · exact b.symm
        · have := x1 y b
          have := y1 x a
          omega
    subst e
    congr 1
    refine asc_ext x2 y2 fun z => ⟨fun hz => ?_, fun hz => ?_⟩
    · rcases List.mem_cons.mp ((h z).mp (List.mem_cons_of_mem _ hz)) with a | a
      · have := x1 z hz
        omega
      · exact a
    · rcases List.mem_cons.mp ((h z).mpr (List.mem_cons_of_mem _ hz)) with a | a
      · have := y1 z hz
        omega
      · exact a
theorem told1 {C : Addr} {H : Hp} {r g : Addr} {n : Int} {ms ss gs T : List Int} (hr : RowAt C H r n ms ss) (G : Good n ms ss) (hg : IL H g gs) (aT : Asc T) (mT : ∀ z, z ∈ T ↔ z ∈ ms ∨ z ∈ gs) (lT : T.length ≤ 1000) (lg : gs.length ≤ 1000) (rg : ∀ z ∈ gs, 1 ≤ z ∧ z ≤ n - 1) :
    ToldAt C H 1 (.ref r) (.ref g) (wOf T.length) :=
  .inr (.inl ⟨rfl, r, g, n, ms, ss, gs, T.length, rfl, rfl, hr, G, hg, lg, ⟨T, lT, fun z hz => (mT z).mpr (.inl hz), fun z hz => (mT z).mpr (.inr hz)⟩, rg, fun ms' as mm => by rw [asc_ext as aT fun z => (mm z).trans (mT z).symm], rfl⟩)
theorem told2 {C : Addr} {H : Hp} {r r2 : Addr} {way n n2 : Int} {ms ss ms2 ss2 : List Int} (hw : way = 2 ∨ way = 3) (h1 : RowAt C H r n ms ss) (h2 : RowAt C H r2 n2 ms2 ss2) (G1 : Good n ms ss) (G2 : Good n2 ms2 ss2) :
    ToldAt C H way (.ref r) (.ref r2) (wOf (ms.length + (if way = 2 then 1 else 0) + ms2.length)) :=
  .inr (.inr (.inl ⟨hw, r, r2, n, n2, ms, ss, ms2, ss2, rfl, rfl, h1, h2, G1, G2, rfl⟩))
theorem good30 : Good 3 [] [] := ⟨by decide, by decide, fun _ h => (nomatch h), List.Pairwise.nil, List.Pairwise.nil, fun _ h => (nomatch h)⟩
theorem good32 : Good 3 [2] [] := ⟨by decide, by decide, fun x h => by rw [List.mem_singleton.mp h]; omega, List.pairwise_singleton _ _, List.Pairwise.nil, fun _ h => (nomatch h)⟩
/-- a row made over a heap that grows -/
theorem made_same {H0 H H' : Hp} {x dx : Addr} {C : Addr} (s0 : Same H0 H) (hx : H x = none) (hd : H dx = none) (ne : dx ≠ x) (keep : ∀ c o, (upd (upd H dx (.own x)) x (.ins C dx [])) c = some o → c ≠ x → H' c = some o) : Same H0 H' := fun c o e => by
  have z := s0 _ _ e
  have n1 : c ≠ x := fun y => by subst y; rw [hx] at z; cases z
  have n2 : c ≠ dx := fun y => by subst y; rw [hd] at z; cases z
  exact keep c o (by rw [upd_ne n1, upd_ne n2]; exact z) n1
theorem obj_same {H : Hp} {x dx : Addr} {C : Addr} (hx : H x = none) (hd : H dx = none) (ne : dx ≠ x) : Same H (upd (upd H dx (.own x)) x (.ins C dx [])) :=
  same_new (same_new (Same.refl H) hd) (by rw [upd_ne ne.symm]; exact hx)
theorem two_lists {H : Hp} {q q2 : Addr} {o o2 : HO} (h : H q = none) (h2 : upd H q o q2 = none) : (upd (upd H q o) q2 o2) q = some o ∧ Same H (upd (upd H q o) q2 o2) :=
  ⟨by rw [upd_ne (fun z => by subst z; rw [upd_same] at h2; cases h2), upd_same], same_new (same_new (Same.refl H) h) h2⟩
theorem dp_strs {K : PySem.W.Frag} {H : Hp} : ∀ ws : List Str, DpAll K H (ws.map V.str) (ws.map PyData.str)
  | [] => .nil
  | x :: ws => .cons (.str x) (dp_strs ws)
theorem w400 : wOf 400 = "fine" := wOf_fine (by decide)
theorem w401 : wOf 401 = "row" := wOf_row (by decide)
theorem w402 : wOf 402 = "row" := wOf_row (by decide)
/-- what is known of the numbers -/
structure RMx (ns ss r4 t1 : List Int) (lst n0 : Int) : Prop where
  ln : ns.length = 402
  asc : Asc ns
  pos : ∀ z ∈ ns, 1 ≤ z
  hl : ns[399]? = some lst
  e4 : ns.take 400 = n0 :: r4
  as : Asc ss
  sub : ∀ z ∈ ss, z ∈ ns.take 400
  G : Good (lst + 9) (ns.take 400) ss
  G1 : Good (lst + 9) r4 t1
  ht : offM ss [n0] = t1
theorem told4 {C : Addr} {H : Hp} {r t m u : Addr} {n b e len : Int} {ms ss cs ds : List Int} {N : Nat} (h1 : RowAt C H r n ms ss) (ht : H t = some (.tup [.int b, .int e, .int len, .ref m, .ref u])) (hm : IL H m cs) (hu : IL H u ds) (G : Good n ms ss) (Co : ChOkL n b e len cs ds)
    (hN : (rep ms cs b e len (n - (e - b) + len)).length = N) (hl : N ≤ 1000) : ToldAt C H 4 (.ref r) (.ref t) (if cs.length ≤ 400 then wOf N else wT false) :=
  .inr (.inr (.inr ⟨rfl, r, t, m, u, n, b, e, len, ms, ss, cs, ds, rfl, rfl, h1, ht, hm, hu, G, Co, by rw [hN]; exact hl, by rw [hN]⟩))
theorem rep_after {ms cs : List Int} {b e len nl : Int} (h : ∀ x ∈ ms, x ≤ b ∧ x < nl ∧ x ≤ e) : (rep ms cs b e len nl).length = ms.length + cs.length := by
  have e1 : ms.filter (fun x => decide (x ≤ b) && decide (x < nl)) = ms := List.filter_eq_self.mpr fun x hx => by simp [(h x hx).1, (h x hx).2.1]
  have e2 : ms.filter (fun x => decide (x > e)) = [] := List.filter_eq_nil_iff.mpr fun x hx => by have := (h x hx).2.2; simp; omega
  unfold rep
  rw [e1, e2]
  simp
theorem rep_over {ms cs : List Int} {b e len nl : Int} (h : ∀ x ∈ ms, b < x ∧ x ≤ e) : (rep ms cs b e len nl).length = cs.length := by
  have e1 : ms.filter (fun x => decide (x ≤ b) && decide (x < nl)) = [] := List.filter_eq_nil_iff.mpr fun x hx => by have := (h x hx).1; simp; omega
  have e2 : ms.filter (fun x => decide (x > e)) = [] := List.filter_eq_nil_iff.mpr fun x hx => by have := (h x hx).2; simp; omega
  unfold rep
  rw [e1, e2]
  simp
theorem rep_front {ms cs : List Int} {b e len nl : Int} (h : ∀ x ∈ ms, b < x ∧ e < x) : (rep ms cs b e len nl).length = cs.length + ms.length := by
  have e1 : ms.filter (fun x => decide (x ≤ b) && decide (x < nl)) = [] := List.filter_eq_nil_iff.mpr fun x hx => by have := (h x hx).1; simp; omega
  have e2 : ms.filter (fun x => decide (x > e)) = ms := List.filter_eq_self.mpr fun x hx => by have := (h x hx).2; simp; omega
  unfold rep
  rw [e1, e2]
  simp
theorem asc_one : ∀ {cs : List Int}, cs.length ≤ 1 → Asc cs
  | [], _ => List.Pairwise.nil
  | [x], _ => List.pairwise_singleton _ _
  | _ :: _ :: _, h => by simp at h
theorem rep_first {z : Int} {r cs : List Int} {b e len nl : Int} (hz : e = z) (hb : b < z) (h : ∀ x ∈ r, z < x) : (rep (z :: r) cs b e len nl).length = cs.length + r.length := by
  have e1 : (z :: r).filter (fun x => decide (x ≤ b) && decide (x < nl)) = [] := List.filter_eq_nil_iff.mpr fun x hx => by
    have : z ≤ x := by
      rcases List.mem_cons.mp hx with rfl | hx
      · omega
      · have := h x hx
        omega
    simp
    omega
  have e2 : (z :: r).filter (fun x => decide (x > e)) = r := by
    rw [List.filter_cons, if_neg (by simp; omega)]
    exact List.filter_eq_self.mpr fun x hx => by have := h x hx; simp; omega
  unfold rep
  rw [e1, e2]
  simp
abbrev dSh (n : Int) (ms ss : List Int) : PyData := .list [.int n, .list (ms.map PyData.int), .list (ss.map PyData.int)]
theorem shape_sh (n : Int) (ms ss : List Int) : SeqAt.shaped (dSh n ms ss) = true := by
  have h1 : PyData.canLay0 (dSh n ms ss) = true := by
    have hm := SeqAt.canLay_of_shaped (shape_il ms)
    have hs := SeqAt.canLay_of_shaped (shape_il ss)
    unfold PyData.canLay0
    unfold PyData.canLayAll0
    unfold PyData.canLayAll0
    unfold PyData.canLayAll0
    unfold PyData.canLayAll0
    rw [hm, hs]
    rfl
  have dp : ∀ ns : List Int, PyData.depthAll (ns.map PyData.int) ≤ 2 := fun ns => by
    induction ns with
    | nil => exact Nat.zero_le _
    | cons x r ih =>
      rw [List.map_cons]
      simp only [PyData.depthAll, PyData.depth]
      omega
  have h2 : PyData.depth (dSh n ms ss) ≤ 64 := by
    have d1 := dp ms
    have d2 := dp ss
    simp only [PyData.depth, PyData.depthAll]
    omega
  unfold SeqAt.shaped
  rw [h1, decide_eq_true h2]
  rfl
/-! ## the mathematics of joining and parting -/
theorem eqv_sh (n : Int) (ms ss : List Int) : PyData.eqv (dSh n ms ss) (dSh n ms ss) = true := SeqAt.eqv_refl _ (SeqAt.canLay_of_shaped (shape_sh n ms ss))
theorem alike_at {C : Addr} {H : Hp} {a b : Addr} {n : Int} {ms ss : List Int} (r : RowAt C H a n ms ss) (q : RowAt C H b n ms ss) : DIns C (Alike C) (.ref a) (.ref b) H := by
  obtain ⟨dx, l1, l2, h1, h2, h3⟩ := id r
  obtain ⟨dy, m1, m2, g1, g2, g3⟩ := id q
  exact ⟨a, b, dx, dy, _, _, rfl, rfl, h1, g1, n, ms, ss, r, q⟩
theorem mem_below {ns : List Int} {i : Nat} {z x : Int} (h : Asc ns) (e : ns[i]? = some z) : (x ∈ ns ∧ x < z) ↔ x ∈ ns.take i := by
  constructor
  · rintro ⟨hx, lt⟩
    obtain ⟨j, hj, rfl⟩ := List.mem_iff_getElem.mp hx
    obtain ⟨hi, ei⟩ := List.getElem?_eq_some_iff.mp e
    have ji : j < i := by
      apply Decidable.byContradiction
      intro c
      rcases Nat.lt_or_ge i j with k | k
      · have := List.pairwise_iff_getElem.mp h i j hi hj k
        omega
      · have : j = i := by omega
        subst this
        omega
    exact List.mem_iff_getElem.mpr ⟨j, by rw [List.length_take]; omega, by rw [List.getElem_take]⟩
  · intro hx
    exact ⟨(List.take_sublist _ _).subset hx, asc_before h e x hx⟩
abbrev NRi : List Str := ["jar", "spots", "some", "last", "full", "most", "told", "one", "two", "due", "great", "kept", "place", "marks_here"]
abbrev riCx (P : Program) (w : World) (K : PySem.W.Frag) (mg : Str → Option Value) (base : Heap) (f : Addr) (cdv : Value) (A : Around) (outer : List Env) (s : Shared) (H0 : Hp) (E : XK) : Cx := (cxOf CX0 P w K mg base NRi "_law_right" (defScope sRi) f cdv A outer s H0 E).nox
section
variable {P : Program} {w : World} {K : PySem.W.Frag} {mg : Str → Option Value} {base : Heap}
theorem scRi : FnScope NRi ["jar"] (defScope sRi) := ⟨rfl, rfl, rfl, by decide +kernel, rfl, by decide +kernel, by decide +kernel⟩
theorem ri_tail {f C fS fD fT fW fO fP fLn fI pL fGL pM fGM pS fGS : Addr} {fdS fdD fdT fdW fdO fdP fdLn fdI dL dM dS : FuncData} (T : Bl mg) (R : Cl K mg C) (M : Mk K C fI) (bI : Binds K fdI NI []) (GI : FnOk P w K mg base CX0 5 fI fdI NI (spInit C)) (Gs : Gets P w K mg base C pL fGL pM fGM pS fGS dL dM dS) {fE : Addr} {fdE : FuncData} (Z : Eqs P w K mg base C fE fdE)
    (gS : mg "_law_spots" = some (.ref fS)) (kS : PySem.W.keepIn K (.ref fS) = true) (bS : Binds K fdS ["jar", "many"] []) (GS : FnOk P w K mg base CX0 3 fS fdS ["jar", "many"] spSpots)
    (gD : mg "_law_dip" = some (.ref fD)) (kD : PySem.W.keepIn K (.ref fD) = true) (bD : Binds K fdD ["jar", "many"] []) (GD : FnOk P w K mg base CX0 1 fD fdD ["jar", "many"] spDip)
    (gT : mg "_law_told" = some (.ref fT)) (kT : PySem.W.keepIn K (.ref fT) = true) (bT : Binds K fdT ["way", "one", "two"] []) (GT : FnOk P w K mg base CX0 8 fT fdT ["way", "one", "two"] (spTold C))
    (mW : Meth K C "with_marks" fW) (bW : Binds K fdW ["self", "places", "is_strict"] []) (GW : FnOk P w K mg base CX0 7 fW fdW ["self", "places", "is_strict"] (spWith C))
    (mO : Meth K C "without_marks" fO) (bO : Binds K fdO ["self", "places"] []) (GO : FnOk P w K mg base CX0 7 fO fdO ["self", "places"] (spWout C))
    (mP : Meth K C "part" fP) (bP : Binds K fdP ["self", "begin", "end"] []) (GP : FnOk P w K mg base CX0 7 fP fdP ["self", "begin", "end"] (spPart C))
    (mLn : Meth K C "__len__" fLn) (bLn : Binds K fdLn ["self"] []) (GLn : FnOk P w K mg base CX0 1 fLn fdLn ["self"] (spLenR C))
    {cdv : Value} {A : Around} {outer : List Env} {s : Shared} {H0 : Hp} {E : XK} (hr : Room 8 (A.deeper (PyProof.Rows.envOfC "_law_right" (defScope sRi) s.heap.objs.size f cdv))) :
    ∃ tl, PSs (riCx P w K mg base f cdv A outer s H0 E) ((defBody sRi).drop 13) tl ∧
      ∀ (Q : VK) (H : Hp) (a sp so fu mo o1 o2 t du : Addr) (ns ss r4 t1 : List Int) (lst n0 : Int), RF C H sp so fu mo ns ss r4 t1 lst → RMx ns ss r4 t1 lst n0 → (∀ H', Same H H' → Q (.bl true) H') →
        tl { nx := fun _ H' => Q V.non H', rt := Q } [some (.ref a), some (.ref sp), some (.ref so), some (.int lst), some (.ref fu), some (.ref mo), some (.ref t), some (.ref o1), some (.ref o2), some (.ref du), none, none, none, none] H := by
  refine ⟨_, (pss_cons (ps_par (i := 10) (j := 11) rfl scRi.nd rfl rfl (by decide) rfl rfl (pa_cons (pe_op op_add (pe_ix (r := rIxL K) ix_list (pv 1) (pe_un un_neg pe_int) (fun _ _ => rfl)) pe_int) (pa_cons (pe_lst (pa_cons (pe_prop (pv 4) R.cl Gs.hL Gs.GL (hr.mono (by decide)) Gs.bL .nil pass0 rfl) (pa_cons (pe_prop (pv 4) R.cl Gs.hM Gs.GM (hr.mono (by decide)) Gs.bM .nil pass0 rfl) (pa_cons (pe_prop (pv 4) R.cl Gs.hS Gs.GS (hr.mono (by decide)) Gs.bS .nil pass0 rfl) pa_nil)))) pa_nil)) (by rfl))
        (pss_cons (ps_setLc (i := 6) (own := [("marks_here", 13)]) (g := (gName 13)) (tt := tYes) rfl scRi.nd rfl rfl (sw_true rfl rfl rfl (by decide +kernel)) (pi_tup (pe_tup (pa_cons (pe_lst pa_nil) (pa_cons (pe_lst (pa_cons pe_int pa_nil)) (pa_cons (pe_lst (pa_cons pe_int pa_nil)) pa_nil))))) (blkOk_by (own := [("marks_here", 13)]) (N := NRi) (sc := defScope sRi) (by decide +kernel)) (fun _ _ _ _ _ => (pg_name (i := 13) scRi.nd rfl (Or.inl rfl))) (fun _ _ _ _ _ => pts_nil) (fun _ _ _ _ _ => (pe_call GT (hr.mono (by decide)) rfl gT kT bT .nil pass0 (pa_cons pe_int (pa_cons (pv 4) (pa_cons (pe_tup (pa_cons (pe_op op_add (pv 3) pe_int) (pa_cons (pe_op op_add (pv 3) pe_int) (pa_cons pe_int (pa_cons (pv 13) (pa_cons (pe_lst pa_nil) pa_nil)))))) pa_nil))))))
        (pss_cons (ps_expr (pe_bm PySem.F.plainAttrs_list PySem.F.slot_list_append PySem.F.type_list_append mt_append (pv 6) (pa_cons (pe_call GT (hr.mono (by decide)) rfl gT kT bT .nil pass0 (pa_cons pe_int (pa_cons (pv 4) (pa_cons (pe_tup (pa_cons pe_int (pa_cons (pv 3) (pa_cons (pv 10) (pa_cons (pe_slice sl_list (pv 1) po_none (po_some pe_int)) (pa_cons (pe_lst pa_nil) pa_nil)))))) pa_nil)))) pa_nil)))
        (pss_cons (ps_expr (pe_bm PySem.F.plainAttrs_list PySem.F.slot_list_append PySem.F.type_list_append mt_append (pv 6) (pa_cons (pe_call GT (hr.mono (by decide)) rfl gT kT bT .nil pass0 (pa_cons pe_int (pa_cons (pv 4) (pa_cons (pe_tup (pa_cons pe_int (pa_cons pe_int (pa_cons (pv 10) (pa_cons (pe_slice sl_list (pv 1) po_none (po_some pe_int)) (pa_cons (pe_lst pa_nil) pa_nil)))))) pa_nil)))) pa_nil)))
        (pss_cons (ps_set (i := 6) scRi.nd rfl (Or.inl rfl) (pe_op op_cat (pv 6) (pe_lst (pa_cons (pe_call GT (hr.mono (by decide)) rfl gT kT bT .nil pass0 (pa_cons pe_int (pa_cons (pv 4) (pa_cons (pe_tup (pa_cons pe_int (pa_cons (pe_ix (r := rIxL K) ix_list (pv 1) pe_int (fun _ _ => rfl)) (pa_cons pe_int (pa_cons (pe_lst (pa_cons pe_int pa_nil)) (pa_cons (pe_lst (pa_cons pe_int pa_nil)) pa_nil)))))) pa_nil)))) (pa_cons (pe_call GT (hr.mono (by decide)) rfl gT kT bT .nil pass0 (pa_cons pe_int (pa_cons (pv 4) (pa_cons (pe_tup (pa_cons pe_int (pa_cons pe_int (pa_cons pe_int (pa_cons (pe_lst (pa_cons pe_int pa_nil)) (pa_cons (pe_lst pa_nil) pa_nil)))))) pa_nil)))) pa_nil)))))
        (pss_cons (ps_if (pt_cmpR (op_neD hr.units) (pv 6) (pe_lst (pa_cons pe_str (pa_cons pe_str (pa_cons pe_str (pa_cons pe_str (pa_cons pe_str (pa_cons pe_str (pa_cons pe_str pa_nil)))))))) (nomark _)) (pss_one (ps_ret pe_bl)) pss_nil)
        (pss_cons (ps_if (PW.pt (pw_or (pt_cmpR (op_neD hr.units) (pv 11) (pe_lst (pa_cons (pe_prop (pv 4) R.cl Gs.hL Gs.GL (hr.mono (by decide)) Gs.bL .nil pass0 rfl) (pa_cons (pe_prop (pv 4) R.cl Gs.hM Gs.GM (hr.mono (by decide)) Gs.bM .nil pass0 rfl) (pa_cons (pe_prop (pv 4) R.cl Gs.hS Gs.GS (hr.mono (by decide)) Gs.bS .nil pass0 rfl) pa_nil)))) (nomark _)) (pw_or (pt_cmpR op_ne (pe_callB (call_lenOwn GLn mLn.at_ mLn.fn bLn pass0 (hr.mono (by decide))) (by rfl) T.len PySem.boot_len (pa_cons (pv 4) pa_nil)) pe_int (nomark _)) (pw_or1 (pt_cmpR op_ne (pe_callB (call_lenOwn GLn mLn.at_ mLn.fn bLn pass0 (hr.mono (by decide))) (by rfl) T.len PySem.boot_len (pa_cons (pe_meth (pv 4) R.cl mP GP (hr.mono (by decide)) bP .nil pass0 (pa_cons pe_int (pa_cons (pe_ix (r := rIxL K) ix_list (pv 1) pe_int (fun _ _ => rfl)) pa_nil))) pa_nil)) pe_int (nomark _)))))) (pss_one (ps_ret pe_bl)) pss_nil)
        (pss_one (ps_ret (pe_cmpR (op_eqG (rcG_ins Z.ok Z.hs Z.hf Z.hb pass0) (hr.mono (by decide))) (pe_meth (pv 5) R.cl mW GW (hr.mono (by decide)) bW .nil pass0 (pa_cons (pe_slice sl_list (pv 1) po_none (po_some pe_int)) (pa_cons (pe_cmpR (show OpR _ (compareOp .In) (rIn K false) from op_in_seq) (pe_ix (r := rIxL K) ix_list (pv 1) pe_int (fun _ _ => rfl)) (pv 2) (by rfl)) pa_nil))) (pv 4) (nomark _))))))))))), ?_⟩
  intro Q H a sp so fu mo o1 o2 t du ns ss r4 t1 lst n0 F0 m q
  have lp : 1 ≤ lst := m.pos lst (List.mem_of_getElem? m.hl)
  obtain ⟨zs, g0, ez⟩ : ∃ zs g0, ns = zs ++ [g0] := by
    have z : ns ≠ [] := fun z => by have := m.ln; rw [z] at this; exact absurd this (by decide)
    exact ⟨ns.dropLast, ns.getLast z, (List.dropLast_concat_getLast z).symm⟩
  have atg : atI (ns.map V.int) (-1) = some (.int g0) := by
    rw [ez, List.map_append]
    exact atI_last _ _
  have leg : ∀ z ∈ ns, z ≤ g0 := fun z hz => by
    have ax := m.asc
    rw [ez] at hz ax
    rcases List.mem_append.mp hz with hz | hz
    · have := (List.pairwise_append.mp ax).2.2 z hz g0 (by simp)
      omega
    · rw [List.mem_singleton.mp hz]
      omega
  obtain ⟨fx, f1, f2, y1, y2, y3⟩ := id F0.hf
  refine ⟨_, rfl, _, rfl, sp, _, -1, .int g0, rfl, rfl, SqL.of F0.il, atg, _, _, rfl, rfl, ?_⟩
  refine ⟨_, rfl, fu, fx, _, rfl, y1, fu, _, _, _, rfl, F0.hf, ?_⟩
  refine ⟨_, rfl, fu, fx, _, rfl, y1, fu, _, _, _, rfl, F0.hf, fun k1 H1 s1 hk1 ik1 => ?_⟩
  refine ⟨_, rfl, fu, fx, _, rfl, s1 _ _ y1, fu, _, _, _, rfl, F0.hf.same s1, fun k2 H2 s2 hk2 ik2 => ⟨by show (3 : Nat) ≤ sizeLine; decide, fun kp hkp => ⟨_, _, rfl, ?_⟩⟩⟩
  have s3 := same_new (o := .lst [.int (lst + 9), .ref k1, .ref k2]) (s1.trans s2) hkp
  have ik1 : IL (upd H2 kp (.lst [.int (lst + 9), .ref k1, .ref k2])) k1 (ns.take 400) := same_new (Same.refl H2) hkp _ _ (s2 _ _ ik1)
  have ik2 : IL (upd H2 kp (.lst [.int (lst + 9), .ref k1, .ref k2])) k2 ss := same_new (Same.refl H2) hkp _ _ ik2
  have hkp3 : (upd H2 kp (.lst [.int (lst + 9), .ref k1, .ref k2])) kp = some (.lst [.int (lst + 9), .ref k1, .ref k2]) := upd_same
  generalize upd H2 kp (.lst [.int (lst + 9), .ref k1, .ref k2]) = H3 at s3 ik1 ik2 hkp3 ⊢
  have F3 := F0.same s3
  try dsimp only [List.set]
  refine ⟨Nat.zero_le _, fun e1 he1 => ⟨by show (1 : Nat) ≤ sizeLine; decide, fun e2 he2 => ⟨by show (1 : Nat) ≤ sizeLine; decide, fun e3 he3 => ⟨by show (3 : Nat) ≤ sizeLine; decide, fun tp htp => ⟨tp, rfl, ⟨_, SqT.of upd_same⟩, fun D hD => ?_⟩⟩⟩⟩⟩
  have sx : Same H3 (upd (upd (upd (upd H3 e1 (.lst [])) e2 (.lst [.int 1])) e3 (.lst [.int 2])) tp (.tup [.ref e1, .ref e2, .ref e3])) :=
    same_new (same_new (same_new (same_new (Same.refl H3) he1) he2) he3) htp
  have x1 : IL (upd (upd (upd (upd H3 e1 (.lst [])) e2 (.lst [.int 1])) e3 (.lst [.int 2])) tp (.tup [.ref e1, .ref e2, .ref e3])) e1 [] :=
    same_new (same_new (same_new (Same.refl _) he2) he3) htp _ _ upd_same
  have x2 : IL (upd (upd (upd (upd H3 e1 (.lst [])) e2 (.lst [.int 1])) e3 (.lst [.int 2])) tp (.tup [.ref e1, .ref e2, .ref e3])) e2 [1] :=
    same_new (same_new (Same.refl _) he3) htp _ _ upd_same
  have x3 : IL (upd (upd (upd (upd H3 e1 (.lst [])) e2 (.lst [.int 1])) e3 (.lst [.int 2])) tp (.tup [.ref e1, .ref e2, .ref e3])) e3 [2] :=
    same_new (Same.refl _) htp _ _ upd_same
  have x4 : (upd (upd (upd (upd H3 e1 (.lst [])) e2 (.lst [.int 1])) e3 (.lst [.int 2])) tp (.tup [.ref e1, .ref e2, .ref e3])) tp = some (.tup [.ref e1, .ref e2, .ref e3]) := upd_same
  generalize upd (upd (upd (upd H3 e1 (.lst [])) e2 (.lst [.int 1])) e3 (.lst [.int 2])) tp (.tup [.ref e1, .ref e2, .ref e3]) = Hx at sx x1 x2 x3 x4 hD ⊢
  have Fx := F3.same sx
  have l400 : (ns.take 400).length = 400 := by rw [List.length_take, m.ln]; rfl
  have l401 : (ns.take 401).length = 401 := by rw [List.length_take, m.ln]; rfl
  have ps4 : ∀ z ∈ ns.take 400, 1 ≤ z ∧ z ≤ lst := fun z hz => ⟨m.pos z ((List.take_sublist _ _).subset hz), le_at m.asc m.hl z hz⟩
  have rp : ∀ cs : List Int, (rep (ns.take 400) cs (lst + 1) (lst + 1) 2 (lst + 9 - (lst + 1 - (lst + 1)) + 2)).length = 400 + cs.length := fun cs => by
    rw [rep_after (fun x hx => by have := (ps4 x hx).2; exact ⟨by omega, by omega, by omega⟩), l400]
  have step : ∀ (ei : Addr) (cs : List Int) (ws : List V) (H' : Hp) (R B : Hp → Prop), (∀ H2, Same Hx H2 → H2 D = some (.lst (ws ++ [.str (wOf (400 + cs.length))])) → R H2) → cs.length ≤ 1 → (∀ z ∈ cs, 1 ≤ z ∧ z ≤ 2) → IL Hx ei cs → Same Hx H' → ws.length ≤ 3 → H' D = some (.lst ws) →
      gName 13 (.ref ei) (wipe [some (V.ref a), some (.ref sp), some (.ref so), some (.int lst), some (.ref fu), some (.ref mo), some (.ref t), some (.ref o1), some (.ref o2), some (.ref du), some (.int (g0 + 1)), some (.ref kp), none, none] [13]) H' fun σ2 H2 =>
        wipe σ2 [13] = wipe [some (V.ref a), some (.ref sp), some (.ref so), some (.int lst), some (.ref fu), some (.ref mo), some (.ref t), some (.ref o1), some (.ref o2), some (.ref du), some (.int (g0 + 1)), some (.ref kp), none, none] [13] ∧ tYes σ2 H2 fun b H3 =>
          if b = true then (tCall (spTold C) [] E0 (tCons (tC (V.int 4)) (tCons (tVar 4) (tCons (tTup (tCons (tOp (rI0 fun i j => V.int (i + j)) (tVar 3) (tC (V.int 1))) (tCons (tOp (rI0 fun i j => V.int (i + j)) (tVar 3) (tC (V.int 1))) (tCons (tC (V.int 2)) (tCons (tVar 13) (tCons (tLst tNil) tNil)))))) tNil)))) σ2 H3 fun y H4 =>
            ∃ acc, H4 D = some (.lst acc) ∧ acc.length < sizeLine ∧ R (upd H4 D (.lst (acc ++ [y]))) else B H3 := by
    intro ei cs ws H' R B hR lc rc hc sH lw hw
    refine ⟨rfl, ?_⟩
    dsimp -proj only [tYes]
    rw [if_pos rfl]
    refine ⟨_, rfl, _, rfl, _, _, rfl, rfl, _, rfl, _, _, rfl, rfl, _, rfl, Nat.zero_le _, fun ee hee => ⟨by show (5 : Nat) ≤ sizeLine; decide, fun tt htt => ⟨4, .ref fu, .ref tt, wOf (400 + cs.length), rfl, ?_, fun H4 s4 => ?_⟩⟩⟩
    · have sz := same_new (o := .tup [.int (lst + 1), .int (lst + 1), .int 2, .ref ei, .ref ee]) (same_new (o := .lst []) (Same.refl H') hee) htt
      have hee2 : IL (upd (upd H' ee (.lst [])) tt (.tup [.int (lst + 1), .int (lst + 1), .int 2, .ref ei, .ref ee])) ee [] := same_new (Same.refl _) htt _ _ upd_same
      have := told4 (ds := []) (Fx.same (sH.trans sz)).hf upd_same (sz _ _ (sH _ _ hc)) hee2 m.G ⟨by omega, by omega, by omega, by omega, by omega, by omega, fun z hz => by rw [if_neg (by omega)]; exact rc z hz, asc_one lc, List.Pairwise.nil, fun _ h => (nomatch h)⟩ (rp cs) (by omega)
      rw [if_pos (by omega)] at this
      exact this
    · have sz := (same_new (o := .tup [.int (lst + 1), .int (lst + 1), .int 2, .ref ei, .ref ee]) (same_new (o := .lst []) (Same.refl H') hee) htt).trans s4
      exact ⟨_, sz _ _ hw, small1000 (by omega), hR _ (same_put (sH.trans sz) hD) upd_same⟩
  refine lc_tup (K := K) (a := tp) (xs := [.ref e1, .ref e2, .ref e3]) (fun i H' => Same Hx H' ∧ H' D = some (.lst (([.str (wOf 400), .str (wOf 401), .str (wOf 401)] : List V).take i))) ⟨same_new (Same.refl Hx) hD, upd_same⟩ (fun i H' _ z => SqT.of (z.1 _ _ x4)) ?_ ?_
  · rintro i v H' hx ⟨sH, hw⟩
    have ix : (i = 0 ∧ v = .ref e1) ∨ (i = 1 ∧ v = .ref e2) ∨ (i = 2 ∧ v = .ref e3) := by
      rcases i with _ | _ | _ | i
      · exact .inl ⟨rfl, (Option.some.inj hx).symm⟩
      · exact .inr (.inl ⟨rfl, (Option.some.inj hx).symm⟩)
      · exact .inr (.inr ⟨rfl, (Option.some.inj hx).symm⟩)
      · cases hx
    clear hx
    rcases ix with ⟨rfl, rfl⟩ | ⟨rfl, rfl⟩ | ⟨rfl, rfl⟩
    · exact step e1 [] [] H' (fun H2 => Same Hx H2 ∧ H2 D = some (.lst (([.str (wOf 400), .str (wOf 401), .str (wOf 401)] : List V).take (0 + 1)))) (fun H2 => Same Hx H2 ∧ H2 D = some (.lst (([.str (wOf 400), .str (wOf 401), .str (wOf 401)] : List V).take (0 + 1)))) (fun H2 s h => ⟨s, h⟩) (by decide) (fun _ h => (nomatch h)) x1 sH (by decide) hw
    · exact step e2 [1] [.str (wOf 400)] H' (fun H2 => Same Hx H2 ∧ H2 D = some (.lst (([.str (wOf 400), .str (wOf 401), .str (wOf 401)] : List V).take (1 + 1)))) (fun H2 => Same Hx H2 ∧ H2 D = some (.lst (([.str (wOf 400), .str (wOf 401), .str (wOf 401)] : List V).take (1 + 1)))) (fun H2 s h => ⟨s, by rw [show 400 + ([1] : List Int).length = 401 by decide] at h; exact h⟩) (by decide) (fun z h => by rw [List.mem_singleton.mp h]; omega) x2 sH (by show (1 : Nat) ≤ 3; decide) hw
    · exact step e3 [2] [.str (wOf 400), .str (wOf 401)] H' (fun H2 => Same Hx H2 ∧ H2 D = some (.lst (([.str (wOf 400), .str (wOf 401), .str (wOf 401)] : List V).take (2 + 1)))) (fun H2 => Same Hx H2 ∧ H2 D = some (.lst (([.str (wOf 400), .str (wOf 401), .str (wOf 401)] : List V).take (2 + 1)))) (fun H2 s h => ⟨s, by rw [show 400 + ([2] : List Int).length = 401 by decide] at h; exact h⟩) (by decide) (fun z h => by rw [List.mem_singleton.mp h]; omega) x3 sH (by show (2 : Nat) ≤ 3; decide) hw
  rintro H5 ⟨s5, hw5⟩
  have hw5 : H5 D = some (.lst [.str (wOf 400), .str (wOf 401), .str (wOf 401)]) := hw5
  have F5 := Fx.same s5
  have G0 := m.G
  have gp : lst ≤ g0 := leg lst (List.mem_of_getElem? m.hl)
  refine ⟨_, rfl, .inl ⟨rfl, _, SqL.of hw5⟩, ?_⟩
  refine ⟨_, rfl, _, rfl, _, rfl, _, rfl, _, rfl, sp, _, rfl, SqL.of F5.il, fun q5 hq5 => ⟨Nat.zero_le _, fun ea hea => ⟨by show (5 : Nat) ≤ sizeLine; decide, fun ta hta => ⟨4, .ref fu, .ref ta, wOf 400, rfl, ?_, fun H6 s6 => ?_⟩⟩⟩⟩
  · have sz := same_new (o := .tup [.int 0, .int lst, .int (g0 + 1), .ref q5, .ref ea]) (same_new (o := .lst []) (same_new (o := .lst (cutV (ns.map V.int) none (some 400))) (Same.refl H5) hq5) hea) hta
    have iq : IL (upd (upd (upd H5 q5 (.lst (cutV (ns.map V.int) none (some 400)))) ea (.lst [])) ta (.tup [.int 0, .int lst, .int (g0 + 1), .ref q5, .ref ea])) q5 (ns.take 400) := by
      refine same_new (same_new (Same.refl _) hea) hta _ _ ?_
      rw [upd_same, show (some (400 : Int)) = some ((400 : Nat) : Int) from rfl, cut_to (by rw [m.ln]; decide)]
    have ie : IL (upd (upd (upd H5 q5 (.lst (cutV (ns.map V.int) none (some 400)))) ea (.lst [])) ta (.tup [.int 0, .int lst, .int (g0 + 1), .ref q5, .ref ea])) ea [] := same_new (Same.refl _) hta _ _ upd_same
    have := told4 (ds := []) (N := 400) (F5.same sz).hf upd_same iq ie m.G ⟨by omega, by omega, by omega, by omega, by omega, by omega, fun z hz => by rw [if_neg (by omega)]; exact ⟨(ps4 z hz).1, by have := (ps4 z hz).2; omega⟩, m.asc.sublist (List.take_sublist _ _), List.Pairwise.nil, fun _ h => (nomatch h)⟩
      (by rw [rep_over (fun x hx => by have := ps4 x hx; exact ⟨by omega, by omega⟩), l400]) (by decide)
    rw [if_pos (by omega)] at this
    exact this
  have sz6 := (same_new (o := .tup [.int 0, .int lst, .int (g0 + 1), .ref q5, .ref ea]) (same_new (o := .lst []) (same_new (o := .lst (cutV (ns.map V.int) none (some 400))) (Same.refl H5) hq5) hea) hta).trans s6
  refine ⟨D, _, _, rfl, rfl, sz6 _ _ hw5, small1000 (by show (3 : Nat) ≤ 1000; decide), ?_⟩
  have s7 : Same Hx (upd H6 D (.lst ([.str (wOf 400), .str (wOf 401), .str (wOf 401)] ++ [.str (wOf 400)]))) := same_put (s5.trans sz6) hD
  have hw7 : (upd H6 D (.lst ([.str (wOf 400), .str (wOf 401), .str (wOf 401)] ++ [.str (wOf 400)]))) D = some (.lst [.str (wOf 400), .str (wOf 401), .str (wOf 401), .str (wOf 400)]) := upd_same
  generalize upd H6 D (.lst ([.str (wOf 400), .str (wOf 401), .str (wOf 401)] ++ [.str (wOf 400)])) = H7 at s7 hw7 ⊢
  have F7 := Fx.same s7
  refine ⟨_, rfl, .inl ⟨rfl, _, SqL.of hw7⟩, ?_⟩
  refine ⟨_, rfl, _, rfl, _, rfl, _, rfl, sp, _, rfl, SqL.of F7.il, fun q6 hq6 => ⟨Nat.zero_le _, fun eb heb => ⟨by show (5 : Nat) ≤ sizeLine; decide, fun tb htb => ⟨4, .ref fu, .ref tb, wT false, rfl, ?_, fun H8 s8 => ?_⟩⟩⟩⟩
  · have sz := same_new (o := .tup [.int 0, .int 0, .int (g0 + 1), .ref q6, .ref eb]) (same_new (o := .lst []) (same_new (o := .lst (cutV (ns.map V.int) none (some 401))) (Same.refl H7) hq6) heb) htb
    have iq : IL (upd (upd (upd H7 q6 (.lst (cutV (ns.map V.int) none (some 401)))) eb (.lst [])) tb (.tup [.int 0, .int 0, .int (g0 + 1), .ref q6, .ref eb])) q6 (ns.take 401) := by
      refine same_new (same_new (Same.refl _) heb) htb _ _ ?_
      rw [upd_same, show (some (401 : Int)) = some ((401 : Nat) : Int) from rfl, cut_to (by rw [m.ln]; decide)]
    have ie : IL (upd (upd (upd H7 q6 (.lst (cutV (ns.map V.int) none (some 401)))) eb (.lst [])) tb (.tup [.int 0, .int 0, .int (g0 + 1), .ref q6, .ref eb])) eb [] := same_new (Same.refl _) htb _ _ upd_same
    have := told4 (ds := []) (N := 801) (F7.same sz).hf upd_same iq ie m.G ⟨by omega, by omega, by omega, by omega, by omega, by omega, fun z hz => by
        rw [if_neg (by omega)]
        have z1 := (List.take_sublist 401 ns).subset hz
        exact ⟨m.pos z z1, by have := leg z z1; omega⟩, m.asc.sublist (List.take_sublist _ _), List.Pairwise.nil, fun _ h => (nomatch h)⟩
      (by rw [rep_front (fun x hx => by have := ps4 x hx; exact ⟨by omega, by omega⟩), l400, l401]) (by decide)
    rw [if_neg (by omega)] at this
    exact this
  have sz8 := (same_new (o := .tup [.int 0, .int 0, .int (g0 + 1), .ref q6, .ref eb]) (same_new (o := .lst []) (same_new (o := .lst (cutV (ns.map V.int) none (some 401))) (Same.refl H7) hq6) heb) htb).trans s8
  refine ⟨D, _, _, rfl, rfl, sz8 _ _ hw7, small1000 (by show (4 : Nat) ≤ 1000; decide), ?_⟩
  have s9 : Same Hx (upd H8 D (.lst ([.str (wOf 400), .str (wOf 401), .str (wOf 401), .str (wOf 400)] ++ [.str (wT false)]))) := same_put (s7.trans sz8) hD
  have hw9 : (upd H8 D (.lst ([.str (wOf 400), .str (wOf 401), .str (wOf 401), .str (wOf 400)] ++ [.str (wT false)]))) D = some (.lst [.str (wOf 400), .str (wOf 401), .str (wOf 401), .str (wOf 400), .str (wT false)]) := upd_same
  generalize upd H8 D (.lst ([.str (wOf 400), .str (wOf 401), .str (wOf 401), .str (wOf 400)] ++ [.str (wT false)])) = H9 at s9 hw9 ⊢
  have F9 := Fx.same s9
  try dsimp only [List.set]
  have h0 : ns[0]? = some n0 := by
    have := congrArg (fun l => l[0]?) m.e4
    rw [List.getElem?_take, if_pos (by decide)] at this
    exact this
  have at0 : atI (ns.map V.int) 0 = some (.int n0) := at_of2 (j := 0) rfl (by rw [List.getElem?_map, h0]; rfl)
  have m0 : n0 ∈ ns.take 400 := by rw [m.e4]; exact List.mem_cons_self
  have p0 := ps4 n0 m0
  have l4 : r4.length = 399 := by have := congrArg List.length m.e4; rw [l400, List.length_cons] at this; omega
  have a0 : ∀ x ∈ r4, n0 < x := by
    have := m.asc.sublist (List.take_sublist 400 ns)
    rw [m.e4] at this
    exact (List.pairwise_cons.mp this).1
  refine ⟨_, rfl, _, rfl, _, rfl, sp, _, 0, .int n0, rfl, rfl, SqL.of F9.il, at0, by show (1 : Nat) ≤ sizeLine; decide, fun ec hec => ⟨by show (1 : Nat) ≤ sizeLine; decide, fun ed hed => ⟨by show (5 : Nat) ≤ sizeLine; decide, fun tc htc => ⟨4, .ref fu, .ref tc, wOf 400, rfl, ?_, fun Ha sa => ?_⟩⟩⟩⟩
  · have sz := same_new (o := .tup [.int 0, .int n0, .int 1, .ref ec, .ref ed]) (same_new (o := .lst [.int 1]) (same_new (o := .lst [.int 1]) (Same.refl H9) hec) hed) htc
    have ic : IL (upd (upd (upd H9 ec (.lst [.int 1])) ed (.lst [.int 1])) tc (.tup [.int 0, .int n0, .int 1, .ref ec, .ref ed])) ec [1] := same_new (same_new (Same.refl _) hed) htc _ _ upd_same
    have id' : IL (upd (upd (upd H9 ec (.lst [.int 1])) ed (.lst [.int 1])) tc (.tup [.int 0, .int n0, .int 1, .ref ec, .ref ed])) ed [1] := same_new (Same.refl _) htc _ _ upd_same
    have := told4 (N := 400) (F9.same sz).hf upd_same ic id' m.G ⟨by omega, by omega, by omega, by omega, by omega, by decide, fun z hz => by rw [if_neg (by omega), List.mem_singleton.mp hz]; omega, List.pairwise_singleton _ _, List.pairwise_singleton _ _, fun _ h => h⟩
      (by rw [m.e4, rep_first rfl (by omega) a0, l4]; rfl) (by decide)
    rw [if_pos (by decide)] at this
    exact this
  have sza := (same_new (o := .tup [.int 0, .int n0, .int 1, .ref ec, .ref ed]) (same_new (o := .lst [.int 1]) (same_new (o := .lst [.int 1]) (Same.refl H9) hec) hed) htc).trans sa
  have Fa := F9.same sza
  refine ⟨_, rfl, by show (1 : Nat) ≤ sizeLine; decide, fun ee hee => ⟨Nat.zero_le _, fun ef hef => ⟨by show (5 : Nat) ≤ sizeLine; decide, fun td htd => ⟨4, .ref fu, .ref td, wOf 401, rfl, ?_, fun Hb sb => ?_⟩⟩⟩⟩
  · have sz := same_new (o := .tup [.int 0, .int 0, .int 1, .ref ee, .ref ef]) (same_new (o := .lst []) (same_new (o := .lst [.int 1]) (Same.refl Ha) hee) hef) htd
    have ic : IL (upd (upd (upd Ha ee (.lst [.int 1])) ef (.lst [])) td (.tup [.int 0, .int 0, .int 1, .ref ee, .ref ef])) ee [1] := same_new (same_new (Same.refl _) hef) htd _ _ upd_same
    have id' : IL (upd (upd (upd Ha ee (.lst [.int 1])) ef (.lst [])) td (.tup [.int 0, .int 0, .int 1, .ref ee, .ref ef])) ef [] := same_new (Same.refl _) htd _ _ upd_same
    have := told4 (ds := []) (N := 401) (Fa.same sz).hf upd_same ic id' m.G ⟨by omega, by omega, by omega, by omega, by omega, by decide, fun z hz => by rw [if_neg (by omega), List.mem_singleton.mp hz]; omega, List.pairwise_singleton _ _, List.Pairwise.nil, fun _ h => (nomatch h)⟩
      (by rw [rep_front (fun x hx => by have := ps4 x hx; exact ⟨by omega, by omega⟩), l400]; rfl) (by decide)
    rw [if_pos (by decide)] at this
    exact this
  have szb := (same_new (o := .tup [.int 0, .int 0, .int 1, .ref ee, .ref ef]) (same_new (o := .lst []) (same_new (o := .lst [.int 1]) (Same.refl Ha) hee) hef) htd).trans sb
  refine ⟨by show (2 : Nat) ≤ sizeLine; decide, fun u7 hu7 => ⟨D, u7, _, _, rfl, rfl, (same_new (Same.refl Hb) hu7) _ _ (szb _ _ (sza _ _ hw9)), upd_same, by show (7 : Nat) ≤ sizeLine; decide, fun t7 ht7 => ?_⟩⟩
  have sc := same_new (o := .lst [.str (wOf 400), .str (wOf 401), .str (wOf 401), .str (wOf 400), .str (wT false), .str (wOf 400), .str (wOf 401)]) (same_new (o := .lst [.str (wOf 400), .str (wOf 401)]) (Same.refl Hb) hu7) ht7
  have hwc : (upd (upd Hb u7 (.lst [.str (wOf 400), .str (wOf 401)])) t7 (.lst [.str (wOf 400), .str (wOf 401), .str (wOf 401), .str (wOf 400), .str (wT false), .str (wOf 400), .str (wOf 401)])) t7 = some (.lst [.str (wOf 400), .str (wOf 401), .str (wOf 401), .str (wOf 400), .str (wT false), .str (wOf 400), .str (wOf 401)]) := upd_same
  show gName 6 _ _ (upd (upd Hb u7 (.lst [.str (wOf 400), .str (wOf 401)])) t7 (.lst [.str (wOf 400), .str (wOf 401), .str (wOf 401), .str (wOf 400), .str (wT false), .str (wOf 400), .str (wOf 401)])) _
  generalize upd (upd Hb u7 (.lst [.str (wOf 400), .str (wOf 401)])) t7 (.lst [.str (wOf 400), .str (wOf 401), .str (wOf 401), .str (wOf 400), .str (wT false), .str (wOf 400), .str (wOf 401)]) = Hc at sc hwc ⊢
  rw [w400, w401] at hwc
  have sHc : Same Hx Hc := s9.trans ((sza.trans szb).trans sc)
  have Fc := Fx.same sHc
  try dsimp only [List.set]
  refine ⟨_, rfl, by show (7 : Nat) ≤ sizeLine; decide, fun v7 hv7 => ?_⟩
  have sd := same_new (o := .lst [.str "fine", .str "row", .str "row", .str "fine", .str "change", .str "fine", .str "row"]) (Same.refl Hc) hv7
  have hvd : (upd Hc v7 (.lst [.str "fine", .str "row", .str "row", .str "fine", .str "change", .str "fine", .str "row"])) v7 = some (.lst [.str "fine", .str "row", .str "row", .str "fine", .str "change", .str "fine", .str "row"]) := upd_same
  refine ⟨_, _, .lst (SqL.of (sd _ _ hwc)) (dp_strs (["fine", "row", "row", "fine", "change", "fine", "row"] : List Str)), .lst (SqL.of hvd) (dp_strs (["fine", "row", "row", "fine", "change", "fine", "row"] : List Str)), by decide +kernel, by decide +kernel, _, rfl, ifF (by decide +kernel) ?_⟩
  generalize upd Hc v7 (.lst [.str "fine", .str "row", .str "row", .str "fine", .str "change", .str "fine", .str "row"]) = Hd at sd hvd ⊢
  have Fd := Fc.same sd
  have s3d : Same H3 Hd := sx.trans (sHc.trans sd)
  have y1d : Hd fu = some (.ins C fx (flds (lst + 9) f1 f2)) := s3d _ _ (s3 _ _ y1)
  have ka := s3d _ _ hkp3
  have kb := s3d _ _ ik1
  have kc := s3d _ _ ik2
  refine ⟨_, rfl, _, rfl, fu, fx, _, rfl, y1d, fu, _, _, _, rfl, Fd.hf, ?_⟩
  refine ⟨_, rfl, fu, fx, _, rfl, y1d, fu, _, _, _, rfl, Fd.hf, fun k3 Hf sf hk3 ik3 => ?_⟩
  refine ⟨_, rfl, fu, fx, _, rfl, sf _ _ y1d, fu, _, _, _, rfl, Fd.hf.same sf, fun k4 Hg sg hk4 ik4 => ⟨by show (3 : Nat) ≤ sizeLine; decide, fun kq hkq => ?_⟩⟩
  have sq := same_new (o := .lst [.int (lst + 9), .ref k3, .ref k4]) (Same.refl Hg) hkq
  have sdq := (sf.trans sg).trans sq
  refine ⟨dSh (lst + 9) (ns.take 400) ss, dSh (lst + 9) (ns.take 400) ss, .lst (SqL.of (sdq _ _ ka)) (.cons (.int _) (.cons (dp_il (sdq _ _ kb)) (.cons (dp_il (sdq _ _ kc)) .nil))), .lst (SqL.of upd_same) (.cons (.int _) (.cons (dp_il (sq _ _ (sg _ _ ik3))) (.cons (dp_il (sq _ _ ik4)) .nil))), shape_sh _ _ _, shape_sh _ _ _, _, rfl, ?_⟩
  rw [eqv_sh]
  refine ifF rfl ?_
  generalize upd Hg kq (.lst [.int (lst + 9), .ref k3, .ref k4]) = Hh at sdq
  have Fh := Fd.same sdq
  have y1h := sdq _ _ y1d
  try dsimp only [List.set]
  obtain ⟨n9, h9⟩ : ∃ z, ns[9]? = some z := ⟨_, List.getElem?_eq_getElem (by rw [m.ln]; decide)⟩
  have at9 : atI (ns.map V.int) 9 = some (.int n9) := at_of2 (j := 9) rfl (by rw [List.getElem?_map, h9]; rfl)
  have h94 : (ns.take 400)[9]? = some n9 := by rw [List.getElem?_take, if_pos (by decide)]; exact h9
  have p9 := ps4 n9 (List.mem_of_getElem? h94)
  refine ⟨_, rfl, fu, fx, _, rfl, y1h, fu, _, _, _, rfl, Fh.hf, (ns.take 400).length, rfl, by rw [l400]; decide, ?_⟩
  rw [l400]
  refine ⟨rfl, _, rfl, ifF (by decide +kernel) ?_⟩
  refine ⟨_, rfl, fu, fx, _, rfl, y1h, rfl, _, rfl, sp, _, 9, .int n9, rfl, rfl, SqL.of Fh.il, at9, fu, lst + 9, 0, n9, ns.take 400, ss, rfl, Fh.hf, m.G, by decide, by omega, by omega, fun pp Hi si rn9 => ?_⟩
  have Fi := Fh.same si
  obtain ⟨px, pf1, pf2, z1, z2, z3⟩ := id rn9.at
  have lc : (cutM (ns.take 400) 0 n9).length = 9 := by
    have e : (ns.take 400).filter (fun x => decide (0 < x) && decide (x < n9)) = ns.take 9 := by
      refine asc_ext ((m.asc.sublist (List.take_sublist _ _)).sublist List.filter_sublist) (m.asc.sublist (List.take_sublist _ _)) fun z => ?_
      have w := mem_below (x := z) (m.asc.sublist (List.take_sublist 400 ns)) h94
      rw [List.take_take] at w
      rw [List.mem_filter]
      simp only [Bool.and_eq_true, decide_eq_true_eq]
      exact ⟨fun h => w.mp ⟨h.1, h.2.2⟩, fun h => ⟨(w.mpr h).1, by have := (ps4 z (w.mpr h).1).1; omega, (w.mpr h).2⟩⟩
    unfold cutM
    rw [List.length_map, e, List.length_take, m.ln]
    rfl
  refine ⟨pp, px, _, rfl, z1, pp, _, _, _, rfl, rn9.at, (cutM (ns.take 400) 0 n9).length, rfl, by rw [lc]; decide, ?_⟩
  rw [lc]
  refine ⟨rfl, _, rfl, ifF (by decide +kernel) ?_⟩
  obtain ⟨gx, gf1, gf2, w1, w2, w3⟩ := id Fi.hm
  refine ⟨_, rfl, mo, gx, _, rfl, w1, rfl, _, rfl, _, rfl, sp, _, rfl, SqL.of Fi.il, fun q8 hq8 => ?_⟩
  have s8 := same_new (o := .lst (cutV (ns.map V.int) none (some 1))) (Same.refl Hi) hq8
  have e1 : ns.take 1 = [n0] := by
    have := congrArg (List.take 1) m.e4
    rw [List.take_take] at this
    exact this
  have i8 : IL (upd Hi q8 (.lst (cutV (ns.map V.int) none (some 1)))) q8 [n0] := by
    show upd _ _ _ _ = _
    rw [upd_same, show (some (1 : Int)) = some ((1 : Nat) : Int) from rfl, cut_to (by rw [m.ln]; decide), e1]
  generalize upd Hi q8 (.lst (cutV (ns.map V.int) none (some 1))) = Hj at s8 i8 ⊢
  have Fj := Fi.same s8
  refine ⟨_, rfl, sp, _, 0, .int n0, rfl, rfl, SqL.of Fj.il, at0, _, rfl, so, _, rfl, .inl (SqL.of Fj.is), rfl, flat_il, ?_⟩
  rw [if_neg Bool.false_ne_true, inV_il]
  have mT : ∀ z, z ∈ ns.take 400 ↔ z ∈ r4 ∨ z ∈ [n0] := fun z => by rw [m.e4, List.mem_cons, List.mem_singleton]; exact Or.comm
  have nr : n0 ∉ r4 := fun h => by have := a0 n0 h; omega
  have tm : ∀ z, z ∈ t1 ↔ z ∈ ss ∧ z ≠ n0 := fun z => by rw [← m.ht]; unfold offM; rw [List.mem_filter]; simp
  refine ⟨mo, q8, decide (n0 ∈ ss), lst + 9, r4, t1, [n0], rfl, Fj.hm, m.G1, i8, by show (1 : Nat) ≤ 1000; decide, ⟨ns.take 400, by omega, fun z hz => (mT z).mpr (.inl hz), fun z hz => (mT z).mpr (.inr hz)⟩, fun z hz => by rw [List.mem_singleton.mp hz]; omega, fun p Hk ms' ss' sk Gk mm sm rn => ?_⟩
  have em : ms' = ns.take 400 := asc_ext Gk.asc m.G.asc fun z => (mm z).trans (mT z).symm
  have es : ss' = ss := asc_ext Gk.asc2 m.as fun z => by
    rw [sm z]
    by_cases c : n0 ∈ ss
    · rw [if_pos (by simpa using c), tm z, List.mem_singleton]
      constructor
      · rintro (h | rfl)
        · exact h.1
        · exact c
      · intro h
        by_cases d : z = n0
        · exact .inr d
        · exact .inl ⟨h, d⟩
    · rw [if_neg (by simpa using c), tm z, List.mem_singleton]
      constructor
      · rintro ⟨h, _⟩
        exact h.1
      · intro h
        have d : z ≠ n0 := fun y => by subst y; exact c h
        exact ⟨⟨h, d⟩, d⟩
  subst em
  subst es
  refine ⟨_, rfl, alike_at rn.at (Fj.same sk).hf, fun Hl el => ?_⟩
  exact q Hl (s3.trans (s3d.trans (sdq.trans (si.trans (s8.trans (sk.trans el))))))
end
end Cw
namespace Cw
open PySem L2
section
variable {P : Program} {w : World} {K : PySem.W.Frag} {mg : Str → Option Value} {base : Heap}
theorem ok_ri {f C fS fD fT fW fO fP fLn fI pL fGL pM fGM pS fGS : Addr} {fd fdS fdD fdT fdW fdO fdP fdLn fdI dL dM dS : FuncData} (F : Fun K "_law_right" "_law_right" sRi f fd) (T : Bl mg) (R : Cl K mg C) (M : Mk K C fI) (bI : Binds K fdI NI []) (GI : FnOk P w K mg base CX0 5 fI fdI NI (spInit C)) (Gs : Gets P w K mg base C pL fGL pM fGM pS fGS dL dM dS) {fE : Addr} {fdE : FuncData} (Z : Eqs P w K mg base C fE fdE)
    (gS : mg "_law_spots" = some (.ref fS)) (kS : PySem.W.keepIn K (.ref fS) = true) (bS : Binds K fdS ["jar", "many"] []) (GS : FnOk P w K mg base CX0 3 fS fdS ["jar", "many"] spSpots)
    (gD : mg "_law_dip" = some (.ref fD)) (kD : PySem.W.keepIn K (.ref fD) = true) (bD : Binds K fdD ["jar", "many"] []) (GD : FnOk P w K mg base CX0 1 fD fdD ["jar", "many"] spDip)
    (gT : mg "_law_told" = some (.ref fT)) (kT : PySem.W.keepIn K (.ref fT) = true) (bT : Binds K fdT ["way", "one", "two"] []) (GT : FnOk P w K mg base CX0 8 fT fdT ["way", "one", "two"] (spTold C))
    (mW : Meth K C "with_marks" fW) (bW : Binds K fdW ["self", "places", "is_strict"] []) (GW : FnOk P w K mg base CX0 7 fW fdW ["self", "places", "is_strict"] (spWith C))
    (mO : Meth K C "without_marks" fO) (bO : Binds K fdO ["self", "places"] []) (GO : FnOk P w K mg base CX0 7 fO fdO ["self", "places"] (spWout C))
    (mP : Meth K C "part" fP) (bP : Binds K fdP ["self", "begin", "end"] []) (GP : FnOk P w K mg base CX0 7 fP fdP ["self", "begin", "end"] (spPart C))
    (mLn : Meth K C "__len__" fLn) (bLn : Binds K fdLn ["self"] []) (GLn : FnOk P w K mg base CX0 1 fLn fdLn ["self"] (spLenR C)) :
    FnOk P w K mg base CX0 9 f fd ["jar"] (spRi C) := by
  refine F.ok scRi (fun vs H Q E h => ?_) (fun cdv A outer s H vs Q E hr h => ?_)
  · obtain ⟨a, k, rfl, _⟩ := h
    rfl
  · obtain ⟨a, k, rfl, J, q⟩ := h
    obtain ⟨tl, hT, hQ⟩ := ri_tail (P := P) (w := w) (K := K) (mg := mg) (base := base) (C := C) T R M bI GI Gs Z gS kS bS GS gD kD bD GD gT kT bT GT mW bW GW mO bO GO mP bP GP mLn bLn GLn (f := f) (cdv := cdv) (A := A) (outer := outer) (s := s) (H0 := H) (E := E) hr
    refine ⟨_, (pss_cons (ps_set (i := 1) scRi.nd rfl (Or.inl rfl) (pe_call GS (hr.mono (by decide)) rfl gS kS bS .nil pass0 (pa_cons (pv 0) (pa_cons pe_int pa_nil))))
        (pss_cons (ps_setLc (i := 2) (own := [("place", 12)]) (g := (gName 12)) rfl scRi.nd rfl rfl (sw_true rfl rfl rfl (by decide +kernel)) (pi_list (pe_slice sl_list (pv 1) po_none (po_some pe_int))) (blkOk_by (own := [("place", 12)]) (N := NRi) (sc := defScope sRi) (by decide +kernel)) (fun _ _ _ _ _ => (pg_name (i := 12) scRi.nd rfl (Or.inl rfl))) (fun _ _ _ _ _ => (pts_one (pt_cmpR op_eq (pe_call GD (hr.mono (by decide)) rfl gD kD bD .nil pass0 (pa_cons (pv 0) (pa_cons pe_int pa_nil))) pe_int (nomark _)))) (fun _ _ _ _ _ => (pv 12)))
        (pss_cons (ps_asg (pe_tup (pa_cons (pe_ix (r := rIxL K) ix_list (pv 1) pe_int (fun _ _ => rfl)) (pa_cons (pe_make M GI (hr.mono (by decide)) rfl R.mgR bI .nil pass0 (pa_cons (pe_op op_add (pe_ix (r := rIxL K) ix_list (pv 1) pe_int (fun _ _ => rfl)) pe_int) (pa_cons (pe_slice sl_list (pv 1) po_none (po_some pe_int)) (pa_cons (pv 2) pa_nil)))) pa_nil))) (pg_tup rfl (pgs_cons (pg_name (i := 3) scRi.nd rfl (Or.inr rfl)) (pgs_cons (pg_name (i := 4) scRi.nd rfl (Or.inr rfl)) pgs_nil))))
        (pss_cons (ps_set (i := 5) scRi.nd rfl (Or.inl rfl) (pe_meth (pv 4) R.cl mO GO (hr.mono (by decide)) bO .nil pass0 (pa_cons (pe_slice sl_list (pv 1) po_none (po_some pe_int)) pa_nil)))
        (pss_cons (ps_set (i := 6) scRi.nd rfl (Or.inl rfl) (pe_lst (pa_cons (pe_call GT (hr.mono (by decide)) rfl gT kT bT .nil pass0 (pa_cons pe_int (pa_cons (pe_slice sl_list (pv 1) po_none (po_some pe_int)) (pa_cons (pv 2) pa_nil)))) (pa_cons (pe_call GT (hr.mono (by decide)) rfl gT kT bT .nil pass0 (pa_cons pe_int (pa_cons (pe_slice sl_list (pv 1) po_none (po_some pe_int)) (pa_cons (pv 2) pa_nil)))) (pa_cons (pe_call GT (hr.mono (by decide)) rfl gT kT bT .nil pass0 (pa_cons pe_int (pa_cons (pv 1) (pa_cons (pe_lst pa_nil) pa_nil)))) pa_nil)))))
        (pss_cons (ps_set (i := 6) scRi.nd rfl (Or.inl rfl) (pe_op op_cat (pv 6) (pe_lst (pa_cons (pe_call GT (hr.mono (by decide)) rfl gT kT bT .nil pass0 (pa_cons pe_int (pa_cons (pv 4) (pa_cons (pe_slice sl_list (pv 1) (po_some pe_int) (po_some pe_int)) pa_nil)))) (pa_cons (pe_call GT (hr.mono (by decide)) rfl gT kT bT .nil pass0 (pa_cons pe_int (pa_cons (pv 4) (pa_cons (pe_lst (pa_cons (pe_op op_add (pv 3) pe_int) pa_nil)) pa_nil)))) (pa_cons (pe_call GT (hr.mono (by decide)) rfl gT kT bT .nil pass0 (pa_cons pe_int (pa_cons (pv 5) (pa_cons (pe_lst (pa_cons (pe_op op_add (pv 3) pe_int) pa_nil)) pa_nil)))) pa_nil))))))
        (pss_cons (ps_set (i := 6) scRi.nd rfl (Or.inl rfl) (pe_op op_cat (pv 6) (pe_lst (pa_cons (pe_call GT (hr.mono (by decide)) rfl gT kT bT .nil pass0 (pa_cons pe_int (pa_cons (pv 5) (pa_cons (pe_lst (pa_cons (pe_op op_add (pv 3) pe_int) (pa_cons (pe_op op_add (pv 3) pe_int) pa_nil))) pa_nil)))) (pa_cons (pe_call GT (hr.mono (by decide)) rfl gT kT bT .nil pass0 (pa_cons pe_int (pa_cons (pv 5) (pa_cons (pe_lst (pa_cons (pe_op op_add (pv 3) pe_int) (pa_cons (pe_op op_add (pv 3) pe_int) pa_nil))) pa_nil)))) pa_nil)))))
        (pss_cons (ps_par (i := 7) (j := 8) rfl scRi.nd rfl rfl (by decide) rfl rfl (pa_cons (pe_make M GI (hr.mono (by decide)) rfl R.mgR bI .nil pass0 (pa_cons pe_int (pa_cons (pe_lst pa_nil) (pa_cons (pe_lst pa_nil) pa_nil)))) (pa_cons (pe_make M GI (hr.mono (by decide)) rfl R.mgR bI .nil pass0 (pa_cons pe_int (pa_cons (pe_lst (pa_cons pe_int pa_nil)) (pa_cons (pe_lst pa_nil) pa_nil)))) pa_nil)) (by rfl))
        (pss_cons (ps_set (i := 6) scRi.nd rfl (Or.inl rfl) (pe_op op_cat (pv 6) (pe_lst (pa_cons (pe_call GT (hr.mono (by decide)) rfl gT kT bT .nil pass0 (pa_cons pe_int (pa_cons (pv 4) (pa_cons (pv 7) pa_nil)))) (pa_cons (pe_call GT (hr.mono (by decide)) rfl gT kT bT .nil pass0 (pa_cons pe_int (pa_cons (pv 5) (pa_cons (pv 7) pa_nil)))) (pa_cons (pe_call GT (hr.mono (by decide)) rfl gT kT bT .nil pass0 (pa_cons pe_int (pa_cons (pv 5) (pa_cons (pv 8) pa_nil)))) pa_nil))))))
        (pss_cons (ps_expr (pe_bm PySem.F.plainAttrs_list PySem.F.slot_list_append PySem.F.type_list_append mt_append (pv 6) (pa_cons (pe_call GT (hr.mono (by decide)) rfl gT kT bT .nil pass0 (pa_cons pe_int (pa_cons (pv 4) (pa_cons (pv 7) pa_nil)))) pa_nil)))
        (pss_cons (ps_set (i := 6) scRi.nd rfl (Or.inl rfl) (pe_op op_cat (pv 6) (pe_lst (pa_cons (pe_call GT (hr.mono (by decide)) rfl gT kT bT .nil pass0 (pa_cons pe_int (pa_cons (pv 4) (pa_cons (pv 8) pa_nil)))) (pa_cons (pe_call GT (hr.mono (by decide)) rfl gT kT bT .nil pass0 (pa_cons pe_int (pa_cons (pv 5) (pa_cons (pv 8) pa_nil)))) pa_nil)))))
        (pss_cons (ps_set (i := 9) scRi.nd rfl (Or.inl rfl) (pe_lst (pa_cons pe_str (pa_cons pe_str (pa_cons pe_str (pa_cons pe_str (pa_cons pe_str (pa_cons pe_str (pa_cons pe_str (pa_cons pe_str (pa_cons pe_str (pa_cons pe_str (pa_cons pe_str pa_nil)))))))))))))
        (pss_cons (ps_if (pt_cmpR (op_neD hr.units) (pv 6) (pe_op op_cat (pv 9) (pe_lst (pa_cons pe_str (pa_cons pe_str (pa_cons pe_str pa_nil))))) (nomark _)) (pss_one (ps_ret pe_bl)) pss_nil)
        hT))))))))))))), ?_⟩
    refine ⟨_, rfl, a, k + 400, 402, rfl, J.mono (by omega), by omega, fun sp ns H1 hsp ln asc pos J1 B1 il1 => ?_⟩
    try dsimp only [L2.start, List.set, List.map, List.append, List.replicate, List.length]
    refine ⟨_, rfl, _, rfl, sp, _, rfl, SqL.of il1, fun q1 hq1 => ⟨q1, rfl, ⟨_, SqL.of upd_same⟩, fun D2 hD2 => ?_⟩⟩
    generalize hH2 : upd H1 q1 (.lst (cutV (ns.map V.int) none (some 400))) = H2 at hD2 ⊢
    have hq2 : IL H2 q1 (ns.take 400) := by
      rw [← hH2]
      show upd _ _ _ _ = _
      rw [upd_same, show (some (400 : Int)) = some ((400 : Nat) : Int) from rfl, cut_to (by omega)]
    have s2 : Same H1 H2 := by
      rw [← hH2]
      exact same_new (Same.refl H1) hq1
    have nqa : q1 ≠ a := (J1.ne hq1).symm
    have J2 : JarAt H2 a (k + 400) := J1.same s2
    have nDa : D2 ≠ a := (J2.ne hD2).symm
    refine lc_list (K := K) (a := q1) (xs := (ns.take 400).map V.int) (fun i H' => JarAt H' a (k + (400 - i)) ∧ But H2 H' a ∧ ∃ ss, IL H' D2 ss ∧ Asc ss ∧ ∀ z ∈ ss, z ∈ (ns.take 400).take i)
      ⟨J2.put nDa.symm, (But.refl H2 a).new hD2, [], upd_same, List.Pairwise.nil, fun _ h => (nomatch h)⟩ (fun i H' _ z => SqL.of (z.2.1 _ _ hq2 nqa)) ?_ ?_
    · rintro i x H' hx ⟨J', B', ss, hss, as, sub⟩
      rw [List.getElem?_map] at hx
      obtain ⟨z, hz, rfl⟩ := Option.map_eq_some_iff.mp hx
      have il : i < 400 := by
        have z1 := (List.getElem?_eq_some_iff.mp hz).1
        rw [List.length_take] at z1
        omega
      have Kd : JarAt H' a (k + (400 - (i + 1)) + 1) := J'.mono (by omega)
      have tk : (ns.take 400).take (i + 1) = (ns.take 400).take i ++ [z] := by rw [List.take_add_one, hz]; rfl
      refine ⟨rfl, _, rfl, a, _, 3, rfl, Kd, by decide, by decide, fun u H3 u0 u3 J3 B3 => ⟨rfl, _, rfl, ?_⟩⟩
      have hs3 := B3 _ _ hss nDa
      by_cases c : u = 0
      · subst c
        refine ifT (dec_int.trans (by decide)) ⟨_, rfl, _, hs3, by rw [List.length_map]; exact small1000 (by
          have := nodup_len (as.imp fun h e => by omega) sub
          rw [List.length_take, List.length_take] at this
          omega), J3.put nDa.symm, (B'.trans B3).put hD2, ss ++ [z], ?_, asc_end as fun x hx => asc_before (asc.sublist (List.take_sublist _ _)) hz x (sub x hx), fun x hx => ?_⟩
        · show upd _ _ _ _ = _
          rw [upd_same, ints_app]
        · rw [tk]
          rcases List.mem_append.mp hx with hx | hx
          · exact List.mem_append_left _ (sub x hx)
          · exact List.mem_append_right _ hx
      · refine ifF (dec_int.trans (by simpa using c)) ⟨J3, B'.trans B3, ss, hs3, as, fun x hx => ?_⟩
        rw [tk]
        exact List.mem_append_left _ (sub x hx)
    · rintro H3 ⟨J3, B3, ss, hss, as, sub⟩
      rw [List.length_map, List.take_of_length_le (Nat.le_refl _)] at sub
      have J3 : JarAt H3 a k := J3.mono (Nat.le_add_right _ _)
      have il3 := B3 _ _ (s2 _ _ il1) (J.ne hsp).symm
      obtain ⟨lst, hlst⟩ : ∃ z, ns[399]? = some z := ⟨_, List.getElem?_eq_getElem (by omega)⟩
      have at399 : atI (ns.map V.int) 399 = some (.int lst) := at_of2 (j := 399) rfl (by rw [List.getElem?_map, hlst]; rfl)
      have as4 : Asc (ns.take 400) := asc.sublist (List.take_sublist _ _)
      have ps4 : ∀ z ∈ ns.take 400, 1 ≤ z ∧ z ≤ lst := fun z hz => ⟨pos z (List.take_sublist _ _ |>.subset hz), le_at asc hlst z hz⟩
      have lp : 1 ≤ lst := pos lst (List.mem_of_getElem? hlst)
      have G : Good (lst + 9) (ns.take 400) ss := ⟨by omega, by rw [List.length_take]; omega, fun z hz => ⟨(ps4 z hz).1, by have := (ps4 z hz).2; omega⟩, as4, as, sub⟩
      try dsimp only [L2.start, List.set, List.map, List.append, List.replicate, List.length]
      refine ⟨_, rfl, sp, _, 399, .int lst, rfl, rfl, SqL.of il3, at399, _, rfl, sp, _, 399, .int lst, rfl, rfl, SqL.of il3, at399, _, _, rfl, rfl, _, rfl, _, rfl, sp, _, rfl, SqL.of il3, fun q2 hq2 => ⟨_, rfl, fun x dx hx hd ne => ?_⟩⟩
      have sx : Same H3 (upd (upd (upd H3 q2 (.lst (cutV (ns.map V.int) none (some 400)))) dx (.own x)) x (.ins C dx [])) :=
        same_new (same_new (same_new (Same.refl H3) hq2) hd) (by rw [upd_ne ne.symm]; exact hx)
      have iq2 : IL (upd (upd (upd H3 q2 (.lst (cutV (ns.map V.int) none (some 400)))) dx (.own x)) x (.ins C dx [])) q2 (ns.take 400) := by
        have e1 : q2 ≠ x := fun z => by subst z; rw [upd_same] at hx; cases hx
        have e2 : q2 ≠ dx := fun z => by subst z; rw [upd_same] at hd; cases hd
        show upd _ _ _ _ = _
        rw [upd_ne e1, upd_ne e2, upd_same, show (some (400 : Int)) = some ((400 : Nat) : Int) from rfl, cut_to (by omega)]
      refine ⟨x, dx, q2, D2, lst + 9, ns.take 400, ss, rfl, upd_same, iq2, sx _ _ hss, G, fun H4 rn keep => ⟨rfl, by show (2 : Nat) ≤ sizeLine; decide, fun tp htp => ⟨tp, _, rfl, SqT.of upd_same, rfl, _, _, rfl, _, _, rfl, rfl, ?_⟩⟩⟩
      have s4 : Same H3 H4 := fun c o e => keep c o (sx _ _ e) (fun z => by
        subst z
        have z1 : H3 c = none := by
          by_cases z : H3 c = none
          · exact z
          · obtain ⟨o', e'⟩ := Option.ne_none_iff_exists'.mp z
            have z2 := same_new (o := .lst (cutV (ns.map V.int) none (some 400))) (Same.refl H3) hq2 _ _ e'
            rw [z2] at hx
            cases hx
        rw [z1] at e
        cases e)
      have s5 := same_new (o := .tup [.int lst, .ref x]) s4 htp
      have hf5 := rn.at.same (same_new (o := .tup [.int lst, .ref x]) (Same.refl H4) htp)
      generalize upd H4 tp (.tup [.int lst, .ref x]) = H5 at s5 hf5 ⊢
      try dsimp only [L2.start, List.set, List.map, List.append, List.replicate, List.length]
      obtain ⟨n0, r4, e4⟩ : ∃ n0 r4, ns.take 400 = n0 :: r4 := by
        cases h : ns.take 400 with
        | nil => have := congrArg List.length h; rw [List.length_take, ln] at this; exact absurd this (by decide)
        | cons a b => exact ⟨a, b, rfl⟩
      have l4 : r4.length = 399 := by have := congrArg List.length e4; rw [List.length_take, ln, List.length_cons] at this; omega
      have e1 : ns.take 1 = [n0] := by
        have := congrArg (List.take 1) e4
        rw [List.take_take] at this
        exact this
      have il5 := s5 _ _ il3
      obtain ⟨fx, f1, f2, y1, y2, y3⟩ := id hf5
      refine ⟨_, rfl, x, fx, flds (lst + 9) f1 f2, rfl, y1, rfl, _, rfl, _, rfl, sp, _, rfl, SqL.of il5, fun q3 hq3 => ?_⟩
      have sq3 := same_new (o := .lst (cutV (ns.map V.int) none (some 1))) (Same.refl H5) hq3
      have iq3 : IL (upd H5 q3 (.lst (cutV (ns.map V.int) none (some 1)))) q3 [n0] := by
        show upd _ _ _ _ = _
        rw [upd_same, show (some (1 : Int)) = some ((1 : Nat) : Int) from rfl, cut_to (by omega), e1]
      have m0 : n0 ∈ ns.take 400 := by rw [e4]; exact List.mem_cons_self
      refine ⟨x, q3, lst + 9, ns.take 400, ss, [n0], rfl, hf5.same sq3, G, iq3, by show (1 : Nat) ≤ 1000; decide, fun z hz => ?_, fun mo H6 s6 rm => ?_⟩
      · rw [List.mem_singleton.mp hz]
        have := ps4 n0 m0
        omega
      have hm6 := rm.at
      have hf6 := hf5.same (sq3.trans s6)
      have s6 := s5.trans (sq3.trans s6)
      rw [e4] at as4
      have eo : offM (ns.take 400) [n0] = r4 := by rw [e4]; exact off_first as4
      rw [eo] at hm6
      generalize ht1 : offM ss [n0] = t1 at hm6
      have G1 : Good (lst + 9) r4 t1 := by
        refine ⟨by omega, by omega, fun z hz => G.rng z (by rw [e4]; exact List.mem_cons_of_mem _ hz), (List.pairwise_cons.mp as4).2, ?_, fun z hz => ?_⟩
        · rw [← ht1]
          exact as.sublist List.filter_sublist
        · rw [← ht1] at hz
          obtain ⟨z1, z2⟩ := List.mem_filter.mp hz
          have z3 := sub z z1
          rw [e4] at z3
          rcases List.mem_cons.mp z3 with z3 | z3
          · subst z3
            simp at z2
          · exact z3
      have F6 : RF C H6 sp D2 x mo ns ss r4 t1 lst := ⟨s6 _ _ il3, s6 _ _ hss, hf6, hm6⟩
      try dsimp only [L2.start, List.set, List.map, List.append, List.replicate, List.length]
      have l400 : (ns.take 400).length = 400 := by rw [List.length_take]; omega
      have l401 : (ns.take 401).length = 401 := by rw [List.length_take]; omega
      refine ⟨_, rfl, _, rfl, sp, _, rfl, SqL.of F6.il, fun qa hqa => ⟨_, rfl, 0, .ref qa, .ref D2, wOf 400, rfl, ?_, fun H7 s7 => ?_⟩⟩
      · have h1 : IL (upd H6 qa (.lst (cutV (ns.map V.int) none (some 400)))) qa (ns.take 400) := by
          show upd _ _ _ _ = _
          rw [upd_same, show (some (400 : Int)) = some ((400 : Nat) : Int) from rfl, cut_to (by omega)]
        have := told0 (C := C) h1 (F6.same (same_new (Same.refl H6) hqa)).is (asc.sublist (List.take_sublist _ _)) (fun z hz => (ps4 z hz).1) (by rw [e4]; exact List.cons_ne_nil _ _) (by omega) as sub
        rw [l400] at this
        exact this
      have s7' := (same_new (o := .lst (cutV (ns.map V.int) none (some 400))) (Same.refl H6) hqa).trans s7
      have F7 := F6.same s7'
      refine ⟨_, rfl, _, rfl, sp, _, rfl, SqL.of F7.il, fun qb hqb => ⟨_, rfl, 0, .ref qb, .ref D2, wOf 401, rfl, ?_, fun H8 s8 => ?_⟩⟩
      · have h1 : IL (upd H7 qb (.lst (cutV (ns.map V.int) none (some 401)))) qb (ns.take 401) := by
          show upd _ _ _ _ = _
          rw [upd_same, show (some (401 : Int)) = some ((401 : Nat) : Int) from rfl, cut_to (by omega)]
        have := told0 (C := C) h1 (F7.same (same_new (Same.refl H7) hqb)).is (asc.sublist (List.take_sublist _ _)) (fun z hz => pos z ((List.take_sublist _ _).subset hz)) (fun h => by rw [h] at l401; exact absurd l401 (by decide)) (by omega) as
          (fun z hz => by
            have z1 := sub z hz
            rw [show ns.take 400 = (ns.take 401).take 400 from by rw [List.take_take]; rfl] at z1
            exact (List.take_sublist _ _).subset z1)
        rw [l401] at this
        exact this
      have s8' := (same_new (o := .lst (cutV (ns.map V.int) none (some 401))) (Same.refl H7) hqb).trans s8
      have F8 := F7.same s8'
      refine ⟨_, rfl, Nat.zero_le _, fun e0 he0 => ⟨0, .ref sp, .ref e0, wOf 402, rfl, ?_, fun H9 s9 => ⟨by show (3 : Nat) ≤ sizeLine; decide, fun tl htl => ?_⟩⟩⟩
      · have := told0 (C := C) (F8.same (same_new (o := .lst []) (Same.refl H8) he0)).il (show IL (upd H8 e0 (.lst [])) e0 [] from upd_same) asc pos (fun h => by rw [h] at ln; exact absurd ln (by decide)) (by omega) List.Pairwise.nil (fun z hz => nomatch hz)
        rw [ln] at this
        exact this
      have F9 := (F8.same ((same_new (o := .lst []) (Same.refl H8) he0).trans s9)).same (same_new (o := .lst [.str (wOf 400), .str (wOf 401), .str (wOf 402)]) (Same.refl H9) htl)
      have ht9 : (upd H9 tl (.lst [.str (wOf 400), .str (wOf 401), .str (wOf 402)])) tl = some (.lst [.str (wOf 400), .str (wOf 401), .str (wOf 402)]) := upd_same
      have s9' : Same H6 (upd H9 tl (.lst [.str (wOf 400), .str (wOf 401), .str (wOf 402)])) := (((s7'.trans s8').trans (same_new (o := .lst []) (Same.refl H8) he0)).trans s9).trans (same_new (Same.refl H9) htl)
      have s9 := s6.trans s9'
      generalize upd H9 tl (.lst [.str (wOf 400), .str (wOf 401), .str (wOf 402)]) = Ha at F9 ht9 s9 ⊢
      try dsimp only [L2.start, List.set, List.map, List.append, List.replicate, List.length]
      refine ⟨_, rfl, _, rfl, _, rfl, _, rfl, _, rfl, sp, _, rfl, SqL.of F9.il, fun qc hqc => ⟨1, .ref x, .ref qc, wOf 400, rfl, ?_, fun Hb sb => ?_⟩⟩
      · have h1 : IL (upd Ha qc (.lst (cutV (ns.map V.int) (some 3) (some 9)))) qc ((ns.drop 3).take 6) := by
          show upd _ _ _ _ = _
          rw [upd_same, show (some (3 : Int)) = some ((3 : Nat) : Int) from rfl, show (some (9 : Int)) = some ((9 : Nat) : Int) from rfl, cut_mid (by omega) (by omega)]
        have sb2 : ∀ z ∈ (ns.drop 3).take 6, z ∈ ns.take 400 := fun z hz => by
          rw [show (ns.drop 3).take 6 = ((ns.take 400).take 9).drop 3 from by rw [List.take_take, List.drop_take]; rfl] at hz
          exact (List.take_sublist _ _).subset ((List.drop_sublist _ _).subset hz)
        have := told1 (F9.same (same_new (Same.refl Ha) hqc)).hf G h1 (asc.sublist (List.take_sublist 400 _)) (fun z => ⟨.inl, fun h => h.elim id (sb2 z)⟩) (by omega) (by rw [List.length_take]; omega) (fun z hz => G.rng z (sb2 z hz))
        rw [l400] at this
        exact this
      have sb' := (same_new (o := .lst (cutV (ns.map V.int) (some 3) (some 9))) (Same.refl Ha) hqc).trans sb
      have Fb := F9.same sb'
      have r4le : ∀ z ∈ r4, z ≤ lst := fun z hz => (ps4 z (by rw [e4]; exact List.mem_cons_of_mem _ hz)).2
      have A1 : Asc (ns.take 400 ++ [lst + 1]) := asc_end (asc.sublist (List.take_sublist _ _)) fun z hz => by have := (ps4 z hz).2; omega
      have A2 : Asc (r4 ++ [lst + 1]) := asc_end G1.asc fun z hz => by have := r4le z hz; omega
      have A3 : Asc (r4 ++ [lst + 1] ++ [lst + 2]) := asc_end A2 fun z hz => by
        rcases List.mem_append.mp hz with hz | hz
        · have := r4le z hz
          omega
        · rw [List.mem_singleton.mp hz]
          omega
      have L1 : (ns.take 400 ++ [lst + 1]).length = 401 := by rw [List.length_append, l400]; rfl
      have L2' : (r4 ++ [lst + 1]).length = 400 := by rw [List.length_append, l4]; rfl
      have L3 : (r4 ++ [lst + 1] ++ [lst + 2]).length = 401 := by rw [List.length_append, L2']; rfl
      refine ⟨_, rfl, _, rfl, _, _, rfl, rfl, by show (1 : Nat) ≤ sizeLine; decide, fun qd hqd => ⟨1, .ref x, .ref qd, wOf 401, rfl, ?_, fun Hc sc => ?_⟩⟩
      · have := told1 (T := ns.take 400 ++ [lst + 1]) (Fb.same (same_new (o := .lst [.int (lst + 1)]) (Same.refl Hb) hqd)).hf G (show IL (upd Hb qd (.lst [.int (lst + 1)])) qd [lst + 1] from upd_same) A1 (fun z => List.mem_append) (by omega) (by show (1 : Nat) ≤ 1000; decide)
          (fun z hz => by rw [List.mem_singleton.mp hz]; omega)
        rw [L1] at this
        exact this
      have sc' := (same_new (o := .lst [.int (lst + 1)]) (Same.refl Hb) hqd).trans sc
      have Fc := Fb.same sc'
      refine ⟨_, rfl, _, rfl, _, _, rfl, rfl, by show (1 : Nat) ≤ sizeLine; decide, fun qe hqe => ⟨1, .ref mo, .ref qe, wOf 400, rfl, ?_, fun Hd sd => ?_⟩⟩
      · have := told1 (T := r4 ++ [lst + 1]) (Fc.same (same_new (o := .lst [.int (lst + 1)]) (Same.refl Hc) hqe)).hm G1 (show IL (upd Hc qe (.lst [.int (lst + 1)])) qe [lst + 1] from upd_same) A2 (fun z => List.mem_append) (by omega) (by show (1 : Nat) ≤ 1000; decide)
          (fun z hz => by rw [List.mem_singleton.mp hz]; omega)
        rw [L2'] at this
        exact this
      have sd' := (same_new (o := .lst [.int (lst + 1)]) (Same.refl Hc) hqe).trans sd
      have Fd := Fc.same sd'
      have hta := sd' _ _ (sc' _ _ (sb' _ _ ht9))
      refine ⟨by show (3 : Nat) ≤ sizeLine; decide, fun u1 hu1 => ⟨tl, u1, _, _, rfl, rfl, (same_new (Same.refl Hd) hu1) _ _ hta, upd_same, by show (6 : Nat) ≤ sizeLine; decide, fun t2 ht2 => ?_⟩⟩
      have se := same_new (o := .lst [.str (wOf 400), .str (wOf 401), .str (wOf 402), .str (wOf 400), .str (wOf 401), .str (wOf 400)]) (same_new (o := .lst [.str (wOf 400), .str (wOf 401), .str (wOf 400)]) (Same.refl Hd) hu1) ht2
      have Fe := Fd.same se
      have hte : (upd (upd Hd u1 (.lst [.str (wOf 400), .str (wOf 401), .str (wOf 400)])) t2 (.lst [.str (wOf 400), .str (wOf 401), .str (wOf 402), .str (wOf 400), .str (wOf 401), .str (wOf 400)])) t2 = _ := upd_same
      have s9 := s9.trans (((sb'.trans sc').trans sd').trans se)
      show gName 6 _ _ (upd (upd Hd u1 (.lst [.str (wOf 400), .str (wOf 401), .str (wOf 400)])) t2 (.lst [.str (wOf 400), .str (wOf 401), .str (wOf 402), .str (wOf 400), .str (wOf 401), .str (wOf 400)])) _
      generalize upd (upd Hd u1 (.lst [.str (wOf 400), .str (wOf 401), .str (wOf 400)])) t2 (.lst [.str (wOf 400), .str (wOf 401), .str (wOf 402), .str (wOf 400), .str (wOf 401), .str (wOf 400)]) = He at Fe hte s9 ⊢
      try dsimp only [L2.start, List.set, List.map, List.append, List.replicate, List.length]
      refine ⟨_, rfl, _, rfl, _, rfl, _, _, rfl, rfl, _, rfl, _, _, rfl, rfl, by show (2 : Nat) ≤ sizeLine; decide, fun qg hqg => ⟨1, .ref mo, .ref qg, wOf 401, rfl, ?_, fun Hf sf => ?_⟩⟩
      · have := told1 (T := r4 ++ [lst + 1] ++ [lst + 2]) (Fe.same (same_new (o := .lst [.int (lst + 1), .int (lst + 2)]) (Same.refl He) hqg)).hm G1 (show IL (upd He qg (.lst [.int (lst + 1), .int (lst + 2)])) qg [lst + 1, lst + 2] from upd_same) A3 (fun z => by simp) (by omega) (by show (2 : Nat) ≤ 1000; decide)
          (fun z hz => by rcases List.mem_cons.mp hz with rfl | hz
                          · omega
                          · rw [List.mem_singleton.mp hz]; omega)
        rw [L3] at this
        exact this
      have sf' := (same_new (o := .lst [.int (lst + 1), .int (lst + 2)]) (Same.refl He) hqg).trans sf
      have Ff := Fe.same sf'
      refine ⟨_, rfl, _, rfl, _, _, rfl, rfl, _, rfl, _, _, rfl, rfl, by show (2 : Nat) ≤ sizeLine; decide, fun qh hqh => ⟨1, .ref mo, .ref qh, wOf 400, rfl, ?_, fun Hg sg => ?_⟩⟩
      · have := told1 (T := r4 ++ [lst + 1]) (Ff.same (same_new (o := .lst [.int (lst + 1), .int (lst + 1)]) (Same.refl Hf) hqh)).hm G1 (show IL (upd Hf qh (.lst [.int (lst + 1), .int (lst + 1)])) qh [lst + 1, lst + 1] from upd_same) A2 (fun z => by simp) (by omega) (by show (2 : Nat) ≤ 1000; decide)
          (fun z hz => by rcases List.mem_cons.mp hz with rfl | hz
                          · omega
                          · rw [List.mem_singleton.mp hz]; omega)
        rw [L2'] at this
        exact this
      have sg' := (same_new (o := .lst [.int (lst + 1), .int (lst + 1)]) (Same.refl Hf) hqh).trans sg
      have Fg := Ff.same sg'
      have htg := sg' _ _ (sf' _ _ hte)
      refine ⟨by show (2 : Nat) ≤ sizeLine; decide, fun u2 hu2 => ⟨t2, u2, _, _, rfl, rfl, (same_new (Same.refl Hg) hu2) _ _ htg, upd_same, by show (8 : Nat) ≤ sizeLine; decide, fun t3 ht3 => ?_⟩⟩
      have sh := same_new (o := .lst [.str (wOf 400), .str (wOf 401), .str (wOf 402), .str (wOf 400), .str (wOf 401), .str (wOf 400), .str (wOf 401), .str (wOf 400)]) (same_new (o := .lst [.str (wOf 401), .str (wOf 400)]) (Same.refl Hg) hu2) ht3
      have Fh := Fg.same sh
      have hth : (upd (upd Hg u2 (.lst [.str (wOf 401), .str (wOf 400)])) t3 (.lst [.str (wOf 400), .str (wOf 401), .str (wOf 402), .str (wOf 400), .str (wOf 401), .str (wOf 400), .str (wOf 401), .str (wOf 400)])) t3 = _ := upd_same
      have s9 := s9.trans ((sf'.trans sg').trans sh)
      show gName 6 _ _ (upd (upd Hg u2 (.lst [.str (wOf 401), .str (wOf 400)])) t3 (.lst [.str (wOf 400), .str (wOf 401), .str (wOf 402), .str (wOf 400), .str (wOf 401), .str (wOf 400), .str (wOf 401), .str (wOf 400)])) _
      generalize upd (upd Hg u2 (.lst [.str (wOf 401), .str (wOf 400)])) t3 (.lst [.str (wOf 400), .str (wOf 401), .str (wOf 402), .str (wOf 400), .str (wOf 401), .str (wOf 400), .str (wOf 401), .str (wOf 400)]) = Hh at Fh hth s9 ⊢
      try dsimp only [L2.start, List.set, List.map, List.append, List.replicate, List.length]
      refine ⟨Nat.zero_le _, fun qi hqi => ⟨Nat.zero_le _, fun qj hqj => fun o1 d1 ho1 hd1 ne1 => ?_⟩⟩
      obtain ⟨li, si⟩ := two_lists (o := .lst []) (o2 := .lst []) hqi hqj
      have so := obj_same (C := C) ho1 hd1 ne1
      refine ⟨o1, d1, qi, qj, 3, [], [], rfl, upd_same, so _ _ li, so _ _ upd_same, good30, fun Hi rn1 keep1 => ⟨rfl, ?_⟩⟩
      have sI := made_same si ho1 hd1 ne1 keep1
      have Fi := Fh.same sI
      have hti := sI _ _ hth
      have r1 := rn1.at
      refine ⟨by show (1 : Nat) ≤ sizeLine; decide, fun qk hqk => ⟨Nat.zero_le _, fun ql hql => fun o2 d2 ho2 hd2 ne2 => ?_⟩⟩
      obtain ⟨lk, sk⟩ := two_lists (o := .lst [.int 2]) (o2 := .lst []) hqk hql
      have so2 := obj_same (C := C) ho2 hd2 ne2
      refine ⟨o2, d2, qk, ql, 3, [2], [], rfl, upd_same, so2 _ _ lk, so2 _ _ upd_same, good32, fun Hj rn2 keep2 => ⟨rfl, _, _, rfl, ?_⟩⟩
      have sJ := made_same sk ho2 hd2 ne2 keep2
      have Fj := Fi.same sJ
      have htj := sJ _ _ hti
      have r1 := r1.same sJ
      have r2 := rn2.at
      have s9 := s9.trans (sI.trans sJ)
      try dsimp only [L2.start, List.set, List.map, List.append, List.replicate, List.length]
      refine ⟨_, rfl, _, rfl, _, rfl, 2, .ref x, .ref o1, wOf 401, rfl, ?_, fun Hk sk2 => ?_⟩
      · have := told2 (way := 2) (.inl rfl) Fj.hf r1 G good30
        rw [l400] at this
        exact this
      have Fk := Fj.same sk2
      refine ⟨_, rfl, _, rfl, 2, .ref mo, .ref o1, wOf 400, rfl, ?_, fun Hl sl2 => ?_⟩
      · have := told2 (way := 2) (.inl rfl) Fk.hm (r1.same sk2) G1 good30
        rw [l4] at this
        exact this
      have Fl := Fk.same sl2
      refine ⟨_, rfl, _, rfl, 2, .ref mo, .ref o2, wOf 401, rfl, ?_, fun Hm sm2 => ?_⟩
      · have := told2 (way := 2) (.inl rfl) Fl.hm (r2.same (sk2.trans sl2)) G1 good32
        rw [l4] at this
        exact this
      have Fm := Fl.same sm2
      have skm := (sk2.trans sl2).trans sm2
      have htm := skm _ _ htj
      refine ⟨by show (3 : Nat) ≤ sizeLine; decide, fun u3 hu3 => ⟨t3, u3, _, _, rfl, rfl, (same_new (Same.refl Hm) hu3) _ _ htm, upd_same, by show (11 : Nat) ≤ sizeLine; decide, fun t4 ht4 => ?_⟩⟩
      have sm0 := same_new (o := .lst [.str (wOf 401), .str (wOf 400), .str (wOf 401)]) (Same.refl Hm) hu3
      have sn0 := same_new (o := .lst [.str (wOf 400), .str (wOf 401), .str (wOf 402), .str (wOf 400), .str (wOf 401), .str (wOf 400), .str (wOf 401), .str (wOf 400), .str (wOf 401), .str (wOf 400), .str (wOf 401)]) sm0 ht4
      have htn : (upd (upd Hm u3 (.lst [.str (wOf 401), .str (wOf 400), .str (wOf 401)])) t4 (.lst [.str (wOf 400), .str (wOf 401), .str (wOf 402), .str (wOf 400), .str (wOf 401), .str (wOf 400), .str (wOf 401), .str (wOf 400), .str (wOf 401), .str (wOf 400), .str (wOf 401)])) t4 = some (.lst [.str (wOf 400), .str (wOf 401), .str (wOf 402), .str (wOf 400), .str (wOf 401), .str (wOf 400), .str (wOf 401), .str (wOf 400), .str (wOf 401), .str (wOf 400), .str (wOf 401)]) := upd_same
      show gName 6 _ _ (upd (upd Hm u3 (.lst [.str (wOf 401), .str (wOf 400), .str (wOf 401)])) t4 (.lst [.str (wOf 400), .str (wOf 401), .str (wOf 402), .str (wOf 400), .str (wOf 401), .str (wOf 400), .str (wOf 401), .str (wOf 400), .str (wOf 401), .str (wOf 400), .str (wOf 401)])) _
      have sn1 : Same (upd Hm u3 (.lst [.str (wOf 401), .str (wOf 400), .str (wOf 401)])) (upd (upd Hm u3 (.lst [.str (wOf 401), .str (wOf 400), .str (wOf 401)])) t4 (.lst [.str (wOf 400), .str (wOf 401), .str (wOf 402), .str (wOf 400), .str (wOf 401), .str (wOf 400), .str (wOf 401), .str (wOf 400), .str (wOf 401), .str (wOf 400), .str (wOf 401)])) := same_new (Same.refl _) ht4
      generalize upd (upd Hm u3 (.lst [.str (wOf 401), .str (wOf 400), .str (wOf 401)])) t4 (.lst [.str (wOf 400), .str (wOf 401), .str (wOf 402), .str (wOf 400), .str (wOf 401), .str (wOf 400), .str (wOf 401), .str (wOf 400), .str (wOf 401), .str (wOf 400), .str (wOf 401)]) = Hn at sn0 sn1 htn ⊢
      generalize upd Hm u3 (.lst [.str (wOf 401), .str (wOf 400), .str (wOf 401)]) = Hu at sm0 sn1 ht4
      have Fn := Fm.same sn0
      have r1m := r1.same skm
      have r2m := r2.same skm
      have r1 := r1.same (skm.trans sn0)
      have r2 := r2.same (skm.trans sn0)
      try dsimp only [L2.start, List.set, List.map, List.append, List.replicate, List.length]
      refine ⟨_, rfl, .inl ⟨rfl, _, SqL.of htn⟩, ?_⟩
      refine ⟨_, rfl, _, rfl, 3, .ref x, .ref o1, wOf 400, rfl, ?_, fun Ho sp2 => ⟨t4, _, _, rfl, rfl, sp2 _ _ htn, small1000 (by show (11 : Nat) ≤ 1000; decide), ?_⟩⟩
      · have := told2 (way := 3) (.inr rfl) Fn.hf r1 G good30
        rw [l400] at this
        exact this
      have so3 : Same Hu (upd Ho t4 (.lst ([.str (wOf 400), .str (wOf 401), .str (wOf 402), .str (wOf 400), .str (wOf 401), .str (wOf 400), .str (wOf 401), .str (wOf 400), .str (wOf 401), .str (wOf 400), .str (wOf 401)] ++ [.str (wOf 400)]))) := same_put (sn1.trans sp2) ht4
      have htp : (upd Ho t4 (.lst ([.str (wOf 400), .str (wOf 401), .str (wOf 402), .str (wOf 400), .str (wOf 401), .str (wOf 400), .str (wOf 401), .str (wOf 400), .str (wOf 401), .str (wOf 400), .str (wOf 401)] ++ [.str (wOf 400)]))) t4 = some (.lst [.str (wOf 400), .str (wOf 401), .str (wOf 402), .str (wOf 400), .str (wOf 401), .str (wOf 400), .str (wOf 401), .str (wOf 400), .str (wOf 401), .str (wOf 400), .str (wOf 401), .str (wOf 400)]) := upd_same
      have s9 := s9.trans ((skm.trans sm0).trans so3)
      have Fp := (Fm.same sm0).same so3
      have r1 := (r1m.same sm0).same so3
      have r2 := (r2m.same sm0).same so3
      generalize upd Ho t4 (.lst ([.str (wOf 400), .str (wOf 401), .str (wOf 402), .str (wOf 400), .str (wOf 401), .str (wOf 400), .str (wOf 401), .str (wOf 400), .str (wOf 401), .str (wOf 400), .str (wOf 401)] ++ [.str (wOf 400)])) = Hp1 at so3 htp s9 Fp r1 r2 ⊢
      try dsimp only [L2.start, List.set, List.map, List.append, List.replicate, List.length]
      refine ⟨_, rfl, _, rfl, _, rfl, 3, .ref x, .ref o2, wOf 401, rfl, ?_, fun Hq sq2 => ?_⟩
      · have := told2 (way := 3) (.inr rfl) Fp.hf r2 G good32
        rw [l400] at this
        exact this
      have Fq := Fp.same sq2
      refine ⟨_, rfl, _, rfl, 3, .ref mo, .ref o2, wOf 400, rfl, ?_, fun Hr sr2 => ?_⟩
      · have := told2 (way := 3) (.inr rfl) Fq.hm (r2.same sq2) G1 good32
        rw [l4] at this
        exact this
      have Fr := Fq.same sr2
      have sqr := sq2.trans sr2
      have htr := sqr _ _ htp
      refine ⟨by show (2 : Nat) ≤ sizeLine; decide, fun u4 hu4 => ⟨t4, u4, _, _, rfl, rfl, (same_new (Same.refl Hr) hu4) _ _ htr, upd_same, by show (14 : Nat) ≤ sizeLine; decide, fun t5 ht5 => ?_⟩⟩
      have st5 := same_new (o := .lst [.str (wOf 400), .str (wOf 401), .str (wOf 402), .str (wOf 400), .str (wOf 401), .str (wOf 400), .str (wOf 401), .str (wOf 400), .str (wOf 401), .str (wOf 400), .str (wOf 401), .str (wOf 400), .str (wOf 401), .str (wOf 400)]) (same_new (o := .lst [.str (wOf 401), .str (wOf 400)]) (Same.refl Hr) hu4) ht5
      have hts : (upd (upd Hr u4 (.lst [.str (wOf 401), .str (wOf 400)])) t5 (.lst [.str (wOf 400), .str (wOf 401), .str (wOf 402), .str (wOf 400), .str (wOf 401), .str (wOf 400), .str (wOf 401), .str (wOf 400), .str (wOf 401), .str (wOf 400), .str (wOf 401), .str (wOf 400), .str (wOf 401), .str (wOf 400)])) t5 = some (.lst [.str (wOf 400), .str (wOf 401), .str (wOf 402), .str (wOf 400), .str (wOf 401), .str (wOf 400), .str (wOf 401), .str (wOf 400), .str (wOf 401), .str (wOf 400), .str (wOf 401), .str (wOf 400), .str (wOf 401), .str (wOf 400)]) := upd_same
      have Fs := Fr.same st5
      have r1 := r1.same (sqr.trans st5)
      have r2 := r2.same (sqr.trans st5)
      have s9 := s9.trans (sqr.trans st5)
      show gName 6 _ _ (upd (upd Hr u4 (.lst [.str (wOf 401), .str (wOf 400)])) t5 (.lst [.str (wOf 400), .str (wOf 401), .str (wOf 402), .str (wOf 400), .str (wOf 401), .str (wOf 400), .str (wOf 401), .str (wOf 400), .str (wOf 401), .str (wOf 400), .str (wOf 401), .str (wOf 400), .str (wOf 401), .str (wOf 400)])) _
      generalize upd (upd Hr u4 (.lst [.str (wOf 401), .str (wOf 400)])) t5 (.lst [.str (wOf 400), .str (wOf 401), .str (wOf 402), .str (wOf 400), .str (wOf 401), .str (wOf 400), .str (wOf 401), .str (wOf 400), .str (wOf 401), .str (wOf 400), .str (wOf 401), .str (wOf 400), .str (wOf 401), .str (wOf 400)]) = Hs at hts Fs r1 r2 s9 ⊢
      rw [w400, w401, w402] at hts
      try dsimp only [L2.start, List.set, List.map, List.append, List.replicate, List.length]
      refine ⟨by show (11 : Nat) ≤ sizeLine; decide, fun du hdu => ?_⟩
      have sdu := same_new (o := .lst [.str "fine", .str "row", .str "row", .str "fine", .str "row", .str "fine", .str "row", .str "fine", .str "row", .str "fine", .str "row"]) (Same.refl Hs) hdu
      have hdv : (upd Hs du (.lst [.str "fine", .str "row", .str "row", .str "fine", .str "row", .str "fine", .str "row", .str "fine", .str "row", .str "fine", .str "row"])) du = some (.lst [.str "fine", .str "row", .str "row", .str "fine", .str "row", .str "fine", .str "row", .str "fine", .str "row", .str "fine", .str "row"]) := upd_same
      show gName 9 _ _ (upd Hs du (.lst [.str "fine", .str "row", .str "row", .str "fine", .str "row", .str "fine", .str "row", .str "fine", .str "row", .str "fine", .str "row"])) _
      generalize upd Hs du (.lst [.str "fine", .str "row", .str "row", .str "fine", .str "row", .str "fine", .str "row", .str "fine", .str "row", .str "fine", .str "row"]) = Ht at sdu hdv ⊢
      have Ft := Fs.same sdu
      have htt := sdu _ _ hts
      have s9 := s9.trans sdu
      try dsimp only [L2.start, List.set, List.map, List.append, List.replicate, List.length]
      refine ⟨_, rfl, _, rfl, by show (3 : Nat) ≤ sizeLine; decide, fun du2 hdu2 => ⟨du, du2, _, _, rfl, rfl, (same_new (Same.refl Ht) hdu2) _ _ hdv, upd_same, by show (14 : Nat) ≤ sizeLine; decide, fun du3 hdu3 => ?_⟩⟩
      have sd3 := same_new (o := .lst [.str "fine", .str "row", .str "row", .str "fine", .str "row", .str "fine", .str "row", .str "fine", .str "row", .str "fine", .str "row", .str "fine", .str "row", .str "fine"]) (same_new (o := .lst [.str "fine", .str "row", .str "fine"]) (Same.refl Ht) hdu2) hdu3
      have hd3 : (upd (upd Ht du2 (.lst [.str "fine", .str "row", .str "fine"])) du3 (.lst [.str "fine", .str "row", .str "row", .str "fine", .str "row", .str "fine", .str "row", .str "fine", .str "row", .str "fine", .str "row", .str "fine", .str "row", .str "fine"])) du3 = some (.lst [.str "fine", .str "row", .str "row", .str "fine", .str "row", .str "fine", .str "row", .str "fine", .str "row", .str "fine", .str "row", .str "fine", .str "row", .str "fine"]) := upd_same
      refine ⟨_, _, .lst (SqL.of (sd3 _ _ htt)) (dp_strs (["fine", "row", "row", "fine", "row", "fine", "row", "fine", "row", "fine", "row", "fine", "row", "fine"] : List Str)), .lst (SqL.of hd3) (dp_strs (["fine", "row", "row", "fine", "row", "fine", "row", "fine", "row", "fine", "row", "fine", "row", "fine"] : List Str)), by decide +kernel, by decide +kernel, _, rfl, ifF (by decide +kernel) ?_⟩
      exact hQ Q _ a sp D2 x mo o1 o2 t5 du ns ss r4 t1 lst n0 (Ft.same sd3) ⟨ln, asc, pos, hlst, by rw [e4], as, sub, G, G1, ht1⟩ fun H' s' => q H' (J3.same (s9.trans (sd3.trans s'))) (((B1.trans (But.of s2)).trans B3).trans (But.of (s9.trans (sd3.trans s'))))
end
end Cw
namespace Cw
open PySem PySem.Spec L2
abbrev sL : Stmt := top 28
def spLaw (K : PySem.W.Frag) : Sp := fun vs H Q _ => ∃ (a : Addr) (ns : List Int), vs = [.ref a] ∧ SqL K H a (ns.map V.int) ∧ ns.length ≤ 63 ∧ ∀ H', Q (.bl true) H'
/-- the script, which is not the jar -/
def Scr (K : PySem.W.Frag) (H : Hp) (a : Addr) (xs : List V) (p : Addr) : Prop := (a ≠ p ∧ (H a = some (.lst xs) ∨ ∃ o, H a = some (.frz o (.lst xs)))) ∨ ∀ H' : Hp, SqL K H' a xs
theorem Scr.of {K : PySem.W.Frag} {H : Hp} {a p : Addr} {xs : List V} (h : SqL K H a xs) (n : H p = none) : Scr K H a xs p := by
  rcases h with h | h
  · refine .inl ⟨fun e => ?_, h⟩
    subst e
    rcases h with h | ⟨o, h⟩ <;> rw [n] at h <;> cases h
  · exact .inr fun H' => .inr h
theorem Scr.sq {K : PySem.W.Frag} {H : Hp} {a p : Addr} {xs : List V} (h : Scr K H a xs p) : SqL K H a xs := by
  rcases h with ⟨_, h⟩ | h
  · exact .inl h
  · exact h H
theorem Scr.but {K : PySem.W.Frag} {H H' : Hp} {a p : Addr} {xs : List V} (h : Scr K H a xs p) (e : But H H' p) : Scr K H' a xs p := by
  rcases h with ⟨n, h | ⟨o, h⟩⟩ | h
  · exact .inl ⟨n, .inl (e _ _ h n)⟩
  · exact .inl ⟨n, .inr ⟨o, e _ _ h n⟩⟩
  · exact .inr h
def upto (n : Nat) : List Int := (List.range n).map fun i : Nat => 1 + (i : Int)
theorem rg_upto (n : Nat) : rgV 1 (1 + (n : Int)) = (upto n).map V.int := by
  unfold rgV upto
  rw [List.map_map, show (1 + (n : Int) - 1).toNat = n by omega]
  rfl
theorem asc_upto (n : Nat) : Asc (upto n) := by
  unfold upto
  refine List.pairwise_map.mpr ((List.pairwise_lt_range).imp fun h => by omega)
theorem mem_upto {n : Nat} {z : Int} : z ∈ upto n ↔ 1 ≤ z ∧ z ≤ n := by
  unfold upto
  rw [List.mem_map]
  constructor
  · rintro ⟨i, hi, rfl⟩
    have := List.mem_range.mp hi
    omega
  · rintro ⟨h1, h2⟩
    exact ⟨(z - 1).toNat, List.mem_range.mpr (by omega), by omega⟩
theorem len_upto (n : Nat) : (upto n).length = n := by unfold upto; rw [List.length_map, List.length_range]
theorem good500 : Good 500 (upto 400) [] := ⟨by decide, by rw [len_upto]; decide, fun x h => by have := mem_upto.mp h; omega, asc_upto 400, List.Pairwise.nil, fun _ h => (nomatch h)⟩
section
variable {P : Program} {w : World} {K : PySem.W.Frag} {mg : Str → Option Value} {base : Heap}
abbrev NL : List Str := ["script", "k", "full", "told"]
theorem scL : FnScope NL ["script"] (defScope sL) := ⟨rfl, rfl, rfl, by decide +kernel, rfl, by decide +kernel, by decide +kernel⟩
theorem ok_law {f C fJ fA fW fO fV fLn fN pL fGL pM fGM pS fGS : Addr} {fd fdJ fdA fdW fdO fdV fdLn fdN dL dM dS : FuncData} (F : Fun K "law" "law" sL f fd) (T : Bl mg) (R : Cl K mg C) (M : Mk K C fN) (bI : Binds K fdN NI []) (GI : FnOk P w K mg base CX0 5 fN fdN NI (spInit C)) (Gs : Gets P w K mg base C pL fGL pM fGM pS fGS dL dM dS)
    (gJ : mg "_law_jar" = some (.ref fJ)) (kJ : PySem.W.keepIn K (.ref fJ) = true) (bJ : Binds K fdJ ["script", "k"] []) (GJ : FnOk P w K mg base CX0 1 fJ fdJ ["script", "k"] (spJar K))
    (gA : mg "_law_right" = some (.ref fA)) (kA : PySem.W.keepIn K (.ref fA) = true) (bA : Binds K fdA ["jar"] []) (GA : FnOk P w K mg base CX0 9 fA fdA ["jar"] (spRi C))
    (mW : Meth K C "with_marks" fW) (bW : Binds K fdW ["self", "places", "is_strict"] []) (GW : FnOk P w K mg base CX0 7 fW fdW ["self", "places", "is_strict"] (spWith C))
    (mO : Meth K C "without_marks" fO) (bO : Binds K fdO ["self", "places"] []) (GO : FnOk P w K mg base CX0 7 fO fdO ["self", "places"] (spWout C))
    (mV : Meth K C "changed" fV) (bV : Binds K fdV ["self", "change"] []) (GV : FnOk P w K mg base CX0 7 fV fdV ["self", "change"] (spChanged C))
    (mLn : Meth K C "__len__" fLn) (bLn : Binds K fdLn ["self"] []) (GLn : FnOk P w K mg base CX0 1 fLn fdLn ["self"] (spLenR C)) :
    FnOk P w K mg base CX0 10 f fd ["script"] (spLaw K) := by
  refine F.ok scL (fun vs H Q E h => ?_) (fun cdv A outer s H vs Q E hr h => ?_)
  · obtain ⟨a, ns, rfl, _⟩ := h
    rfl
  · obtain ⟨a, ns, rfl, hS, hl, q⟩ := h
    refine ⟨_, (pss_cons (ps_for PassesOwn.never rfl (pi_range1 (by rfl) T.range (pa_cons (pe_callB (call_max2 rfl) (by rfl) T.max (by decide +kernel) (pa_cons pe_int (pa_cons (pe_callB (call_min2 rfl) (by rfl) T.min (by decide +kernel) (pa_cons pe_int (pa_cons (pe_callB call_len_seq (by rfl) T.len PySem.boot_len (pa_cons (pv 0) pa_nil)) pa_nil))) pa_nil))) pa_nil)) (pg_name (i := 1) scL.nd rfl (Or.inl rfl))
        (pss_one (ps_if (pt_not (pt_val (pe_call GA (hr.mono (by decide)) rfl gA kA bA .nil pass0 (pa_cons (pe_call GJ (hr.mono (by decide)) rfl gJ kJ bJ .nil pass0 (pa_cons (pv 0) (pa_cons (pv 1) pa_nil))) pa_nil)))) (pss_one (ps_ret pe_bl)) pss_nil)))
        (pss_cons (ps_set (i := 2) scL.nd rfl (Or.inl rfl) (pe_make M GI (hr.mono (by decide)) rfl R.mgR bI .nil pass0 (pa_cons pe_int (pa_cons (pe_listRg rfl (by rfl) T.list (prg_2 (by rfl) T.range pe_int pe_int)) (pa_cons (pe_lst pa_nil) pa_nil)))))
        (pss_cons (ps_if (PW.pt (pw_or (pt_cmpR op_ne (pe_callB (call_lenOwn GLn mLn.at_ mLn.fn bLn pass0 (hr.mono (by decide))) (by rfl) T.len PySem.boot_len (pa_cons (pe_meth (pv 2) R.cl mO GO (hr.mono (by decide)) bO .nil pass0 (pa_cons (pe_listRg rfl (by rfl) T.list (prg_2 (by rfl) T.range pe_int pe_int)) pa_nil)) pa_nil)) pe_int (nomark _)) (pw_or1 (pt_cmpR (op_neD hr.units) (pe_prop (pe_meth (pv 2) R.cl mW GW (hr.mono (by decide)) bW .nil pass0 (pa_cons (pe_op op_rep (pe_lst (pa_cons pe_int pa_nil)) pe_int) (pa_cons pe_bl pa_nil))) R.cl Gs.hS Gs.GS (hr.mono (by decide)) Gs.bS .nil pass0 rfl) (pe_lst (pa_cons pe_int pa_nil)) (nomark _))))) (pss_one (ps_ret pe_bl)) pss_nil)
        (pss_cons (ps_set (i := 3) scL.nd rfl (Or.inl rfl) (pe_meth (pv 2) R.cl mV GV (hr.mono (by decide)) bV .nil pass0 (pa_cons (pe_tup (pa_cons pe_int (pa_cons pe_int (pa_cons pe_int (pa_cons (pe_lst pa_nil) (pa_cons (pe_lst pa_nil) pa_nil)))))) pa_nil)))
        (pss_one (ps_ret (pe_and (pe_cmpR (op_eqD hr.units) (pe_prop (pe_meth (pv 2) R.cl mW GW (hr.mono (by decide)) bW .nil pass0 (pa_cons (pe_listRg rfl (by rfl) T.list (prg_2 (by rfl) T.range pe_int pe_int)) (pa_cons pe_bl pa_nil))) R.cl Gs.hS Gs.GS (hr.mono (by decide)) Gs.bS .nil pass0 rfl) (pe_prop (pv 2) R.cl Gs.hM Gs.GM (hr.mono (by decide)) Gs.bM .nil pass0 rfl) (nomark _)) (pe_one (pe_cmpR (op_eqD hr.units) (pe_prop (pv 3) R.cl Gs.hM Gs.GM (hr.mono (by decide)) Gs.bM .nil pass0 rfl) (pe_slice sl_list (pe_prop (pv 2) R.cl Gs.hM Gs.GM (hr.mono (by decide)) Gs.bM .nil pass0 rfl) po_none (po_some pe_int)) (nomark _)))))))))), ?_⟩
    refine ⟨_, rfl, a, _, rfl, .inl hS, _, _, rfl, _, _, rfl, _, rfl, ?_, ?_, for_range (lo := 0) (n := Int.toNat _) (fun _ σ H' => ∃ v1 v2 v3, σ = [some (.ref a), v1, v2, v3] ∧ SqL K H' a (ns.map V.int)) ⟨_, _, _, rfl, hS⟩ ?_ ?_⟩
    · rw [List.length_map]
      split <;> split <;> omega
    · rw [List.length_map]
      split <;> split <;> omega
    · rintro i σ H1 hi ⟨v1, v2, v3, rfl, s1⟩
      have hil : i ≤ ns.length := by
        rw [List.length_map] at hi
        split at hi <;> split at hi <;> omega
      refine ⟨_, rfl, _, rfl, a, ns, i, by rw [Int.zero_add]; rfl, s1, hil, hl, fun p H2 s2 np J2 => ?_⟩
      have sc2 := (Scr.of s1 np).but (But.of s2)
      refine ⟨p, 0, rfl, J2.mono (by omega), fun H3 J3 B3 => ⟨_, rfl, ?_⟩⟩
      refine ifF rfl ?_
      exact ⟨_, _, _, rfl, (sc2.but B3).sq⟩
    · rintro σ H1 ⟨v1, v2, v3, rfl, s1⟩
      refine ⟨_, _, rfl, rfl, RgOk.of_le (by decide) (by decide) (by decide) (by decide), fun q1 hq1 => ⟨Nat.zero_le _, fun q2 hq2 => fun fu dx hx hd ne => ?_⟩⟩
      obtain ⟨l1, t1⟩ := two_lists (o := .lst (rgV 1 401)) (o2 := .lst []) hq1 hq2
      have so := obj_same (C := C) hx hd ne
      have i1 : IL (upd (upd H1 q1 (.lst (rgV 1 401))) q2 (.lst [])) q1 (upto 400) := by
        show upd _ _ _ _ = _
        rw [l1]
        exact congrArg (fun l => some (HO.lst l)) (rg_upto 400)
      refine ⟨fu, dx, q1, q2, 500, upto 400, [], rfl, upd_same, so _ _ i1, so _ _ upd_same, good500, fun H2 rn keep => ⟨rfl, ?_⟩⟩
      have F := rn.at
      obtain ⟨fx, f1, f2, y1, y2, y3⟩ := id F
      try dsimp only [List.set]
      refine ⟨_, rfl, fu, fx, _, rfl, y1, rfl, _, _, rfl, rfl, RgOk.of_le (by decide) (by decide) (by decide) (by decide), fun q3 hq3 => ?_⟩
      have i3 : IL (upd H2 q3 (.lst (rgV 1 500))) q3 (upto 499) := by
        show upd _ _ _ _ = _
        rw [upd_same]
        exact congrArg (fun l => some (HO.lst l)) (rg_upto 499)
      have s3 := same_new (o := .lst (rgV 1 500)) (Same.refl H2) hq3
      refine ⟨fu, q3, 500, upto 400, [], upto 499, rfl, F.same s3, good500, i3, by rw [len_upto]; decide, fun z hz => by have := mem_upto.mp hz; omega, fun p4 H4 s4 rn4 => ?_⟩
      have e4 : offM (upto 400) (upto 499) = [] := List.filter_eq_nil_iff.mpr fun x hx => by
        have := mem_upto.mp hx
        simp [mem_upto]
        omega
      have F4 := rn4.at
      obtain ⟨gx, g1, g2, w1, w2, w3⟩ := id F4
      refine ⟨p4, gx, _, rfl, w1, p4, _, _, _, rfl, F4, (offM (upto 400) (upto 499)).length, rfl, by rw [e4]; decide, ?_⟩
      rw [e4]
      refine ⟨rfl, _, rfl, ifF (by decide +kernel) ?_⟩
      have s24 := s3.trans s4
      have F4 := F.same s24
      have y4 := s24 _ _ y1
      refine ⟨_, rfl, fu, fx, _, rfl, y4, rfl, by show (1 : Nat) ≤ sizeLine; decide, fun q5 hq5 => ⟨_, _, _, rfl, rfl, upd_same, by decide, by decide, by show (1 * 900 : Nat) ≤ sizeLine; decide, fun q6 hq6 => ?_⟩⟩
      have s6 := same_new (o := .lst (List.replicate (900 : Int).toNat [V.int 3]).flatten) (same_new (o := .lst [.int 3]) (Same.refl H4) hq5) hq6
      have i6 : IL (upd (upd H4 q5 (.lst [.int 3])) q6 (.lst (List.replicate (900 : Int).toNat [V.int 3]).flatten)) q6 (List.replicate 900 3) := by
        show upd _ _ _ _ = _
        rw [upd_same, List.map_replicate, List.flatten_replicate_singleton]
        rfl
      refine ⟨fu, q6, true, 500, upto 400, [], List.replicate 900 3, rfl, F4.same s6, good500, i6, by rw [List.length_replicate]; decide, ⟨upto 400, by rw [len_upto]; decide, fun z hz => hz, fun z hz => by rw [(List.mem_replicate.mp hz).2]; exact mem_upto.mpr (by omega)⟩, fun z hz => by rw [(List.mem_replicate.mp hz).2]; omega, fun p7 H7 ms' ss' s7 G7 m7 n7 rn7 => ?_⟩
      have es : ss' = [3] := asc_ext G7.asc2 (List.pairwise_singleton _ _) fun z => by
        rw [n7 z, if_pos rfl, List.mem_singleton]
        exact ⟨fun h => h.elim (fun h => nomatch h) fun h => (List.mem_replicate.mp h).2, fun h => .inr (List.mem_replicate.mpr ⟨by decide, h⟩)⟩
      subst es
      obtain ⟨hx7, hf1, hf2, v7, _, _⟩ := id rn7.at
      refine ⟨p7, hx7, _, rfl, v7, p7, _, _, _, rfl, rn7.at, fun k8 H8 s8 hk8 ik8 => ⟨by show (1 : Nat) ≤ sizeLine; decide, fun q9 hq9 => ?_⟩⟩
      have s9 := same_new (o := .lst [.int 3]) (Same.refl H8) hq9
      refine ⟨_, _, dp_il (s9 _ _ ik8), dp_il (ns := [3]) upd_same, shape_il _, shape_il _, _, rfl, ifF (by decide +kernel) ?_⟩
      have s49 := ((s6.trans s7).trans s8).trans s9
      generalize upd H8 q9 (.lst [.int 3]) = H9 at s49
      have F9 := F4.same s49
      have y9 := s49 _ _ y4
      try dsimp only [List.set]
      refine ⟨_, rfl, fu, fx, _, rfl, y9, rfl, Nat.zero_le _, fun c1 hc1 => ⟨Nat.zero_le _, fun c2 hc2 => ⟨by show (5 : Nat) ≤ sizeLine; decide, fun c3 hc3 => ?_⟩⟩⟩
      have sc := same_new (o := .tup [.int 400, .int 500, .int 0, .ref c1, .ref c2]) (same_new (o := .lst []) (same_new (o := .lst []) (Same.refl H9) hc1) hc2) hc3
      have j1 : IL (upd (upd (upd H9 c1 (.lst [])) c2 (.lst [])) c3 (.tup [.int 400, .int 500, .int 0, .ref c1, .ref c2])) c1 [] := same_new (same_new (Same.refl _) hc2) hc3 _ _ upd_same
      have j2 : IL (upd (upd (upd H9 c1 (.lst [])) c2 (.lst [])) c3 (.tup [.int 400, .int 500, .int 0, .ref c1, .ref c2])) c2 [] := same_new (Same.refl _) hc3 _ _ upd_same
      have er : rep (upto 400) [] 400 500 0 (500 - (500 - 400) + 0) = upto 399 := by decide +kernel
      have er2 : rep ([] : List Int) [] 400 500 0 (500 - (500 - 400) + 0) = [] := by decide +kernel
      refine ⟨fu, c3, c1, c2, 500, 400, 500, 0, upto 400, [], [], [], rfl, F9.same sc, upd_same, j1, j2, good500, ⟨by decide, by decide, by decide, by decide, by decide, by decide, fun _ h => (nomatch h), List.Pairwise.nil, List.Pairwise.nil, fun _ h => (nomatch h)⟩, by rw [er, len_upto]; decide, fun pa Ha sa rna => ?_⟩
      rw [er, er2] at rna
      have Fp := rna.at
      have s9a := sc.trans sa
      have Fa := F9.same s9a
      have ya := s9a _ _ y9
      try dsimp only [List.set]
      refine ⟨_, rfl, fu, fx, _, rfl, ya, rfl, _, _, rfl, rfl, RgOk.of_le (by decide) (by decide) (by decide) (by decide), fun qb hqb => ?_⟩
      have ib : IL (upd Ha qb (.lst (rgV 1 401))) qb (upto 400) := by
        show upd _ _ _ _ = _
        rw [upd_same]
        exact congrArg (fun l => some (HO.lst l)) (rg_upto 400)
      have sb := same_new (o := .lst (rgV 1 401)) (Same.refl Ha) hqb
      refine ⟨fu, qb, true, 500, upto 400, [], upto 400, rfl, Fa.same sb, good500, ib, by rw [len_upto]; decide, ⟨upto 400, by rw [len_upto]; decide, fun z hz => hz, fun z hz => hz⟩, fun z hz => by have := mem_upto.mp hz; omega, fun pc Hc msc ssc sc2 Gc mc nc rnc => ?_⟩
      have ec : ssc = upto 400 := asc_ext Gc.asc2 (asc_upto 400) fun z => by
        rw [nc z, if_pos rfl]
        exact ⟨fun h => h.elim (fun h => nomatch h) id, .inr⟩
      subst ec
      obtain ⟨cx, cf1, cf2, vc, _, _⟩ := id rnc.at
      refine ⟨pc, cx, _, rfl, vc, pc, _, _, _, rfl, rnc.at, fun kd Hd sd hkd ikd => ?_⟩
      have sad := (sb.trans sc2).trans sd
      have Fd := Fa.same sad
      refine ⟨_, rfl, fu, fx, _, rfl, sad _ _ ya, fu, _, _, _, rfl, Fd, fun ke He se hke ike => ?_⟩
      refine ⟨_, _, dp_il (se _ _ ikd), dp_il ike, shape_il _, shape_il _, true, by rw [eqv_il], ?_⟩
      rw [if_pos rfl]
      have sae := sad.trans se
      have Fpe := Fp.same sae
      obtain ⟨px, pf1, pf2, vp, _, _⟩ := id Fpe
      refine ⟨_, rfl, pa, px, _, rfl, vp, pa, _, _, _, rfl, Fpe, fun kf Hf sf hkf ikf => ?_⟩
      have Ff := Fd.same (se.trans sf)
      refine ⟨_, rfl, fu, fx, _, rfl, sf _ _ (sae _ _ ya), fu, _, _, _, rfl, Ff, fun kg Hg sg hkg ikg => ?_⟩
      refine ⟨_, rfl, kg, _, rfl, SqL.of ikg, fun kh hkh => ?_⟩
      have ih : IL (upd Hg kh (.lst (cutV ((upto 400).map V.int) none (some 399)))) kh (upto 399) := by
        show upd _ _ _ _ = _
        rw [upd_same, show (some (399 : Int)) = some ((399 : Nat) : Int) from rfl, cut_to (by rw [len_upto]; decide), show (upto 400).take 399 = upto 399 by decide +kernel]
      refine ⟨_, _, dp_il (same_new (Same.refl Hg) hkh _ _ (sg _ _ ikf)), dp_il ih, shape_il _, shape_il _, ?_⟩
      rw [eqv_il]
      exact q _
end
end Cw
namespace Cw
open PySem L2
abbrev sLenR : Stmt := inClass sRow 4
section
variable {P : Program} {w : World} {K : PySem.W.Frag} {mg : Str → Option Value} {base : Heap}
theorem scLr : FnScope ["self"] ["self"] (defScope sLenR) := ⟨rfl, rfl, rfl, by decide +kernel, rfl, by decide +kernel, by decide +kernel⟩
theorem ok_lenr {f C : Addr} {fd : FuncData} (F : Fun K "__len__" "Row.__len__" sLenR f fd) (T : Bl mg) (R : Cl K mg C) : FnOk P w K mg base CX0 1 f fd ["self"] (spLenR C) := by
  refine F.ok scLr (fun vs H Q E h => ?_) (fun cdv A outer s H vs Q E hr h => ?_)
  · obtain ⟨a, n, ms, ss, rfl, _⟩ := h
    rfl
  · obtain ⟨a, n, ms, ss, rfl, ⟨dx, l1, l2, ho, h1, h2⟩, k⟩ := h
    refine ⟨_, pss_one (ps_ret (pe_callB call_len_seq (by rfl) T.len PySem.boot_len (pa_cons (pe_fld (pv 0) rfl) pa_nil))), ?_⟩
    refine ⟨_, rfl, a, C, dx, _, _, rfl, ho, R.cl, R.nM, fl_M _ _ _, l1, _, rfl, .inl (SqL.of h1), ?_⟩
    rw [List.length_map]
    exact k
theorem calm_init {C CI fI : Addr} {fdI : FuncData} (GI : FnOk P w K mg base (L2N.CX P w) 5 fI fdI NI (spInitX C CI)) : FnOk P w K mg base CX0 5 fI fdI NI (spInit C) :=
  FnOk.calm GI fun vs H Q E h => by
    obtain ⟨x, dx, a, b, n, ms, ss, rfl, ho, ha, hb, G, k⟩ := h
    exact ⟨x, dx, a, b, n, ms, ss, rfl, ho, ha, hb, G.goodL, fun _ => k, fun gt => absurd G.len (by omega)⟩
theorem calm_changed {C CI CC f : Addr} {fd : FuncData} (G : FnOk P w K mg base (L2N.CX P w) 7 f fd ["self", "change"] (spChangedX C CI CC)) : FnOk P w K mg base CX0 7 f fd ["self", "change"] (spChanged C) :=
  FnOk.calm G fun vs H Q E h => by
    obtain ⟨x, t, m, u, n, b, e, len, ms, ss, cs, ds, rfl, hx, ht, hm, hu, Gd, Co, few, k⟩ := h
    exact ⟨x, t, m, u, n, b, e, len, ms, ss, cs, ds, rfl, hx, ht, hm, hu, Gd, Co.okL, by omega, fun gt => absurd Co.few (by omega), fun _ _ => k, fun _ gt => absurd few (by omega)⟩
theorem calm_with {C CI f : Addr} {fd : FuncData} (G : FnOk P w K mg base (L2N.CX P w) 7 f fd ["self", "places", "is_strict"] (spWithX C CI)) : FnOk P w K mg base CX0 7 f fd ["self", "places", "is_strict"] (spWith C) :=
  FnOk.calm G fun vs H Q E h => by
    obtain ⟨x, g, b, n, ms, ss, gs, rfl, hx, Gd, hg, lg, ⟨L, lL, mL, gL⟩, rg, k⟩ := h
    refine ⟨x, g, b, n, ms, ss, gs, rfl, hx, Gd, hg, lg, ⟨L, by omega, mL, gL⟩, rg, k, fun H' ms' _ as mm gt => ?_⟩
    have := nodup_len (as.imp fun h e => by omega) (fun z hz => ((mm z).mp hz).elim (mL z) (gL z))
    omega
end
end Cw
namespace Cw
open PySem L2
/-! ## what the top has written -/
theorem all_mk {l : PySem.W.OpenLaw} {w : World} {K : PySem.W.Frag} {h : Heap} {mg : Str → Option Value} {fa : Addr} (X : K.In h) (G : h.Ns mainGlobals mg) (hfa : mg "law" = some (.ref fa))
    {C kn fx0 fx1 fx2 fx3 fx4 fx5 fx6 fx7 fx8 fx9 fx10 fx11 fx12 pL fx13 pM fx14 pS fx15 fx16 fx17 fx18 fx19 fx20 fx21 fx22 fx23 fx24 fx25 fx26 fx27 fLW CI CC CE : Addr} {t_MOST_MARKS tK1 tK2 tK3 : Tok} {restpL restpM restpS : List Value}
    {odKN : Option Addr} {nKN : Nat} {slKN : Array (Option Value)}
    {ocx0 kVx0 dcx0 pmx0 cdx0 ctx0 : Value} {odx0 anx0 : Option Addr} {slx0 : Array (Option Value)}
    {ocx1 kVx1 dcx1 pmx1 cdx1 ctx1 : Value} {odx1 anx1 : Option Addr} {slx1 : Array (Option Value)}
    {ocx2 kVx2 dcx2 pmx2 cdx2 ctx2 : Value} {odx2 anx2 : Option Addr} {slx2 : Array (Option Value)}
    {ocx3 kVx3 dcx3 pmx3 cdx3 ctx3 : Value} {odx3 anx3 : Option Addr} {slx3 : Array (Option Value)}
    {ocx4 kVx4 dcx4 pmx4 cdx4 ctx4 : Value} {odx4 anx4 : Option Addr} {slx4 : Array (Option Value)}
    {ocx5 kVx5 dcx5 pmx5 cdx5 ctx5 : Value} {odx5 anx5 : Option Addr} {slx5 : Array (Option Value)}
    {ocx6 kVx6 dcx6 pmx6 cdx6 ctx6 : Value} {odx6 anx6 : Option Addr} {slx6 : Array (Option Value)}
    {ocx7 kVx7 dcx7 pmx7 cdx7 ctx7 : Value} {odx7 anx7 : Option Addr} {slx7 : Array (Option Value)}
    {ocx8 kVx8 dcx8 pmx8 cdx8 ctx8 : Value} {odx8 anx8 : Option Addr} {slx8 : Array (Option Value)}
    {ocx9 kVx9 dcx9 pmx9 cdx9 ctx9 : Value} {odx9 anx9 : Option Addr} {slx9 : Array (Option Value)}
    {ocx10 kVx10 dcx10 pmx10 cdx10 ctx10 : Value} {odx10 anx10 : Option Addr} {slx10 : Array (Option Value)}
    {ocx11 kVx11 dcx11 pmx11 cdx11 ctx11 : Value} {odx11 anx11 : Option Addr} {slx11 : Array (Option Value)}
    {ocx12 kVx12 dcx12 pmx12 cdx12 ctx12 : Value} {odx12 anx12 : Option Addr} {slx12 : Array (Option Value)}
    {ocx13 kVx13 dcx13 pmx13 cdx13 ctx13 : Value} {odx13 anx13 : Option Addr} {slx13 : Array (Option Value)}
    {ocx14 kVx14 dcx14 pmx14 cdx14 ctx14 : Value} {odx14 anx14 : Option Addr} {slx14 : Array (Option Value)}
    {ocx15 kVx15 dcx15 pmx15 cdx15 ctx15 : Value} {odx15 anx15 : Option Addr} {slx15 : Array (Option Value)}
    {ocx16 kVx16 dcx16 pmx16 cdx16 ctx16 : Value} {odx16 anx16 : Option Addr} {slx16 : Array (Option Value)}
    {ocx17 kVx17 dcx17 pmx17 cdx17 ctx17 : Value} {odx17 anx17 : Option Addr} {slx17 : Array (Option Value)}
    {ocx18 kVx18 dcx18 pmx18 cdx18 ctx18 : Value} {odx18 anx18 : Option Addr} {slx18 : Array (Option Value)}
    {ocx19 kVx19 dcx19 pmx19 cdx19 ctx19 : Value} {odx19 anx19 : Option Addr} {slx19 : Array (Option Value)}
    {ocx20 kVx20 dcx20 pmx20 cdx20 ctx20 : Value} {odx20 anx20 : Option Addr} {slx20 : Array (Option Value)}
    {ocx21 kVx21 dcx21 pmx21 cdx21 ctx21 : Value} {odx21 anx21 : Option Addr} {slx21 : Array (Option Value)}
    {ocx22 kVx22 dcx22 pmx22 cdx22 ctx22 : Value} {odx22 anx22 : Option Addr} {slx22 : Array (Option Value)}
    {ocx23 kVx23 dcx23 pmx23 cdx23 ctx23 : Value} {odx23 anx23 : Option Addr} {slx23 : Array (Option Value)}
    {ocx24 kVx24 dcx24 pmx24 cdx24 ctx24 : Value} {odx24 anx24 : Option Addr} {slx24 : Array (Option Value)}
    {ocx25 kVx25 dcx25 pmx25 cdx25 ctx25 : Value} {odx25 anx25 : Option Addr} {slx25 : Array (Option Value)}
    {ocx26 kVx26 dcx26 pmx26 cdx26 ctx26 : Value} {odx26 anx26 : Option Addr} {slx26 : Array (Option Value)}
    {ocx27 kVx27 dcx27 pmx27 cdx27 ctx27 : Value} {odx27 anx27 : Option Addr} {slx27 : Array (Option Value)}
    {ocLW kVLW dcLW pmLW cdLW ctLW : Value} {odLW anLW : Option Addr} {slLW : Array (Option Value)}
    (aC : PySem.W.nsIn K mainGlobals "Row" = some (some (.ref C)))
    (a_MOST_MARKS : PySem.W.nsIn K mainGlobals "MOST_MARKS" = some (some (.int 400 t_MOST_MARKS)))
    (n_int : PySem.W.nsIn K mainGlobals "int" = some none)
    (n_bool : PySem.W.nsIn K mainGlobals "bool" = some none)
    (n_list : PySem.W.nsIn K mainGlobals "list" = some none)
    (n_tuple : PySem.W.nsIn K mainGlobals "tuple" = some none)
    (n_range : PySem.W.nsIn K mainGlobals "range" = some none)
    (n_len : PySem.W.nsIn K mainGlobals "len" = some none)
    (n_abs : PySem.W.nsIn K mainGlobals "abs" = some none)
    (n_all : PySem.W.nsIn K mainGlobals "all" = some none)
    (n_isinstance : PySem.W.nsIn K mainGlobals "isinstance" = some none)
    (n_zip : PySem.W.nsIn K mainGlobals "zip" = some none)
    (n_max : PySem.W.nsIn K mainGlobals "max" = some none)
    (n_min : PySem.W.nsIn K mainGlobals "min" = some none)
    (n_set : PySem.W.nsIn K mainGlobals "set" = some none)
    (n_sorted : PySem.W.nsIn K mainGlobals "sorted" = some none)
    (n_dict : PySem.W.nsIn K mainGlobals "dict" = some none)
    (aKN : PySem.W.nsIn K mainGlobals "KINDS" = some (some (.ref kn)))
    (lKN : K.lookup kn = some ⟨.type "tuple", odKN, .seq #[.str (Str.ofString "none") tK1, .str (Str.ofString "plain") tK2, .str (Str.ofString "strict") tK3] nKN, slKN⟩)
    (ax0 : PySem.W.nsIn K mainGlobals "_law_jar" = some (some (.ref fx0)))
    (lx0 : K.lookup fx0 = some ⟨ocx0, odx0, .func (PySem.W.fnOf "_law_jar" "_law_jar" (defArgs sJar) (defBody sJar) (defScope sJar) .none kVx0 dcx0 pmx0 anx0 cdx0 ctx0), slx0⟩)
    (cox0 : PySem.W.codeIn K cdx0 "_law_jar" = true)
    (kx0 : PySem.W.keepIn K (.ref fx0) = true)
    (ax1 : PySem.W.nsIn K mainGlobals "_law_dip" = some (some (.ref fx1)))
    (lx1 : K.lookup fx1 = some ⟨ocx1, odx1, .func (PySem.W.fnOf "_law_dip" "_law_dip" (defArgs sDip) (defBody sDip) (defScope sDip) .none kVx1 dcx1 pmx1 anx1 cdx1 ctx1), slx1⟩)
    (cox1 : PySem.W.codeIn K cdx1 "_law_dip" = true)
    (kx1 : PySem.W.keepIn K (.ref fx1) = true)
    (ax2 : PySem.W.nsIn K mainGlobals "_law_spots" = some (some (.ref fx2)))
    (lx2 : K.lookup fx2 = some ⟨ocx2, odx2, .func (PySem.W.fnOf "_law_spots" "_law_spots" (defArgs sSp) (defBody sSp) (defScope sSp) .none kVx2 dcx2 pmx2 anx2 cdx2 ctx2), slx2⟩)
    (cox2 : PySem.W.codeIn K cdx2 "_law_spots" = true)
    (kx2 : PySem.W.keepIn K (.ref fx2) = true)
    (ax3 : PySem.W.nsIn K mainGlobals "is_integer" = some (some (.ref fx3)))
    (lx3 : K.lookup fx3 = some ⟨ocx3, odx3, .func (PySem.W.fnOf "is_integer" "is_integer" (defArgs sIsInt) (defBody sIsInt) (defScope sIsInt) .none kVx3 dcx3 pmx3 anx3 cdx3 ctx3), slx3⟩)
    (cox3 : PySem.W.codeIn K cdx3 "is_integer" = true)
    (kx3 : PySem.W.keepIn K (.ref fx3) = true)
    (ax4 : PySem.W.nsIn K mainGlobals "are_places" = some (some (.ref fx4)))
    (lx4 : K.lookup fx4 = some ⟨ocx4, odx4, .func (PySem.W.fnOf "are_places" "are_places" (defArgs sPlaces) (defBody sPlaces) (defScope sPlaces) .none kVx4 dcx4 pmx4 anx4 cdx4 ctx4), slx4⟩)
    (cox4 : PySem.W.codeIn K cdx4 "are_places" = true)
    (kx4 : PySem.W.keepIn K (.ref fx4) = true)
    (ax5 : PySem.W.findIn K (.ref C) "_check_inner" = some (some (.ref fx5)))
    (ix5 : PySem.W.isFn K (.ref fx5) = true)
    (lx5 : K.lookup fx5 = some ⟨ocx5, odx5, .func (PySem.W.fnOf "_check_inner" "Row._check_inner" (defArgs sCI) (defBody sCI) (defScope sCI) .none kVx5 dcx5 pmx5 anx5 cdx5 ctx5), slx5⟩)
    (cox5 : PySem.W.codeIn K cdx5 "Row._check_inner" = true)
    (kx5 : PySem.W.keepIn K (.ref fx5) = true)
    (ax6 : PySem.W.nsIn K mainGlobals "are_ascending" = some (some (.ref fx6)))
    (lx6 : K.lookup fx6 = some ⟨ocx6, odx6, .func (PySem.W.fnOf "are_ascending" "are_ascending" (defArgs sAsc) (defBody sAsc) (defScope sAsc) .none kVx6 dcx6 pmx6 anx6 cdx6 ctx6), slx6⟩)
    (cox6 : PySem.W.codeIn K cdx6 "are_ascending" = true)
    (kx6 : PySem.W.keepIn K (.ref fx6) = true)
    (ax7 : PySem.W.nsIn K mainGlobals "are_marks" = some (some (.ref fx7)))
    (lx7 : K.lookup fx7 = some ⟨ocx7, odx7, .func (PySem.W.fnOf "are_marks" "are_marks" (defArgs sMarks) (defBody sMarks) (defScope sMarks) .none kVx7 dcx7 pmx7 anx7 cdx7 ctx7), slx7⟩)
    (cox7 : PySem.W.codeIn K cdx7 "are_marks" = true)
    (kx7 : PySem.W.keepIn K (.ref fx7) = true)
    (ax8 : PySem.W.nsIn K mainGlobals "are_some_of" = some (some (.ref fx8)))
    (lx8 : K.lookup fx8 = some ⟨ocx8, odx8, .func (PySem.W.fnOf "are_some_of" "are_some_of" (defArgs sSome) (defBody sSome) (defScope sSome) .none kVx8 dcx8 pmx8 anx8 cdx8 ctx8), slx8⟩)
    (cox8 : PySem.W.codeIn K cdx8 "are_some_of" = true)
    (kx8 : PySem.W.keepIn K (.ref fx8) = true)
    (ax9 : PySem.W.findIn K (.ref C) "__init__" = some (some (.ref fx9)))
    (ix9 : PySem.W.isFn K (.ref fx9) = true)
    (lx9 : K.lookup fx9 = some ⟨ocx9, odx9, .func (PySem.W.fnOf "__init__" "Row.__init__" (defArgs sInit) (defBody sInit) (defScope sInit) .none kVx9 dcx9 pmx9 anx9 cdx9 ctx9), slx9⟩)
    (cox9 : PySem.W.codeIn K cdx9 "Row.__init__" = true)
    (kx9 : PySem.W.keepIn K (.ref fx9) = true)
    (ax10 : PySem.W.findIn K (.ref C) "with_marks" = some (some (.ref fx10)))
    (ix10 : PySem.W.isFn K (.ref fx10) = true)
    (lx10 : K.lookup fx10 = some ⟨ocx10, odx10, .func (PySem.W.fnOf "with_marks" "Row.with_marks" (defArgs sWith) (defBody sWith) (defScope sWith) .none kVx10 dcx10 pmx10 anx10 cdx10 ctx10), slx10⟩)
    (cox10 : PySem.W.codeIn K cdx10 "Row.with_marks" = true)
    (kx10 : PySem.W.keepIn K (.ref fx10) = true)
    (ax11 : PySem.W.nsIn K mainGlobals "shifted" = some (some (.ref fx11)))
    (lx11 : K.lookup fx11 = some ⟨ocx11, odx11, .func (PySem.W.fnOf "shifted" "shifted" (defArgs sShift) (defBody sShift) (defScope sShift) .none kVx11 dcx11 pmx11 anx11 cdx11 ctx11), slx11⟩)
    (cox11 : PySem.W.codeIn K cdx11 "shifted" = true)
    (kx11 : PySem.W.keepIn K (.ref fx11) = true)
    (apL : PySem.W.findIn K (.ref C) "length" = some (some (.ref pL)))
    (gpL : PySem.W.specialIn K (.ref pL) "__get__" = some (some (.builtin "property.__get__")))
    (tpL : PySem.W.takesIn K (.ref pL) = some true)
    (rpL : PySem.W.recIn K pL "property" = some (.ref fx12 :: restpL))
    (lx12 : K.lookup fx12 = some ⟨ocx12, odx12, .func (PySem.W.fnOf "length" "Row.length" (defArgs sGetL) (defBody sGetL) (defScope sGetL) .none kVx12 dcx12 pmx12 anx12 cdx12 ctx12), slx12⟩)
    (cox12 : PySem.W.codeIn K cdx12 "Row.length" = true)
    (kx12 : PySem.W.keepIn K (.ref fx12) = true)
    (apM : PySem.W.findIn K (.ref C) "marks" = some (some (.ref pM)))
    (gpM : PySem.W.specialIn K (.ref pM) "__get__" = some (some (.builtin "property.__get__")))
    (tpM : PySem.W.takesIn K (.ref pM) = some true)
    (rpM : PySem.W.recIn K pM "property" = some (.ref fx13 :: restpM))
    (lx13 : K.lookup fx13 = some ⟨ocx13, odx13, .func (PySem.W.fnOf "marks" "Row.marks" (defArgs sGetM) (defBody sGetM) (defScope sGetM) .none kVx13 dcx13 pmx13 anx13 cdx13 ctx13), slx13⟩)
    (cox13 : PySem.W.codeIn K cdx13 "Row.marks" = true)
    (kx13 : PySem.W.keepIn K (.ref fx13) = true)
    (apS : PySem.W.findIn K (.ref C) "strict" = some (some (.ref pS)))
    (gpS : PySem.W.specialIn K (.ref pS) "__get__" = some (some (.builtin "property.__get__")))
    (tpS : PySem.W.takesIn K (.ref pS) = some true)
    (rpS : PySem.W.recIn K pS "property" = some (.ref fx14 :: restpS))
    (lx14 : K.lookup fx14 = some ⟨ocx14, odx14, .func (PySem.W.fnOf "strict" "Row.strict" (defArgs sGetS) (defBody sGetS) (defScope sGetS) .none kVx14 dcx14 pmx14 anx14 cdx14 ctx14), slx14⟩)
    (cox14 : PySem.W.codeIn K cdx14 "Row.strict" = true)
    (kx14 : PySem.W.keepIn K (.ref fx14) = true)
    (ax15 : PySem.W.findIn K (.ref C) "joined" = some (some (.ref fx15)))
    (ix15 : PySem.W.isFn K (.ref fx15) = true)
    (lx15 : K.lookup fx15 = some ⟨ocx15, odx15, .func (PySem.W.fnOf "joined" "Row.joined" (defArgs sJoin) (defBody sJoin) (defScope sJoin) .none kVx15 dcx15 pmx15 anx15 cdx15 ctx15), slx15⟩)
    (cox15 : PySem.W.codeIn K cdx15 "Row.joined" = true)
    (kx15 : PySem.W.keepIn K (.ref fx15) = true)
    (ax16 : PySem.W.nsIn K mainGlobals "is_replacement" = some (some (.ref fx16)))
    (lx16 : K.lookup fx16 = some ⟨ocx16, odx16, .func (PySem.W.fnOf "is_replacement" "is_replacement" (defArgs sRepl) (defBody sRepl) (defScope sRepl) .none kVx16 dcx16 pmx16 anx16 cdx16 ctx16), slx16⟩)
    (cox16 : PySem.W.codeIn K cdx16 "is_replacement" = true)
    (kx16 : PySem.W.keepIn K (.ref fx16) = true)
    (ax17 : PySem.W.nsIn K mainGlobals "is_change" = some (some (.ref fx17)))
    (lx17 : K.lookup fx17 = some ⟨ocx17, odx17, .func (PySem.W.fnOf "is_change" "is_change" (defArgs sChange) (defBody sChange) (defScope sChange) .none kVx17 dcx17 pmx17 anx17 cdx17 ctx17), slx17⟩)
    (cox17 : PySem.W.codeIn K cdx17 "is_change" = true)
    (kx17 : PySem.W.keepIn K (.ref fx17) = true)
    (ax18 : PySem.W.nsIn K mainGlobals "replaced" = some (some (.ref fx18)))
    (lx18 : K.lookup fx18 = some ⟨ocx18, odx18, .func (PySem.W.fnOf "replaced" "replaced" (defArgs sReplaced) (defBody sReplaced) (defScope sReplaced) .none kVx18 dcx18 pmx18 anx18 cdx18 ctx18), slx18⟩)
    (cox18 : PySem.W.codeIn K cdx18 "replaced" = true)
    (kx18 : PySem.W.keepIn K (.ref fx18) = true)
    (ax19 : PySem.W.nsIn K mainGlobals "changed_parts" = some (some (.ref fx19)))
    (lx19 : K.lookup fx19 = some ⟨ocx19, odx19, .func (PySem.W.fnOf "changed_parts" "changed_parts" (defArgs sParts) (defBody sParts) (defScope sParts) .none kVx19 dcx19 pmx19 anx19 cdx19 ctx19), slx19⟩)
    (cox19 : PySem.W.codeIn K cdx19 "changed_parts" = true)
    (kx19 : PySem.W.keepIn K (.ref fx19) = true)
    (ax20 : PySem.W.findIn K (.ref C) "changed" = some (some (.ref fx20)))
    (ix20 : PySem.W.isFn K (.ref fx20) = true)
    (lx20 : K.lookup fx20 = some ⟨ocx20, odx20, .func (PySem.W.fnOf "changed" "Row.changed" (defArgs sChanged) (defBody sChanged) (defScope sChanged) .none kVx20 dcx20 pmx20 anx20 cdx20 ctx20), slx20⟩)
    (cox20 : PySem.W.codeIn K cdx20 "Row.changed" = true)
    (kx20 : PySem.W.keepIn K (.ref fx20) = true)
    (ax21 : PySem.W.nsIn K mainGlobals "_law_told" = some (some (.ref fx21)))
    (lx21 : K.lookup fx21 = some ⟨ocx21, odx21, .func (PySem.W.fnOf "_law_told" "_law_told" (defArgs sTo) (defBody sTo) (defScope sTo) .none kVx21 dcx21 pmx21 anx21 cdx21 ctx21), slx21⟩)
    (cox21 : PySem.W.codeIn K cdx21 "_law_told" = true)
    (kx21 : PySem.W.keepIn K (.ref fx21) = true)
    (ax22 : PySem.W.findIn K (.ref C) "without_marks" = some (some (.ref fx22)))
    (ix22 : PySem.W.isFn K (.ref fx22) = true)
    (lx22 : K.lookup fx22 = some ⟨ocx22, odx22, .func (PySem.W.fnOf "without_marks" "Row.without_marks" (defArgs sWout) (defBody sWout) (defScope sWout) .none kVx22 dcx22 pmx22 anx22 cdx22 ctx22), slx22⟩)
    (cox22 : PySem.W.codeIn K cdx22 "Row.without_marks" = true)
    (kx22 : PySem.W.keepIn K (.ref fx22) = true)
    (ax23 : PySem.W.nsIn K mainGlobals "check_place" = some (some (.ref fx23)))
    (lx23 : K.lookup fx23 = some ⟨ocx23, odx23, .func (PySem.W.fnOf "check_place" "check_place" (defArgs sCPl) (defBody sCPl) (defScope sCPl) .none kVx23 dcx23 pmx23 anx23 cdx23 ctx23), slx23⟩)
    (cox23 : PySem.W.codeIn K cdx23 "check_place" = true)
    (kx23 : PySem.W.keepIn K (.ref fx23) = true)
    (ax24 : PySem.W.findIn K (.ref C) "part" = some (some (.ref fx24)))
    (ix24 : PySem.W.isFn K (.ref fx24) = true)
    (lx24 : K.lookup fx24 = some ⟨ocx24, odx24, .func (PySem.W.fnOf "part" "Row.part" (defArgs sPart) (defBody sPart) (defScope sPart) .none kVx24 dcx24 pmx24 anx24 cdx24 ctx24), slx24⟩)
    (cox24 : PySem.W.codeIn K cdx24 "Row.part" = true)
    (kx24 : PySem.W.keepIn K (.ref fx24) = true)
    (ax25 : PySem.W.findIn K (.ref C) "__len__" = some (some (.ref fx25)))
    (ix25 : PySem.W.isFn K (.ref fx25) = true)
    (lx25 : K.lookup fx25 = some ⟨ocx25, odx25, .func (PySem.W.fnOf "__len__" "Row.__len__" (defArgs sLenR) (defBody sLenR) (defScope sLenR) .none kVx25 dcx25 pmx25 anx25 cdx25 ctx25), slx25⟩)
    (cox25 : PySem.W.codeIn K cdx25 "Row.__len__" = true)
    (kx25 : PySem.W.keepIn K (.ref fx25) = true)
    (ax26 : PySem.W.findIn K (.ref C) "__eq__" = some (some (.ref fx26)))
    (ix26 : PySem.W.isFn K (.ref fx26) = true)
    (lx26 : K.lookup fx26 = some ⟨ocx26, odx26, .func (PySem.W.fnOf "__eq__" "Row.__eq__" (defArgs sEq) (defBody sEq) (defScope sEq) .none kVx26 dcx26 pmx26 anx26 cdx26 ctx26), slx26⟩)
    (cox26 : PySem.W.codeIn K cdx26 "Row.__eq__" = true)
    (kx26 : PySem.W.keepIn K (.ref fx26) = true)
    (ax27 : PySem.W.nsIn K mainGlobals "_law_right" = some (some (.ref fx27)))
    (lx27 : K.lookup fx27 = some ⟨ocx27, odx27, .func (PySem.W.fnOf "_law_right" "_law_right" (defArgs sRi) (defBody sRi) (defScope sRi) .none kVx27 dcx27 pmx27 anx27 cdx27 ctx27), slx27⟩)
    (cox27 : PySem.W.codeIn K cdx27 "_law_right" = true)
    (kx27 : PySem.W.keepIn K (.ref fx27) = true)
    (aLW : PySem.W.nsIn K mainGlobals "law" = some (some (.ref fLW)))
    (lLW : K.lookup fLW = some ⟨ocLW, odLW, .func (PySem.W.fnOf "law" "law" (defArgs sL) (defBody sL) (defScope sL) .none kVLW dcLW pmLW anLW cdLW ctLW), slLW⟩)
    (coLW : PySem.W.codeIn K cdLW "law" = true)
    (kLW : PySem.W.keepIn K (.ref fLW) = true)
    (pg : PySem.W.plainGet K C Str.empty = true)
    (hd : PySem.W.hasDictIn K C = true)
    (po : PySem.W.plainOver K C = true)
    (sa : PySem.W.findIn K (.ref C) "__setattr__" = some (some (.builtin "object.__setattr__")))
    (mk : PySem.W.makesIn K C = true)
    (kc : PySem.W.keepIn K (.ref C) = true)
    (nL : PySem.W.findIn K (.ref C) "_length" = some none)
    (nM : PySem.W.findIn K (.ref C) "_marks" = some none)
    (nS : PySem.W.findIn K (.ref C) "_strict" = some none)
    (kt : PySem.W.kitOne K (.ref C) (.ref C) = some true)
    (ca : PySem.W.findIn K (.ref C) "__class__" = some (some (.builtin "object.__class__")))
    (cn : PySem.W.specialIn K (.builtin "object.__class__") "__get__" = some (some (.builtin "getset_descriptor.__get__")))
    (ct : PySem.W.takesIn K (.builtin "object.__class__") = some true)
    (cm : PySem.W.mroIn K C (.type "object") = some true)
    (en : PySem.W.findIn K (.ref C) "__ne__" = some (some (.builtin "object.__ne__")))
    (aCI : PySem.W.nsIn K mainGlobals "InvalidRow" = some (some (.ref CI)))
    (xCI : PySem.W.excIn K CI [.type "ValueError", .type "Exception", .type "BaseException", .type "object"] "ValueError.__new__" = true)
    (kpCI : PySem.W.keepIn K (.ref CI) = true)
    (bsCI : PySem.W.subIn K (.ref CI) (.type "BaseException") = some true)
    (tyCI : PySem.W.typeIn K (.ref CI) = some (.type "type"))
    (aCC : PySem.W.nsIn K mainGlobals "InvalidChange" = some (some (.ref CC)))
    (xCC : PySem.W.excIn K CC [.type "ValueError", .type "Exception", .type "BaseException", .type "object"] "ValueError.__new__" = true)
    (kpCC : PySem.W.keepIn K (.ref CC) = true)
    (bsCC : PySem.W.subIn K (.ref CC) (.type "BaseException") = some true)
    (tyCC : PySem.W.typeIn K (.ref CC) = some (.type "type"))
    (aCE : PySem.W.nsIn K mainGlobals "CutError" = some (some (.ref CE)))
    (xCE : PySem.W.excIn K CE [.type "ValueError", .type "Exception", .type "BaseException", .type "object"] "ValueError.__new__" = true)
    (kpCE : PySem.W.keepIn K (.ref CE) = true)
    (bsCE : PySem.W.subIn K (.ref CE) (.type "BaseException") = some true)
    (tyCE : PySem.W.typeIn K (.ref CE) = some (.type "type"))
    (ei : PySem.W.exmOne K (.ref CI) (.ref CE) = some true)
    (ec : PySem.W.exmOne K (.ref CC) (.ref CE) = some true)
    (xcCI : ExcC K CI)
    (xcCC : ExcC K CC)
    (kii : PySem.W.kitOne K (.ref CI) (.ref CI) = some true)
    (kic : PySem.W.kitOne K (.ref CI) (.ref CC) = some false)
    (kci : PySem.W.kitOne K (.ref CC) (.ref CI) = some false)
    (kcc : PySem.W.kitOne K (.ref CC) (.ref CC) = some true)
    : ∃ fd : FuncData, (∀ (s : Shared) (v : Value), BindsTo s fd ⟨[v], []⟩ [("script", v)]) ∧ ∀ base : Heap, K.In base → base.Ns mainGlobals mg → FnG l.prog w K mg base 10 fa fd ["script"] (spLaw K) := by
  have e := hfa.symm.trans (PySem.W.mg_of X G aLW)
  cases e
  have T : Bl mg := ⟨PySem.W.mg_none_of X G n_int, PySem.W.mg_none_of X G n_bool, PySem.W.mg_none_of X G n_list, PySem.W.mg_none_of X G n_tuple, PySem.W.mg_none_of X G n_range, PySem.W.mg_none_of X G n_len, PySem.W.mg_none_of X G n_abs, PySem.W.mg_none_of X G n_all, PySem.W.mg_none_of X G n_isinstance, PySem.W.mg_none_of X G n_zip, PySem.W.mg_none_of X G n_max, PySem.W.mg_none_of X G n_min, PySem.W.mg_none_of X G n_set, PySem.W.mg_none_of X G n_sorted, PySem.W.mg_none_of X G n_dict⟩
  have R : Cl K mg C := ⟨⟨pg, hd, po, sa⟩, nL, nM, nS, PySem.W.mg_of X G aC, kt⟩
  have N : Ci K C := ⟨ca, cn, ct, cm⟩
  have M : Mk K C fx9 := ⟨mk, ax9, ix9, kc⟩
  have EI : ErrC K mg CI "InvalidRow" := ⟨PySem.W.mg_of X G aCI, xCI, kpCI, bsCI, tyCI⟩
  have EC : ErrC K mg CC "InvalidChange" := ⟨PySem.W.mg_of X G aCC, xCC, kpCC, bsCC, tyCC⟩
  have EE : ErrC K mg CE "CutError" := ⟨PySem.W.mg_of X G aCE, xCE, kpCE, bsCE, tyCE⟩
  have XX : ErrX K CI CC CE := ⟨ei, ec, xcCI, xcCC, kii, kic, kci, kcc⟩
  have hKN : ∀ H : Hp, SqT K H kn kinds3 := fun H => .inr ⟨_, _, _, lKN, rfl, rfl, (by show 3 ≤ sizeLine; decide), .cons ⟨_, rfl⟩ (.cons ⟨_, rfl⟩ (.cons ⟨_, rfl⟩ .nil))⟩
  have Fx0 := fun_mk (st := sJar) lx0 cox0 kx0
  have bx0 := Fx0.binds (ps := ["script", "k"]) fun _ _ _ _ _ _ us hl => match us, hl with | [_, _], _ => rfl
  have gx0 := PySem.W.mg_of X G ax0
  have Fx1 := fun_mk (st := sDip) lx1 cox1 kx1
  have bx1 := Fx1.binds (ps := ["jar", "many"]) fun _ _ _ _ _ _ us hl => match us, hl with | [_, _], _ => rfl
  have gx1 := PySem.W.mg_of X G ax1
  have Fx2 := fun_mk (st := sSp) lx2 cox2 kx2
  have bx2 := Fx2.binds (ps := ["jar", "many"]) fun _ _ _ _ _ _ us hl => match us, hl with | [_, _], _ => rfl
  have gx2 := PySem.W.mg_of X G ax2
  have Fx3 := fun_mk (st := sIsInt) lx3 cox3 kx3
  have bx3 := Fx3.binds (ps := ["thing"]) fun _ _ _ _ _ _ us hl => match us, hl with | [_], _ => rfl
  have gx3 := PySem.W.mg_of X G ax3
  have Fx4 := fun_mk (st := sPlaces) lx4 cox4 kx4
  have bx4 := Fx4.binds (ps := ["thing", "low", "high"]) fun _ _ _ _ _ _ us hl => match us, hl with | [_, _, _], _ => rfl
  have gx4 := PySem.W.mg_of X G ax4
  have Fx5 := fun_mk (st := sCI) lx5 cox5 kx5
  have bx5 := Fx5.binds (ps := ["self", "places"]) fun _ _ _ _ _ _ us hl => match us, hl with | [_, _], _ => rfl
  have Fx6 := fun_mk (st := sAsc) lx6 cox6 kx6
  have bx6 := Fx6.binds (ps := ["thing", "low", "high"]) fun _ _ _ _ _ _ us hl => match us, hl with | [_, _, _], _ => rfl
  have gx6 := PySem.W.mg_of X G ax6
  have Fx7 := fun_mk (st := sMarks) lx7 cox7 kx7
  have bx7 := Fx7.binds (ps := ["thing", "high"]) fun _ _ _ _ _ _ us hl => match us, hl with | [_, _], _ => rfl
  have gx7 := PySem.W.mg_of X G ax7
  have Fx8 := fun_mk (st := sSome) lx8 cox8 kx8
  have bx8 := Fx8.binds (ps := ["thing", "marks"]) fun _ _ _ _ _ _ us hl => match us, hl with | [_, _], _ => rfl
  have gx8 := PySem.W.mg_of X G ax8
  have Fx9 := fun_mk (st := sInit) lx9 cox9 kx9
  have bx9 := Fx9.binds (ps := ["self", "length", "marks", "strict"]) fun _ _ _ _ _ _ us hl => match us, hl with | [_, _, _, _], _ => rfl
  have Fx10 := fun_mk (st := sWith) lx10 cox10 kx10
  have bx10 := Fx10.binds (ps := ["self", "places", "is_strict"]) fun _ _ _ _ _ _ us hl => match us, hl with | [_, _, _], _ => rfl
  have Fx11 := fun_mk (st := sShift) lx11 cox11 kx11
  have bx11 := Fx11.binds (ps := ["places", "number"]) fun _ _ _ _ _ _ us hl => match us, hl with | [_, _], _ => rfl
  have gx11 := PySem.W.mg_of X G ax11
  have Fx12 := fun_mk (st := sGetL) lx12 cox12 kx12
  have bx12 := Fx12.binds (ps := ["self"]) fun _ _ _ _ _ _ us hl => match us, hl with | [_], _ => rfl
  have Fx13 := fun_mk (st := sGetM) lx13 cox13 kx13
  have bx13 := Fx13.binds (ps := ["self"]) fun _ _ _ _ _ _ us hl => match us, hl with | [_], _ => rfl
  have Fx14 := fun_mk (st := sGetS) lx14 cox14 kx14
  have bx14 := Fx14.binds (ps := ["self"]) fun _ _ _ _ _ _ us hl => match us, hl with | [_], _ => rfl
  have Fx15 := fun_mk (st := sJoin) lx15 cox15 kx15
  have bx15 := Fx15.binds (ps := ["self", "other", "kind"]) fun _ _ _ _ _ _ us hl => match us, hl with | [_, _, _], _ => rfl
  have Fx16 := fun_mk (st := sRepl) lx16 cox16 kx16
  have bx16 := Fx16.binds (ps := ["begin", "end", "length", "row_length"]) fun _ _ _ _ _ _ us hl => match us, hl with | [_, _, _, _], _ => rfl
  have gx16 := PySem.W.mg_of X G ax16
  have Fx17 := fun_mk (st := sChange) lx17 cox17 kx17
  have bx17 := Fx17.binds (ps := ["thing", "row_length"]) fun _ _ _ _ _ _ us hl => match us, hl with | [_, _], _ => rfl
  have gx17 := PySem.W.mg_of X G ax17
  have Fx18 := fun_mk (st := sReplaced) lx18 cox18 kx18
  have bx18 := Fx18.binds (ps := ["old", "new", "change", "new_length"]) fun _ _ _ _ _ _ us hl => match us, hl with | [_, _, _, _], _ => rfl
  have gx18 := PySem.W.mg_of X G ax18
  have Fx19 := fun_mk (st := sParts) lx19 cox19 kx19
  have bx19 := Fx19.binds (ps := ["row", "change"]) fun _ _ _ _ _ _ us hl => match us, hl with | [_, _], _ => rfl
  have gx19 := PySem.W.mg_of X G ax19
  have Fx20 := fun_mk (st := sChanged) lx20 cox20 kx20
  have bx20 := Fx20.binds (ps := ["self", "change"]) fun _ _ _ _ _ _ us hl => match us, hl with | [_, _], _ => rfl
  have Fx21 := fun_mk (st := sTo) lx21 cox21 kx21
  have bx21 := Fx21.binds (ps := ["way", "one", "two"]) fun _ _ _ _ _ _ us hl => match us, hl with | [_, _, _], _ => rfl
  have gx21 := PySem.W.mg_of X G ax21
  have Fx22 := fun_mk (st := sWout) lx22 cox22 kx22
  have bx22 := Fx22.binds (ps := ["self", "places"]) fun _ _ _ _ _ _ us hl => match us, hl with | [_, _], _ => rfl
  have Fx23 := fun_mk (st := sCPl) lx23 cox23 kx23
  have bx23 := Fx23.binds (ps := ["place", "low", "high"]) fun _ _ _ _ _ _ us hl => match us, hl with | [_, _, _], _ => rfl
  have gx23 := PySem.W.mg_of X G ax23
  have Fx24 := fun_mk (st := sPart) lx24 cox24 kx24
  have bx24 := Fx24.binds (ps := ["self", "begin", "end"]) fun _ _ _ _ _ _ us hl => match us, hl with | [_, _, _], _ => rfl
  have Fx25 := fun_mk (st := sLenR) lx25 cox25 kx25
  have bx25 := Fx25.binds (ps := ["self"]) fun _ _ _ _ _ _ us hl => match us, hl with | [_], _ => rfl
  have Fx26 := fun_mk (st := sEq) lx26 cox26 kx26
  have bx26 := Fx26.binds (ps := ["self", "other"]) fun _ _ _ _ _ _ us hl => match us, hl with | [_, _], _ => rfl
  have Fx27 := fun_mk (st := sRi) lx27 cox27 kx27
  have bx27 := Fx27.binds (ps := ["jar"]) fun _ _ _ _ _ _ us hl => match us, hl with | [_], _ => rfl
  have gx27 := PySem.W.mg_of X G ax27
  have FLW := fun_mk (st := sL) lLW coLW kLW
  have gLW := PySem.W.mg_of X G aLW
  refine ⟨PySem.W.fnOf "law" "law" (defArgs sL) (defBody sL) (defScope sL) .none kVLW dcLW pmLW anLW cdLW ctLW, fun s v => .of_eq rfl, fun base _ _ => ?_⟩
  have Gx0 := ok_jar (P := l.prog) (w := w) (K := K) (mg := mg) (base := base) Fx0 T
  have Gx1 := ok_dip (P := l.prog) (w := w) (K := K) (mg := mg) (base := base) Fx1 T
  have Gx2 := ok_sp (P := l.prog) (w := w) (K := K) (mg := mg) (base := base) Fx2 T gx1 kx1 bx1 Gx1
  have Gx3 := ok_int (P := l.prog) (w := w) (K := K) (mg := mg) (base := base) Fx3 T
  have Gx4 := ok_places (P := l.prog) (w := w) (K := K) (mg := mg) (base := base) Fx4 T gx3 kx3 bx3 Gx3
  have Gx5 := ok_ci (P := l.prog) (w := w) (K := K) (mg := mg) (base := base) Fx5 R gx4 kx4 bx4 Gx4
  have Gx6 := ok_asc (P := l.prog) (w := w) (K := K) (mg := mg) (base := base) Fx6 T gx4 kx4 bx4 Gx4
  have Gx7 := ok_marksb (P := l.prog) (w := w) (K := K) (mg := mg) (base := base) Fx7 T (PySem.W.mg_of X G a_MOST_MARKS) gx6 kx6 bx6 Gx6
  have Gx8 := ok_some (P := l.prog) (w := w) (K := K) (mg := mg) (base := base) Fx8 T gx6 kx6 bx6 Gx6
  have Gx9 := ok_initx (P := l.prog) (w := w) (K := K) (mg := mg) (base := base) Fx9 T R EI gx3 kx3 bx3 Gx3 gx7 kx7 bx7 Gx7 gx8 kx8 bx8 Gx8
  have Gx10 := ok_withx (P := l.prog) (w := w) (K := K) (mg := mg) (base := base) Fx10 T R M ⟨ax5, ix5, kx5⟩ bx5 Gx5 bx9 Gx9
  have Gx11 := ok_shift (P := l.prog) (w := w) (K := K) (mg := mg) (base := base) Fx11
  have Gx12 := ok_getL (P := l.prog) (w := w) (K := K) (mg := mg) (base := base) Fx12 R
  have Gx13 := ok_getM (P := l.prog) (w := w) (K := K) (mg := mg) (base := base) Fx13 T R
  have Gx14 := ok_getS (P := l.prog) (w := w) (K := K) (mg := mg) (base := base) Fx14 T R
  have Gs : Gets l.prog w K mg base C pL fx12 pM fx13 pS fx14 _ _ _ := ⟨⟨apL, gpL, tpL, ⟨restpL, rpL⟩⟩, bx12, Gx12, ⟨apM, gpM, tpM, ⟨restpM, rpM⟩⟩, bx13, Gx13, ⟨apS, gpS, tpS, ⟨restpS, rpS⟩⟩, bx14, Gx14⟩
  have Gx15 := ok_joinx (P := l.prog) (w := w) (K := K) (mg := mg) (base := base) Fx15 R M Gs (PySem.W.mg_of X G aKN) hKN gx11 kx11 bx11 Gx11 bx9 Gx9
  have Gx16 := ok_repl (P := l.prog) (w := w) (K := K) (mg := mg) (base := base) Fx16 T gx3 kx3 bx3 Gx3
  have Gx17 := ok_changeb (P := l.prog) (w := w) (K := K) (mg := mg) (base := base) Fx17 T gx16 kx16 bx16 Gx16 gx7 kx7 bx7 Gx7 gx8 kx8 bx8 Gx8
  have Gx18 := ok_replaced (P := l.prog) (w := w) (K := K) (mg := mg) (base := base) Fx18 gx11 kx11 bx11 Gx11
  have Gx19 := ok_parts (P := l.prog) (w := w) (K := K) (mg := mg) (base := base) Fx19 R Gs gx18 kx18 bx18 Gx18
  have Gx20 := ok_changedx (P := l.prog) (w := w) (K := K) (mg := mg) (base := base) Fx20 R EC M gx17 kx17 bx17 Gx17 gx19 kx19 bx19 Gx19 bx9 Gx9
  have Gx21 := ok_to (P := l.prog) (w := w) (K := K) (mg := mg) (base := base) Fx21 T R M EI EC EE XX bx9 Gx9 ⟨ax10, ix10, kx10⟩ bx10 Gx10 ⟨ax15, ix15, kx15⟩ bx15 Gx15 ⟨ax20, ix20, kx20⟩ bx20 Gx20
  have Gx22 := ok_wout (P := l.prog) (w := w) (K := K) (mg := mg) (base := base) Fx22 T R M ⟨ax5, ix5, kx5⟩ bx5 Gx5 bx9 (calm_init Gx9)
  have Gx23 := ok_pl (P := l.prog) (w := w) (K := K) (mg := mg) (base := base) Fx23 gx3 kx3 bx3 Gx3
  have Gx24 := ok_part (P := l.prog) (w := w) (K := K) (mg := mg) (base := base) Fx24 R M gx23 kx23 bx23 Gx23 bx9 (calm_init Gx9)
  have Gx25 := ok_lenr (P := l.prog) (w := w) (K := K) (mg := mg) (base := base) Fx25 T R
  have Gx26 := ok_eq (P := l.prog) (w := w) (K := K) (mg := mg) (base := base) Fx26 T R N
  have Z : Eqs l.prog w K mg base C fx26 _ := ⟨Gx26, cm, en, ax26, ix26, bx26⟩
  have Gx27 := ok_ri (P := l.prog) (w := w) (K := K) (mg := mg) (base := base) Fx27 T R M bx9 (calm_init Gx9) Gs Z gx2 kx2 bx2 Gx2 gx1 kx1 bx1 Gx1 gx21 kx21 bx21 Gx21 ⟨ax10, ix10, kx10⟩ bx10 (calm_with Gx10) ⟨ax22, ix22, kx22⟩ bx22 Gx22 ⟨ax24, ix24, kx24⟩ bx24 Gx24 ⟨ax25, ix25, kx25⟩ bx25 Gx25
  exact FnG.of (ok_law (P := l.prog) (w := w) (K := K) (mg := mg) (base := base) FLW T R M bx9 (calm_init Gx9) Gs gx0 kx0 bx0 Gx0 gx27 kx27 bx27 Gx27 ⟨ax10, ix10, kx10⟩ bx10 (calm_with Gx10) ⟨ax22, ix22, kx22⟩ bx22 Gx22 ⟨ax20, ix20, kx20⟩ bx20 (calm_changed Gx20) ⟨ax25, ix25, kx25⟩ bx25 Gx25)
theorem walk_here {l : PySem.W.OpenLaw} {q : Program} {loose : List Str} {XP : (Str → Option Value) → Heap → Prop} {YP : World → Heap → Prop} {d : DefRec} {K : Params → PySem.W.Frag} (hn : l.most = some 63) (hdf : d.params.defaults = [])
    (hY : ∀ (w : World) (h : Heap), YP w h → (K w.params).In h)
    (F : ∀ (w : World) (mg : Str → Option Value) (fa : Addr) (h : Heap), (K w.params).In h → h.Ns mainGlobals mg → mg d.name = some (.ref fa) →
      ∃ fd : FuncData, (∀ (s : Shared) (u : Value), BindsTo s fd ⟨[u], []⟩ [("script", u)]) ∧ ∀ base : Heap, (K w.params).In base → base.Ns mainGlobals mg → FnG l.prog w (K w.params) mg base 10 fa fd ["script"] (spLaw (K w.params))) :
    PySem.W.WalkO q loose XP YP l.row.toRowW d [] (fun f vs => PySem.call f vs) :=
  walkG (n := 63) (k := 10) (x := "script") (sp := fun w => spLaw (K w.params)) hn (by decide) hdf ⟨rfl, by decide, by decide⟩ hY F fun _ _ a ns hl _ hS => ⟨a, ns, rfl, hS, hl, fun _ => rfl⟩
end Cw
open PySem PySem.W PyProof.Rows
set_option maxRecDepth 100000 in
set_option maxHeartbeats 0 in
theorem PySem.Challenge.cw_cutwalks_k05_limits_of_marks_holds : PySem.Challenge.rw_cutwalks_k05_limits_of_marks.Holds := by
  w_on; o_law; k_head; (case hw => w_witness2)
  k_fill
  refine Cw.walk_here (l := PySem.Challenge.rw_cutwalks_k05_limits_of_marks) rfl rfl (fun w h Y => PySem.W.kIn_of Y) ?F
  case F =>
    intro w mg fa h KX G hmg
    refine' Cw.all_mk KX G hmg ?aC ?a_MOST_MARKS ?n_int ?n_bool ?n_list ?n_tuple ?n_range ?n_len ?n_abs ?n_all ?n_isinstance ?n_zip ?n_max ?n_min ?n_set ?n_sorted ?n_dict ?aKN ?lKN ?ax0 ?lx0 ?cox0 ?kx0 ?ax1 ?lx1 ?cox1 ?kx1 ?ax2 ?lx2 ?cox2 ?kx2 ?ax3 ?lx3 ?cox3 ?kx3 ?ax4 ?lx4 ?cox4 ?kx4 ?ax5 ?ix5 ?lx5 ?cox5 ?kx5 ?ax6 ?lx6 ?cox6 ?kx6 ?ax7 ?lx7 ?cox7 ?kx7 ?ax8 ?lx8 ?cox8 ?kx8 ?ax9 ?ix9 ?lx9 ?cox9 ?kx9 ?ax10 ?ix10 ?lx10 ?cox10 ?kx10 ?ax11 ?lx11 ?cox11 ?kx11 ?apL ?gpL ?tpL ?rpL ?lx12 ?cox12 ?kx12 ?apM ?gpM ?tpM ?rpM ?lx13 ?cox13 ?kx13 ?apS ?gpS ?tpS ?rpS ?lx14 ?cox14 ?kx14 ?ax15 ?ix15 ?lx15 ?cox15 ?kx15 ?ax16 ?lx16 ?cox16 ?kx16 ?ax17 ?lx17 ?cox17 ?kx17 ?ax18 ?lx18 ?cox18 ?kx18 ?ax19 ?lx19 ?cox19 ?kx19 ?ax20 ?ix20 ?lx20 ?cox20 ?kx20 ?ax21 ?lx21 ?cox21 ?kx21 ?ax22 ?ix22 ?lx22 ?cox22 ?kx22 ?ax23 ?lx23 ?cox23 ?kx23 ?ax24 ?ix24 ?lx24 ?cox24 ?kx24 ?ax25 ?ix25 ?lx25 ?cox25 ?kx25 ?ax26 ?ix26 ?lx26 ?cox26 ?kx26 ?ax27 ?lx27 ?cox27 ?kx27 ?aLW ?lLW ?coLW ?kLW ?pg ?hd ?po ?sa ?mk ?kc ?nL ?nM ?nS ?kt ?ca ?cn ?ct ?cm ?en ?aCI ?xCI ?kpCI ?bsCI ?tyCI ?aCC ?xCC ?kpCC ?bsCC ?tyCC ?aCE ?xCE ?kpCE ?bsCE ?tyCE ?ei ?ec ?xcCI ?xcCC ?kii ?kic ?kci ?kcc
    (case aC => k_is)
    (case a_MOST_MARKS => k_is)
    (case n_int => k_is)
    (case n_bool => k_is)
    (case n_list => k_is)
    (case n_tuple => k_is)
    (case n_range => k_is)
    (case n_len => k_is)
    (case n_abs => k_is)
    (case n_all => k_is)
    (case n_isinstance => k_is)
    (case n_zip => k_is)
    (case n_max => k_is)
    (case n_min => k_is)
    (case n_set => k_is)
    (case n_sorted => k_is)
    (case n_dict => k_is)
    (case aKN => k_is)
    (case lKN => k_is)
    (case ax0 => k_is)
    (case lx0 => k_is)
    (case cox0 => k_is)
    (case kx0 => k_is)
    (case ax1 => k_is)
    (case lx1 => k_is)
    (case cox1 => k_is)
    (case kx1 => k_is)
    (case ax2 => k_is)
    (case lx2 => k_is)
    (case cox2 => k_is)
    (case kx2 => k_is)
    (case ax3 => k_is)
    (case lx3 => k_is)
    (case cox3 => k_is)
    (case kx3 => k_is)
    (case ax4 => k_is)
    (case lx4 => k_is)
    (case cox4 => k_is)
    (case kx4 => k_is)
    (case ax5 => k_is)
    (case ix5 => k_is)
    (case lx5 => k_is)
    (case cox5 => k_is)
    (case kx5 => k_is)
    (case ax6 => k_is)
    (case lx6 => k_is)
    (case cox6 => k_is)
    (case kx6 => k_is)
    (case ax7 => k_is)
    (case lx7 => k_is)
    (case cox7 => k_is)
    (case kx7 => k_is)
    (case ax8 => k_is)
    (case lx8 => k_is)
    (case cox8 => k_is)
    (case kx8 => k_is)
    (case ax9 => k_is)
    (case ix9 => k_is)
    (case lx9 => k_is)
    (case cox9 => k_is)
    (case kx9 => k_is)
    (case ax10 => k_is)
    (case ix10 => k_is)
    (case lx10 => k_is)
    (case cox10 => k_is)
    (case kx10 => k_is)
    (case ax11 => k_is)
    (case lx11 => k_is)
    (case cox11 => k_is)
    (case kx11 => k_is)
    (case apL => k_is)
    (case gpL => first | k_is | kernel_rfl)
    (case tpL => first | k_is | kernel_rfl)
    (case rpL => k_is)
    (case lx12 => k_is)
    (case cox12 => k_is)
    (case kx12 => k_is)
    (case apM => k_is)
    (case gpM => first | k_is | kernel_rfl)
    (case tpM => first | k_is | kernel_rfl)
    (case rpM => k_is)
    (case lx13 => k_is)
    (case cox13 => k_is)
    (case kx13 => k_is)
    (case apS => k_is)
    (case gpS => first | k_is | kernel_rfl)
    (case tpS => first | k_is | kernel_rfl)
    (case rpS => k_is)
    (case lx14 => k_is)
    (case cox14 => k_is)
    (case kx14 => k_is)
    (case ax15 => k_is)
    (case ix15 => k_is)
    (case lx15 => k_is)
    (case cox15 => k_is)
    (case kx15 => k_is)
    (case ax16 => k_is)
    (case lx16 => k_is)
    (case cox16 => k_is)
    (case kx16 => k_is)
    (case ax17 => k_is)
    (case lx17 => k_is)
    (case cox17 => k_is)
    (case kx17 => k_is)
    (case ax18 => k_is)
    (case lx18 => k_is)
    (case cox18 => k_is)
    (case kx18 => k_is)
    (case ax19 => k_is)
    (case lx19 => k_is)
    (case cox19 => k_is)
    (case kx19 => k_is)
    (case ax20 => k_is)
    (case ix20 => k_is)
    (case lx20 => k_is)
    (case cox20 => k_is)
    (case kx20 => k_is)
    (case ax21 => k_is)
    (case lx21 => k_is)
    (case cox21 => k_is)
    (case kx21 => k_is)
    (case ax22 => k_is)
    (case ix22 => k_is)
    (case lx22 => k_is)
    (case cox22 => k_is)
    (case kx22 => k_is)
    (case ax23 => k_is)
    (case lx23 => k_is)
    (case cox23 => k_is)
    (case kx23 => k_is)
    (case ax24 => k_is)
    (case ix24 => k_is)
    (case lx24 => k_is)
    (case cox24 => k_is)
    (case kx24 => k_is)
    (case ax25 => k_is)
    (case ix25 => k_is)
    (case lx25 => k_is)
    (case cox25 => k_is)
    (case kx25 => k_is)
    (case ax26 => k_is)
    (case ix26 => k_is)
    (case lx26 => k_is)
    (case cox26 => k_is)
    (case kx26 => k_is)
    (case ax27 => k_is)
    (case lx27 => k_is)
    (case cox27 => k_is)
    (case kx27 => k_is)
    (case aLW => k_is)
    (case lLW => k_is)
    (case coLW => k_is)
    (case kLW => k_is)
    (case pg => k_is)
    (case hd => k_is)
    (case po => k_is)
    (case sa => k_is)
    (case mk => k_is)
    (case kc => k_is)
    (case nL => k_is)
    (case nM => k_is)
    (case nS => k_is)
    (case kt => first | k_is | kernel_rfl)
    (case ca => first | k_is | kernel_rfl)
    (case cn => first | k_is | kernel_rfl)
    (case ct => first | k_is | kernel_rfl)
    (case cm => first | k_is | kernel_rfl)
    (case en => first | k_is | kernel_rfl)
    (case aCI => k_is)
    (case xCI => first | k_is | kernel_rfl)
    (case kpCI => first | k_is | kernel_rfl)
    (case bsCI => first | k_is | kernel_rfl)
    (case tyCI => first | k_is | kernel_rfl)
    (case aCC => k_is)
    (case xCC => first | k_is | kernel_rfl)
    (case kpCC => first | k_is | kernel_rfl)
    (case bsCC => first | k_is | kernel_rfl)
    (case tyCC => first | k_is | kernel_rfl)
    (case aCE => k_is)
    (case xCE => first | k_is | kernel_rfl)
    (case kpCE => first | k_is | kernel_rfl)
    (case bsCE => first | k_is | kernel_rfl)
    (case tyCE => first | k_is | kernel_rfl)
    (case ei => first | k_is | kernel_rfl)
    (case ec => first | k_is | kernel_rfl)
    (case xcCI => exact ⟨by first | k_is | kernel_rfl, by first | k_is | kernel_rfl, by first | k_is | kernel_rfl, by first | k_is | kernel_rfl, by first | k_is | kernel_rfl, by first | k_is | kernel_rfl, by first | k_is | kernel_rfl, by first | k_is | kernel_rfl⟩)
    (case xcCC => exact ⟨by first | k_is | kernel_rfl, by first | k_is | kernel_rfl, by first | k_is | kernel_rfl, by first | k_is | kernel_rfl, by first | k_is | kernel_rfl, by first | k_is | kernel_rfl, by first | k_is | kernel_rfl, by first | k_is | kernel_rfl⟩)
    (case kii => first | k_is | kernel_rfl)
    (case kic => first | k_is | kernel_rfl)
    (case kci => first | k_is | kernel_rfl)
    (case kcc => first | k_is | kernel_rfl)
#print axioms PySem.Challenge.cw_cutwalks_k05_limits_of_marks_holds
