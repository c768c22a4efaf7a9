import PyProof.Rows.All
import Wide.All
import OpenK.AllK
import Wide.FinOn
import HandS.ForMost
import HandS.Strs
import HandS.SetFor
import HandS.SortKw
import KE.DataMinMax
import HandS.OwnEq
import PyProof.InstNe
import HandS.IsInst
import HandS.Walk
import HandS.Exc
import PySem.Challenge.RW_cutwalks_k13_errors_of_walks
import HandS.Property
import HandS.WideBits
import HandS.Flt
import PyProof.MaxThree
import PyProof.SeqI3
import HandS.Style
import HandS.Words
import PyProof.ReprRoads
import HandS.Deep
import HandS.RaiseMore
import HandS.TupSets
import HandS.SortInts
import HandS.Flow
import HandS.ForExc
import HandS.HotCalls
import HandS.ExcIs
import HandS.FStr
import HandS.Hot
import HandS.Comp
import HandS.Text
set_option Elab.async false
set_option maxRecDepth 100000
set_option maxHeartbeats 8000000
namespace Cw
open PySem PySem.Spec PyProof.Rows L2
/-! ## set(xs) of a list of nts -/
section
variable {P : Program} {w : World} {A : Around} {E : Value → Shared → Prop} {s : Shared}
abbrev newS (w : World) : Obj := { cls := .type "set", dict := none, data := .set #[] 0 (.fresh 0 0 (!w.params.followText "set-order")) }
theorem set_list {l : Addr} {its : Array Value} (ns : List Int) {Q : Value → Shared → Prop} (hand : A.handled = none) (isl : s.heap.IsList l its) (nts : IntsAre its.toList ns) (room : ns.length + 1 < scanBound)
    (q : ∀ (g' : Heap) (tk c : Nat), SetR w g' s.heap.objs.size (fun j => decide (j ∈ ns)) c → c ≤ ns.length → (∀ b o, s.heap.get? b = some o → g'.get? b = some o) → Q (.ref s.heap.objs.size) { s with heap := g', toks := tk }) :
    wpAny (model P w) A (call (.type "set") [.ref l]) Q E s := by
  have len : its.size = ns.length := by rw [← IntsAre.length nts, Array.length_toList]
  obtain ⟨c, tl, hmro⟩ := F.called_set.mro; have hmade := F.called_set.made; have hsub := F.called_set.sub
  refine wpAny_call (codeAny_of_tree ?_); show wpAny _ _ (callAny (.type "set") _) _ _ _
  refine wpAny_pure ⟨Code.quiet_builtin _ (by decide +kernel), codeAny_builtin F.entry_type_call ?_⟩; rw [Around.under_plain (weight_type_call_type "set" [.ref l] []) rfl]
  have h1 := F.called_set.notType; have h2 := F.called_set.canCreate; have hct := F.typeCall_set_1 (.ref l)
  repeat (any_goals (first | assumption | wp_step))
  refine codeAny_mono (code_set_led1 (.ref l) (E := E) (Q₁ := fun ob t₁ => ob = .ref s.heap.objs.size ∧ t₁ = { s with heap := s.heap.push (newS w) }) ⟨rfl, rfl⟩) fun r t₁ hr => ?_
  cases r with
  | error e => exact hr
  | ok fl =>
    cases fl with
    | ret ob =>
      obtain ⟨rfl, rfl⟩ := hr
      have at0 : (s.heap.push (newS w)).get? s.heap.objs.size = some (newS w) := Heap.get?_push_size _ rfl
      have ty0 : Shared.TypeIs { s with heap := s.heap.push (newS w) } (.ref s.heap.objs.size) "set" := ⟨_, at0, rfl⟩
      have hli := F.called_set.init.lookup; have hbi := F.called_set.init.bind (.ref s.heap.objs.size)
      repeat (any_goals (first | assumption | wp_step))
      refine codeAny_mono (codeAny_call_builtin (R := wants (fun r t₂ => r = .none ∧ ∃ g' tk c, t₂ = { s with heap := g', toks := tk } ∧ SetR w g' s.heap.objs.size (fun j => decide (j ∈ ns)) c ∧ c ≤ ns.length ∧ (∀ b o, s.heap.get? b = some o → g'.get? b = some o)) E)
        F.called_set.init.plain F.entry_set_init (check_set_init_1 ty0 ?_)) fun r₂ t₂ hr₂ => ?_
      · obtain ⟨ol, lo, lc, nl, ld⟩ := isl
        obtain ⟨oc, odi, oda, osl⟩ := ol
        simp only at lc ld; subst lc; subst ld
        have lo' : (s.heap.push (newS w)).get? l = some { cls := .type "list", dict := odi, data := .seq its nl, slots := osl } := Heap.get?_push_of_some _ lo
        have u1 := F.sub_list_set; have u2 := F.sub_list_frozenset
        have u3 : (Value.type "list" == Value.type "dict") = false := by decide
        have il : (s.heap.push (newS w)).IsList l its := ⟨_, lo', rfl, nl, rfl⟩
        unfold Builtin.«set.__init__» noKeywords Builtin.Frozenset.updateFrom
        generalize hPI : pyIter = PI; wp_walk; subst hPI
        refine wpAny_pyIter_list il ?_; refine wpAny_bind (wpAny_runValue ?_)
        have lt : l < s.heap.objs.size := Heap.lt_size lo
        have hand3 : A.in1.in1.in1.handled = none := by simp [hand]
        have ne1 : l ≠ (s.heap.push (newS w)).objs.size := by rw [Heap.size_push]; exact Nat.ne_of_lt (Nat.lt_succ_of_lt lt)
        have nin : s.heap.objs.size ∉ [(s.heap.push (newS w)).objs.size, l] := by
          rw [Heap.size_push]
          simp only [List.mem_cons, List.mem_singleton, List.not_mem_nil, or_false, not_or]
          exact ⟨Nat.ne_of_lt (Nat.lt_succ_self _), Nat.ne_of_gt lt⟩
        have val : ∀ (i : Nat) (v : Value), its[i]? = some v → ∃ k t, ns[i]? = some k ∧ v = .int k t := fun i v hv => by
          have hi : i < ns.length := by rw [← len]; exact (Array.getElem?_eq_some_iff.mp hv).1
          obtain ⟨t, e⟩ := PyProof.Rows.IntsAre.int_at nts i v (by rw [Array.getElem?_toList]; exact hv)
          exact ⟨ns[i], t, List.getElem?_eq_getElem hi, by rw [e, List.getD_eq_getElem?_getD, List.getElem?_eq_getElem hi] <;> rfl⟩
        refine set_update_ints ((Walks.list hand3 _ l ne1 its).toS) s.heap.objs.size nin ns len room val (its.size - 0) 0 _ (by omega) (Nat.zero_le _) ⟨⟨_, Heap.get?_push_size _ rfl, rfl, rfl⟩, (il.push _)⟩ ?z0 ?zR
        case z0 => exact ⟨0, Nat.le_refl 0, setR_new_at (Heap.get?_push_of_some _ at0)⟩
        case zR =>
          intro t' c' hm hc' hS'
          obtain ⟨g', g2, d', tk', os'⟩ := t'
          have eg : g2 = s.gens := hm.gens; have ed : d' = s.drawn := hm.drawn; have eo : os' = s.os := hm.os
          subst eg; subst ed; subst eo
          show wpAny _ _ _ _ _ _
          refine wpAny_pure ?_; show wpAny _ _ (ret Value.none) _ _ _
          rw [len] at hc'
          refine wpAny_pure ⟨rfl, g', tk', c', rfl, hS', hc', fun b o e => ?_⟩
          have b0 : b < s.heap.objs.size := Heap.lt_size e
          have b2 : b ≠ (s.heap.push (newS w)).objs.size := by rw [Heap.size_push]; exact Nat.ne_of_lt (Nat.lt_succ_of_lt b0)
          exact hm.heap b o (by simp only [List.mem_cons, List.mem_singleton, List.not_mem_nil, or_false, not_or]; exact ⟨Nat.ne_of_lt b0, b2⟩) (Heap.get?_push_of_some _ (Heap.get?_push_of_some _ e))
      · cases r₂ with
        | error e => exact hr₂
        | ok fl₂ =>
          cases fl₂ with
          | ret r =>
            obtain ⟨rfl, g', tk, c', rfl, hS', hc', hk'⟩ := hr₂
            repeat (any_goals (first | assumption | wp_step))
            exact q _ _ _ hS' hc' hk'
          | _ => exact hr₂.elim
    | _ => exact hr.elim
end
section
variable {P : Program} {w : World} {A : Around} {E : Value → Shared → Prop} {s : Shared}
theorem entry_sub : entryFor table "set.__sub__" = some Builtin.«frozenset.__sub__» := entryFor_alias (id' := "frozenset.__sub__") (by kernel_rfl) rfl (by decide +kernel) (by kernel_rfl)
theorem sub_form (a b : Value) : Builtin.«frozenset.__sub__» ⟨[a, b], []⟩ = (do
    let p ← Builtin.Frozenset.slot1 "__sub__" ⟨[a, b], []⟩
    if !(← (Builtin.Frozenset.isAnySet p.1 <&&> Builtin.Frozenset.isAnySet p.2)) then
      rule "frozenset.__sub__.declined"
      ret .notImplemented
    else ret (← Builtin.Frozenset.difference "frozenset.__sub__" (← Builtin.Frozenset.addrOf p.1) p.2)) := by
  rfl
variable {a b : Addr} {S T : Int → Bool} {n m : Nat}
theorem isSet_at {s : Shared} {Q : Bool → Shared → Prop} {a : Addr} (ty : s.TypeIs (.ref a) "set") (q : Q true s) : wpAny (model P w) A (Builtin.Frozenset.isAnySet (.ref a)) Q E s := by
  unfold Builtin.Frozenset.isAnySet isInstance
  have z := sub_set_self
  wp_walk
  exact q
/-- what is walked: all of the set's members -/
def Mem (xs : Array (Int × Value)) (S : Int → Bool) : Prop := ∀ e ∈ xs.toList, GoodE e ∧ S (keyOf e) = true
section
variable {o : Obj} {es : Array (Int × Value)} {ep : Nat} {t : SetTable}
theorem walk_at (ho : s.heap.get? a = some o) (hd : o.data = .set es ep t) (hf : t.fits es.size = true) (hl : w.params.followText "set-order" = true ∨ t.led = true) (hp : w.params.followText "set-order" = true ∨ (!t.plain && decide (es.size > 1)) = false)
    {Q : Array (Int × Value) → Shared → Prop} (q : ∀ xs, (∀ e ∈ xs.toList, e ∈ es.toList) → Q xs s) : wpAny (model P w) A (setWalk a) Q E s := by
  unfold setWalk
  refine wpAny_bind (wpAny_setState_of ho hd hf ?_)
  dsimp only
  refine wpAny_bind (wpAny_byText ?_)
  by_cases c : w.params.followText "set-order" = true
  · refine wp_if_pos c ?_
    refine wpAny_bind (wpAny_askSetting (wpAny_pure (q _ fun e he => ?_)))
    exact (pick_perm _ es).mem_iff.mp he
  · refine wp_if_neg c ?_
    have p1 := hp.resolve_left c
    have p2 := hl.resolve_left c
    try refine wpAny_bind (wpAny_pure ?_)
    refine wp_if_neg (by show ¬ ((!t.plain && decide (es.size > 1)) = true); rw [p1]; exact Bool.false_ne_true) ?_
    try refine wpAny_bind (wpAny_pure ?_)
    refine wpAny_bind (wpAny_of_eq (a := ()) ?_ (wpAny_pure (q es fun _ h => h)))
    show (if (!t.led && decide (es.size > 1)) = true then unsupported "set:maker-not-led" else pure ()) = pure ()
    rw [p2]
    rfl
end
theorem forIn_keep {α β : Type} {M : Model} {f : α → β → Sem (ForInStep β)} {b : β} (I : Shared → Prop) : ∀ (l : List α) {s : Shared} {Q : β → Shared → Prop},
    (∀ x ∈ l, ∀ (s : Shared) (Q' : ForInStep β → Shared → Prop), I s → (∀ s', I s' → Q' (.yield b) s') → wpAny M A (f x b) Q' E s) → I s → (∀ s', I s' → Q b s') → wpAny M A (forIn l b f) Q E s
  | [], s, Q, _, i, q => by
    rw [List.forIn_nil]
    exact wpAny_pure (q s i)
  | x :: l, s, Q, h, i, q => by
    rw [List.forIn_cons]
    exact wpAny_bind (h x (List.mem_cons_self ..) s _ i fun s' i' => forIn_keep I l (fun y hy => h y (List.mem_cons_of_mem _ hy)) i' q)
theorem forIn_keepA {α β : Type} {M : Model} {f : α → β → Sem (ForInStep β)} {b : β} (I : Shared → Prop) (l : Array α) {s : Shared} {Q : β → Shared → Prop}
    (h : ∀ x ∈ l.toList, ∀ (s : Shared) (Q' : ForInStep β → Shared → Prop), I s → (∀ s', I s' → Q' (.yield b) s') → wpAny M A (f x b) Q' E s) (i : I s) (q : ∀ s', I s' → Q b s') : wpAny M A (forIn l b f) Q E s := by
  rw [← Array.forIn_toList]
  exact forIn_keep I l.toList h i q
theorem quiet_at : ∀ (l : List Addr) {s : Shared} {Q : Bool → Shared → Prop}, (∀ c ∈ l, ∃ S n, SetR w s.heap c S n) → Q true s → wpAny (model P w) A (setsQuiet l) Q E s := by
  intro l s Q h q
  unfold setsQuiet
  refine wpAny_bind (forIn_keep (fun s' => s' = s) l (fun c hc s' Q' hs k => ?_) rfl fun s' hs => ?_)
  · subst hs
    obtain ⟨S, n, o, es, ep, t, ho, hx, hd, g, nd, hm, hb, hf, _⟩ := h c hc
    refine wpAny_bind (wpAny_setEntries_of ho hd hf ?_)
    refine wpAny_bind (forIn_keepA (fun s'' => s'' = s') es (fun e he s'' Q'' hs k' => ?_) rfl fun s'' hs => ?_)
    · subst hs
      obtain ⟨i, tk, h1, h2⟩ := g e he
      obtain ⟨e1, e2⟩ := e
      dsimp only at h1
      subst h1
      exact wpAny_pure (k' _ rfl)
    · subst hs
      exact wpAny_pure (k _ rfl)
  · subst hs
    exact wpAny_pure q
/-- the set at a walked while the empty set at r is filled -/
theorem unseen_at {r : Addr} (R : SetR w s.heap a S n) (Rr : SetR w s.heap r (fun _ => false) 0) {l : List Addr} (hall : ∀ c ∈ a :: l, ∃ S n, SetR w s.heap c S n) {Q : Array (Int × Value) → Shared → Prop}
    (q : ∀ xs h', Mem xs S → (∀ c o, c ≠ r → s.heap.get? c = some o → h'.get? c = some o) → SetR w h' r (fun _ => false) 0 → Q xs { s with heap := h' }) : wpAny (model P w) A (setWalkUnseen a l (some r)) Q E s := by
  obtain ⟨o, es, ep, t, ho, hx, hd, g, nd, hm, hb, hf, hn, hr, hl⟩ := R
  have mem : ∀ xs : Array (Int × Value), (∀ e ∈ xs.toList, e ∈ es.toList) → Mem xs S := fun xs h e he => ⟨g e (h e he), (hm _).mpr (List.mem_map_of_mem (h e he))⟩
  unfold setWalkUnseen
  refine wpAny_bind (wpAny_setState_of ho hd hf ?_)
  dsimp only
  refine wpAny_bind (wpAny_byText ?_)
  by_cases c : (w.params.followText "set-order" || t.led && t.plain || decide (es.size ≤ 1)) = true
  · refine wp_if_pos c ?_
    refine walk_at ho hd hf hl ?_ fun xs h => ?_
    · simp only [Bool.or_eq_true, Bool.and_eq_true, decide_eq_true_eq] at c
      rcases c with (c | c) | c
      · exact .inl c
      · exact .inr (by rw [c.2]; rfl)
      · exact .inr (by rw [decide_eq_false (by omega), Bool.and_false])
    · exact q xs s.heap (mem xs h) (fun _ _ _ e => e) Rr
  · refine wp_if_neg c ?_
    try refine wpAny_bind (wpAny_pure ?_)
    refine wpAny_bind (quiet_at (a :: l) hall ?_)
    refine wp_if_neg (by decide) ?_
    try refine wpAny_bind (wpAny_pure ?_)
    refine wpAny_bind (wpAny_rule ?_)
    obtain ⟨o2, es2, ep2, t2, ho2, hx2, hd2, g2, nd2, hm2, hb2, hf2, hn2, hr2, hl2⟩ := Rr
    try dsimp only
    refine wpAny_bind (wpAny_setState_of ho2 hd2 hf2 ?_)
    dsimp only
    have nb : w.params.followText "set-order" = false := by
      cases z : w.params.followText "set-order" with
      | false => rfl
      | true => rw [z] at c; simp at c
    have l1 : t.led = true := hl.resolve_left (by rw [nb]; exact Bool.false_ne_true)
    have l2 : t2.led = true := hl2.resolve_left (by rw [nb]; exact Bool.false_ne_true)
    by_cases c2 : (t2.led && !t.led || t2.plain && !t.plain) = true
    · refine wp_if_pos c2 ?_
      refine wpAny_bind (wpAny_storeSet_of ho2 hd2 ?_ (fits_of_scanBound hb2))
      refine wpAny_pure (q es _ (mem es fun _ h => h) (fun y o' hy e => by rw [Heap.get?_update_other _ _ (Ne.symm hy)]; exact e) ?_)
      exact ⟨_, es2, _, _, store_at ho2 hd2, hx2, rfl, g2, nd2, hm2, hb2, by exact hf2, hn2, hr2, .inr (by rw [l1, l2]; rfl)⟩
    · refine wp_if_neg c2 ?_
      try refine wpAny_bind (wpAny_pure ?_)
      exact wpAny_pure (q es s.heap (mem es fun _ h => h) (fun _ _ _ e => e) ⟨o2, es2, ep2, t2, ho2, hx2, hd2, g2, nd2, hm2, hb2, hf2, hn2, hr2, hl2⟩)
theorem sub_none (R1 : SetR w s.heap a S n) (R2 : SetR w s.heap b T m) (sub : ∀ k, S k = true → T k = true) (le : n ≤ m) {Q : Value → Shared → Prop}
    (q : ∀ h', (∀ c o, s.heap.get? c = some o → h'.get? c = some o) → SetR w h' s.heap.objs.size (fun _ => false) 0 → Q (.ref s.heap.objs.size) { s with heap := h' }) : wpAny (model P w) A (binaryOp .Sub (.ref a) (.ref b)) Q E s := by
  have ta : s.TypeIs (.ref a) "set" := (R1.setOf (P := P)).typeIs
  have tb : s.TypeIs (.ref b) "set" := (R2.setOf (P := P)).typeIs
  refine wpAny_binaryOp_same (T := "set") ta tb F.fills_set_sub F.slot_set_sub ?_
  refine wpAny_call_entry F.slot_set_sub ta entry_sub ?_ (F.args_set_sub_2 _ _)
  rw [sub_form]
  unfold Builtin.Frozenset.slot1 slotArgs
  refine wpAny_bind (wpAny_bind (wpAny_of_eq (a := (Value.ref a, [Value.ref b])) rfl (wpAny_pure ?_)))
  dsimp only
  refine wpAny_bind (m := _ <&&> _) ?_
  unfold andM
  refine wpAny_bind (isSet_at ta ?_)
  show wpAny _ _ (Builtin.Frozenset.isAnySet (.ref b)) _ _ _
  refine isSet_at tb (wp_if_neg (by decide) ?_)
  refine wpAny_bind (wpAny_pure (wpAny_bind ?_))
  obtain ⟨o, es, ep, t, ho, hx, hd, g, nd, hm, hb, hf, hn, hr, hl⟩ := id R1
  obtain ⟨o2, es2, ep2, t2, ho2, hx2, hd2, g2, nd2, hm2, hb2, hf2, hn2, hr2, hl2⟩ := id R2
  unfold Builtin.Frozenset.difference
  dsimp only
  refine wpAny_bind (isSet_at tb ?_)
  refine wp_if_neg (by decide) ?_
  try refine wpAny_bind (m := Builtin.Frozenset.addrOf (.ref b)) (wpAny_pure ?_)
  refine wp_if_neg (by simp) ?_
  refine wp_if_pos rfl ?_
  unfold Builtin.Frozenset.sizeOf
  refine wpAny_bind (wpAny_bind (wpAny_setEntries_of ho2 hd2 hf2 (wpAny_pure ?_)))
  refine wpAny_bind (wpAny_bind (wpAny_setEntries_of ho hd hf (wpAny_pure ?_)))
  refine wp_if_neg (by rw [hn, hn2]; omega) ?_
  unfold Builtin.Frozenset.baseOf isInstance
  have z := sub_set_self
  obtain ⟨hp, gg, dr, tk, os⟩ := s
  wp_walk
  dsimp only at ho ho2 q R1 R2
  refine wpAny_askSetting (wpAny_pure ?_)
  simp only [newObj, if_true]
  refine wpAny_bind (wpAny_alloc (wpAny_pure ?_))
  dsimp only
  have k1 : ∀ c o, hp.get? c = some o → (hp.push (newS w)).get? c = some o := fun c o e => Heap.get?_push_of_some _ e
  have fr := setR_fresh (h := hp) w
  have na : a ≠ hp.objs.size := Nat.ne_of_lt (Heap.lt_size ho)
  have nb : b ≠ hp.objs.size := Nat.ne_of_lt (Heap.lt_size ho2)
  refine wpAny_bind (m := Builtin.Frozenset.addrOf (.ref hp.objs.size)) (wpAny_pure ?_)
  refine wpAny_bind (wpAny_setEpoch_of (k1 _ _ ho) hd hf ?_)
  refine wpAny_bind (wpAny_holding (wpAny_bind ?_))
  refine unseen_at (R1.at fun o e => k1 _ _ e) fr (fun c hc => ?_) fun xs h' hxs k2 R' => ?_
  · rcases List.mem_cons.mp hc with rfl | hc
    · exact ⟨_, _, R1.at fun o e => k1 _ _ e⟩
    rcases List.mem_cons.mp hc with rfl | hc
    · exact ⟨_, _, R2.at fun o e => k1 _ _ e⟩
    rcases List.mem_cons.mp hc with rfl | hc
    · exact ⟨_, _, fr⟩
    · cases hc
  · have k3 : ∀ c o, hp.get? c = some o → h'.get? c = some o := fun c o e => k2 c o (Nat.ne_of_lt (Heap.lt_size e)) (k1 c o e)
    refine wpAny_bind (forIn_keepA (fun s' => s' = ⟨h', gg, dr, tk, os⟩) xs (fun e he s' Q' hs kk => ?_) rfl fun s' hs => ?_)
    · subst hs
      obtain ⟨⟨i, ti, h1, h2⟩, h3⟩ := hxs e he
      obtain ⟨e1, e2⟩ := e
      dsimp only at h1 h2
      subst h1 h2
      refine wpAny_bind (wpAny_holding (wpAny_bind ?_))
      refine wpAny_setFind_of (knd := intKind P w) (k := i) (intKind_is P w i ti) rfl ((R2.at fun o e => k3 _ _ e).setOf (P := P)) fun r hr => ?_
      refine wpAny_bind (wpAny_pure ?_)
      have hs : r.isSome = true := by rw [hr]; exact sub i h3
      refine wp_if_neg (by rw [hs]; decide) ?_
      refine wpAny_pure ?_
      unfold Builtin.Frozenset.unchanged
      refine wpAny_bind (wpAny_bind (wpAny_setEpoch_of (k3 _ _ ho) hd hf ?_))
      refine wp_if_neg (by simp) (wpAny_pure (wpAny_pure (kk _ rfl)))
    · subst hs
      refine wpAny_pure (wpAny_pure (wpAny_pure ⟨_, rfl, (fun z => nomatch z), q h' k3 R'⟩))
end
end Cw
namespace Cw
open PySem PySem.Spec PyProof.Rows L2
theorem nodup_len : ∀ {l m : List Int}, l.Nodup → (∀ x ∈ l, x ∈ m) → l.length ≤ m.length
  | [], m, _, _ => Nat.zero_le _
  | x :: l, m, nd, h => by
    obtain ⟨nx, nd'⟩ := List.nodup_cons.mp nd
    have hx : x ∈ m := h x (List.mem_cons_self ..)
    have z := nodup_len (l := l) (m := m.erase x) nd' fun y hy => by
      have ne : y ≠ x := fun e => nx (by rw [← e]; exact hy)
      exact (List.mem_erase_of_ne ne).mpr (h y (List.mem_cons_of_mem _ hy))
    rw [List.length_erase_of_mem hx] at z
    have p : 0 < m.length := List.length_pos_of_mem hx
    rw [List.length_cons]
    omega
section
variable {X : Cx}
theorem setR_le {w : World} {h : Heap} {a b : Addr} {S T : Int → Bool} {n m : Nat} (R1 : SetR w h a S n) (R2 : SetR w h b T m) (sub : ∀ k, S k = true → T k = true) : n ≤ m := by
  obtain ⟨o, es, ep, t, ho, hx, hd, g, nd, hm, hb, hf, hn, _⟩ := R1
  obtain ⟨o2, es2, ep2, t2, ho2, hx2, hd2, g2, nd2, hm2, hb2, hf2, hn2, _⟩ := R2
  have z := nodup_len (l := es.toList.map keyOf) (m := es2.toList.map keyOf) nd fun x hx => (hm2 x).mp (sub x ((hm x).mpr hx))
  rw [List.length_map, List.length_map, Array.length_toList, Array.length_toList, hn, hn2] at z
  exact z
/-- set(xs) -/
def rSetOf (X : Cx) : List V → Hp → VK → Prop := fun xs H Q => ∃ (l : Addr) (ns : List Int), xs = [.ref l] ∧ SqL X.K H l (ns.map V.int) ∧ ns.length ≤ 4000 ∧ ∀ p c, c ≤ ns.length → H p = none → Q (.ref p) (upd H p (SetO X.w p (fun j => decide (j ∈ ns)) c))
theorem cr_setOf (hc : X.calm = true) : CallR X (.type "set") (rSetOf X) := by
  intro pins s σ H vs us Q I r h
  obtain ⟨l, ns, rfl, hs, hl, q⟩ := h
  obtain ⟨its, rv, pl, _⟩ := I.list hs
  rw [Vals.ref1 r]
  refine set_list (its := its.toArray) ns (I.ok.hd hc) pl.isList rv.ints (by show ns.length + 1 < 4096; omega) fun g' tk c R hc' k => ?_
  exact ⟨.ref s.heap.objs.size, _, I.laid (t' := tk) k (Nat.le_refl _) (setO_new R), rfl, q _ c hc' (I.hok.fresh (Nat.le_refl _))⟩
/-- a - b, all of a's being b's: a new empty set -/
def rSubN (w : World) : R2 := fun x y H Q => ∃ (a b : Addr) (S T : Int → Bool) (n m : Nat), x = .ref a ∧ y = .ref b ∧ H a = some (SetO w a S n) ∧ H b = some (SetO w b T m) ∧ (∀ k, S k = true → T k = true) ∧ ∀ p, H p = none → Q (.ref p) (upd H p (SetO w p (fun _ => false) 0))
theorem op_subN : OpR X (binaryOp .Sub) (rSubN X.w) := by
  intro pins s σ H x y v u Q I rx ry h
  obtain ⟨a, b, S, T, n, m, rfl, rfl, ha, hb, sub, q⟩ := h
  cases rx
  cases ry
  have R1 := setO_get I ha
  have R2 := setO_get I hb
  refine sub_none R1 R2 sub (setR_le R1 R2 sub) fun h' k R => ?_
  exact ⟨.ref s.heap.objs.size, _, I.laid (t' := s.toks) k (Nat.le_refl _) (setO_new R), rfl, q _ (I.hok.fresh (Nat.le_refl _))⟩
/-- len(s) -/
theorem cr_lenS : CallR X (.builtin "len") (fun xs H Q => ∃ (a : Addr) (S : Int → Bool) (n : Nat), xs = [.ref a] ∧ H a = some (SetO X.w a S n) ∧ Q (.int n) H) := by
  intro pins s σ H vs us Q I r h
  obtain ⟨a, S, n, rfl, ha, q⟩ := h
  rw [Vals.ref1 r]
  obtain ⟨o, es, ep, t, ho, hx, hd, g, nd, hm, hb, hf, hn, _⟩ := setO_get I ha
  have e : scanBound = 4096 := rfl
  refine call_len_set ho hx hd hf (by rw [e] at hb; omega) ?_
  rw [hn]
  exact ⟨.int n, H, I.tok _, ⟨_, rfl⟩, q⟩
/-- max(xs, default=k) -/
def rMaxD (K : PySem.W.Frag) : List V → List V → Hp → VK → Prop := fun xs zs H Q => ∃ (a : Addr) (ns : List Int) (k : Int), xs = [.ref a] ∧ SqL K H a (ns.map V.int) ∧ zs = [.int k] ∧ ∀ M, (ns = [] → M = k) → (∀ y ∈ ns, y ≤ M) → Q (.int M) H
theorem fold_max (n : Int) : ∀ (ns : List Int), n ≤ ns.foldl max n ∧ ∀ y ∈ ns, y ≤ ns.foldl max n := by
  intro ns
  induction ns generalizing n with
  | nil => exact ⟨Int.le_refl _, fun _ h => nomatch h⟩
  | cons k r ih =>
    rw [List.foldl_cons]
    obtain ⟨h1, h2⟩ := ih (max n k)
    refine ⟨Int.le_trans (Int.le_max_left _ _) h1, fun y hy => ?_⟩
    rcases List.mem_cons.mp hy with rfl | hy
    · exact Int.le_trans (Int.le_max_right _ _) h1
    · exact h2 y hy
theorem alike_ints (ns : List Int) : PySem.W.AlikeAll (ns.map PyData.int) := by
  constructor
  · intro x hx y hy
    obtain ⟨i, _, rfl⟩ := List.mem_map.mp hx
    obtain ⟨j, _, rfl⟩ := List.mem_map.mp hy
    rfl
  · intro x hx
    obtain ⟨i, _, rfl⟩ := List.mem_map.mp hx
    exact fun z => nomatch z
theorem cr_maxD (hc : X.calm = true) (hu : X.A.units + 3 < cLine) : CallRK X (.builtin "max") ["default"] (rMaxD X.K) := by
  intro pins s σ H xs zs us ws Q I r rz h
  obtain ⟨a, ns, k, rfl, hs, rfl, q⟩ := h
  obtain ⟨its, rv, pl, _⟩ := I.list hs
  rw [Vals.ref1 r]
  obtain ⟨u, rfl, tk0, rfl⟩ := vals1 rz
  have dpi : ∀ ns : List Int, DpAll X.K H (ns.map V.int) (ns.map PyData.int) := fun ns => by
    induction ns with
    | nil => exact .nil
    | cons n r ih => exact .cons (.int n) ih
  have dpt : ∀ ns : List Int, PyData.depthAll (ns.map PyData.int) ≤ 1 := fun ns => by
    induction ns with
    | nil => exact Nat.zero_le _
    | cons n r ih =>
      rw [List.map_cons]
      unfold PyData.depthAll PyData.depth
      omega
  obtain ⟨as, hr⟩ := Dp.readsAll I _ _ _ (dpi ns) rv
  have hd := dpt ns
  refine PySem.W.max_list_default (vs := its.toArray) (I.ok.hd hc) pl.isList (by rw [List.toList_toArray]; exact hr) (alike_ints ns) (by omega) (fun e h' tk k' => ?_) (fun y ys i v h' tk bs e _ rd k' => ?_)
  · exact ⟨.int k, H, I.kept k', ⟨_, rfl⟩, q k (fun _ => rfl) fun y hy => by rw [List.map_eq_nil_iff.mp e] at hy; cases hy⟩
  · cases ns with
    | nil => cases e
    | cons n r =>
      rw [List.map_cons] at e
      injection e with e1 e2
      subst e1 e2
      rw [PySem.W.maxD_ints] at rd
      cases rd with
      | int i t =>
        obtain ⟨f1, f2⟩ := fold_max n r
        refine ⟨.int (r.foldl max n), H, I.kept k', ⟨t, rfl⟩, q _ (fun z => nomatch z) fun y hy => ?_⟩
        rcases List.mem_cons.mp hy with rfl | hy
        · exact f1
        · exact f2 y hy
end
end Cw
namespace Cw
open PySem PySem.Spec PyProof.Rows PySem.SeqAt L2
/-! ## != by an own __eq__ -/
section
variable {M : Model} {prog : Program} {w : World} {A : Around} {E : Value → Shared → Prop} {s : Shared} {K : PySem.W.Frag} {x y f C : Addr} {ox oy : Obj} {od oe : Option Obj}
theorem objNe_entry (X : K.In s.heap) (I : PySem.W.InstAt s.heap x ox C od) (hs : PySem.W.findIn K (.ref C) "__eq__" = some (some (.ref f))) (hf : PySem.W.isFn K (.ref f) = true) (hu : A.units < cLine) {Q : Fin → Shared → Prop}
    (hcall : wpAny (model prog w) A (call (.ref f) [.ref x, .ref y]) (fun v s' => ∃ b, v = .bool b ∧ Q (.done (.ret (.bool (!b)))) s') E s) :
    wpAny (model prog w) A (Builtin.«object.__ne__» ⟨[.ref x, .ref y], []⟩) Q E s := by
  unfold Builtin.«object.__ne__»
  repeat (first
    | with_reducible refine wpAny_cRoomFor hu ?_
    | (refine wpAny_bind (m := callSpecialIfBound? (.ref x) (Str.ofString "__eq__") [.ref y])
        (PySem.W.ifBound_K X I hs hf (wpAny_mono hcall (fun r s' hr => by
          obtain ⟨b, rfl, hq⟩ := hr
          repeat (first | exact hq | exact wpAny_pure hq | exact wpAny_truthy_bool hq | (refine wpAny_bind (m := truthy (.bool _)) (wpAny_truthy_bool ?_)) | wp_step)) fun _ _ e => e)))
    | wp_step)
theorem ifBound_objNe {args : List Value} {Q : Option Value → Shared → Prop} (X : K.In s.heap) (I : PySem.W.InstAt s.heap x ox C od) (hs : PySem.W.findIn K (.ref C) "__ne__" = some (some (.builtin "object.__ne__")))
    (h : wpAny M A (call (.builtin "object.__ne__") (.ref x :: args)) (fun v => Q (some v)) E s) : wpAny M A (callSpecialIfBound? (.ref x) "__ne__" args) Q E s := by
  simp only [callSpecialIfBound?, bindSpecialIfBound?]
  refine wpAny_holding (wpAny_bind (wpAny_bind (wpAny_bind (I.type.here ((PySem.W.looks_findIn X hs).here ?_)))))
  refine wpAny_bind (wpAny_askSetting (wpAny_ite ?_))
  have fin : wpAny M A (call (.builtin "object.__ne__") ([.ref x] ++ args) >>= fun v => pure (some v)) Q E s := wpAny_bind (wpAny_mono h (fun v s' h' => wpAny_pure h') fun _ _ h' => h')
  split
  · exact wpAny_bind (wpAny_of_eq (F.cmp_object.ne.bind _) (wpAny_pure (by exact fin)))
  · exact wpAny_tryCatch (wpAny_bind (wpAny_of_eq (F.cmp_object.ne.bind _) (wpAny_pure (by exact fin))))
theorem rc_ne (hu : A.units + 1 < cLine) (X : K.In s.heap) (I : PySem.W.InstAt s.heap x ox C od) (J : PySem.W.InstAt s.heap y oy C oe) (hm : PySem.W.mroIn K C (.type "object") = some true) (hn : PySem.W.findIn K (.ref C) "__ne__" = some (some (.builtin "object.__ne__")))
    (hs : PySem.W.findIn K (.ref C) "__eq__" = some (some (.ref f))) (hf : PySem.W.isFn K (.ref f) = true) {Q : Value → Shared → Prop}
    (hcall : wpAny (model prog w) A.in1 (call (.ref f) [.ref x, .ref y]) (fun v s' => ∃ b, v = .bool b ∧ Q (.bool (!b)) s') E s) :
    wpAny (model prog w) A (richCompare .NotEq (.ref x) (.ref y)) Q E s := by
  have one : wpAny (model prog w) A (tryCompare (.ref x) "__ne__" (.ref y)) (fun r s' => ∃ b, r = some (.bool b) ∧ Q (.bool b) s') E s := by
    unfold tryCompare
    refine wpAny_bind (ifBound_objNe X I hn (wpAny_call (codeAny_call_builtin F.cmp_object.ne.plain F.cmpEntry_ne (PySem.W.check_slot F.cmpKind_ne F.cmpSplit_ne (I.type.andThen (PySem.W.looks_mroIn X hm)) (F.cmpArgs_ne _ _)
      (objNe_entry (A := A.in1) X I hs hf (by exact hu) (wpAny_mono hcall (fun v s' hv => ?_) fun _ _ e => e))))))
    obtain ⟨b, rfl, hq⟩ := hv
    first | exact ⟨b, rfl, wpAny_pure ⟨_, rfl, hq⟩⟩ | exact ⟨b, rfl, wpAny_pure (wpAny_pure ⟨_, rfl, hq⟩)⟩
  unfold richCompare
  simp only [oneThing_ref]
  refine wpAny_holding (wpAny_bind (wpAny_cRoomFor (Nat.lt_of_succ_lt hu) ?_))
  rw [cmpInfo_NotEq]
  dsimp only
  refine wpAny_bind (I.type.here (wpAny_bind (J.type.here ?_)))
  rw [show (Value.ref C != Value.ref C) = false from by simp]
  simp only [Bool.false_eq_true, if_false]
  refine wpAny_bind (wpAny_pure ?_)
  simp only [Bool.false_eq_true, if_false]
  refine wpAny_bind (wpAny_mono one (fun v s' hv => ?_) fun _ _ e => e)
  obtain ⟨b, rfl, hq⟩ := hv
  first | exact wpAny_pure hq | exact wpAny_pure (wpAny_pure hq)
end
/-- x != y, equal by the own == -/
def rNeG (D : Eqv) : R2 := fun x y H Q => D x y H ∧ ∀ H', Ext H H' → Q (.bl false) H'
section
variable {X : Cx} {n : Nat}
theorem op_neG {CX : CXT} {C f : Addr} {fd : FuncData} {ps : List Str} {R : Addr → Addr → Hp → Prop} {E : XK} (F : FnOk X.prog X.w X.K X.mg X.base CX n f fd ps (spEq R))
    (hm : PySem.W.mroIn X.K C (.type "object") = some true) (hn : PySem.W.findIn X.K (.ref C) "__ne__" = some (some (.builtin "object.__ne__")))
    (hs : PySem.W.findIn X.K (.ref C) "__eq__" = some (some (.ref f))) (hf : PySem.W.isFn X.K (.ref f) = true) (hb : Binds X.K fd ps []) (hx : Passes CX X E) (hr : Room (n + 1) X.A) : OpR X (compareOp .NotEq) (rNeG (DIns C R)) := by
  intro pins s σ H x y u v Q I rx ry hq
  obtain ⟨⟨a, b, dx, dy, fs, gs, rfl, rfl, ha, hb', hR⟩, q⟩ := hq
  cases rx
  cases ry
  obtain ⟨mA, J, _⟩ := ins_get I.hok ha
  obtain ⟨mB, J', _⟩ := ins_get I.hok hb'
  obtain ⟨od, J, _⟩ := J.look
  obtain ⟨od', J', _⟩ := J'.look
  show wpAny (model X.prog X.w) X.A (richCompare .NotEq (.ref a) (.ref b)) (EP X pins σ Q) X.xe s
  refine rc_ne (hr.mono (Nat.succ_le_succ (Nat.zero_le n)) |>.in1.units0) I.kIn J J' hm hn hs hf ?_
  have hsp : spEq R [.ref a, .ref b] H (fun v H' => v = .bl true ∧ Ext H H') E := ⟨a, b, rfl, hR, fun H' e => ⟨rfl, e⟩⟩
  have hl := F.len _ _ _ _ hsp
  have r2 : Vals [V.ref a, V.ref b] [Value.ref a, Value.ref b] := .cons rfl (.cons rfl .nil)
  have e0 : Env0 X.prog X.w X.K X.mg X.base X.A.in1 X.stack s H := I.env0.in1
  refine wpAny_call (codeAny_mono (F.run X.A.in1 X.stack s H ⟨[.ref a, .ref b], []⟩ [.ref a, .ref b] [.ref a, .ref b] _ E hr.in1 e0 (by
    have := hb s [.ref a, .ref b] I.kIn (by simpa using hl)
    simpa using this) r2 hsp) fun r s' hq => ?_)
  cases r with
  | error e => exact hx pins σ H s e s' I hq
  | ok fl =>
    cases fl with
    | ret w =>
      obtain ⟨z, H', I', rz, ez, ex⟩ := I.after hq
      subst ez
      cases rz
      exact ⟨true, rfl, .bl false, H', I', rfl, q H' ex⟩
    | next => exact False.elim hq
    | brk => exact False.elim hq
    | cont => exact False.elim hq
end
end Cw
namespace Cw
open PySem L2
def top (i : Nat) : Stmt := PySem.Challenge.pw_cutwalks_k13_errors_of_walks.main.body.getD i (.Pass ⟨0, 0, 0, 0⟩)
abbrev sIsInt : Stmt := top 13
abbrev sPlaces : Stmt := top 14
abbrev sAsc : Stmt := top 15
abbrev sMarks : Stmt := top 16
abbrev sSome : Stmt := top 17
abbrev sChange : Stmt := top 0
abbrev sRepl : Stmt := top 0
abbrev sRow : Stmt := top 39
theorem ifT {c : Bool} {A B : Prop} (h : c = true) (x : A) : if c = true then A else B := by
  rw [if_pos h]
  exact x
theorem ifF {c : Bool} {A B : Prop} (h : c = false) (x : B) : if c = true then A else B := by
  rw [h, if_neg Bool.false_ne_true]
  exact x
theorem same_new {H H1 : Hp} {p : Addr} {o : HO} (s : Same H H1) (h : H1 p = none) : Same H (upd H1 p o) := fun b u e => by
  rw [upd_ne (ne_of_none (s b u e) h)]
  exact s b u e
/-- what stands at D is replaced, D being new since H -/
theorem same_put {H H1 : Hp} {p : Addr} {o : HO} (s : Same H H1) (h : H p = none) : Same H (upd H1 p o) := fun b u e => by
  rw [upd_ne (ne_of_none e h)]
  exact s b u e
theorem all_true (n : Nat) : (List.replicate n true).all id = true := by
  induction n with
  | zero => rfl
  | succ n ih => rw [List.replicate_succ, List.all_cons, ih]; rfl
abbrev Asc (ns : List Int) : Prop := ns.Pairwise (· < ·)
/-- a list of ints stands at a -/
abbrev IL (H : Hp) (a : Addr) (ns : List Int) : Prop := H a = some (.lst (ns.map V.int))
theorem il_at {ns : List Int} {i : Nat} {x : V} (h : (ns.map V.int)[i]? = some x) : ∃ z, x = V.int z ∧ ns[i]? = some z := by
  rw [List.getElem?_map] at h
  cases e : ns[i]? with
  | none => rw [e] at h; cases h
  | some z => rw [e] at h; exact ⟨z, (Option.some.inj h).symm, rfl⟩
/-- what the names of the built-ins hold -/
structure Bl (mg : Str → Option Value) : Prop where
  int : mg "int" = none
  bool : mg "bool" = none
  list : mg "list" = none
  tuple : mg "tuple" = none
  range : mg "range" = none
  len : mg "len" = none
  abs : mg "abs" = none
  all : mg "all" = none
  isi : mg "isinstance" = none
  zip : mg "zip" = none
  max : mg "max" = none
  min : mg "min" = none
  set : mg "set" = none
  sorted : mg "sorted" = none
  dict : mg "dict" = none
def spOne : Sp := fun vs H Q _ => ∃ i : Int, vs = [.int i] ∧ Q (.bl true) H
/-- places from low to high -/
def spPlaces : Sp := fun vs H Q _ => ∃ (a : Addr) (ns : List Int) (lo hi : Int), vs = [.ref a, .int lo, .int hi] ∧ IL H a ns ∧ ns.length ≤ 1000 ∧ (∀ x ∈ ns, lo ≤ x ∧ x ≤ hi) ∧ ∀ H', Same H H' → Q (.bl true) H'
def spAsc : Sp := fun vs H Q _ => ∃ (a : Addr) (ns : List Int) (lo hi : Int), vs = [.ref a, .int lo, .int hi] ∧ IL H a ns ∧ ns.length ≤ 1000 ∧ (∀ x ∈ ns, lo ≤ x ∧ x ≤ hi) ∧ Asc ns ∧ ∀ H', Same H H' → Q (.bl true) H'
def spMarks : Sp := fun vs H Q _ => ∃ (a : Addr) (ns : List Int) (hi : Int), vs = [.ref a, .int hi] ∧ IL H a ns ∧ ns.length ≤ 400 ∧ (∀ x ∈ ns, 1 ≤ x ∧ x ≤ hi) ∧ Asc ns ∧ ∀ H', Same H H' → Q (.bl true) H'
def spSome : Sp := fun vs H Q _ => ∃ (a b : Addr) (ns ms : List Int), vs = [.ref a, .ref b] ∧ IL H a ns ∧ IL H b ms ∧ ns.length ≤ 400 ∧ ms.length ≤ 400 ∧ Asc ns ∧ (∀ x ∈ ns, 1 ≤ x) ∧ (∀ x ∈ ns, x ∈ ms) ∧ ∀ H', Same H H' → Q (.bl true) H'
section
variable {P : Program} {w : World} {K : PySem.W.Frag} {mg : Str → Option Value} {base : Heap}
theorem scI : FnScope ["thing"] ["thing"] (defScope sIsInt) := ⟨rfl, rfl, rfl, by decide +kernel, rfl, by decide +kernel, by decide +kernel⟩
theorem ok_int {f : Addr} {fd : FuncData} (F : Fun K "is_integer" "is_integer" sIsInt f fd) (T : Bl mg) : FnOk P w K mg base CX0 1 f fd ["thing"] spOne := by
  refine F.ok scI (fun vs H Q E h => ?_) (fun cdv A outer s H vs Q E hr h => ?_)
  · obtain ⟨i, rfl, _⟩ := h
    rfl
  · obtain ⟨i, rfl, k⟩ := h
    refine ⟨_, pss_one (ps_ret (pe_and (pe_callB call_isi (by rfl) T.isi (by decide +kernel) (pa_cons (pv 0) (pa_cons (pe_bltn (by rfl) T.int (by decide +kernel) (v := V.ty "int") rfl) pa_nil)))
      (pe_one (pe_not (pe_callB call_isi (by rfl) T.isi (by decide +kernel) (pa_cons (pv 0) (pa_cons (pe_bltn (by rfl) T.bool (by decide +kernel) (v := V.ty "bool") rfl) pa_nil))))))), ?_⟩
    refine ⟨_, rfl, _, _, _, _, true, rfl, ClsV.ty _, .base (.int i), kit_ty (by decide +kernel), _, rfl, ?_⟩
    refine ifT rfl ?_
    refine ⟨_, rfl, _, _, _, _, false, rfl, ClsV.ty _, .base (.int i), kit_ty (by decide +kernel), _, rfl, ?_⟩
    exact k
theorem scP : FnScope ["thing", "low", "high", "place"] ["thing", "low", "high"] (defScope sPlaces) := ⟨rfl, rfl, rfl, by decide +kernel, rfl, by decide +kernel, by decide +kernel⟩
theorem ok_places {f fI : Addr} {fd fdI : FuncData} (F : Fun K "are_places" "are_places" sPlaces f fd) (T : Bl mg) (gI : mg "is_integer" = some (.ref fI)) (kI : PySem.W.keepIn K (.ref fI) = true) (bI : Binds K fdI ["thing"] []) (GI : FnOk P w K mg base CX0 1 fI fdI ["thing"] spOne) :
    FnOk P w K mg base CX0 2 f fd ["thing", "low", "high"] spPlaces := by
  refine F.ok scP (fun vs H Q E h => ?_) (fun cdv A outer s H vs Q E hr h => ?_)
  · obtain ⟨a, ns, lo, hi, rfl, _⟩ := h
    rfl
  · obtain ⟨a, ns, lo, hi, rfl, hS, hl, hb, k⟩ := h
    refine ⟨_, pss_cons (ps_if (pt_not (pt_val (pe_callB call_isi (by rfl) T.isi (by decide +kernel) (pa_cons (pv 0) (pa_cons (pe_bltn (by rfl) T.list (by decide +kernel) (v := V.ty "list") rfl) pa_nil))))) (pss_one (ps_ret pe_bl)) pss_nil)
      (pss_one (ps_ret (pe_callB (cr_all rfl) (by rfl) T.all (by decide +kernel) (pa_cons (pe_lc (own := [("place", 3)]) (g := gName 3) (tt := tYes) rfl scP.nd
        (pi_list (pv 0)) (blkOk_by (own := [("place", 3)]) (N := ["thing", "low", "high", "place"]) (sc := defScope sPlaces) (by decide +kernel)) (fun _ _ _ _ _ => pg_name (i := 3) scP.nd rfl (Or.inl rfl)) (fun _ _ _ _ _ => pts_nil)
        (fun _ _ _ _ _ => pe_and (pe_call GI hr rfl gI kI bI .nil pass0 (pa_cons (pv 3) pa_nil)) (pe_one (pe_chain op_le op_le (pv 1) (pv 3) (pv 2))))) pa_nil)))), ?_⟩
    refine ⟨_, rfl, _, _, _, _, true, rfl, ClsV.ty _, .base (.lst hS), kit_ty (by decide +kernel), _, rfl, ?_⟩
    refine ifF rfl ?_
    refine ⟨_, rfl, a, rfl, ⟨_, SqL.of hS⟩, fun D hD => ?_⟩
    refine lc_list (K := K) (a := a) (xs := ns.map V.int) (fun i H' => Same H H' ∧ H' D = some (.lst (List.replicate i (V.bl true)))) ⟨same_new (Same.refl H) hD, upd_same⟩ (fun i H' _ q => SqL.of (q.1 _ _ hS)) ?_ ?_
    · rintro i x H' hx ⟨s1, hD'⟩
      obtain ⟨z, rfl, hz⟩ := il_at hx
      have hil : i < ns.length := (List.getElem?_eq_some_iff.mp hz).1
      obtain ⟨b1, b2⟩ := hb z (List.mem_of_getElem? hz)
      refine ⟨rfl, ?_⟩
      unfold tYes
      refine iteT ?_
      refine ⟨_, rfl, _, rfl, _, rfl, ?_⟩
      refine ifT rfl ?_
      refine ⟨_, rfl, _, rfl, _, _, rfl, rfl, _, rfl, ?_⟩
      refine ifT (by simp [b1]) ?_
      refine ⟨_, rfl, _, _, rfl, rfl, ?_⟩
      refine ⟨_, hD', by rw [List.length_replicate]; exact small1000 (by omega), same_put s1 hD, ?_⟩
      rw [upd_same, List.replicate_succ']
      simp [b2]
    · rintro H' ⟨s1, hD'⟩
      refine ⟨D, List.replicate ns.length true, rfl, SqL.of (by rw [hD', List.map_replicate, List.length_map]), ?_⟩
      rw [all_true]
      exact k _ s1
end
end Cw
namespace Cw
open PySem L2
theorem cut_one (xs : List V) : cutV xs (some 1) none = xs.drop 1 := by
  unfold cutV
  have e1 : HT.sIx xs.length 0 (some 1) = min 1 xs.length := HT.sIx_nat xs.length 0 1
  rw [e1, HT.sIx_none]
  cases xs with
  | nil => rfl
  | cons x r =>
    have e2 : min 1 (x :: r).length = 1 := by
      rw [List.length_cons]
      omega
    rw [e2, List.drop_succ_cons, List.drop_zero, List.length_cons, Nat.add_sub_cancel]
    exact List.take_length
section
variable {P : Program} {w : World} {K : PySem.W.Frag} {mg : Str → Option Value} {base : Heap}
abbrev NA : List Str := ["thing", "low", "high", "before", "place"]
theorem scA : FnScope NA ["thing", "low", "high"] (defScope sAsc) := ⟨rfl, rfl, rfl, by decide +kernel, rfl, by decide +kernel, by decide +kernel⟩
theorem ok_asc {f fP : Addr} {fd fdP : FuncData} (F : Fun K "are_ascending" "are_ascending" sAsc f fd) (T : Bl mg) (gP : mg "are_places" = some (.ref fP)) (kP : PySem.W.keepIn K (.ref fP) = true) (bP : Binds K fdP ["thing", "low", "high"] []) (GP : FnOk P w K mg base CX0 2 fP fdP ["thing", "low", "high"] spPlaces) :
    FnOk P w K mg base CX0 3 f fd ["thing", "low", "high"] spAsc := by
  refine F.ok scA (fun vs H Q E h => ?_) (fun cdv A outer s H vs Q E hr h => ?_)
  · obtain ⟨a, ns, lo, hi, rfl, _⟩ := h
    rfl
  · obtain ⟨a, ns, lo, hi, rfl, hS, hl, hb, ha, k⟩ := h
    refine ⟨_, pss_cons (ps_if (pt_not (pt_val (pe_call GP hr rfl gP kP bP .nil pass0 (pa_cons (pv 0) (pa_cons (pv 1) (pa_cons (pv 2) pa_nil)))))) (pss_one (ps_ret pe_bl)) pss_nil)
      (pss_one (ps_ret (pe_callB (cr_all rfl) (by rfl) T.all (by decide +kernel) (pa_cons (pe_lc (own := [("before", 3), ("place", 4)]) (g := gTup K 2 (gCons (gName 3) (gCons (gName 4) gNil))) (tt := tYes) rfl scA.nd
        (pi_zip (by rfl) T.zip (pa_cons (pv 0) (pa_cons (pe_slice sl_list (pv 0) (po_some pe_int) po_none) pa_nil))) (blkOk_by (own := [("before", 3), ("place", 4)]) (N := NA) (sc := defScope sAsc) (by decide +kernel))
        (fun _ _ _ _ _ => pg_tup rfl (pgs_cons (pg_name (i := 3) scA.nd rfl (Or.inl rfl)) (pgs_cons (pg_name (i := 4) scA.nd rfl (Or.inl rfl)) pgs_nil))) (fun _ _ _ _ _ => pts_nil)
        (fun _ _ _ _ _ => pe_cmpR op_lt (pv 3) (pv 4) (nomark _))) pa_nil)))), ?_⟩
    refine ⟨_, rfl, _, rfl, _, rfl, a, ns, lo, hi, rfl, hS, hl, hb, fun H1 s1 => ⟨_, rfl, ?_⟩⟩
    refine ifF rfl ?_
    refine ⟨_, rfl, _, rfl, 1, rfl, a, _, rfl, SqL.of (s1 _ _ hS), fun c nc => ?_⟩
    have s2 := same_new (o := .lst (cutV (ns.map V.int) (some 1) none)) s1 nc
    rw [cut_one] at s2
    rw [cut_one]
    refine ⟨a, c, _, _, rfl, SqL.of (s2 _ _ hS), SqL.of upd_same, fun D hD => ?_⟩
    have nc' : H c = none := s1.free nc
    have ncD : c ≠ D := ne_of_none upd_same hD
    have hn : ns.length - 1 = min (ns.map V.int).length ((ns.map V.int).drop 1).length := by
      rw [List.length_drop, List.length_map]
      omega
    refine lc_it (walk_zip hn) (fun i H' => Same H H' ∧ H' c = some (.lst ((ns.map V.int).drop 1)) ∧ H' D = some (.lst (List.replicate i (V.bl true)))) ⟨same_new s2 hD, by rw [upd_ne ncD]; exact upd_same, upd_same⟩ (fun i H' _ q => ⟨SqL.of (q.1 _ _ hS), SqL.of q.2.1⟩) ?_ ?_
    · rintro i x H' H'' hi ⟨s3, hc, hD'⟩ ⟨t, x1, x2, rfl, nt, rfl, e1, e2⟩
      have h1 : i < ns.length := by omega
      have h2 : i + 1 < ns.length := by omega
      have g1 : x1 = .int ns[i] := by
        dsimp only at e1
        rw [List.getElem?_map, List.getElem?_eq_getElem h1] at e1
        exact (Option.some.inj e1).symm
      have g2 : x2 = .int ns[i + 1] := by
        dsimp only at e2
        rw [List.getElem?_drop, List.getElem?_map, Nat.add_comm 1 i, List.getElem?_eq_getElem h2] at e2
        exact (Option.some.inj e2).symm
      subst g1 g2
      have hlt : ns[i] < ns[i + 1] := List.pairwise_iff_getElem.mp ha i (i + 1) h1 h2 (Nat.lt_succ_self i)
      have ntc : c ≠ t := ne_of_none hc nt
      have ntD : D ≠ t := ne_of_none hD' nt
      refine ⟨t, _, rfl, SqT.of upd_same, rfl, _, _, rfl, _, _, rfl, rfl, rfl, ?_⟩
      unfold tYes
      refine iteT ?_
      refine ⟨_, rfl, _, rfl, _, _, rfl, rfl, ?_⟩
      refine ⟨_, (by rw [upd_ne ntD]; exact hD'), by rw [List.length_replicate]; exact small1000 (by omega), same_put (same_new s3 nt) (s2.trans (Same.refl _) |>.free hD), ?_, ?_⟩
      · rw [upd_ne ncD, upd_ne ntc]
        exact hc
      · rw [upd_same, List.replicate_succ']
        simp [hlt]
    · rintro H' ⟨s3, hc, hD'⟩
      refine ⟨D, List.replicate (ns.length - 1) true, rfl, SqL.of (by rw [hD', List.map_replicate]), ?_⟩
      rw [all_true]
      exact k _ s3
theorem scM : FnScope ["thing", "high"] ["thing", "high"] (defScope sMarks) := ⟨rfl, rfl, rfl, by decide +kernel, rfl, by decide +kernel, by decide +kernel⟩
theorem ok_marks {f fA : Addr} {fd fdA : FuncData} {t : Tok} (F : Fun K "are_marks" "are_marks" sMarks f fd) (T : Bl mg) (gN : mg "MOST_MARKS" = some (.int 400 t)) (gA : mg "are_ascending" = some (.ref fA)) (kA : PySem.W.keepIn K (.ref fA) = true) (bA : Binds K fdA ["thing", "low", "high"] []) (GA : FnOk P w K mg base CX0 3 fA fdA ["thing", "low", "high"] spAsc) :
    FnOk P w K mg base CX0 4 f fd ["thing", "high"] spMarks := by
  refine F.ok scM (fun vs H Q E h => ?_) (fun cdv A outer s H vs Q E hr h => ?_)
  · obtain ⟨a, ns, hi, rfl, _⟩ := h
    rfl
  · obtain ⟨a, ns, hi, rfl, hS, hl, hb, ha, k⟩ := h
    refine ⟨_, pss_one (ps_ret (pe_and (pe_call GA hr rfl gA kA bA .nil pass0 (pa_cons (pv 0) (pa_cons pe_int (pa_cons (pv 1) pa_nil))))
      (pe_one (pe_cmpR op_le (pe_callB call_len_seq (by rfl) T.len PySem.boot_len (pa_cons (pv 0) pa_nil)) (pe_glob rfl gN (v := V.int 400) ⟨_, rfl⟩) (nomark _))))), ?_⟩
    refine ⟨_, rfl, _, rfl, a, ns, 1, hi, rfl, hS, by omega, hb, ha, fun H1 s1 => ⟨_, rfl, ?_⟩⟩
    refine ifT rfl ?_
    refine ⟨_, rfl, a, _, rfl, .inl (SqL.of (s1 _ _ hS)), _, _, rfl, rfl, ?_⟩
    have e : decide (((ns.map V.int).length : Int) ≤ 400) = true := by
      rw [List.length_map]
      exact decide_eq_true (by omega)
    have z := k _ s1
    rw [← e] at z
    exact z
theorem scSo : FnScope ["thing", "marks"] ["thing", "marks"] (defScope sSome) := ⟨rfl, rfl, rfl, by decide +kernel, rfl, by decide +kernel, by decide +kernel⟩
theorem ok_some {f fA : Addr} {fd fdA : FuncData} (F : Fun K "are_some_of" "are_some_of" sSome f fd) (T : Bl mg) (gA : mg "are_ascending" = some (.ref fA)) (kA : PySem.W.keepIn K (.ref fA) = true) (bA : Binds K fdA ["thing", "low", "high"] []) (GA : FnOk P w K mg base CX0 3 fA fdA ["thing", "low", "high"] spAsc) :
    FnOk P w K mg base CX0 4 f fd ["thing", "marks"] spSome := by
  refine F.ok scSo (fun vs H Q E h => ?_) (fun cdv A outer s H vs Q E hr h => ?_)
  · obtain ⟨a, b, ns, ms, rfl, _⟩ := h
    rfl
  · obtain ⟨a, b, ns, ms, rfl, hS, hM, hl, hm, ha, h1, hsub, k⟩ := h
    have hu := hr.units
    refine ⟨_, pss_cons (ps_if (pt_not (pt_val (pe_call GA hr rfl gA kA bA .nil pass0 (pa_cons (pv 0) (pa_cons pe_int (pa_cons (pe_callBK (cr_maxD rfl (Nat.lt_of_le_of_lt (Nat.add_le_add_left (by decide : 3 ≤ 64) _) hu)) (by rfl) T.max (by decide +kernel) (pa_cons (pv 1) pa_nil) (pk_cons pe_int pk_nil)) pa_nil)))))) (pss_one (ps_ret pe_bl)) pss_nil)
      (pss_one (ps_ret (pe_cmpR op_eq (pe_callB cr_lenS (by rfl) T.len PySem.boot_len (pa_cons (pe_op op_subN (pe_callTy (cr_setOf rfl) (by rfl) T.set (by decide +kernel) (pa_cons (pv 0) pa_nil)) (pe_callTy (cr_setOf rfl) (by rfl) T.set (by decide +kernel) (pa_cons (pv 1) pa_nil))) pa_nil)) pe_int (nomark _)))), ?_⟩
    refine ⟨_, rfl, _, rfl, b, ms, 0, rfl, SqL.of hM, rfl, fun M _ hM2 => ?_⟩
    refine ⟨a, ns, 0, M, rfl, hS, by omega, fun x hx => ⟨Int.le_trans (by decide) (h1 x hx), hM2 x (hsub x hx)⟩, ha, fun H1 s1 => ⟨_, rfl, ?_⟩⟩
    refine ifF rfl ?_
    refine ⟨_, rfl, a, ns, rfl, SqL.of (s1 _ _ hS), by omega, fun p c _ hp => ?_⟩
    have s2 := same_new (o := SetO w p (fun j => decide (j ∈ ns)) c) s1 hp
    refine ⟨_, rfl, b, ms, rfl, SqL.of (s2 _ _ hM), by omega, fun p2 c2 _ hp2 => ?_⟩
    have s3 := same_new (o := SetO w p2 (fun j => decide (j ∈ ms)) c2) s2 hp2
    have n12 : p ≠ p2 := ne_of_none upd_same hp2
    refine ⟨p, p2, _, _, _, _, rfl, rfl, by rw [upd_ne n12]; exact upd_same, upd_same, fun j hj => decide_eq_true (hsub j (of_decide_eq_true hj)), fun p3 hp3 => ?_⟩
    refine ⟨p3, _, 0, rfl, upd_same, rfl, ?_⟩
    have e : decide (V.int ((0 : Nat) : Int) = V.int 0) = true := by simp
    have z := k _ (same_new (o := SetO w p3 (fun _ => false) 0) s3 hp3)
    rw [← e] at z
    exact z
end
end Cw
namespace Cw
open PySem L2
abbrev sInit : Stmt := inClass sRow 0
abbrev sGetM : Stmt := inClass sRow 2
abbrev sEq : Stmt := inClass sRow 6
abbrev sChanged : Stmt := inClass sRow 11
theorem k12 : ¬ (("_length" : Str) = "_marks") := by decide +kernel
theorem k13 : ¬ (("_length" : Str) = "_strict") := by decide +kernel
theorem k23 : ¬ (("_marks" : Str) = "_strict") := by decide +kernel
def flds (n : Int) (l1 l2 : Addr) : List (Str × V) := putF "_strict" (.ref l2) (putF "_marks" (.ref l1) (putF "_length" (.int n) []))
theorem flds_eq (n : Int) (l1 l2 : Addr) : flds n l1 l2 = ([("_length", V.int n), ("_marks", V.ref l1), ("_strict", V.ref l2)] : List (Str × V)) := by
  unfold flds
  rw [show putF "_length" (V.int n) [] = ([("_length", V.int n)] : List (Str × V)) from rfl]
  rw [show putF "_marks" (V.ref l1) ([("_length", V.int n)] : List (Str × V)) = (if ("_length" : Str) = "_marks" then ([("_length", V.ref l1)] : List (Str × V)) else ("_length", V.int n) :: putF "_marks" (V.ref l1) []) from rfl, if_neg k12]
  rw [show putF "_marks" (V.ref l1) [] = ([("_marks", V.ref l1)] : List (Str × V)) from rfl]
  rw [show putF "_strict" (V.ref l2) ([("_length", V.int n), ("_marks", V.ref l1)] : List (Str × V)) = (if ("_length" : Str) = "_strict" then ([("_length", V.ref l2), ("_marks", V.ref l1)] : List (Str × V)) else ("_length", V.int n) :: (if ("_marks" : Str) = "_strict" then ([("_marks", V.ref l2)] : List (Str × V)) else ("_marks", V.ref l1) :: putF "_strict" (V.ref l2) [])) from rfl, if_neg k13, if_neg k23]
  rfl
theorem fl_L (n : Int) (l1 l2 : Addr) : (flds n l1 l2).lookup ("_length" : Str) = some (.int n) := by
  unfold flds
  rw [lookup_putF, if_neg k13, lookup_putF, if_neg k12, lookup_putF, if_pos rfl]
theorem fl_M (n : Int) (l1 l2 : Addr) : (flds n l1 l2).lookup ("_marks" : Str) = some (.ref l1) := by
  unfold flds
  rw [lookup_putF, if_neg k23, lookup_putF, if_pos rfl]
theorem fl_S (n : Int) (l1 l2 : Addr) : (flds n l1 l2).lookup ("_strict" : Str) = some (.ref l2) := by
  unfold flds
  rw [lookup_putF, if_pos rfl]
theorem fl_no (n : Int) (l1 l2 : Addr) {m : Str} (h1 : ¬ m = "_length") (h2 : ¬ m = "_marks") (h3 : ¬ m = "_strict") : (flds n l1 l2).lookup m = none := by
  unfold flds
  rw [lookup_putF, if_neg h3, lookup_putF, if_neg h2, lookup_putF, if_neg h1]
  rfl
/-- what a row is -/
structure Good (n : Int) (ms ss : List Int) : Prop where
  pos : 1 ≤ n
  len : ms.length ≤ 400
  rng : ∀ x ∈ ms, 1 ≤ x ∧ x ≤ n - 1
  asc : Asc ms
  asc2 : Asc ss
  sub : ∀ x ∈ ss, x ∈ ms
theorem Good.len2 {n : Int} {ms ss : List Int} (g : Good n ms ss) : ss.length ≤ 400 :=
  Nat.le_trans (nodup_len (g.asc2.imp fun h e => by omega) g.sub) g.len
/-- a row stands at p -/
def RowAt (C : Addr) (H : Hp) (p : Addr) (n : Int) (ms ss : List Int) : Prop := ∃ dx l1 l2, H p = some (.ins C dx (flds n l1 l2)) ∧ IL H l1 ms ∧ IL H l2 ss
theorem RowAt.same {C : Addr} {H H' : Hp} {p : Addr} {n : Int} {ms ss : List Int} (r : RowAt C H p n ms ss) (s : Same H H') : RowAt C H' p n ms ss := by
  obtain ⟨dx, l1, l2, a, b, c⟩ := r
  exact ⟨dx, l1, l2, s _ _ a, s _ _ b, s _ _ c⟩
/-- a row has been made at p, its lists are new since H -/
def RowNew (C : Addr) (H H' : Hp) (p : Addr) (n : Int) (ms ss : List Int) : Prop := ∃ dx l1 l2, H' p = some (.ins C dx (flds n l1 l2)) ∧ IL H' l1 ms ∧ IL H' l2 ss ∧ H l1 = none ∧ H l2 = none
theorem RowNew.at {C : Addr} {H H' : Hp} {p : Addr} {n : Int} {ms ss : List Int} (r : RowNew C H H' p n ms ss) : RowAt C H' p n ms ss := by
  obtain ⟨dx, l1, l2, a, b, c, _⟩ := r
  exact ⟨dx, l1, l2, a, b, c⟩
theorem none_of {H H' : Hp} {l : Addr} (k : ∀ c o, H c = some o → ∃ o', H' c = some o') (h : H' l = none) : H l = none := by
  cases e : H l with
  | none => rfl
  | some o =>
    obtain ⟨o', z⟩ := k _ _ e
    rw [h] at z
    cases z
theorem RowNew.mono {C : Addr} {H0 H H' : Hp} {p : Addr} {n : Int} {ms ss : List Int} (r : RowNew C H H' p n ms ss) (k : ∀ c o, H0 c = some o → ∃ o', H c = some o') : RowNew C H0 H' p n ms ss := by
  obtain ⟨dx, l1, l2, a, b, c, d, e⟩ := r
  exact ⟨dx, l1, l2, a, b, c, none_of k d, none_of k e⟩
structure Cl (K : PySem.W.Frag) (mg : Str → Option Value) (C : Addr) : Prop where
  cl : Cls K C
  nL : NoAttr K C "_length"
  nM : NoAttr K C "_marks"
  nS : NoAttr K C "_strict"
  mgR : mg "Row" = some (.ref C)
  kit : PySem.W.kitOne K (.ref C) (.ref C) = some true
/-- Row(n, marks, strict): from the new instance on -/
def spInit (C : Addr) : Sp := fun vs H Q _ => ∃ (x dx a b : Addr) (n : Int) (ms ss : List Int), vs = [.ref x, .int n, .ref a, .ref b] ∧ H x = some (.ins C dx []) ∧ IL H a ms ∧ IL H b ss ∧ Good n ms ss ∧
  ∀ H', RowNew C H H' x n ms ss → (∀ c o, H c = some o → c ≠ x → H' c = some o) → Q .non H'
section
variable {P : Program} {w : World} {K : PySem.W.Frag} {mg : Str → Option Value} {base : Heap}
abbrev NI : List Str := ["self", "length", "marks", "strict"]
theorem scIn : FnScope NI NI (defScope sInit) := ⟨rfl, rfl, rfl, by decide +kernel, rfl, by decide +kernel, by decide +kernel⟩
theorem ok_init {f C fI fM fS : Addr} {fd fdI fdM fdS : FuncData} (F : Fun K "__init__" "Row.__init__" sInit f fd) (T : Bl mg) (R : Cl K mg C)
    (gI : mg "is_integer" = some (.ref fI)) (kI : PySem.W.keepIn K (.ref fI) = true) (bI : Binds K fdI ["thing"] []) (GI : FnOk P w K mg base CX0 1 fI fdI ["thing"] spOne)
    (gM : mg "are_marks" = some (.ref fM)) (kM : PySem.W.keepIn K (.ref fM) = true) (bM : Binds K fdM ["thing", "high"] []) (GM : FnOk P w K mg base CX0 4 fM fdM ["thing", "high"] spMarks)
    (gS : mg "are_some_of" = some (.ref fS)) (kS : PySem.W.keepIn K (.ref fS) = true) (bS : Binds K fdS ["thing", "marks"] []) (GS : FnOk P w K mg base CX0 4 fS fdS ["thing", "marks"] spSome) :
    FnOk P w K mg base CX0 5 f fd NI (spInit C) := by
  refine F.ok scIn (fun vs H Q E h => ?_) (fun cdv A outer s H vs Q E hr h => ?_)
  · obtain ⟨x, dx, a, b, n, ms, ss, rfl, _⟩ := h
    rfl
  · obtain ⟨x, dx, a, b, n, ms, ss, rfl, hx, hM, hS, G, k⟩ := h
    have hr1 : Room 1 (A.deeper (PyProof.Rows.envOfC "Row.__init__" (defScope sInit) s.heap.objs.size f cdv)) := hr.mono (by decide)
    refine ⟨_, pss_cons (ps_if (PW.pt (pw_or (pt_not (pt_val (pe_call GI hr1 rfl gI kI bI .nil pass0 (pa_cons (pv 1) pa_nil)))) (pw_or1 (pt_cmpR op_lt (pv 1) pe_int (nomark _))))) pss_never pss_nil)
      (pss_cons (ps_if (pt_not (pt_val (pe_call GM hr rfl gM kM bM .nil pass0 (pa_cons (pv 2) (pa_cons (pe_op op_sub (pv 1) pe_int) pa_nil))))) pss_never pss_nil)
      (pss_cons (ps_if (pt_not (pt_val (pe_call GS hr rfl gS kS bS .nil pass0 (pa_cons (pv 3) (pa_cons (pv 2) pa_nil))))) pss_never pss_nil)
      (pss_cons (ps_fld (pv 0) (pv 1) rfl)
      (pss_cons (ps_fld (pv 0) (pe_callTy call_list_of (by rfl) T.list (by decide +kernel) (pa_cons (pv 2) pa_nil)) rfl)
      (pss_one (ps_fld (pv 0) (pe_callTy call_list_of (by rfl) T.list (by decide +kernel) (pa_cons (pv 3) pa_nil)) rfl)))))), ?_⟩
    have hp := G.pos
    refine ⟨_, rfl, n, rfl, _, rfl, ?_⟩
    refine ifF rfl ?_
    refine ⟨_, rfl, _, _, rfl, rfl, _, rfl, ?_⟩
    refine ifF (decide_eq_false (by omega)) ?_
    refine ⟨_, rfl, _, rfl, _, _, rfl, rfl, a, ms, n - 1, rfl, hM, G.len, G.rng, G.asc, fun H1 s1 => ⟨_, rfl, ?_⟩⟩
    refine ifF rfl ?_
    refine ⟨_, rfl, _, rfl, b, a, ss, ms, rfl, s1 _ _ hS, s1 _ _ hM, G.len2, G.len, G.asc2, (fun y hy => (G.rng y (G.sub y hy)).1), G.sub, fun H2 s2 => ⟨_, rfl, ?_⟩⟩
    refine ifF rfl ?_
    have s12 := s1.trans s2
    refine ⟨_, rfl, _, rfl, x, C, dx, _, rfl, s12 _ _ hx, R.cl, R.nL, (by show 0 < 1000; decide), ?_⟩
    have na : a ≠ x := ne_of hM hx (by intro z; cases z)
    have nb : b ≠ x := ne_of hS hx (by intro z; cases z)
    have hM3 : ∀ o, IL (upd H2 x o) a ms := fun o => by
      show upd H2 x o a = _
      rw [upd_ne na]
      exact s12 _ _ hM
    have hS3 : ∀ o, IL (upd H2 x o) b ss := fun o => by
      show upd H2 x o b = _
      rw [upd_ne nb]
      exact s12 _ _ hS
    refine ⟨_, rfl, a, _, rfl, .inl (SqL.of (hM3 _)), fun l1 h1 => ?_⟩
    have nx1 : x ≠ l1 := ne_of_none upd_same h1
    have nb1 : b ≠ l1 := ne_of_none (hS3 _) h1
    refine ⟨_, rfl, x, C, dx, _, rfl, (by rw [upd_ne nx1]; exact upd_same), R.cl, R.nM, (by show 1 < 1000; decide), ?_⟩
    refine ⟨_, rfl, b, ss.map V.int, rfl, .inl (SqL.of (by rw [upd_ne nb, upd_ne nb1]; exact hS3 _)), fun l2 h2 => ?_⟩
    have nx2 : x ≠ l2 := ne_of_none upd_same h2
    have n12 : l1 ≠ l2 := ne_of_none (show _ = some (HO.lst (ms.map V.int)) by rw [upd_ne (Ne.symm nx1)]; exact upd_same) h2
    refine ⟨_, rfl, x, C, dx, _, rfl, (by rw [upd_ne nx2]; exact upd_same), R.cl, R.nS, (by show 2 < 1000; decide), ?_⟩
    have up : ∀ (H : Hp) (x : Addr) (o' : HO) (c : Addr) (o : HO), H c = some o → ∃ o'', upd H x o' c = some o'' := fun H x o' c o e => by
      by_cases z : c = x
      · exact ⟨o', by rw [z]; exact upd_same⟩
      · exact ⟨o, by rw [upd_ne z]; exact e⟩
    have f1 : H l1 = none := none_of (fun c o e => up _ _ _ _ _ (s12 _ _ e)) h1
    have f2 : H l2 = none := none_of (fun c o e => by
      obtain ⟨o1, e1⟩ := up H2 x (.ins C dx (putF "_length" (V.int n) [])) _ _ (s12 _ _ e)
      obtain ⟨o2, e2⟩ := up _ l1 (.lst (ms.map V.int)) _ _ e1
      exact up _ _ _ _ _ e2) h2
    refine k _ ⟨dx, l1, l2, upd_same, ?_, ?_, f1, f2⟩ ?_
    · show upd _ _ _ l1 = _
      rw [upd_ne (Ne.symm nx1), upd_ne n12, upd_ne (Ne.symm nx1)]
      exact upd_same
    · show upd _ _ _ l2 = _
      rw [upd_ne (Ne.symm nx2)]
      exact upd_same
    · intro c o ec nc
      have e3 : ∀ o', upd H2 x o' c = some o := fun o' => by
        rw [upd_ne nc]
        exact s12 _ _ ec
      have e4 := e3 (.ins C dx (putF "_length" (V.int n) []))
      have ne1 : c ≠ l1 := ne_of_none e4 h1
      rw [upd_ne nc]
      have e5 : upd (upd (upd H2 x (.ins C dx (putF "_length" (V.int n) []))) l1 (.lst (ms.map V.int))) x (.ins C dx (putF "_marks" (V.ref l1) (putF "_length" (V.int n) []))) c = some o := by
        rw [upd_ne nc, upd_ne ne1]
        exact e4
      rw [upd_ne (ne_of_none e5 h2)]
      exact e5
end
end Cw
namespace Cw
open PySem PySem.Spec PyProof.Rows L2
theorem dps_ints {K : PySem.W.Frag} {H : Hp} : ∀ ns : List Int, DpAll K H (ns.map V.int) (ns.map PyData.int)
  | [] => .nil
  | n :: r => .cons (.int n) (dps_ints r)
theorem dp_il {K : PySem.W.Frag} {H : Hp} {a : Addr} {ns : List Int} (h : IL H a ns) : Dp K H (.ref a) (.list (ns.map PyData.int)) := .lst (SqL.of h) (dps_ints ns)
theorem depth_ints : ∀ ns : List Int, PyData.depthAll (ns.map PyData.int) ≤ 1 := fun ns => by
  induction ns with
  | nil => exact Nat.zero_le _
  | cons n r ih =>
    rw [List.map_cons]
    unfold PyData.depthAll PyData.depth
    omega
theorem lay_ints : ∀ ns : List Int, PyData.canLayAll0 (ns.map PyData.int) = true := fun ns => by
  induction ns with
  | nil => rfl
  | cons n r ih =>
    rw [List.map_cons]
    unfold PyData.canLayAll0 PyData.canLay0
    rw [ih]
    rfl
theorem shape_il (ns : List Int) : SeqAt.shaped (.list (ns.map PyData.int)) = true := by
  have h1 : PyData.canLay0 (.list (ns.map PyData.int)) = true := by
    unfold PyData.canLay0
    exact lay_ints ns
  have h2 : PyData.depth (.list (ns.map PyData.int)) ≤ 64 := by
    have z := depth_ints ns
    unfold PyData.depth
    omega
  unfold SeqAt.shaped
  rw [h1, decide_eq_true h2]
  rfl
theorem eqv_il (ns : List Int) : PyData.eqv (.list (ns.map PyData.int)) (.list (ns.map PyData.int)) = true := SeqAt.eqv_refl _ (SeqAt.canLay_of_shaped (shape_il ns))
section
variable {X : Cx} {a b c d : Expr} {ta tb tc td : TE} {pos : Pos}
/-- a op1 b op2 c op3 d -/
def tChain3 (r1 r2 r3 : R2) (ta tb tc td : TE) : TE := fun σ H Q => ta σ H fun x H1 => tb σ H1 fun y H2 => r1 x y H2 fun z H3 => ∃ k, z = .bl k ∧
  (if k = true then tc σ H3 fun u H4 => r2 y u H4 fun z2 H5 => ∃ k2, z2 = .bl k2 ∧ (if k2 = true then td σ H5 fun v H6 => r3 u v H6 Q else Q (.bl false) H5) else Q (.bl false) H3)
theorem pt_chain3 {o1 o2 o3 : CmpOp} {r1 r2 r3 : R2} (h1 : OpR X (compareOp o1) r1) (h2 : OpR X (compareOp o2) r2) (h3 : OpR X (compareOp o3) r3) (ha : PE X a ta) (hb : PE X b tb) (hc : PE X c tc) (hd : PE X d td)
    (hm : lastMarks [o1, o2, o3] [b, c, d] = false := by with_unfolding_all rfl) : PT X (.Compare a [o1, o2, o3] [b, c, d] pos) (tTest (tChain3 r1 r2 r3 ta tb tc td)) := by
  refine ⟨fun pins s σ H Q I h => ?_⟩
  refine isTrue_chain (thn (ha.run pins s σ H _ I h) fun v s1 ⟨x, H1, I1, e1, q1⟩ => test_link (thn (hb.run pins s1 σ H1 _ I1 q1) fun u s2 ⟨y, H2, I2, e2, q2⟩ =>
    thn (h1 pins s2 σ H2 x y v u _ I2 e1 e2 q2) fun d1 s3 ⟨z, H3, I3, e3, k, e, q3⟩ => ?_)) hm
  subst e
  cases e3
  refine wpAny_truthy_bool ?_
  cases k with
  | false =>
    obtain ⟨k', e', q'⟩ := q3
    cases e'
    exact ite_ff ⟨H3, I3, q'⟩
  | true =>
    refine ite_tt (test_link (thn (hc.run pins s3 σ H3 _ I3 q3) fun w' s4 ⟨z', H4, I4, e4, q4⟩ => thn (h2 pins s4 σ H4 y z' u w' _ I4 e2 e4 q4) fun d' s5 ⟨z2, H5, I5, e5, k2, f2, q5⟩ => ?_))
    subst f2
    cases e5
    refine wpAny_truthy_bool ?_
    cases k2 with
    | false =>
      obtain ⟨k', e', q'⟩ := q5
      cases e'
      exact ite_ff ⟨H5, I5, q'⟩
    | true =>
      refine ite_tt (test_last (thn (hd.run pins s5 σ H5 _ I5 q5) fun w2 s6 ⟨y2, H6, I6, e6, q6⟩ => thn (h3 pins s6 σ H6 z' y2 w' w2 _ I6 e4 e6 q6) fun d2 s7 ⟨y3, H7, I7, e7, k3, f3, q7⟩ => ?_))
      subst f3
      cases e7
      exact wpAny_truthy_bool ⟨H7, I7, q7⟩
end
/-- two rows alike -/
def Alike (C : Addr) : Addr → Addr → Hp → Prop := fun a b H => ∃ n ms ss, RowAt C H a n ms ss ∧ RowAt C H b n ms ss
/-- what a row's .marks promises -/
def spGetM (C : Addr) : Sp := fun vs H Q _ => ∃ (a : Addr) (n : Int) (ms ss : List Int), vs = [.ref a] ∧ RowAt C H a n ms ss ∧ ∀ p H', Same H H' → H p = none → IL H' p ms → Q (.ref p) H'
/-- what isinstance asks of the class -/
structure Ci (K : PySem.W.Frag) (C : Addr) : Prop where
  ha : PySem.W.findIn K (.ref C) "__class__" = some (some (.builtin "object.__class__"))
  hn : PySem.W.specialIn K (.builtin "object.__class__") "__get__" = some (some (.builtin "getset_descriptor.__get__"))
  ht : PySem.W.takesIn K (.builtin "object.__class__") = some true
  hm : PySem.W.mroIn K C (.type "object") = some true
section
variable {P : Program} {w : World} {K : PySem.W.Frag} {mg : Str → Option Value} {base : Heap}
theorem scG : FnScope ["self"] ["self"] (defScope sGetM) := ⟨rfl, rfl, rfl, by decide +kernel, rfl, by decide +kernel, by decide +kernel⟩
theorem ok_getM {f C : Addr} {fd : FuncData} (F : Fun K "marks" "Row.marks" sGetM f fd) (T : Bl mg) (R : Cl K mg C) : FnOk P w K mg base CX0 1 f fd ["self"] (spGetM C) := by
  refine F.ok scG (fun vs H Q E h => ?_) (fun cdv A outer s H vs Q E hr h => ?_)
  · obtain ⟨a, n, ms, ss, rfl, _⟩ := h
    rfl
  · obtain ⟨a, n, ms, ss, rfl, ⟨dx, l1, l2, ho, h1, h2⟩, k⟩ := h
    refine ⟨_, pss_one (ps_ret (pe_callTy call_list_of (by rfl) T.list (by decide +kernel) (pa_cons (pe_fld (pv 0) rfl) pa_nil))), ?_⟩
    refine ⟨_, rfl, a, C, dx, _, _, rfl, ho, R.cl, R.nM, fl_M _ _ _, l1, _, rfl, .inl (SqL.of h1), fun p hp => ?_⟩
    exact k p _ (same_new (Same.refl H) hp) hp upd_same
theorem scE : FnScope ["self", "other"] ["self", "other"] (defScope sEq) := ⟨rfl, rfl, rfl, by decide +kernel, rfl, by decide +kernel, by decide +kernel⟩
theorem ok_eq {f C : Addr} {fd : FuncData} (F : Fun K "__eq__" "Row.__eq__" sEq f fd) (T : Bl mg) (R : Cl K mg C) (N : Ci K C) : FnOk P w K mg base CX0 1 f fd ["self", "other"] (spEq (Alike C)) := by
  refine F.ok scE (fun vs H Q E h => ?_) (fun cdv A outer s H vs Q E hr h => ?_)
  · obtain ⟨a, b, rfl, _⟩ := h
    rfl
  · obtain ⟨a, b, rfl, ⟨n, ms, ss, ⟨dx, l1, l2, ho, h1, h2⟩, ⟨dy, m1, m2, hp, g1, g2⟩⟩, k⟩ := h
    refine ⟨_, pss_cons (ps_if (pt_not (pt_val (pe_callB call_isi (by rfl) T.isi (by decide +kernel) (pa_cons (pv 1) (pa_cons (pe_glob (by rfl) R.mgR (v := V.ref C) rfl) pa_nil))))) (pss_one (ps_ret pe_bl)) pss_nil)
      (pss_cons (ps_if (pt_cmpR op_ne (pe_fld (pv 0) rfl) (pe_fld (pv 1) rfl) (nomark _)) (pss_one (ps_ret pe_bl)) pss_nil)
      (pss_one (ps_ret (pe_and (pe_cmpR (op_eqD hr.units) (pe_fld (pv 0) rfl) (pe_fld (pv 1) rfl) (nomark _)) (pe_one (pe_cmpR (op_eqD hr.units) (pe_fld (pv 0) rfl) (pe_fld (pv 1) rfl) (nomark _))))))), ?_⟩
    refine ⟨_, rfl, _, _, _, _, true, rfl, ClsV.own _, .base (.ins hp R.cl N.ha N.hn N.ht N.hm), R.kit, _, rfl, ?_⟩
    refine ifF rfl ?_
    refine ⟨_, rfl, a, C, dx, _, _, rfl, ho, R.cl, R.nL, fl_L _ _ _, _, rfl, b, C, dy, _, _, rfl, hp, R.cl, R.nL, fl_L _ _ _, rfl, _, rfl, ?_⟩
    refine ifF (by simp) ?_
    refine ⟨_, rfl, a, C, dx, _, _, rfl, ho, R.cl, R.nM, fl_M _ _ _, _, rfl, b, C, dy, _, _, rfl, hp, R.cl, R.nM, fl_M _ _ _, _, _, dp_il h1, dp_il g1, shape_il _, shape_il _, _, rfl, ?_⟩
    refine ifT (eqv_il ms) ?_
    refine ⟨_, rfl, a, C, dx, _, _, rfl, ho, R.cl, R.nS, fl_S _ _ _, _, rfl, b, C, dy, _, _, rfl, hp, R.cl, R.nS, fl_S _ _ _, _, _, dp_il h2, dp_il g2, shape_il _, shape_il _, ?_⟩
    have z := k H Ext.rfl'
    rw [← eqv_il ss] at z
    exact z
end
end Cw
namespace Cw
open PySem L2
theorem same_ins {H H1 H' : Hp} {x dx C : Addr} (s : Same H H1) (nx : H1 x = none) (nd : H1 dx = none) (k : ∀ c o, upd (upd H1 dx (.own x)) x (.ins C dx []) c = some o → c ≠ x → H' c = some o) : Same H H' := fun c o e => by
  have z := s _ _ e
  refine k c o ?_ (ne_of_none z nx)
  rw [upd_ne (ne_of_none z nx), upd_ne (ne_of_none z nd)]
  exact z
theorem ints_app {ns : List Int} {z : Int} : ns.map V.int ++ [V.int z] = (ns ++ [z]).map V.int := by rw [List.map_append]; rfl
abbrev sJar : Stmt := top 41
abbrev sDip : Stmt := top 42
abbrev sThree : Stmt := top 43
abbrev sSmall : Stmt := top 44
abbrev sGreat : Stmt := top 0
def But (H H' : Hp) (b : Addr) : Prop := ∀ a o, H a = some o → a ≠ b → H' a = some o
theorem But.refl (H : Hp) (b : Addr) : But H H b := fun _ _ e _ => e
theorem But.trans {H H1 H2 : Hp} {b : Addr} (x : But H H1 b) (y : But H1 H2 b) : But H H2 b := fun a o e n => y a o (x a o e n) n
theorem But.of {H H1 : Hp} {b : Addr} (x : Same H H1) : But H H1 b := fun a o e _ => x a o e
theorem But.upd {H H1 : Hp} {b : Addr} {o : HO} (x : But H H1 b) : But H (upd H1 b o) b := fun a u e n => by
  rw [upd_ne n]
  exact x a u e n
theorem But.put {H H1 : Hp} {b p : Addr} {o : HO} (x : But H H1 b) (h : H p = none) : But H (L2.upd H1 p o) b := fun a u e n => by
  rw [upd_ne (ne_of_none e h)]
  exact x a u e n
theorem But.new {H H1 : Hp} {b p : Addr} {o : HO} (x : But H H1 b) (h : H1 p = none) : But H (L2.upd H1 p o) b := fun a u e n => by
  rw [upd_ne (ne_of_none (x a u e n) h)]
  exact x a u e n
def CPowW (i j : Int) : Prop := 0 ≤ j ∧ ((Builtin.Int.intBits i : Nat) : Int) * j ≤ 2 ^ 27
theorem op_powW {X : Cx} : OpR X (binaryOp .Pow) (rI CPowW fun i j => .int (i ^ j.toNat)) := opI fun _ _ _ _ _ _ _ hc q => PyProof.Rows.pow_int hc.1 hc.2 q
theorem cube_ok {i : Int} (h0 : 0 ≤ i) (h1 : i < 2 ^ 250) : CPowW i 3 := by
  have z : Builtin.Int.intBits i ≤ 250 := PyProof.Rows.intBits_le (k := 250) (by
    have e : ((2 ^ 250 : Nat) : Int) = 2 ^ 250 := by norm_cast
    omega)
  refine ⟨by decide, ?_⟩
  have e : (2 : Int) ^ 27 = 134217728 := by decide
  omega
/-- the draws: what is left of the cell, the stirred number, the turns; k more draws are surely allowed -/
def JarAt (H : Hp) (a : Addr) (k : Nat) : Prop := ∃ r m n : Int, H a = some (.lst [.int r, .int m, .int n]) ∧ 0 ≤ m ∧ m < 2 ^ 200 ∧ 0 ≤ n ∧ n + k ≤ 5000
theorem JarAt.mono {H : Hp} {a : Addr} {k j : Nat} (h : JarAt H a k) (l : j ≤ k) : JarAt H a j := by
  obtain ⟨r, m, n, e, h0, h1, h2, h3⟩ := h
  exact ⟨r, m, n, e, h0, h1, h2, by omega⟩
theorem JarAt.same {H H' : Hp} {a : Addr} {k : Nat} (h : JarAt H a k) (s : Same H H') : JarAt H' a k := by
  obtain ⟨r, m, n, e, q⟩ := h
  exact ⟨r, m, n, s _ _ e, q⟩
theorem JarAt.put {H : Hp} {a p : Addr} {o : HO} {k : Nat} (h : JarAt H a k) (n : a ≠ p) : JarAt (upd H p o) a k := by
  obtain ⟨r, m, i, e, q⟩ := h
  exact ⟨r, m, i, by rw [upd_ne n]; exact e, q⟩
theorem JarAt.ne {H : Hp} {a p : Addr} {k : Nat} (h : JarAt H a k) (n : H p = none) : a ≠ p := by
  obtain ⟨r, m, i, e, q⟩ := h
  exact ne_of_none e n
theorem JarAt.no {H : Hp} {a p : Addr} {o : HO} {k : Nat} (h : JarAt H a k) (e : H p = some o) (z : ∀ r m n : Int, o ≠ .lst [.int r, .int m, .int n]) : p ≠ a := fun x => by
  obtain ⟨r, m, i, f, q⟩ := h
  rw [x, f] at e
  exact z r m i (Option.some.inj e).symm
theorem pos47 : (0 : Int) < 10 ^ Int.toNat 47 + 91 := by decide +kernel
theorem pos46 : (0 : Int) < 10 ^ Int.toNat 46 + 79 := by decide +kernel
def spDip : Sp := fun vs H Q _ => ∃ (a : Addr) (k : Nat) (w : Int), vs = [.ref a, .int w] ∧ JarAt H a (k + 1) ∧ 0 < w ∧ w < 2 ^ 120 ∧ ∀ (v : Int) (H' : Hp), 0 ≤ v → v < w → JarAt H' a k → But H H' a → Q (.int v) H'
/-- the script's jar -/
def spJar (K : PySem.W.Frag) : Sp := fun vs H Q _ => ∃ (a : Addr) (ns : List Int) (i : Nat), vs = [.ref a, .int i] ∧ SqL K H a (ns.map V.int) ∧ i ≤ ns.length ∧ ns.length ≤ 63 ∧ ∀ p H', Same H H' → H p = none → JarAt H' p 5000 → Q (.ref p) H'
section
variable {P : Program} {w : World} {K : PySem.W.Frag} {mg : Str → Option Value} {base : Heap}
theorem scD : FnScope ["jar", "many", "digit", "mixed"] ["jar", "many"] (defScope sDip) := ⟨rfl, rfl, rfl, by decide +kernel, rfl, by decide +kernel, by decide +kernel⟩
theorem ok_dip {f : Addr} {fd : FuncData} (F : Fun K "_law_dip" "_law_dip" sDip f fd) (T : Bl mg) : FnOk P w K mg base CX0 1 f fd ["jar", "many"] spDip := by
  refine F.ok scD (fun vs H Q E h => ?_) (fun cdv A outer s H vs Q E hr h => ?_)
  · obtain ⟨a, k, w, rfl, _⟩ := h
    rfl
  · obtain ⟨a, k, w, rfl, ⟨r, m, n, hj, m0, m1, n0, n1⟩, w0, w1, q⟩ := h
    have wn : w.natAbs < 2 ^ 120 := by
      have e : ((2 ^ 120 : Nat) : Int) = 2 ^ 120 := by norm_cast
      omega
    have dv : ∀ i, CDivW i w := fun i => wide_div w0 wn (by decide) (by decide)
    refine ⟨_, pss_cons (ps_if (pt_cmpR op_gt (pe_ix ix_list (pv 0) pe_int (fun _ _ => rfl)) pe_int (nomark _))
        (pss_cons (ps_set (i := 2) scD.nd rfl (Or.inl rfl) (pe_op op_mod (pe_callTy call_int1 (by rfl) T.int (by decide +kernel) (pa_cons (pe_ix ix_list (pv 0) pe_int (fun _ _ => rfl)) pa_nil)) (pv 1)))
        (pss_cons (ps_asg (pe_op op_fdivW (pe_ix ix_list (pv 0) pe_int (fun _ _ => rfl)) (pv 1)) (pg_sub (pv 0) pe_int L2.set_list))
        (pss_one (ps_ret (pv 2))))) pss_nil)
      (pss_cons (ps_asg (pe_op op_add (pe_ix ix_list (pv 0) pe_int (fun _ _ => rfl)) pe_int) (pg_sub (pv 0) pe_int L2.set_list))
      (pss_cons (ps_set (i := 3) scD.nd rfl (Or.inl rfl) (pe_op op_mod (pe_callTy call_int1 (by rfl) T.int (by decide +kernel) (pa_cons (pe_op op_powW (pe_op op_add (pe_ix ix_list (pv 0) pe_int (fun _ _ => rfl)) (pe_op op_mul pe_int (pe_ix ix_list (pv 0) pe_int (fun _ _ => rfl)))) pe_int) pa_nil)) (pe_op op_add (pe_op op_pow pe_int pe_int) pe_int)))
      (pss_cons (ps_set (i := 3) scD.nd rfl (Or.inl rfl) (pe_op op_mod (pe_callTy call_int1 (by rfl) T.int (by decide +kernel) (pa_cons (pe_op op_powW (pe_op op_add (pv 3) (pe_op op_mul pe_int (pe_ix ix_list (pv 0) pe_int (fun _ _ => rfl)))) pe_int) pa_nil)) (pe_op op_add (pe_op op_pow pe_int pe_int) pe_int)))
      (pss_one (ps_ret (pe_op op_mod (pe_callTy call_int1 (by rfl) T.int (by decide +kernel) (pa_cons (pe_op op_fdivW (pv 3) pe_int) pa_nil)) (pv 1))))))), ?_⟩
    refine ⟨_, rfl, a, _, 0, _, rfl, rfl, SqL.of hj, rfl, _, _, rfl, rfl, _, rfl, ?_⟩
    by_cases hr0 : r > 0
    · refine ifT (decide_eq_true hr0) ?_
      refine ⟨_, rfl, a, _, 0, _, rfl, rfl, SqL.of hj, rfl, .inl ⟨_, rfl, _, rfl, _, _, rfl, rfl, w0, ?_⟩⟩
      refine ⟨_, rfl, a, _, 0, _, rfl, rfl, SqL.of hj, rfl, _, rfl, _, _, rfl, rfl, dv _, _, rfl, a, _, 0, 0, rfl, rfl, hj, rfl, ?_⟩
      refine ⟨_, rfl, ?_⟩
      exact q _ _ (Int.emod_nonneg _ (by omega)) (Int.emod_lt_of_pos _ w0) ⟨_, m, n, upd_same, m0, m1, n0, by omega⟩ (But.refl H a).upd
    · refine ifF (decide_eq_false hr0) ?_
      refine ⟨_, rfl, a, _, 2, _, rfl, rfl, SqL.of hj, rfl, _, _, rfl, rfl, _, rfl, a, _, 2, 2, rfl, rfl, hj, rfl, ?_⟩
      have hj2 : upd H a (.lst [.int r, .int m, .int (n + 1)]) a = some (.lst [.int r, .int m, .int (n + 1)]) := upd_same
      refine ⟨_, rfl, a, _, 1, _, rfl, rfl, SqL.of hj2, rfl, _, rfl, a, _, 2, _, rfl, rfl, SqL.of hj2, rfl, _, _, rfl, rfl, .inl ⟨by decide, by decide⟩, _, _, rfl, rfl, ?_⟩
      have e200 : (2 : Int) ^ 200 + 60000049 * 5001 < 2 ^ 250 := by decide +kernel
      refine ⟨_, _, rfl, rfl, cube_ok (by omega) (by omega), .inl ⟨_, rfl, _, _, rfl, rfl, ⟨by decide, by decide, by decide⟩, _, _, rfl, rfl, _, _, rfl, rfl, pos47, ?_⟩⟩
      generalize hx : ((m + 60000049 * (n + 1)) ^ Int.toNat 3) % (10 ^ Int.toNat 47 + 91) = x
      have x0 : 0 ≤ x := by
        rw [← hx]
        exact Int.emod_nonneg _ (by decide +kernel)
      have x1 : x < 10 ^ Int.toNat 47 + 91 := by
        rw [← hx]
        exact Int.emod_lt_of_pos _ (by decide +kernel)
      have e47 : (10 : Int) ^ Int.toNat 47 + 91 + 35000021 * 5001 < 2 ^ 250 := by decide +kernel
      refine ⟨_, rfl, _, rfl, a, _, 2, _, rfl, rfl, SqL.of hj2, rfl, _, _, rfl, rfl, .inl ⟨by decide, by decide⟩, _, _, rfl, rfl, _, _, rfl, rfl, cube_ok (by omega) (by omega), .inl ⟨_, rfl, _, _, rfl, rfl, ⟨by decide, by decide, by decide⟩, _, _, rfl, rfl, _, _, rfl, rfl, pos46, ?_⟩⟩
      refine ⟨_, rfl, _, _, rfl, rfl, wide_div (b := 31) (by decide) (by decide) (by decide) (by decide), .inl ⟨_, rfl, _, rfl, _, _, rfl, rfl, w0, ?_⟩⟩
      exact q _ _ (Int.emod_nonneg _ (by omega)) (Int.emod_lt_of_pos _ w0) ⟨r, m, n + 1, upd_same, m0, m1, by omega, by omega⟩ (But.refl H a).upd
end
end Cw
namespace Cw
open PySem L2
theorem at_of2 {α : Type} {xs : List α} {z : Int} {j : Nat} {v : α} (e : z = (j : Int)) (h : xs[j]? = some v) : atI xs z = some v := by
  rw [e]
  exact atI_nat h
theorem at_lt {α : Type} {xs : List α} {z : Int} (h0 : 0 ≤ z) (h1 : z < xs.length) : ∃ v, atI xs z = some v ∧ v ∈ xs := by
  have hz : z.toNat < xs.length := by omega
  have hj : z = ((z.toNat : Nat) : Int) := by omega
  exact ⟨xs[z.toNat], at_of2 hj (List.getElem?_eq_getElem hz), List.getElem_mem hz⟩
/-- one of three ints -/
theorem at3 {z x y u : Int} (h0 : 0 ≤ z) (h1 : z < 3) : ∃ v, atI [V.int x, V.int y, V.int u] z = some (V.int v) ∧ (v = x ∨ v = y ∨ v = u) := by
  obtain ⟨v, e, m⟩ := at_lt (xs := [V.int x, V.int y, V.int u]) h0 (by simpa using h1)
  simp only [List.mem_cons, List.not_mem_nil, or_false] at m
  rcases m with rfl | rfl | rfl
  · exact ⟨x, e, .inl rfl⟩
  · exact ⟨y, e, .inr (.inl rfl)⟩
  · exact ⟨u, e, .inr (.inr rfl)⟩
def spThree : Sp := fun vs H Q _ => ∃ (a : Addr) (k : Nat) (w : Int), vs = [.ref a, .int w] ∧ JarAt H a (k + 7) ∧ 0 < w ∧ w < 2 ^ 120 ∧
  ∀ (p : Addr) (H' : Hp) (l n g : Int), 1 ≤ l → l ≤ w → l ≤ n → n ≤ 2 * w + 3 → n ≤ g → g ≤ 3 * w + 6 → JarAt H' a k → But H H' a → H' p = some (.tup [.int l, .int n, .int g]) → H p = none → Q (.ref p) H'
theorem pos43 : (0 : Int) < 10 ^ Int.toNat 43 + 57 := by decide +kernel
section
variable {P : Program} {w : World} {K : PySem.W.Frag} {mg : Str → Option Value} {base : Heap}
theorem scJ : FnScope ["script", "k", "cell_here"] ["script", "k"] (defScope sJar) := ⟨rfl, rfl, rfl, by decide +kernel, rfl, by decide +kernel, by decide +kernel⟩
theorem ok_jar {f : Addr} {fd : FuncData} (F : Fun K "_law_jar" "_law_jar" sJar f fd) (T : Bl mg) : FnOk P w K mg base CX0 1 f fd ["script", "k"] (spJar K) := by
  refine F.ok scJ (fun vs H Q E h => ?_) (fun cdv A outer s H vs Q E hr h => ?_)
  · obtain ⟨a, ns, i, rfl, _⟩ := h
    rfl
  · obtain ⟨a, ns, i, rfl, hS, hi, hl, q⟩ := h
    refine ⟨_, pss_cons (ps_set (i := 2) scJ.nd rfl (Or.inl rfl) (pe_ifExp (pt_cmpR op_lt (pv 1) (pe_callB call_len_seq (by rfl) T.len PySem.boot_len (pa_cons (pv 0) pa_nil)) (nomark _))
        (pe_callB call_abs (by rfl) T.abs (by decide +kernel) (pa_cons (pe_ix ix_list (pv 0) (pv 1) (fun _ _ => rfl)) pa_nil)) pe_int))
      (pss_one (ps_ret (pe_lst (pa_cons (pe_callB (call_max2 rfl) (by rfl) T.max (by decide +kernel) (pa_cons pe_int (pa_cons (pe_op op_sub (pv 2) (pe_op op_pow pe_int pe_int)) pa_nil)))
        (pa_cons (pe_op op_add (pe_op op_mul (pe_op op_mod (pe_callTy call_int1 (by rfl) T.int (by decide +kernel) (pa_cons (pv 2) pa_nil)) (pe_op op_add (pe_op op_pow pe_int pe_int) pe_int)) pe_int) (pe_op op_mul pe_int (pv 1)))
        (pa_cons pe_int pa_nil)))))), ?_⟩
    have main : ∀ c : Int, 0 ≤ (c % (10 ^ Int.toNat 43 + 57)) * 101 + 70001 * (i : Int) ∧ (c % (10 ^ Int.toNat 43 + 57)) * 101 + 70001 * (i : Int) < 2 ^ 200 := fun c => by
      have x0 := Int.emod_nonneg c (b := 10 ^ Int.toNat 43 + 57) (by decide +kernel)
      have x1 := Int.emod_lt_of_pos c pos43
      have e : ((10 : Int) ^ Int.toNat 43 + 57) * 101 + 70001 * 64 < 2 ^ 200 := by decide +kernel
      omega
    refine ⟨_, rfl, _, rfl, a, _, rfl, .inl hS, _, _, rfl, rfl, _, rfl, ?_⟩
    by_cases hi2 : i < ns.length
    · refine ifT (decide_eq_true (by rw [List.length_map]; omega)) ?_
      have e1 : (ns.map V.int)[i]? = some (V.int ns[i]) := by
        rw [List.getElem?_map, List.getElem?_eq_getElem hi2]
        rfl
      refine ⟨_, rfl, _, rfl, a, _, _, _, rfl, rfl, hS, at_of2 (j := i) rfl e1, _, rfl, ?_⟩
      generalize (if ns[i] < 0 then -ns[i] else ns[i]) = c
      refine ⟨_, rfl, _, _, rfl, rfl, ⟨by decide, by decide, by decide⟩, _, _, rfl, rfl, _, _, rfl, ?_⟩
      refine ⟨_, rfl, .inl ⟨_, rfl, _, _, rfl, rfl, ⟨by decide, by decide, by decide⟩, _, _, rfl, rfl, _, _, rfl, rfl, pos43, _, _, rfl, rfl, .inr ⟨by decide, by decide⟩, _, rfl, _, _, rfl, rfl, .inl ⟨by decide, by decide⟩, _, _, rfl, rfl, ?_⟩⟩
      refine ⟨(by show 3 ≤ sizeLine; decide), fun p hp => ?_⟩
      exact q p _ (same_new (Same.refl H) hp) hp ⟨_, _, 0, upd_same, (main c).1, (main c).2, by decide, by decide⟩
    · refine ifF (decide_eq_false (by rw [List.length_map]; omega)) ?_
      refine ⟨_, rfl, _, _, rfl, rfl, ⟨by decide, by decide, by decide⟩, _, _, rfl, rfl, _, _, rfl, ?_⟩
      refine ⟨_, rfl, .inl ⟨_, rfl, _, _, rfl, rfl, ⟨by decide, by decide, by decide⟩, _, _, rfl, rfl, _, _, rfl, rfl, pos43, _, _, rfl, rfl, .inr ⟨by decide, by decide⟩, _, rfl, _, _, rfl, rfl, .inl ⟨by decide, by decide⟩, _, _, rfl, rfl, ?_⟩⟩
      refine ⟨(by show 3 ≤ sizeLine; decide), fun p hp => ?_⟩
      exact q p _ (same_new (Same.refl H) hp) hp ⟨_, _, 0, upd_same, (main 0).1, (main 0).2, by decide, by decide⟩
theorem scT : FnScope ["jar", "wide", "least", "normal"] ["jar", "wide"] (defScope sThree) := ⟨rfl, rfl, rfl, by decide +kernel, rfl, by decide +kernel, by decide +kernel⟩
theorem ok_three {f fD : Addr} {fd fdD : FuncData} (F : Fun K "_law_three" "_law_three" sThree f fd) (gD : mg "_law_dip" = some (.ref fD)) (kD : PySem.W.keepIn K (.ref fD) = true) (bD : Binds K fdD ["jar", "many"] []) (GD : FnOk P w K mg base CX0 1 fD fdD ["jar", "many"] spDip) :
    FnOk P w K mg base CX0 2 f fd ["jar", "wide"] spThree := by
  refine F.ok scT (fun vs H Q E h => ?_) (fun cdv A outer s H vs Q E hr h => ?_)
  · obtain ⟨a, k, w, rfl, _⟩ := h
    rfl
  · obtain ⟨a, k, w, rfl, J, w0, w1, q⟩ := h
    refine ⟨_, pss_cons (ps_set (i := 2) scT.nd rfl (Or.inl rfl) (pe_op op_add pe_int (pe_call GD hr rfl gD kD bD .nil pass0 (pa_cons (pv 0) (pa_cons (pv 1) pa_nil)))))
      (pss_cons (ps_set (i := 3) scT.nd rfl (Or.inl rfl) (pe_op op_add (pv 2) (pe_ix ix_list (pe_lst (pa_cons pe_int (pa_cons (pe_call GD hr rfl gD kD bD .nil pass0 (pa_cons (pv 0) (pa_cons (pv 1) pa_nil))) (pa_cons (pe_call GD hr rfl gD kD bD .nil pass0 (pa_cons (pv 0) (pa_cons pe_int pa_nil))) pa_nil))))
        (pe_call GD hr rfl gD kD bD .nil pass0 (pa_cons (pv 0) (pa_cons pe_int pa_nil))) (fun _ _ => rfl))))
      (pss_one (ps_ret (pe_tup (pa_cons (pv 2) (pa_cons (pv 3) (pa_cons (pe_op op_add (pv 3) (pe_ix ix_list (pe_lst (pa_cons pe_int (pa_cons (pe_call GD hr rfl gD kD bD .nil pass0 (pa_cons (pv 0) (pa_cons (pv 1) pa_nil))) (pa_cons (pe_op op_add pe_int (pe_call GD hr rfl gD kD bD .nil pass0 (pa_cons (pv 0) (pa_cons pe_int pa_nil)))) pa_nil))))
        (pe_call GD hr rfl gD kD bD .nil pass0 (pa_cons (pv 0) (pa_cons pe_int pa_nil))) (fun _ _ => rfl))) pa_nil))))))), ?_⟩
    have t3 : (0 : Int) < 3 ∧ (3 : Int) < 2 ^ 120 := ⟨by decide, by decide⟩
    refine ⟨_, rfl, _, rfl, a, k + 6, w, rfl, J, w0, w1, fun v1 H1 a1 b1 J1 B1 => ⟨_, _, rfl, rfl, ?_⟩⟩
    refine ⟨_, rfl, _, rfl, _, rfl, a, k + 5, w, rfl, J1, w0, w1, fun v2 H2 a2 b2 J2 B2 => ?_⟩
    refine ⟨_, rfl, a, k + 4, 3, rfl, J2, t3.1, t3.2, fun v3 H3 a3 b3 J3 B3 => ⟨(by show 3 ≤ sizeLine; decide), fun p hp => ?_⟩⟩
    have np : a ≠ p := J3.ne hp
    have Bp := ((B1.trans B2).trans B3).new (o := .lst [.int 0, .int v2, .int v3]) hp
    refine ⟨_, rfl, a, k + 3, 3, rfl, J3.put np, t3.1, t3.2, fun v4 H4 a4 b4 J4 B4 => ?_⟩
    obtain ⟨i1, e1, c1⟩ := at3 (x := 0) (y := v2) (u := v3) a4 b4
    refine ⟨p, _, _, _, rfl, rfl, SqL.of (B4 _ _ upd_same np.symm), e1, _, _, rfl, rfl, ?_⟩
    refine ⟨_, rfl, _, rfl, _, rfl, _, rfl, _, rfl, a, k + 2, w, rfl, J4, w0, w1, fun v5 H5 a5 b5 J5 B5 => ?_⟩
    refine ⟨_, rfl, a, k + 1, 3, rfl, J5, t3.1, t3.2, fun v6 H6 a6 b6 J6 B6 => ⟨_, _, rfl, rfl, (by show 3 ≤ sizeLine; decide), fun p2 hp2 => ?_⟩⟩
    have np2 : a ≠ p2 := J6.ne hp2
    have Bq := (((Bp.trans B4).trans B5).trans B6).new (o := .lst [.int 0, .int v5, .int (1 + v6)]) hp2
    refine ⟨_, rfl, a, k, 3, rfl, J6.put np2, t3.1, t3.2, fun v7 H7 a7 b7 J7 B7 => ?_⟩
    obtain ⟨i2, e2, c2⟩ := at3 (x := 0) (y := v5) (u := 1 + v6) a7 b7
    refine ⟨p2, _, _, _, rfl, rfl, SqL.of (B7 _ _ upd_same np2.symm), e2, _, _, rfl, rfl, (by show 3 ≤ sizeLine; decide), fun p3 hp3 => ?_⟩
    have Bz := (Bq.trans B7).new (o := .tup [.int (1 + v1), .int (1 + v1 + i1), .int (1 + v1 + i1 + i2)]) hp3
    have hH : H p3 = none := by
      cases e : H p3 with
      | none => rfl
      | some o =>
        have n : p3 ≠ a := fun x => by
          have z := J7.ne hp3
          exact z x.symm
        have z := (Bq.trans B7) _ _ e n
        rw [hp3] at z
        cases z
    refine q p3 _ (1 + v1) (1 + v1 + i1) (1 + v1 + i1 + i2) (by omega) (by omega) (by omega) (by omega) (by omega) (by omega) (J7.put (J7.ne hp3)) Bz upd_same hH
end
end Cw
namespace Cw
open PySem L2
abbrev sHeap : Stmt := top 45
/-! ## raw rows: a length, pairs of a place and a kind, three numbers -/
abbrev PrAt (H : Hp) : List Addr → List (Int × Int) → Prop := Paired (fun t (p : Int × Int) => H t = some (.tup [.int p.1, .int p.2]))
theorem PrAt.imp {H H' : Hp} : ∀ {ts : List Addr} {ps : List (Int × Int)}, PrAt H ts ps → (∀ t (p : Int × Int), H t = some (.tup [.int p.1, .int p.2]) → H' t = some (.tup [.int p.1, .int p.2])) → PrAt H' ts ps
  | _, _, .nil, _ => .nil
  | _, _, .cons h r, k => .cons (k _ _ h) (PrAt.imp r k)
theorem PrAt.app {H : Hp} : ∀ {ts us : List Addr} {ps qs : List (Int × Int)}, PrAt H ts ps → PrAt H us qs → PrAt H (ts ++ us) (ps ++ qs)
  | _, _, _, _, .nil, h => h
  | _, _, _, _, .cons a r, h => .cons a (PrAt.app r h)
theorem PrAt.len {H : Hp} : ∀ {ts : List Addr} {ps : List (Int × Int)}, PrAt H ts ps → ts.length = ps.length
  | _, _, .nil => rfl
  | _, _, .cons _ r => by rw [List.length_cons, List.length_cons, PrAt.len r]
theorem PrAt.get {H : Hp} : ∀ {ts : List Addr} {ps : List (Int × Int)} {i : Nat} {v : V}, PrAt H ts ps → (ts.map V.ref)[i]? = some v → ∃ t p, v = .ref t ∧ ps[i]? = some p ∧ H t = some (.tup [.int p.1, .int p.2])
  | _, _, 0, v, .cons (a := t) (b := p) a _, e => ⟨t, p, (Option.some.inj e).symm, rfl, a⟩
  | _, _, i + 1, v, .cons _ r, e => by
    obtain ⟨t, p, h1, h2, h3⟩ := PrAt.get (i := i) r e
    exact ⟨t, p, h1, h2, h3⟩
  | _, _, _, _, .nil, e => by simp at e
def RawAt (H : Hp) (p : Addr) (n : Int) (prs : List (Int × Int)) : Prop := ∃ l t ts, H p = some (.tup [.int n, .ref l, .ref t]) ∧ H l = some (.lst (ts.map V.ref)) ∧ PrAt H ts prs
theorem RawAt.imp {H H' : Hp} {p : Addr} {n : Int} {prs : List (Int × Int)} (r : RawAt H p n prs) (k : ∀ c o, H c = some o → (∀ r m n : Int, o ≠ .lst [.int r, .int m, .int n]) → H' c = some o) : RawAt H' p n prs := by
  obtain ⟨l, t, ts, h1, h2, h3⟩ := r
  refine ⟨l, t, ts, k _ _ h1 (fun _ _ _ z => nomatch z), k _ _ h2 (fun r m n z => ?_), h3.imp fun t p h => k _ _ h (fun _ _ _ z => nomatch z)⟩
  injection z with z
  cases ts with
  | nil => cases z
  | cons t ts => cases z
theorem RawAt.same {H H' : Hp} {p : Addr} {n : Int} {prs : List (Int × Int)} (r : RawAt H p n prs) (s : Same H H') : RawAt H' p n prs := r.imp fun c o e _ => s c o e
theorem RawAt.but {H H' : Hp} {p a : Addr} {k : Nat} {n : Int} {prs : List (Int × Int)} (r : RawAt H p n prs) (J : JarAt H a k) (s : But H H' a) : RawAt H' p n prs := r.imp fun c o e z => s c o e (J.no e z)
structure GoodP (n : Int) (prs : List (Int × Int)) : Prop where
  pos : 1 ≤ n
  len : prs.length ≤ 400
  rng : ∀ q ∈ prs, 1 ≤ q.1 ∧ q.1 ≤ n - 1 ∧ (q.2 = 1 ∨ q.2 = 2)
  asc : Asc (prs.map (·.1))
abbrev marksOf (prs : List (Int × Int)) : List Int := prs.map (·.1)
abbrev strictOf (prs : List (Int × Int)) : List Int := (prs.filter fun q => decide (q.2 = 2)).map (·.1)
theorem GoodP.good {n : Int} {prs : List (Int × Int)} (g : GoodP n prs) : Good n (marksOf prs) (strictOf prs) := by
  refine ⟨g.pos, by rw [List.length_map]; have := g.len; omega, fun x hx => ?_, g.asc, ?_, fun x hx => ?_⟩
  · obtain ⟨q, hq, rfl⟩ := List.mem_map.mp hx
    have := g.rng q hq
    exact ⟨this.1, this.2.1⟩
  · have z : List.Sublist (strictOf prs) (marksOf prs) := (List.filter_sublist).map _
    exact g.asc.sublist z
  · obtain ⟨q, hq, rfl⟩ := List.mem_map.mp hx
    exact List.mem_map.mpr ⟨q, (List.mem_filter.mp hq).1, rfl⟩
def spHeap (C : Addr) : Sp := fun vs H Q _ => ∃ (p : Addr) (n : Int) (prs : List (Int × Int)), vs = [.ref p] ∧ RawAt H p n prs ∧ GoodP n prs ∧ ∀ q H', Same H H' → RowNew C H H' q n (marksOf prs) (strictOf prs) → Q (.ref q) H'
theorem ref_at {ts : List Addr} {i : Nat} {x : V} (h : (ts.map V.ref)[i]? = some x) : i < ts.length := by
  have := (List.getElem?_eq_some_iff.mp h).1
  rwa [List.length_map] at this
theorem take_map2 {ps : List (Int × Int)} {i : Nat} {z : Int × Int} (h : ps[i]? = some z) : marksOf (ps.take (i + 1)) = marksOf (ps.take i) ++ [z.1] := by
  rw [List.take_add_one, h, marksOf, List.map_append]
  rfl
theorem take_fil2 {ps : List (Int × Int)} {i : Nat} {z : Int × Int} (h : ps[i]? = some z) : strictOf (ps.take (i + 1)) = strictOf (ps.take i) ++ (if z.2 = 2 then [z.1] else []) := by
  rw [List.take_add_one, h, strictOf, List.filter_append, List.map_append]
  congr 1
  show List.map _ (List.filter _ [z]) = _
  rw [List.filter_cons]
  by_cases c : z.2 = 2 <;> simp [c]
section
variable {P : Program} {w : World} {K : PySem.W.Frag} {mg : Str → Option Value} {base : Heap}
abbrev NH : List Str := ["raw", "spot", "kind"]
theorem scH : FnScope NH ["raw"] (defScope sHeap) := ⟨rfl, rfl, rfl, by decide +kernel, rfl, by decide +kernel, by decide +kernel⟩
theorem ok_heap {f C fI : Addr} {fd fdI : FuncData} (F : Fun K "_law_heap" "_law_heap" sHeap f fd) (R : Cl K mg C) (M : Mk K C fI) (bI : Binds K fdI NI []) (GI : FnOk P w K mg base CX0 5 fI fdI NI (spInit C)) :
    FnOk P w K mg base CX0 7 f fd ["raw"] (spHeap C) := by
  refine F.ok scH (fun vs H Q E h => ?_) (fun cdv A outer s H vs Q E hr h => ?_)
  · obtain ⟨p, n, prs, rfl, _⟩ := h
    rfl
  · obtain ⟨p, n, prs, rfl, ⟨l, t, ts, h1, h2, h3⟩, G, q⟩ := h
    refine ⟨_, pss_one (ps_ret (pe_make M GI hr rfl R.mgR bI .nil pass0 (pa_cons (pe_ix ix_tup (pv 0) pe_int (fun _ _ => rfl))
      (pa_cons (pe_lc (own := [("spot", 1), ("kind", 2)]) (g := gTup K 2 (gCons (gName 1) (gCons (gName 2) gNil))) (tt := tYes) rfl scH.nd (pi_list (pe_ix ix_tup (pv 0) pe_int (fun _ _ => rfl))) (blkOk_by (own := [("spot", 1), ("kind", 2)]) (N := NH) (sc := defScope sHeap) (by decide +kernel))
          (fun _ _ _ _ _ => pg_tup rfl (pgs_cons (pg_name (i := 1) scH.nd rfl (Or.inl rfl)) (pgs_cons (pg_name (i := 2) scH.nd rfl (Or.inl rfl)) pgs_nil))) (fun _ _ _ _ _ => pts_nil) (fun _ _ _ _ _ => pv 1))
      (pa_cons (pe_lc (own := [("spot", 1), ("kind", 2)]) (g := gTup K 2 (gCons (gName 1) (gCons (gName 2) gNil))) rfl scH.nd (pi_list (pe_ix ix_tup (pv 0) pe_int (fun _ _ => rfl))) (blkOk_by (own := [("spot", 1), ("kind", 2)]) (N := NH) (sc := defScope sHeap) (by decide +kernel))
          (fun _ _ _ _ _ => pg_tup rfl (pgs_cons (pg_name (i := 1) scH.nd rfl (Or.inl rfl)) (pgs_cons (pg_name (i := 2) scH.nd rfl (Or.inl rfl)) pgs_nil))) (fun _ _ _ _ _ => pts_one (pt_cmpR op_eq (pv 2) pe_int (nomark _))) (fun _ _ _ _ _ => pv 1)) pa_nil))))), ?_⟩
    have hl := G.len
    have lt := h3.len
    refine ⟨_, rfl, p, _, _, _, rfl, rfl, SqT.of h1, at_of2 (j := 0) rfl rfl, ?_⟩
    refine ⟨_, rfl, p, _, _, _, rfl, rfl, SqT.of h1, at_of2 (j := 1) rfl rfl, l, rfl, ⟨_, SqL.of h2⟩, fun D hD => ?_⟩
    refine lc_list (K := K) (a := l) (xs := ts.map V.ref) (fun i H' => Same H H' ∧ IL H' D (marksOf (prs.take i))) ⟨same_new (Same.refl H) hD, upd_same⟩ (fun i H' _ z => SqL.of (z.1 _ _ h2)) ?_ ?_
    · rintro i x H' hx ⟨s1, hD'⟩
      obtain ⟨u, z, rfl, hz, hu⟩ := h3.get hx
      have hil := ref_at hx
      refine ⟨u, _, rfl, SqT.of (s1 _ _ hu), rfl, _, _, rfl, _, _, rfl, rfl, rfl, ?_⟩
      unfold tYes
      refine iteT ?_
      refine ⟨_, rfl, _, hD', by rw [List.length_map, List.length_map, List.length_take]; exact small1000 (by omega), same_put s1 hD, ?_⟩
      show upd _ _ _ D = _
      rw [upd_same, ints_app, take_map2 hz]
    · rintro H1 ⟨s1, hD'⟩
      rw [List.length_map, lt, List.take_length] at hD'
      refine ⟨_, rfl, p, _, _, _, rfl, rfl, SqT.of (s1 _ _ h1), at_of2 (j := 1) rfl rfl, l, rfl, ⟨_, SqL.of (s1 _ _ h2)⟩, fun D2 hD2 => ?_⟩
      have nDD : D ≠ D2 := ne_of_none hD' hD2
      refine lc_list (K := K) (a := l) (xs := ts.map V.ref) (fun i H' => Same H1 H' ∧ IL H' D2 (strictOf (prs.take i))) ⟨same_new (Same.refl H1) hD2, upd_same⟩ (fun i H' _ z => SqL.of (z.1 _ _ (s1 _ _ h2))) ?_ ?_
      · rintro i x H' hx ⟨s2, hE⟩
        obtain ⟨u, z, rfl, hz, hu⟩ := h3.get hx
        have hil := ref_at hx
        have tf := take_fil2 hz
        refine ⟨u, _, rfl, SqT.of (s2 _ _ (s1 _ _ hu)), rfl, _, _, rfl, _, _, rfl, rfl, rfl, ?_⟩
        refine ⟨_, rfl, rfl, _, rfl, ?_⟩
        by_cases c : z.2 = 2
        · refine ifT (by simp [c]) ?_
          refine ⟨_, rfl, _, hE, ?_, same_put s2 hD2, ?_⟩
          · have z1 := List.length_filter_le (fun q : Int × Int => decide (q.2 = 2)) (prs.take i)
            rw [List.length_take] at z1
            rw [List.length_map, List.length_map]
            exact small1000 (by omega)
          · show upd _ _ _ D2 = _
            rw [upd_same, ints_app, tf, if_pos c]
        · refine ifF (by simp [c]) ?_
          refine ⟨s2, ?_⟩
          show H' D2 = _
          rw [hE, tf, if_neg c, List.append_nil]
      · rintro H2 ⟨s2, hE⟩
        rw [List.length_map, lt, List.take_length] at hE
        refine fun x dx nx nd ne => ?_
        have s3 : Same H2 (upd (upd H2 dx (.own x)) x (.ins C dx [])) := same_new (same_new (Same.refl H2) nd) (by rw [upd_ne (Ne.symm ne)]; exact nx)
        refine ⟨x, dx, D, D2, n, _, _, rfl, upd_same, s3 _ _ (s2 _ _ hD'), s3 _ _ hE, G.good, fun H5 row kp => ⟨rfl, ?_⟩⟩
        exact q x H5 (same_ins (s1.trans s2) nx nd kp) (row.mono fun c o e => ⟨o, s3 _ _ (s2 _ _ (s1 _ _ e))⟩)
end
end Cw
namespace Cw
open PySem L2
/-! ## min of four whole numbers -/
theorem min4_args (vs : List Value) (h : vs.length = 4) : argsOk "min" ⟨vs, []⟩ := by
  match vs, h with
  | [p, q, r, s], _ => unfold argsOk; kernel_rfl
section
variable {P : Program} {w : World} {A : Around} {E : Value → Shared → Prop} {s : Shared}
/-- min of four values whose tuple is walked -/
theorem min4_walked {vs : List Value} (h4 : vs.length = 4) {Q : Value → Shared → Prop}
    (go : wpAny (model P w) A.in1 (pyIter (.ref s.heap.objs.size)) (fun it s1 => ∃ J fs ws k Pv Sv less, it = .ref J ∧ Walks P w A.in1 J fs ws k Pv Sv ∧ Sv 0 s1.heap ∧ (∀ d ∈ fs, d < s1.heap.objs.size) ∧ 0 < k ∧ CmpOf P w A.in1 .Lt Pv less ∧
      ∀ v h1 t1, Pv (argBest less (k - 1)) v → (∀ d o, d ∉ ws → s1.heap.get? d = some o → h1.get? d = some o) → Q v { s1 with heap := h1, toks := t1 }) E
      { s with heap := s.heap.push { cls := .type "tuple", data := .seq vs.toArray } }) :
    wpAny (model P w) A (call (.builtin "min") vs) Q E s := by
  match vs, h4 with
  | [p, q, r, u], _ =>
    refine call_function_tree F.kind_min F.plain_min F.entry_min (min4_args [p, q, r, u] rfl) (wpAny_bind (wpAny_of_eq (a := [none, none]) rfl (wpAny_bind (wpAny_newObj_type (wpAny_bind (wpAny_mono go (fun it s1 g => ?_) fun _ _ e => e))))))
    obtain ⟨J, fs, ws, k, Pv, Sv, less, e, wk, st, fr, k0, cmp, out⟩ := g
    subst e
    have new : s1.heap.objs.size ∉ fs := fun m => absurd (fr _ m) (Nat.lt_irrefl _)
    have nm : (toString "min" ++ toString ".loop" : String) = "min.loop" := by decide
    refine wpAny_bind (wpAny_newObj_type ?_)
    rw [nm]
    refine wpAny_pure ⟨plainId_quiet F.plain_min_loop _, codeAny_min_loop_first wk less cmp s1.heap.objs.size new k0 (wk.frame _ _ _ st fun d _ o e => Heap.get?_push_of_some _ e) (Heap.get?_push_size _ rfl) fun v h1 t1 pv keep =>
      out v h1 t1 pv fun d o nd e => keep d o nd (Nat.ne_of_lt (Heap.lt_size e)) (Heap.get?_push_of_some _ e)⟩
theorem min4_ints {a b c d : Int} {t u x y : Tok} {Q : Value → Shared → Prop} (nh : A.handled = none)
    (out : ∀ m r h1 t1, (∀ z o, s.heap.get? z = some o → h1.get? z = some o) → (m = a ∨ m = b ∨ m = c ∨ m = d) → m ≤ a → m ≤ b → m ≤ c → m ≤ d → Q (.int m r) { s with heap := h1, toks := t1 }) :
    wpAny (model P w) A (call (.builtin "min") [.int a t, .int b u, .int c x, .int d y]) Q E s := by
  obtain ⟨xs, hxs⟩ : ∃ xs : Array (Int × Tok), xs = #[(a, t), (b, u), (c, x), (d, y)] := ⟨_, rfl⟩
  have items : intItems xs = #[.int a t, .int b u, .int c x, .int d y] := by rw [hxs]; simp [intItems]
  have tup : (s.heap.push { cls := .type "tuple", data := .seq #[.int a t, .int b u, .int c x, .int d y] }).IsTuple s.heap.objs.size (intItems xs) := ⟨_, Heap.get?_push_size _ rfl, rfl, 0, by rw [items]⟩
  have size1 : (s.heap.push { cls := .type "tuple", data := .seq #[.int a t, .int b u, .int c x, .int d y] }).objs.size = s.heap.objs.size + 1 := Heap.size_push ..
  have four : (intItems xs).size = 4 := by rw [items]; rfl
  have lt0 : s.heap.objs.size < s.heap.objs.size + 1 := Nat.lt_succ_self _
  refine min4_walked (vs := [.int a t, .int b u, .int c x, .int d y]) rfl (wpAny_pyIter_tuple tup ⟨_, [_, s.heap.objs.size], [_], _, _, _, _, rfl, Walks.tuple (A := A.in1) nh _ s.heap.objs.size (by rw [size1]; exact Nat.ne_of_lt lt0) (intItems xs),
    ⟨⟨_, Heap.get?_push_size _ rfl, rfl, rfl⟩, tup.push _⟩, fun z hz => ?_, by rw [four]; decide, CmpOf.ints_lt (numAt xs) (fun _ _ => intItems_at), fun v h1 t1 pv keep => ?_⟩)
  · show z < ((s.heap.push _).push _).objs.size
    rw [Heap.size_push, size1]
    simp only [List.mem_cons, List.not_mem_nil, or_false] at hz
    rcases hz with rfl | rfl
    · rw [size1]; exact Nat.lt_succ_self _
    · exact Nat.lt_succ_of_lt lt0
  have kept : ∀ z o, s.heap.get? z = some o → h1.get? z = some o := fun z o e => keep z o (fun m => by
    have l := Heap.lt_size e
    rw [List.mem_singleton.mp m, size1] at l
    exact Nat.lt_irrefl _ (Nat.lt_of_succ_lt l)) (Heap.get?_push_of_some _ (Heap.get?_push_of_some _ e))
  have pv3 : (intItems xs)[argBest (fun i j => decide (numAt xs i < numAt xs j)) 3]? = some v := by
    have e3 : (intItems xs).size - 1 = 3 := by rw [four]
    rw [← e3]
    exact pv
  obtain ⟨j3, least⟩ := argBest_lt (numAt xs) 3
  obtain ⟨r, rfl⟩ := intItems_at pv3
  have at0 : numAt xs 0 = a := by rw [hxs]; rfl
  have at1 : numAt xs 1 = b := by rw [hxs]; rfl
  have at2 : numAt xs 2 = c := by rw [hxs]; rfl
  have at3 : numAt xs 3 = d := by rw [hxs]; rfl
  refine out _ r h1 t1 kept ?_ (at0 ▸ least 0 (by decide)) (at1 ▸ least 1 (by decide)) (at2 ▸ least 2 (by decide)) (at3 ▸ least 3 (by decide))
  generalize argBest (fun i j => decide (numAt xs i < numAt xs j)) 3 = j at j3 ⊢
  match j, j3 with
  | 0, _ => exact .inl at0
  | 1, _ => exact .inr (.inl at1)
  | 2, _ => exact .inr (.inr (.inl at2))
  | 3, _ => exact .inr (.inr (.inr at3))
  | j + 4, h => omega
end
theorem vals4 {x y z u : V} {us : List Value} (r : Vals [x, y, z, u] us) : ∃ a b c d, us = [a, b, c, d] ∧ RelV x a ∧ RelV y b ∧ RelV z c ∧ RelV u d := by
  cases r with
  | cons r1 r2 =>
    obtain ⟨b, c, d, rfl, r3, r4, r5⟩ := vals3 r2
    exact ⟨_, b, c, d, rfl, r1, r3, r4, r5⟩
theorem call_min4 {X : Cx} (hc : X.calm = true) : CallR X (.builtin "min") (fun xs H Q => ∃ a b c d, xs = [.int a, .int b, .int c, .int d] ∧ ∀ m, (m = a ∨ m = b ∨ m = c ∨ m = d) → m ≤ a → m ≤ b → m ≤ c → m ≤ d → Q (.int m) H) := by
  intro pins s σ H xs us Q I r h
  obtain ⟨a, b, c, d, rfl, q⟩ := h
  obtain ⟨u1, u2, u3, u4, rfl, ⟨t, rfl⟩, ⟨t2, rfl⟩, ⟨t3, rfl⟩, ⟨t4, rfl⟩⟩ := vals4 r
  exact min4_ints (I.ok.hd hc) fun m r h2 tk k e1 l1 l2 l3 l4 => ⟨.int m, H, I.kept k, ⟨_, rfl⟩, q m e1 l1 l2 l3 l4⟩
end Cw
namespace Cw
open PySem L2
abbrev sCSet : Stmt := top 18
abbrev sCPl : Stmt := top 19
abbrev sCSz : Stmt := top 20
abbrev sCLen : Stmt := top 21
abbrev sNext : Stmt := top 23
abbrev sWalk : Stmt := top 24
abbrev sWithin : Stmt := top 26
abbrev sCWk : Stmt := top 28
abbrev sStep : Stmt := top 29
abbrev sCuts : Stmt := top 30
abbrev sFM : Stmt := top 31
abbrev sCB : Stmt := top 32
abbrev sMeet : Stmt := top 0
/-! ## how many are before -/
def cb (ns : List Int) (z : Int) : Nat := (ns.filter fun x => decide (x < z)).length
def fm (ns : List Int) (z e : Int) : Int := (ns[cb ns z]?).getD e
theorem cb_le {ns : List Int} {z : Int} : cb ns z ≤ ns.length := List.length_filter_le _ _
theorem cb_at {ns : List Int} {z : Int} {k : Nat} (hk : k ≤ ns.length) (h1 : ∀ i, i < k → ∀ x, ns[i]? = some x → x < z) (h2 : ∀ i, k ≤ i → ∀ x, ns[i]? = some x → z ≤ x) : cb ns z = k := by
  have e : ns = ns.take k ++ ns.drop k := (List.take_append_drop k ns).symm
  unfold cb
  rw [e, List.filter_append, List.length_append]
  have a1 : (ns.take k).filter (fun x => decide (x < z)) = ns.take k := List.filter_eq_self.mpr fun x hx => by
    obtain ⟨i, hi, rfl⟩ := List.mem_iff_getElem.mp hx
    rw [List.length_take] at hi
    refine decide_eq_true (h1 i (by omega) _ ?_)
    rw [List.getElem_take]
    exact List.getElem?_eq_getElem (by omega)
  have a2 : (ns.drop k).filter (fun x => decide (x < z)) = [] := List.filter_eq_nil_iff.mpr fun x hx => by
    obtain ⟨i, hi, rfl⟩ := List.mem_iff_getElem.mp hx
    rw [List.length_drop] at hi
    have := h2 (k + i) (by omega) (ns.drop k)[i] (by rw [List.getElem_drop]; exact List.getElem?_eq_getElem (by omega))
    simp only [decide_eq_true_eq]
    omega
  rw [a1, a2, List.length_take]
  simp
  omega
theorem asc_ix {ns : List Int} (h : Asc ns) {i j : Nat} {x y : Int} (hij : i < j) (hx : ns[i]? = some x) (hy : ns[j]? = some y) : x < y := by
  obtain ⟨li, rfl⟩ := List.getElem?_eq_some_iff.mp hx
  obtain ⟨lj, rfl⟩ := List.getElem?_eq_some_iff.mp hy
  exact List.pairwise_iff_getElem.mp h i j li lj hij
/-- what stands on both sides of the number of those before -/
theorem cb_split {ns : List Int} (h : Asc ns) (z : Int) : (∀ i, i < cb ns z → ∀ x, ns[i]? = some x → x < z) ∧ (∀ i, cb ns z ≤ i → ∀ x, ns[i]? = some x → z ≤ x) := by
  induction ns with
  | nil => exact ⟨fun i _ x e => by simp at e, fun i _ x e => by simp at e⟩
  | cons a r ih =>
    obtain ⟨ha, hr⟩ := List.pairwise_cons.mp h
    obtain ⟨i1, i2⟩ := ih hr
    by_cases c : a < z
    · have e : cb (a :: r) z = cb r z + 1 := by
        unfold cb
        rw [List.filter_cons, if_pos (decide_eq_true c)]
        rfl
      rw [e]
      refine ⟨fun i hi x hx => ?_, fun i hi x hx => ?_⟩
      · cases i with
        | zero => cases hx; exact c
        | succ i => exact i1 i (by omega) x hx
      · cases i with
        | zero => omega
        | succ i => exact i2 i (by omega) x hx
    · have e : cb (a :: r) z = 0 := by
        unfold cb
        rw [List.filter_eq_nil_iff.mpr fun x hx => ?_]
        · rfl
        · rcases List.mem_cons.mp hx with rfl | hx
          · simpa using c
          · have := ha x hx
            simp only [decide_eq_true_eq]
            omega
      rw [e]
      refine ⟨fun i hi => by omega, fun i _ x hx => ?_⟩
      cases i with
      | zero => cases hx; omega
      | succ i =>
        have := ha x (List.mem_of_getElem? hx)
        omega
theorem fm_or {ns : List Int} (h : Asc ns) (z e : Int) : (fm ns z e ∈ ns ∧ z ≤ fm ns z e) ∨ (fm ns z e = e ∧ ∀ x ∈ ns, x < z) := by
  obtain ⟨h1, h2⟩ := cb_split h z
  unfold fm
  by_cases c : cb ns z < ns.length
  · have hg := List.getElem?_eq_getElem c
    rw [hg]
    exact .inl ⟨List.getElem_mem c, h2 _ (Nat.le_refl _) _ hg⟩
  · rw [List.getElem?_eq_none (by omega)]
    refine .inr ⟨rfl, fun x hx => ?_⟩
    obtain ⟨i, hi, rfl⟩ := List.mem_iff_getElem.mp hx
    exact h1 i (by omega) _ (List.getElem?_eq_getElem hi)
theorem fm_le {ns : List Int} (h : Asc ns) {z e x : Int} (hx : x ∈ ns) (hz : z ≤ x) : fm ns z e ≤ x := by
  obtain ⟨h1, h2⟩ := cb_split h z
  obtain ⟨i, hi, rfl⟩ := List.mem_iff_getElem.mp hx
  have hg := List.getElem?_eq_getElem hi
  have c : cb ns z ≤ i := by
    by_cases c : i < cb ns z
    · have := h1 i c _ hg
      omega
    · omega
  unfold fm
  by_cases d : cb ns z = i
  · rw [d, hg]
    exact Int.le_refl _
  · have l : cb ns z < ns.length := by omega
    rw [List.getElem?_eq_getElem l]
    have := asc_ix h (by omega : cb ns z < i) (List.getElem?_eq_getElem l) hg
    show ns[cb ns z] ≤ ns[i]
    omega
theorem fm_top {ns : List Int} (h : Asc ns) {z e : Int} (k : ∀ x ∈ ns, x ≤ e) : fm ns z e ≤ e := by
  rcases fm_or h z e with ⟨m, _⟩ | ⟨m, _⟩
  · exact k _ m
  · omega
theorem fm_mono {ns : List Int} (h : Asc ns) {z y e : Int} (k : ∀ x ∈ ns, x ≤ e) (hz : z ≤ y) : fm ns z e ≤ fm ns y e := by
  rcases fm_or h y e with ⟨m, l⟩ | ⟨m, _⟩
  · exact fm_le h m (by omega)
  · rw [m]
    exact fm_top h k
def spCB : Sp := fun vs H Q _ => ∃ (a : Addr) (ns : List Int) (z : Int), vs = [.ref a, .int z] ∧ IL H a ns ∧ ns.length ≤ 1000 ∧ Asc ns ∧ Q (.int (cb ns z)) H
def spFM : Sp := fun vs H Q _ => ∃ (a : Addr) (ns : List Int) (z e : Int), vs = [.ref a, .int z, .int e] ∧ IL H a ns ∧ ns.length ≤ 1000 ∧ Asc ns ∧ Q (.int (fm ns z e)) H
def muCB : St → Hp → Nat := fun σ _ => match σ with | [_, _, some (.int lo), some (.int hi), _] => (hi - lo).toNat | _ => 0
section
variable {P : Program} {w : World} {K : PySem.W.Frag} {mg : Str → Option Value} {base : Heap}
abbrev NCB : List Str := ["places", "place", "low", "high", "middle"]
theorem scCB : FnScope NCB ["places", "place"] (defScope sCB) := ⟨rfl, rfl, rfl, by decide +kernel, rfl, by decide +kernel, by decide +kernel⟩
theorem ok_cb {f : Addr} {fd : FuncData} (F : Fun K "count_before" "count_before" sCB f fd) (T : Bl mg) : FnOk P w K mg base CX0 1 f fd ["places", "place"] spCB := by
  refine F.ok scCB (fun vs H Q E h => ?_) (fun cdv A outer s H vs Q E hr h => ?_)
  · obtain ⟨a, ns, z, rfl, _⟩ := h
    rfl
  · obtain ⟨a, ns, z, rfl, hS, hl, ha, q⟩ := h
    refine ⟨_, pss_cons (ps_set (i := 2) scCB.nd rfl (Or.inl rfl) pe_int)
      (pss_cons (ps_set (i := 3) scCB.nd rfl (Or.inl rfl) (pe_callB call_len_seq (by rfl) T.len PySem.boot_len (pa_cons (pv 0) pa_nil)))
      (pss_cons (ps_while PassesOwn.never (pt_cmpR op_lt (pv 2) (pv 3) (nomark _))
        (pss_cons (ps_set (i := 4) scCB.nd rfl (Or.inl rfl) (pe_op op_fdiv (pe_op op_add (pv 2) (pv 3)) pe_int))
        (pss_one (ps_if (pt_cmpR op_lt (pe_ix (r := rIxL K) ix_list (pv 0) (pv 4) (fun _ _ => rfl)) (pv 1) (nomark _))
          (pss_one (ps_set (i := 2) scCB.nd rfl (Or.inl rfl) (pe_op op_add (pv 4) pe_int)))
          (pss_one (ps_set (i := 3) scCB.nd rfl (Or.inl rfl) (pv 4)))))))
      (pss_one (ps_ret (pv 2))))), ?_⟩
    refine ⟨_, rfl, a, _, rfl, .inl (SqL.of hS), ?_⟩
    rw [List.length_map]
    refine while_by (fun σ H' => ∃ (lo hi : Nat) (v : Option V), σ = [some (.ref a), some (.int z), some (.int lo), some (.int hi), v] ∧ H' = H ∧ lo ≤ hi ∧ hi ≤ ns.length ∧ (∀ i, i < lo → ∀ x, ns[i]? = some x → x < z) ∧ (∀ i, hi ≤ i → ∀ x, ns[i]? = some x → z ≤ x))
      muCB ⟨0, ns.length, none, rfl, rfl, Nat.zero_le _, Nat.le_refl _, fun i hi => absurd hi (Nat.not_lt_zero _), fun i hi x e => by rw [List.getElem?_eq_none hi] at e; cases e⟩ ?_
      (fun σ H Q Q' hQ h => by obtain ⟨x, e1, y, e2, i, j, e3, e4, k, e5, q⟩ := h; exact ⟨x, e1, y, e2, i, j, e3, e4, k, e5, hQ _ _ q⟩)
    rintro σ H' ⟨lo, hi, v, rfl, rfl, l1, l2, h1, h2⟩
    refine ⟨_, rfl, _, rfl, _, _, rfl, rfl, _, rfl, ?_⟩
    by_cases c : (lo : Int) < hi
    · refine ifT (decide_eq_true c) ?_
      refine ⟨_, rfl, _, rfl, _, _, rfl, rfl, _, _, rfl, rfl, ⟨by decide, by decide⟩, ?_⟩
      dsimp only
      obtain ⟨m, hm⟩ : ∃ m : Nat, ((lo : Int) + hi) / 2 = m := ⟨(lo + hi) / 2, by omega⟩
      have m1 : lo ≤ m := by omega
      have m2 : m < hi := by omega
      rw [hm]
      have ml : m < ns.length := by omega
      have hg := List.getElem?_eq_getElem ml
      refine ⟨_, rfl, _, rfl, a, _, _, V.int ns[m], rfl, rfl, SqL.of hS, at_of2 (j := m) rfl (by rw [List.getElem?_map, hg]; rfl), _, rfl, _, _, rfl, rfl, _, rfl, ?_⟩
      by_cases d : ns[m] < z
      · refine ifT (decide_eq_true d) ?_
        refine ⟨_, rfl, _, _, rfl, rfl, ⟨m + 1, hi, _, rfl, rfl, by omega, l2, fun i hi' x hx => ?_, h2⟩, ?_⟩
        · by_cases e : i = m
          · subst e
            rw [hg] at hx
            cases hx
            exact d
          · have := asc_ix ha (by omega : i < m) hx hg
            omega
        · show ((hi : Int) - ((m : Int) + 1)).toNat < ((hi : Int) - lo).toNat
          omega
      · refine ifF (decide_eq_false d) ?_
        refine ⟨_, rfl, ⟨lo, m, _, rfl, rfl, by omega, by omega, h1, fun i hi' x hx => ?_⟩, ?_⟩
        · by_cases e : i = m
          · subst e
            rw [hg] at hx
            cases hx
            omega
          · have := asc_ix ha (by omega : m < i) hg hx
            omega
        · show ((m : Int) - lo).toNat < ((hi : Int) - lo).toNat
          omega
    · refine ifF (decide_eq_false c) ?_
      refine ⟨_, rfl, ?_⟩
      have e : lo = hi := by omega
      subst e
      rw [← cb_at l2 h1 h2] at *
      exact q
abbrev NFM : List Str := ["marks", "place", "end", "at"]
theorem scFM : FnScope NFM ["marks", "place", "end"] (defScope sFM) := ⟨rfl, rfl, rfl, by decide +kernel, rfl, by decide +kernel, by decide +kernel⟩
theorem ok_fm {f fB : Addr} {fd fdB : FuncData} (F : Fun K "first_mark" "first_mark" sFM f fd) (T : Bl mg) (gB : mg "count_before" = some (.ref fB)) (kB : PySem.W.keepIn K (.ref fB) = true) (bB : Binds K fdB ["places", "place"] []) (GB : FnOk P w K mg base CX0 1 fB fdB ["places", "place"] spCB) :
    FnOk P w K mg base CX0 2 f fd ["marks", "place", "end"] spFM := by
  refine F.ok scFM (fun vs H Q E h => ?_) (fun cdv A outer s H vs Q E hr h => ?_)
  · obtain ⟨a, ns, z, e, rfl, _⟩ := h
    rfl
  · obtain ⟨a, ns, z, e, rfl, hS, hl, ha, q⟩ := h
    refine ⟨_, pss_cons (ps_set (i := 3) scFM.nd rfl (Or.inl rfl) (pe_call GB hr rfl gB kB bB .nil pass0 (pa_cons (pv 0) (pa_cons (pv 1) pa_nil))))
      (pss_one (ps_ret (pe_ifExp (pt_cmpR op_lt (pv 3) (pe_callB call_len_seq (by rfl) T.len PySem.boot_len (pa_cons (pv 0) pa_nil)) (nomark _)) (pe_ix (r := rIxL K) ix_list (pv 0) (pv 3) (fun _ _ => rfl)) (pv 2)))), ?_⟩
    refine ⟨_, rfl, _, rfl, a, ns, z, rfl, hS, hl, ha, ?_⟩
    refine ⟨_, rfl, _, rfl, a, _, rfl, .inl (SqL.of hS), _, _, rfl, rfl, _, rfl, ?_⟩
    rw [List.length_map]
    unfold fm at q
    by_cases c : cb ns z < ns.length
    · have hg := List.getElem?_eq_getElem c
      refine ifT (decide_eq_true (by omega)) ?_
      rw [hg] at q
      exact ⟨_, rfl, _, rfl, a, _, _, _, rfl, rfl, SqL.of hS, at_of2 (j := cb ns z) rfl (by rw [List.getElem?_map, hg]; rfl), q⟩
    · refine ifF (decide_eq_false (by omega)) ?_
      rw [List.getElem?_eq_none (by omega)] at q
      exact ⟨_, rfl, q⟩
end
end Cw
namespace Cw
open PySem L2
abbrev sGetL : Stmt := inClass sRow 1
abbrev sGetS : Stmt := inClass sRow 3
def spGetL (C : Addr) : Sp := fun vs H Q _ => ∃ (a : Addr) (n : Int) (ms ss : List Int), vs = [.ref a] ∧ RowAt C H a n ms ss ∧ Q (.int n) H
def spGetS (C : Addr) : Sp := fun vs H Q _ => ∃ (a : Addr) (n : Int) (ms ss : List Int), vs = [.ref a] ∧ RowAt C H a n ms ss ∧ ∀ p H', Same H H' → H p = none → IL H' p ss → Q (.ref p) H'
/-! ## the next cut -/
def nx (n : Int) (ms ss : List Int) (l m g p : Int) : Int := min (min (fm ss (p + l) n) (fm ms (p + m) n)) (min (p + g) n)
/-- settings -/
structure SetOk (l m g : Int) : Prop where
  l1 : 1 ≤ l
  lm : l ≤ m
  mg : m ≤ g
/-- what a step does -/
structure Stp (F : Int → Int) (n l : Int) : Prop where
  l1 : 1 ≤ l
  le : ∀ p, F p ≤ n
  ge : ∀ p, p + l ≤ F p ∨ F p = n
  mono : ∀ p q, p ≤ q → F p ≤ F q
theorem Stp.gt {F : Int → Int} {n l p : Int} (S : Stp F n l) (h : p < n) : p < F p := by
  have := S.ge p
  have := S.l1
  omega
theorem nx_stp {n l m g : Int} {ms ss : List Int} (G : Good n ms ss) (S : SetOk l m g) : Stp (nx n ms ss l m g) n l := by
  have k1 : ∀ x ∈ ms, x ≤ n := fun x hx => by have := G.rng x hx; omega
  have k2 : ∀ x ∈ ss, x ≤ n := fun x hx => k1 x (G.sub x hx)
  have s1 := S.l1
  have s2 := S.lm
  have s3 := S.mg
  refine ⟨s1, fun p => ?_, fun p => ?_, fun p q h => ?_⟩
  · unfold nx
    omega
  · have a := fm_or G.asc2 (p + l) n
    have b := fm_or G.asc (p + m) n
    unfold nx
    omega
  · have a := fm_mono G.asc2 k2 (z := p + l) (y := q + l) (by omega)
    have b := fm_mono G.asc k1 (z := p + m) (y := q + m) (by omega)
    unfold nx
    omega
/-! ## walks -/
def kc (F : Int → Int) (n s : Int) : Nat → Int
  | 0 => s
  | k + 1 => if kc F n s k < n then F (kc F n s k) else kc F n s k
def wl (F : Int → Int) (n s : Int) (m : Nat) : List Int := (List.range (m + 1)).map (kc F n s)
theorem wl_succ {F : Int → Int} {n s : Int} {m : Nat} : wl F n s (m + 1) = wl F n s m ++ [kc F n s (m + 1)] := by
  unfold wl
  rw [List.range_succ, List.map_append]
  rfl
theorem wl_len {F : Int → Int} {n s : Int} {m : Nat} : (wl F n s m).length = m + 1 := by
  unfold wl
  rw [List.length_map, List.length_range]
theorem kc_le {F : Int → Int} {n l s : Int} (S : Stp F n l) (h : s ≤ n) : ∀ k, kc F n s k ≤ n
  | 0 => h
  | k + 1 => by
    have i := kc_le S h k
    unfold kc
    by_cases c : kc F n s k < n
    · rw [if_pos c]
      exact S.le _
    · rw [if_neg c]
      exact i
theorem kc_ge {F : Int → Int} {n l s : Int} (S : Stp F n l) : ∀ k : Nat, kc F n s k < n → s + k * l ≤ kc F n s k
  | 0, _ => by
    show s + ((0 : Nat) : Int) * l ≤ s
    simp
  | k + 1, h => by
    by_cases c : kc F n s k < n
    · have e : kc F n s (k + 1) = F (kc F n s k) := if_pos c
      have i := kc_ge S k c
      have z := S.ge (kc F n s k)
      rw [e] at h ⊢
      have w : ((k + 1 : Nat) : Int) * l = k * l + l := by
        rw [Int.natCast_add, Int.add_mul]
        simp
      rw [w]
      omega
    · have e : kc F n s (k + 1) = kc F n s k := if_neg c
      omega
theorem kc_few {F : Int → Int} {n l s : Int} (S : Stp F n l) (h0 : 0 ≤ s) (b : n ≤ 200 * l) {k : Nat} (h : kc F n s k < n) : k < 200 := by
  have z := kc_ge S k h
  have l1 := S.l1
  by_cases c : k < 200
  · exact c
  · have w : (200 : Int) * l ≤ k * l := Int.mul_le_mul_of_nonneg_right (by omega) (by omega)
    omega
theorem kc_at {F : Int → Int} {n s : Int} {k : Nat} (h : kc F n s k < n) : kc F n s (k + 1) = F (kc F n s k) := if_pos h
theorem kc_end {F : Int → Int} {n s : Int} {m : Nat} (h : ¬ kc F n s m < n) : ∀ j, kc F n s (m + j) = kc F n s m
  | 0 => rfl
  | j + 1 => by
    have i := kc_end h j
    show (if kc F n s (m + j) < n then F (kc F n s (m + j)) else kc F n s (m + j)) = _
    rw [i, if_neg h]
/-- how many cuts a walk has -/
structure WkOk (F : Int → Int) (n s : Int) (m : Nat) : Prop where
  few : m ≤ 200
  fin : kc F n s m = n
  bef : ∀ i, i < m → kc F n s i < n
def spStep (C : Addr) : Sp := fun vs H Q _ => ∃ (r t : Addr) (n l m g p : Int) (ms ss : List Int), vs = [.ref r, .ref t, .int p] ∧ RowAt C H r n ms ss ∧ H t = some (.tup [.int l, .int m, .int g]) ∧ Good n ms ss ∧ ∀ H', Same H H' → Q (.int (nx n ms ss l m g p)) H'
def spCuts (C : Addr) : Sp := fun vs H Q _ => ∃ (r t : Addr) (n l m g p : Int) (ms ss : List Int), vs = [.ref r, .ref t, .int p] ∧ RowAt C H r n ms ss ∧ H t = some (.tup [.int l, .int m, .int g]) ∧ Good n ms ss ∧ SetOk l m g ∧ n ≤ 200 * l ∧ 0 ≤ p ∧ p ≤ n ∧
  ∀ q H' k, Same H H' → H q = none → WkOk (nx n ms ss l m g) n p k → IL H' q (wl (nx n ms ss l m g) n p k) → Q (.ref q) H'
/-- the getters -/
structure Gets (P : Program) (w : World) (K : PySem.W.Frag) (mg : Str → Option Value) (base : Heap) (C pL fL pM fM pS fS : Addr) (dL dM dS : FuncData) : Prop where
  hL : PropOf K C "length" pL fL
  bL : Binds K dL ["self"] []
  GL : FnOk P w K mg base CX0 1 fL dL ["self"] (spGetL C)
  hM : PropOf K C "marks" pM fM
  bM : Binds K dM ["self"] []
  GM : FnOk P w K mg base CX0 1 fM dM ["self"] (spGetM C)
  hS : PropOf K C "strict" pS fS
  bS : Binds K dS ["self"] []
  GS : FnOk P w K mg base CX0 1 fS dS ["self"] (spGetS C)
section
variable {P : Program} {w : World} {K : PySem.W.Frag} {mg : Str → Option Value} {base : Heap}
theorem scGL : FnScope ["self"] ["self"] (defScope sGetL) := ⟨rfl, rfl, rfl, by decide +kernel, rfl, by decide +kernel, by decide +kernel⟩
theorem ok_getL {f C : Addr} {fd : FuncData} (F : Fun K "length" "Row.length" sGetL f fd) (R : Cl K mg C) : FnOk P w K mg base CX0 1 f fd ["self"] (spGetL C) := by
  refine F.ok scGL (fun vs H Q E h => ?_) (fun cdv A outer s H vs Q E hr h => ?_)
  · obtain ⟨a, n, ms, ss, rfl, _⟩ := h
    rfl
  · obtain ⟨a, n, ms, ss, rfl, ⟨dx, l1, l2, ho, h1, h2⟩, k⟩ := h
    refine ⟨_, pss_one (ps_ret (pe_fld (pv 0) rfl)), ?_⟩
    exact ⟨_, rfl, a, C, dx, _, _, rfl, ho, R.cl, R.nL, fl_L _ _ _, k⟩
theorem scGS : FnScope ["self"] ["self"] (defScope sGetS) := ⟨rfl, rfl, rfl, by decide +kernel, rfl, by decide +kernel, by decide +kernel⟩
theorem ok_getS {f C : Addr} {fd : FuncData} (F : Fun K "strict" "Row.strict" sGetS f fd) (T : Bl mg) (R : Cl K mg C) : FnOk P w K mg base CX0 1 f fd ["self"] (spGetS C) := by
  refine F.ok scGS (fun vs H Q E h => ?_) (fun cdv A outer s H vs Q E hr h => ?_)
  · obtain ⟨a, n, ms, ss, rfl, _⟩ := h
    rfl
  · obtain ⟨a, n, ms, ss, rfl, ⟨dx, l1, l2, ho, h1, h2⟩, k⟩ := h
    refine ⟨_, pss_one (ps_ret (pe_callTy call_list_of (by rfl) T.list (by decide +kernel) (pa_cons (pe_fld (pv 0) rfl) pa_nil))), ?_⟩
    refine ⟨_, rfl, a, C, dx, _, _, rfl, ho, R.cl, R.nS, fl_S _ _ _, l2, _, rfl, .inl (SqL.of h2), fun p hp => ?_⟩
    exact k p _ (same_new (Same.refl H) hp) hp upd_same
abbrev NSt : List Str := ["row", "settings", "place", "least", "normal", "greatest", "strict", "either"]
theorem scSt : FnScope NSt ["row", "settings", "place"] (defScope sStep) := ⟨rfl, rfl, rfl, by decide +kernel, rfl, by decide +kernel, by decide +kernel⟩
theorem ok_step {f C fF pL fL pM fM pS fS : Addr} {fd fdF dL dM dS : FuncData} (F : Fun K "step" "step" sStep f fd) (T : Bl mg) (R : Cl K mg C) (Gs : Gets P w K mg base C pL fL pM fM pS fS dL dM dS)
    (gF : mg "first_mark" = some (.ref fF)) (kF : PySem.W.keepIn K (.ref fF) = true) (bF : Binds K fdF ["marks", "place", "end"] []) (GF : FnOk P w K mg base CX0 2 fF fdF ["marks", "place", "end"] spFM) :
    FnOk P w K mg base CX0 3 f fd ["row", "settings", "place"] (spStep C) := by
  refine F.ok scSt (fun vs H Q E h => ?_) (fun cdv A outer s H vs Q E hr h => ?_)
  · obtain ⟨r, t, n, l, m, g, p, ms, ss, rfl, _⟩ := h
    rfl
  · obtain ⟨r, t, n, l, m, g, p, ms, ss, rfl, hR, hT, G, q⟩ := h
    refine ⟨_, pss_cons (ps_asg (pv 1) (pg_tup (by rfl) (pgs_cons (pg_name (i := 3) scSt.nd rfl (Or.inl rfl)) (pgs_cons (pg_name (i := 4) scSt.nd rfl (Or.inl rfl)) (pgs_cons (pg_name (i := 5) scSt.nd rfl (Or.inl rfl)) pgs_nil)))))
      (pss_cons (ps_set (i := 6) scSt.nd rfl (Or.inl rfl) (pe_call GF hr rfl gF kF bF .nil pass0 (pa_cons (pe_prop (pv 0) R.cl Gs.hS Gs.GS hr Gs.bS .nil pass0 rfl) (pa_cons (pe_op op_add (pv 2) (pv 3)) (pa_cons (pe_prop (pv 0) R.cl Gs.hL Gs.GL hr Gs.bL .nil pass0 rfl) pa_nil)))))
      (pss_cons (ps_set (i := 7) scSt.nd rfl (Or.inl rfl) (pe_call GF hr rfl gF kF bF .nil pass0 (pa_cons (pe_prop (pv 0) R.cl Gs.hM Gs.GM hr Gs.bM .nil pass0 rfl) (pa_cons (pe_op op_add (pv 2) (pv 4)) (pa_cons (pe_prop (pv 0) R.cl Gs.hL Gs.GL hr Gs.bL .nil pass0 rfl) pa_nil)))))
      (pss_one (ps_ret (pe_callB (call_min4 rfl) (by rfl) T.min (by decide +kernel) (pa_cons (pv 6) (pa_cons (pv 7) (pa_cons (pe_op op_add (pv 2) (pv 5)) (pa_cons (pe_prop (pv 0) R.cl Gs.hL Gs.GL hr Gs.bL .nil pass0 rfl) pa_nil))))))))), ?_⟩
    have lm := G.len
    have ls := G.len2
    obtain ⟨dx, l1, l2, ho, h1, h2⟩ := id hR
    refine ⟨_, rfl, t, _, rfl, SqT.of hT, rfl, _, _, rfl, _, _, rfl, _, _, rfl, rfl, ?_⟩
    refine ⟨_, rfl, r, dx, _, rfl, ho, r, n, ms, ss, rfl, hR, fun p1 H1 s1 n1 i1 => ?_⟩
    have R1 := hR.same s1
    have o1 := s1 _ _ ho
    refine ⟨_, rfl, _, rfl, _, _, rfl, rfl, _, rfl, r, dx, _, rfl, o1, r, n, ms, ss, rfl, R1, ?_⟩
    refine ⟨p1, ss, p + l, n, rfl, i1, by omega, G.asc2, ?_⟩
    refine ⟨_, rfl, r, dx, _, rfl, o1, r, n, ms, ss, rfl, R1, fun p2 H2 s2 n2 i2 => ?_⟩
    have R2 := R1.same s2
    have o2 := s2 _ _ o1
    refine ⟨_, rfl, _, rfl, _, _, rfl, rfl, _, rfl, r, dx, _, rfl, o2, r, n, ms, ss, rfl, R2, ?_⟩
    refine ⟨p2, ms, p + m, n, rfl, i2, by omega, G.asc, ?_⟩
    refine ⟨_, rfl, _, rfl, _, rfl, _, rfl, _, _, rfl, rfl, _, rfl, r, dx, _, rfl, o2, r, n, ms, ss, rfl, R2, ?_⟩
    refine ⟨_, _, _, _, rfl, fun v e a b c d => ?_⟩
    have z : v = nx n ms ss l m g p := by
      unfold nx
      omega
    rw [z]
    exact q H2 (s1.trans s2)
end
end Cw
namespace Cw
open PySem L2
def spCSet : Sp := fun vs H Q _ => ∃ (t : Addr) (l m g : Int), vs = [.ref t] ∧ H t = some (.tup [.int l, .int m, .int g]) ∧ SetOk l m g ∧ ∀ H', Same H H' → Q .non H'
def spPl : Sp := fun vs H Q _ => ∃ p lo hi : Int, vs = [.int p, .int lo, .int hi] ∧ lo ≤ p ∧ p ≤ hi ∧ Q .non H
def spSz (C : Addr) : Sp := fun vs H Q _ => ∃ (r t : Addr) (n l m g : Int) (ms ss : List Int), vs = [.ref r, .ref t] ∧ RowAt C H r n ms ss ∧ H t = some (.tup [.int l, .int m, .int g]) ∧ n ≤ 200 * l ∧ Q .non H
def spLen : Sp := fun vs H Q _ => ∃ (t : Addr) (n l m g : Int), vs = [.int n, .ref t] ∧ H t = some (.tup [.int l, .int m, .int g]) ∧ n ≤ 200 * l ∧ Q .non H
def lastZ : List V → Int
  | [.int z] => z
  | _ :: x :: r => lastZ (x :: r)
  | _ => 0
theorem lastZ_app (z : Int) : ∀ xs : List V, lastZ (xs ++ [.int z]) = z
  | [] => rfl
  | [x] => by cases x <;> rfl
  | x :: y :: r => by
    have i := lastZ_app z (y :: r)
    show lastZ (x :: y :: (r ++ [V.int z])) = z
    cases x <;> exact i
def muCu (n : Int) (D : Addr) : St → Hp → Nat := fun _ H => (n - (match H D with | some (.lst xs) => lastZ xs | _ => 0)).toNat
theorem muCu_at {n z : Int} {D : Addr} {H : Hp} {σ : St} {xs : List V} (h : H D = some (.lst (xs ++ [.int z]))) : muCu n D σ H = (n - z).toNat := by
  unfold muCu
  rw [h]
  show (n - lastZ (xs ++ [V.int z])).toNat = _
  rw [lastZ_app]
section
variable {P : Program} {w : World} {K : PySem.W.Frag} {mg : Str → Option Value} {base : Heap}
abbrev NCS : List Str := ["settings", "least", "normal", "greatest", "number"]
theorem scCS : FnScope NCS ["settings"] (defScope sCSet) := ⟨rfl, rfl, rfl, by decide +kernel, rfl, by decide +kernel, by decide +kernel⟩
theorem ok_cset {f fI : Addr} {fd fdI : FuncData} (F : Fun K "check_settings" "check_settings" sCSet f fd) (T : Bl mg) (gI : mg "is_integer" = some (.ref fI)) (kI : PySem.W.keepIn K (.ref fI) = true) (bI : Binds K fdI ["thing"] []) (GI : FnOk P w K mg base CX0 1 fI fdI ["thing"] spOne) :
    FnOk P w K mg base CX0 2 f fd ["settings"] spCSet := by
  refine F.ok scCS (fun vs H Q E h => ?_) (fun cdv A outer s H vs Q E hr h => ?_)
  · obtain ⟨t, l, m, g, rfl, _⟩ := h
    rfl
  · obtain ⟨t, l, m, g, rfl, ht, S, k⟩ := h
    refine ⟨_, pss_cons (ps_if (PW.pt (pw_or (pt_not (pt_val (pe_callB call_isi (by rfl) T.isi (by decide +kernel) (pa_cons (pv 0) (pa_cons (pe_bltn (by rfl) T.tuple (by decide +kernel) (v := V.ty "tuple") rfl) pa_nil)))))
        (pw_or1 (pt_cmpR op_ne (pe_callB call_len_seq (by rfl) T.len PySem.boot_len (pa_cons (pv 0) pa_nil)) pe_int (nomark _))))) pss_never pss_nil)
      (pss_cons (ps_if (pt_not (pt_val (pe_callB (cr_all rfl) (by rfl) T.all (by decide +kernel) (pa_cons (pe_lc (own := [("number", 4)]) (g := gName 4) (tt := tYes) rfl scCS.nd
        (pi_tup (pv 0)) (blkOk_by (own := [("number", 4)]) (N := NCS) (sc := defScope sCSet) (by decide +kernel)) (fun _ _ _ _ _ => pg_name (i := 4) scCS.nd rfl (Or.inl rfl)) (fun _ _ _ _ _ => pts_nil)
        (fun _ _ _ _ _ => pe_call GI hr rfl gI kI bI .nil pass0 (pa_cons (pv 4) pa_nil))) pa_nil)))) pss_never pss_nil)
      (pss_cons (ps_asg (pv 0) (pg_tup (by rfl) (pgs_cons (pg_name (i := 1) scCS.nd rfl (Or.inl rfl)) (pgs_cons (pg_name (i := 2) scCS.nd rfl (Or.inl rfl)) (pgs_cons (pg_name (i := 3) scCS.nd rfl (Or.inl rfl)) pgs_nil)))))
      (pss_one (ps_if (pt_not (pt_chain3 op_le op_le op_le pe_int (pv 1) (pv 2) (pv 3))) pss_never pss_nil)))), ?_⟩
    refine ⟨_, rfl, _, _, _, _, true, rfl, ClsV.ty _, .base (.tup ht), kit_ty (by decide +kernel), _, rfl, ?_⟩
    refine ifF rfl ?_
    refine ⟨_, rfl, t, _, rfl, .inr (SqT.of ht), rfl, _, rfl, ?_⟩
    refine ifF (by simp) ?_
    refine ⟨_, rfl, t, rfl, ⟨_, SqT.of ht⟩, fun D hD => ?_⟩
    have nt : t ≠ D := ne_of_none ht hD
    refine lc_tup (K := K) (a := t) (xs := [.int l, .int m, .int g]) (fun i H' => Same H H' ∧ H' D = some (.lst (List.replicate i (V.bl true))))
      ⟨same_new (Same.refl H) hD, upd_same⟩ (fun i H' _ q => SqT.of (q.1 _ _ ht)) ?_ ?_
    · rintro i x H' hx ⟨s2, h3⟩
      have hi : i < 3 := (List.getElem?_eq_some_iff.mp hx).1
      obtain ⟨z, rfl⟩ : ∃ z, x = V.int z := by
        have m := List.mem_of_getElem? hx
        simp only [List.mem_cons, List.not_mem_nil, or_false] at m
        rcases m with rfl | rfl | rfl <;> exact ⟨_, rfl⟩
      refine ⟨rfl, ?_⟩
      unfold tYes
      refine iteT ?_
      refine ⟨_, rfl, _, rfl, ?_⟩
      refine ⟨_, h3, by rw [List.length_replicate]; exact small1000 (by omega), same_put s2 hD, ?_⟩
      rw [upd_same, List.replicate_succ']
    · rintro H' ⟨s2, h3⟩
      refine ⟨D, List.replicate 3 true, rfl, SqL.of (by rw [h3, List.map_replicate]; rfl), _, rfl, ?_⟩
      rw [all_true]
      refine ifF rfl ?_
      refine ⟨_, rfl, t, _, rfl, SqT.of (s2 _ _ ht), rfl, _, _, rfl, _, _, rfl, _, _, rfl, rfl, ?_⟩
      have l1 := S.l1
      have lm := S.lm
      have mg' := S.mg
      refine ⟨_, rfl, _, _, rfl, rfl, _, rfl, ?_⟩
      refine ifT (by simp [l1]) ?_
      refine ⟨_, rfl, _, _, rfl, rfl, _, rfl, ?_⟩
      refine ifT (by simp [lm]) ?_
      refine ⟨_, rfl, _, _, rfl, rfl, _, rfl, ?_⟩
      refine ifF (by simp [mg']) ?_
      exact k _ s2
theorem scPl : FnScope ["place", "low", "high"] ["place", "low", "high"] (defScope sCPl) := ⟨rfl, rfl, rfl, by decide +kernel, rfl, by decide +kernel, by decide +kernel⟩
theorem ok_pl {f fI : Addr} {fd fdI : FuncData} (F : Fun K "check_place" "check_place" sCPl f fd) (gI : mg "is_integer" = some (.ref fI)) (kI : PySem.W.keepIn K (.ref fI) = true) (bI : Binds K fdI ["thing"] []) (GI : FnOk P w K mg base CX0 1 fI fdI ["thing"] spOne) :
    FnOk P w K mg base CX0 2 f fd ["place", "low", "high"] spPl := by
  refine F.ok scPl (fun vs H Q E h => ?_) (fun cdv A outer s H vs Q E hr h => ?_)
  · obtain ⟨p, lo, hi, rfl, _⟩ := h
    rfl
  · obtain ⟨p, lo, hi, rfl, h1, h2, q⟩ := h
    refine ⟨_, pss_one (ps_if (PW.pt (pw_or (pt_not (pt_val (pe_call GI hr rfl gI kI bI .nil pass0 (pa_cons (pv 0) pa_nil)))) (pw_or1 (pt_not (pt_chain op_le op_le (pv 1) (pv 0) (pv 2)))))) pss_never pss_nil), ?_⟩
    refine ⟨_, rfl, _, rfl, _, rfl, ?_⟩
    refine ifF rfl ?_
    refine ⟨_, rfl, _, rfl, _, _, rfl, rfl, _, rfl, ?_⟩
    refine ifT (decide_eq_true h1) ?_
    refine ⟨_, rfl, _, _, rfl, rfl, _, rfl, ?_⟩
    refine ifF (by simp [h2]) ?_
    exact q
theorem scLn : FnScope ["length", "settings"] ["length", "settings"] (defScope sCLen) := ⟨rfl, rfl, rfl, by decide +kernel, rfl, by decide +kernel, by decide +kernel⟩
theorem ok_len {f : Addr} {fd : FuncData} {tok : Tok} (F : Fun K "check_length" "check_length" sCLen f fd) (gN : mg "MOST_PIECES" = some (.int 200 tok)) :
    FnOk P w K mg base CX0 1 f fd ["length", "settings"] spLen := by
  refine F.ok scLn (fun vs H Q E h => ?_) (fun cdv A outer s H vs Q E hr h => ?_)
  · obtain ⟨t, n, l, m, g, rfl, _⟩ := h
    rfl
  · obtain ⟨t, n, l, m, g, rfl, ht, hn, q⟩ := h
    refine ⟨_, pss_one (ps_if (pt_cmpR op_gt (pv 0) (pe_op op_mul (pe_glob (by rfl) gN (v := V.int 200) ⟨_, rfl⟩) (pe_ix ix_tup (pv 1) pe_int (fun _ _ => rfl))) (nomark _)) pss_never pss_nil), ?_⟩
    refine ⟨_, rfl, _, rfl, t, _, _, _, rfl, rfl, SqT.of ht, at_of2 (j := 0) rfl rfl, _, _, rfl, rfl, .inl ⟨by decide, by decide⟩, _, _, rfl, rfl, _, rfl, ?_⟩
    refine ifF (decide_eq_false (by omega)) ?_
    exact q
theorem scSz : FnScope ["row", "settings"] ["row", "settings"] (defScope sCSz) := ⟨rfl, rfl, rfl, by decide +kernel, rfl, by decide +kernel, by decide +kernel⟩
theorem ok_sz {f C fN pL fL pM fM pS fS : Addr} {fd fdN dL dM dS : FuncData} (F : Fun K "check_size" "check_size" sCSz f fd) (R : Cl K mg C) (Gs : Gets P w K mg base C pL fL pM fM pS fS dL dM dS)
    (gN : mg "check_length" = some (.ref fN)) (kN : PySem.W.keepIn K (.ref fN) = true) (bN : Binds K fdN ["length", "settings"] []) (GN : FnOk P w K mg base CX0 1 fN fdN ["length", "settings"] spLen) :
    FnOk P w K mg base CX0 3 f fd ["row", "settings"] (spSz C) := by
  refine F.ok scSz (fun vs H Q E h => ?_) (fun cdv A outer s H vs Q E hr h => ?_)
  · obtain ⟨r, t, n, l, m, g, ms, ss, rfl, _⟩ := h
    rfl
  · obtain ⟨r, t, n, l, m, g, ms, ss, rfl, hR, ht, hn, q⟩ := h
    have hr1 : Room 1 (A.deeper (PyProof.Rows.envOfC "check_size" (defScope sCSz) s.heap.objs.size f cdv)) := hr.mono (by decide)
    refine ⟨_, pss_one (ps_expr (pe_call GN hr1 rfl gN kN bN .nil pass0 (pa_cons (pe_prop (pv 0) R.cl Gs.hL Gs.GL hr Gs.bL .nil pass0 rfl) (pa_cons (pv 1) pa_nil)))), ?_⟩
    obtain ⟨dx, l1, l2, ho, _, _⟩ := id hR
    refine ⟨_, rfl, r, dx, _, rfl, ho, r, n, ms, ss, rfl, hR, ?_⟩
    exact ⟨_, rfl, t, n, l, m, g, rfl, ht, hn, q⟩
abbrev NCu : List Str := ["row", "settings", "start", "cuts"]
theorem scCu : FnScope NCu ["row", "settings", "start"] (defScope sCuts) := ⟨rfl, rfl, rfl, by decide +kernel, rfl, by decide +kernel, by decide +kernel⟩
theorem ok_cuts {f C fS pL fL pM fM pS fSs : Addr} {fd fdS dL dM dS : FuncData} (F : Fun K "cuts_from" "cuts_from" sCuts f fd) (R : Cl K mg C) (Gs : Gets P w K mg base C pL fL pM fM pS fSs dL dM dS)
    (gS : mg "step" = some (.ref fS)) (kS : PySem.W.keepIn K (.ref fS) = true) (bS : Binds K fdS ["row", "settings", "place"] []) (GS : FnOk P w K mg base CX0 3 fS fdS ["row", "settings", "place"] (spStep C)) :
    FnOk P w K mg base CX0 4 f fd ["row", "settings", "start"] (spCuts C) := by
  refine F.ok scCu (fun vs H Q E h => ?_) (fun cdv A outer s H vs Q E hr h => ?_)
  · obtain ⟨r, t, n, l, m, g, p, ms, ss, rfl, _⟩ := h
    rfl
  · obtain ⟨r, t, n, l, m, g, p, ms, ss, rfl, hR, ht, G, S, big, p0, pn, q⟩ := h
    have hr2 : Room 2 (A.deeper (PyProof.Rows.envOfC "cuts_from" (defScope sCuts) s.heap.objs.size f cdv)) := hr.mono (by decide)
    refine ⟨_, pss_cons (ps_set (i := 3) scCu.nd rfl (Or.inl rfl) (pe_lst (pa_cons (pv 2) pa_nil)))
      (pss_cons (ps_while PassesOwn.never (pt_cmpR op_lt (pe_ix (r := rIxL K) ix_list (pv 3) (pe_un un_neg pe_int) (fun _ _ => rfl)) (pe_prop (pv 0) R.cl Gs.hL Gs.GL hr2 Gs.bL .nil pass0 rfl) (nomark _))
        (pss_one (ps_expr (pe_bm PySem.F.plainAttrs_list PySem.F.slot_list_append PySem.F.type_list_append mt_append (pv 3) (pa_cons (pe_call GS hr rfl gS kS bS .nil pass0 (pa_cons (pv 0) (pa_cons (pv 1) (pa_cons (pe_ix (r := rIxL K) ix_list (pv 3) (pe_un un_neg pe_int) (fun _ _ => rfl)) pa_nil)))) pa_nil)))))
      (pss_one (ps_ret (pv 3)))), ?_⟩
    have ST := nx_stp G S
    refine ⟨_, rfl, (by show 1 ≤ sizeLine; decide), fun D hD => ?_⟩
    refine while_by (fun σ H' => ∃ k, σ = [some (.ref r), some (.ref t), some (.int p), some (.ref D)] ∧ Same H H' ∧ IL H' D (wl (nx n ms ss l m g) n p k) ∧ (∀ i, i < k → kc (nx n ms ss l m g) n p i < n))
      (muCu n D) ⟨0, rfl, same_new (Same.refl H) hD, upd_same, fun i hi => absurd hi (Nat.not_lt_zero _)⟩ ?_
      (fun σ H Q Q' hQ h => by repeat' (first | exact hQ _ _ h | (obtain ⟨x, h⟩ := h; refine ⟨x, ?_⟩)))
    rintro σ H' ⟨k, rfl, s1, hI, hb⟩
    have R1 := hR.same s1
    obtain ⟨dx, l1, l2, ho, _, _⟩ := id R1
    have kle := kc_le ST pn k
    have few : k ≤ 200 := by
      by_cases c : k = 0
      · omega
      · have := kc_few ST p0 big (hb (k - 1) (by omega))
        omega
    obtain ⟨xs, hxs⟩ : ∃ xs, (wl (nx n ms ss l m g) n p k).map V.int = xs ++ [V.int (kc (nx n ms ss l m g) n p k)] := by
      unfold wl
      rw [List.range_succ, List.map_append, List.map_append]
      exact ⟨_, rfl⟩
    have at1 : atI ((wl (nx n ms ss l m g) n p k).map V.int) (-1) = some (V.int (kc (nx n ms ss l m g) n p k)) := by
      rw [hxs]
      exact atI_last _ _
    refine ⟨_, rfl, _, rfl, D, _, _, _, rfl, rfl, SqL.of hI, at1, ?_⟩
    refine ⟨_, rfl, r, dx, _, rfl, ho, r, n, ms, ss, rfl, R1, _, _, rfl, rfl, _, rfl, ?_⟩
    by_cases c : kc (nx n ms ss l m g) n p k < n
    · refine ifT (decide_eq_true c) ?_
      have few2 : k < 200 := kc_few ST p0 big c
      refine ⟨_, rfl, .inl ⟨rfl, _, SqL.of hI⟩, ?_⟩
      refine ⟨_, rfl, _, rfl, _, rfl, _, rfl, D, _, _, _, rfl, rfl, SqL.of hI, at1, ?_⟩
      refine ⟨r, t, n, l, m, g, _, ms, ss, rfl, R1, s1 _ _ ht, G, fun H2 s2 => ?_⟩
      have hI2 := s2 _ _ hI
      have mu1 : muCu n D [some (.ref r), some (.ref t), some (.int p), some (.ref D)] H' = (n - kc (nx n ms ss l m g) n p k).toNat := muCu_at (hI.trans (by rw [hxs]))
      refine ⟨D, _, _, rfl, rfl, hI2, by rw [List.length_map, wl_len]; exact small1000 (by omega), ⟨k + 1, rfl, same_put (s1.trans s2) hD, ?_, fun i hi => ?_⟩, ?_⟩
      · show upd _ _ _ D = _
        rw [upd_same, wl_succ, kc_at c, List.map_append]
        rfl
      · by_cases e : i = k
        · rw [e]
          exact c
        · exact hb i (by omega)
      · rw [mu1, muCu_at upd_same]
        have := ST.gt c
        omega
    · refine ifF (decide_eq_false c) ?_
      exact ⟨_, rfl, q D H' k s1 hD ⟨few, by omega, hb⟩ hI⟩
end
end Cw
namespace Cw
open PySem L2
theorem kc_lt {F : Int → Int} {n l s : Int} {m : Nat} (S : Stp F n l) (w : WkOk F n s m) {i j : Nat} (hij : i < j) (hj : j ≤ m) : kc F n s i < kc F n s j := by
  induction j with
  | zero => omega
  | succ j ih =>
    have c := w.bef j (by omega)
    have e := S.gt c
    rw [kc_at c]
    by_cases d : i = j
    · rw [d]
      exact e
    · have := ih (by omega) (by omega)
      omega
theorem wl_asc {F : Int → Int} {n l s : Int} {m : Nat} (S : Stp F n l) (w : WkOk F n s m) : Asc (wl F n s m) := by
  unfold wl
  refine List.pairwise_map.mpr ?_
  refine (List.pairwise_lt_range (n := m + 1)).imp_of_mem fun {i j} hi hj hij => ?_
  rw [List.mem_range] at hj
  exact kc_lt S w hij (by omega)
theorem kc_mem {F : Int → Int} {n s : Int} {m : Nat} {x : Int} : x ∈ wl F n s m ↔ ∃ i, i ≤ m ∧ kc F n s i = x := by
  unfold wl
  rw [List.mem_map]
  constructor
  · rintro ⟨i, hi, rfl⟩
    exact ⟨i, by rw [List.mem_range] at hi; omega, rfl⟩
  · rintro ⟨i, hi, rfl⟩
    exact ⟨i, by rw [List.mem_range]; omega, rfl⟩
/-- all that the calls of a row with settings want -/
structure RwS (C : Addr) (H : Hp) (r t : Addr) (n l m g : Int) (ms ss : List Int) : Prop where
  row : RowAt C H r n ms ss
  tup : H t = some (.tup [.int l, .int m, .int g])
  good : Good n ms ss
  set : SetOk l m g
  big : n ≤ 200 * l
theorem RwS.same {C : Addr} {H H' : Hp} {r t : Addr} {n l m g : Int} {ms ss : List Int} (R : RwS C H r t n l m g ms ss) (s : Same H H') : RwS C H' r t n l m g ms ss := ⟨R.row.same s, s _ _ R.tup, R.good, R.set, R.big⟩
def spCW (C : Addr) : Sp := fun vs H Q _ => ∃ (r t c : Addr) (n l m g : Int) (ms ss ps : List Int), vs = [.ref r, .ref t, .ref c] ∧ RwS C H r t n l m g ms ss ∧ IL H c ps ∧ ps.length ≤ 1000 ∧ (∀ i, i < ps.length → (0 :: ps).getD i 0 ≤ ps.getD i 0 ∧ ps.getD i 0 ≤ n) ∧ ∀ H', Same H H' → Q .non H'
def spNext (C : Addr) : Sp := fun vs H Q _ => ∃ (r t : Addr) (n l m g p : Int) (ms ss : List Int), vs = [.ref r, .ref t, .int p] ∧ RwS C H r t n l m g ms ss ∧ 0 ≤ p ∧ p < n ∧ ∀ H', Same H H' → Q (.int (nx n ms ss l m g p)) H'
def spWalk (C : Addr) : Sp := fun vs H Q _ => ∃ (r t : Addr) (n l m g p : Int) (ms ss : List Int), vs = [.ref r, .ref t, .int p] ∧ RwS C H r t n l m g ms ss ∧ 0 ≤ p ∧ p ≤ n ∧
  ∀ q H' k, Same H H' → H q = none → WkOk (nx n ms ss l m g) n p k → IL H' q (wl (nx n ms ss l m g) n p k) → Q (.ref q) H'
def spWithin (C : Addr) : Sp := fun vs H Q _ => ∃ (r t : Addr) (n l m g p lo hi : Int) (ms ss : List Int), vs = [.ref r, .ref t, .int p, .int lo, .int hi] ∧ RwS C H r t n l m g ms ss ∧ 0 ≤ p ∧ p ≤ lo ∧ lo ≤ hi ∧ hi ≤ n ∧
  ∀ H' k, Same H H' → WkOk (nx n ms ss l m g) n p k → Q (.int ((cb (wl (nx n ms ss l m g) n p k) hi : Nat) - (cb (wl (nx n ms ss l m g) n p k) lo : Nat) : Int)) H'
section
variable {P : Program} {w : World} {K : PySem.W.Frag} {mg : Str → Option Value} {base : Heap}
abbrev NCW : List Str := ["row", "settings", "places", "low", "place"]
theorem scCW : FnScope NCW ["row", "settings", "places"] (defScope sCWk) := ⟨rfl, rfl, rfl, by decide +kernel, rfl, by decide +kernel, by decide +kernel⟩
theorem ok_cw {f C fA fB fZ pL fL pM fM pS fSs : Addr} {fd fdA fdB fdZ dL dM dS : FuncData} (F : Fun K "check_walk" "check_walk" sCWk f fd) (R : Cl K mg C) (Gs : Gets P w K mg base C pL fL pM fM pS fSs dL dM dS)
    (gA : mg "check_settings" = some (.ref fA)) (kA : PySem.W.keepIn K (.ref fA) = true) (bA : Binds K fdA ["settings"] []) (GA : FnOk P w K mg base CX0 2 fA fdA ["settings"] spCSet)
    (gB : mg "check_place" = some (.ref fB)) (kB : PySem.W.keepIn K (.ref fB) = true) (bB : Binds K fdB ["place", "low", "high"] []) (GB : FnOk P w K mg base CX0 2 fB fdB ["place", "low", "high"] spPl)
    (gZ : mg "check_size" = some (.ref fZ)) (kZ : PySem.W.keepIn K (.ref fZ) = true) (bZ : Binds K fdZ ["row", "settings"] []) (GZ : FnOk P w K mg base CX0 3 fZ fdZ ["row", "settings"] (spSz C)) :
    FnOk P w K mg base CX0 4 f fd ["row", "settings", "places"] (spCW C) := by
  refine F.ok scCW (fun vs H Q E h => ?_) (fun cdv A outer s H vs Q E hr h => ?_)
  · obtain ⟨r, t, c, n, l, m, g, ms, ss, ps, rfl, _⟩ := h
    rfl
  · obtain ⟨r, t, c, n, l, m, g, ms, ss, ps, rfl, hR, hI, hl, hp, q⟩ := h
    have hr2 : Room 2 (A.deeper (PyProof.Rows.envOfC "check_walk" (defScope sCWk) s.heap.objs.size f cdv)) := hr.mono (by decide)
    refine ⟨_, pss_cons (ps_expr (pe_call GA hr2 rfl gA kA bA .nil pass0 (pa_cons (pv 1) pa_nil)))
      (pss_cons (ps_set (i := 3) scCW.nd rfl (Or.inl rfl) pe_int)
      (pss_cons (ps_for PassesOwn.never rfl (pi_list (pv 2)) (pg_name (i := 4) scCW.nd rfl (Or.inl rfl))
        (pss_cons (ps_expr (pe_call GB hr2 rfl gB kB bB .nil pass0 (pa_cons (pv 4) (pa_cons (pv 3) (pa_cons (pe_prop (pv 0) R.cl Gs.hL Gs.GL hr2 Gs.bL .nil pass0 rfl) pa_nil)))))
        (pss_one (ps_set (i := 3) scCW.nd rfl (Or.inl rfl) (pv 4)))))
      (pss_one (ps_expr (pe_call GZ hr rfl gZ kZ bZ .nil pass0 (pa_cons (pv 0) (pa_cons (pv 1) pa_nil))))))), ?_⟩
    refine ⟨_, rfl, t, l, m, g, rfl, hR.tup, hR.set, fun H1 s1 => ?_⟩
    have R1 := hR.same s1
    obtain ⟨dx, l1, l2, ho, _, _⟩ := id R1.row
    have hI1 := s1 _ _ hI
    refine ⟨_, rfl, c, rfl, ⟨_, SqL.of hI1⟩, for_list (xs := ps.map V.int) (fun i σ H' => ∃ v, σ = [some (.ref r), some (.ref t), some (.ref c), some (.int ((0 :: ps).getD i 0)), v] ∧ H' = H1)
      ⟨none, rfl, rfl⟩ (fun i σ H' _ ⟨v, _, e⟩ => by rw [e]; exact SqL.of hI1) ?_ ?_⟩
    · rintro i x σ H' hx ⟨v, rfl, rfl⟩
      obtain ⟨z, rfl, hz⟩ := il_at hx
      have il : i < ps.length := (List.getElem?_eq_some_iff.mp hz).1
      have e : ps.getD i 0 = z := by rw [List.getD_eq_getElem?_getD, hz]; rfl
      obtain ⟨p1, p2⟩ := hp i il
      rw [e] at p1 p2
      refine ⟨_, rfl, _, rfl, _, rfl, r, dx, _, rfl, ho, r, n, ms, ss, rfl, R1.row, z, _, n, rfl, p1, p2, ?_⟩
      refine ⟨_, rfl, some (.int z), ?_, rfl⟩
      have e2 : (0 :: ps).getD (i + 1) 0 = z := e
      rw [e2]
      rfl
    · rintro σ H' ⟨v, rfl, rfl⟩
      exact ⟨_, rfl, _, rfl, r, t, n, l, m, g, ms, ss, rfl, R1.row, R1.tup, R1.big, q _ s1⟩
theorem scNx : FnScope ["row", "settings", "place"] ["row", "settings", "place"] (defScope sNext) := ⟨rfl, rfl, rfl, by decide +kernel, rfl, by decide +kernel, by decide +kernel⟩
theorem ok_next {f C fA fB fZ fS pL fL pM fM pS fSs : Addr} {fd fdA fdB fdZ fdS dL dM dS : FuncData} (F : Fun K "next_cut" "next_cut" sNext f fd) (R : Cl K mg C) (Gs : Gets P w K mg base C pL fL pM fM pS fSs dL dM dS)
    (gA : mg "check_settings" = some (.ref fA)) (kA : PySem.W.keepIn K (.ref fA) = true) (bA : Binds K fdA ["settings"] []) (GA : FnOk P w K mg base CX0 2 fA fdA ["settings"] spCSet)
    (gB : mg "check_place" = some (.ref fB)) (kB : PySem.W.keepIn K (.ref fB) = true) (bB : Binds K fdB ["place", "low", "high"] []) (GB : FnOk P w K mg base CX0 2 fB fdB ["place", "low", "high"] spPl)
    (gZ : mg "check_size" = some (.ref fZ)) (kZ : PySem.W.keepIn K (.ref fZ) = true) (bZ : Binds K fdZ ["row", "settings"] []) (GZ : FnOk P w K mg base CX0 3 fZ fdZ ["row", "settings"] (spSz C))
    (gS : mg "step" = some (.ref fS)) (kS : PySem.W.keepIn K (.ref fS) = true) (bS : Binds K fdS ["row", "settings", "place"] []) (GS : FnOk P w K mg base CX0 3 fS fdS ["row", "settings", "place"] (spStep C)) :
    FnOk P w K mg base CX0 4 f fd ["row", "settings", "place"] (spNext C) := by
  refine F.ok scNx (fun vs H Q E h => ?_) (fun cdv A outer s H vs Q E hr h => ?_)
  · obtain ⟨r, t, n, l, m, g, p, ms, ss, rfl, _⟩ := h
    rfl
  · obtain ⟨r, t, n, l, m, g, p, ms, ss, rfl, hR, p0, pn, q⟩ := h
    have hr2 : Room 2 (A.deeper (PyProof.Rows.envOfC "next_cut" (defScope sNext) s.heap.objs.size f cdv)) := hr.mono (by decide)
    refine ⟨_, pss_cons (ps_expr (pe_call GA hr2 rfl gA kA bA .nil pass0 (pa_cons (pv 1) pa_nil)))
      (pss_cons (ps_expr (pe_call GB hr2 rfl gB kB bB .nil pass0 (pa_cons (pv 2) (pa_cons pe_int (pa_cons (pe_op op_sub (pe_prop (pv 0) R.cl Gs.hL Gs.GL hr2 Gs.bL .nil pass0 rfl) pe_int) pa_nil)))))
      (pss_cons (ps_expr (pe_call GZ hr rfl gZ kZ bZ .nil pass0 (pa_cons (pv 0) (pa_cons (pv 1) pa_nil))))
      (pss_one (ps_ret (pe_call GS hr rfl gS kS bS .nil pass0 (pa_cons (pv 0) (pa_cons (pv 1) (pa_cons (pv 2) pa_nil)))))))), ?_⟩
    refine ⟨_, rfl, t, l, m, g, rfl, hR.tup, hR.set, fun H1 s1 => ?_⟩
    have R1 := hR.same s1
    obtain ⟨dx, l1, l2, ho, _, _⟩ := id R1.row
    refine ⟨_, rfl, _, rfl, r, dx, _, rfl, ho, r, n, ms, ss, rfl, R1.row, _, _, rfl, rfl, p, 0, n - 1, rfl, p0, by omega, ?_⟩
    refine ⟨_, rfl, _, rfl, r, t, n, l, m, g, ms, ss, rfl, R1.row, R1.tup, R1.big, ?_⟩
    exact ⟨_, rfl, _, rfl, _, rfl, r, t, n, l, m, g, p, ms, ss, rfl, R1.row, R1.tup, R1.good, fun H2 s2 => q _ (s1.trans s2)⟩
theorem scWk : FnScope ["row", "settings", "start"] ["row", "settings", "start"] (defScope sWalk) := ⟨rfl, rfl, rfl, by decide +kernel, rfl, by decide +kernel, by decide +kernel⟩
theorem ok_walk {f C fA fB : Addr} {fd fdA fdB : FuncData} (F : Fun K "walk" "walk" sWalk f fd)
    (gA : mg "check_walk" = some (.ref fA)) (kA : PySem.W.keepIn K (.ref fA) = true) (bA : Binds K fdA ["row", "settings", "places"] []) (GA : FnOk P w K mg base CX0 4 fA fdA ["row", "settings", "places"] (spCW C))
    (gB : mg "cuts_from" = some (.ref fB)) (kB : PySem.W.keepIn K (.ref fB) = true) (bB : Binds K fdB ["row", "settings", "start"] []) (GB : FnOk P w K mg base CX0 4 fB fdB ["row", "settings", "start"] (spCuts C)) :
    FnOk P w K mg base CX0 5 f fd ["row", "settings", "start"] (spWalk C) := by
  refine F.ok scWk (fun vs H Q E h => ?_) (fun cdv A outer s H vs Q E hr h => ?_)
  · obtain ⟨r, t, n, l, m, g, p, ms, ss, rfl, _⟩ := h
    rfl
  · obtain ⟨r, t, n, l, m, g, p, ms, ss, rfl, hR, p0, pn, q⟩ := h
    refine ⟨_, pss_cons (ps_expr (pe_call GA hr rfl gA kA bA .nil pass0 (pa_cons (pv 0) (pa_cons (pv 1) (pa_cons (pe_lst (pa_cons (pv 2) pa_nil)) pa_nil)))))
      (pss_one (ps_ret (pe_call GB hr rfl gB kB bB .nil pass0 (pa_cons (pv 0) (pa_cons (pv 1) (pa_cons (pv 2) pa_nil)))))), ?_⟩
    refine ⟨_, rfl, _, rfl, _, rfl, (by show 1 ≤ sizeLine; decide), fun c hc => ?_⟩
    have s1 := same_new (o := .lst [.int p]) (Same.refl H) hc
    refine ⟨r, t, c, n, l, m, g, ms, ss, [p], rfl, hR.same s1, upd_same, (by show 1 ≤ 1000; decide), fun i hi => ?_, fun H2 s2 => ?_⟩
    · cases i with
      | zero => exact ⟨p0, pn⟩
      | succ i =>
        exfalso
        have : i + 1 < 1 := hi
        omega
    have s12 := s1.trans s2
    have R2 := hR.same s12
    refine ⟨_, rfl, _, rfl, _, rfl, r, t, n, l, m, g, p, ms, ss, rfl, R2.row, R2.tup, R2.good, R2.set, R2.big, p0, pn, fun y H3 k s3 ny wk hy => ?_⟩
    exact q y H3 k (s12.trans s3) (s12.free ny) wk hy
abbrev NWi : List Str := ["row", "settings", "start", "low", "high", "cuts"]
theorem scWi : FnScope NWi ["row", "settings", "start", "low", "high"] (defScope sWithin) := ⟨rfl, rfl, rfl, by decide +kernel, rfl, by decide +kernel, by decide +kernel⟩
theorem ok_within {f C fA fB fC : Addr} {fd fdA fdB fdC : FuncData} (F : Fun K "cuts_within" "cuts_within" sWithin f fd)
    (gA : mg "check_walk" = some (.ref fA)) (kA : PySem.W.keepIn K (.ref fA) = true) (bA : Binds K fdA ["row", "settings", "places"] []) (GA : FnOk P w K mg base CX0 4 fA fdA ["row", "settings", "places"] (spCW C))
    (gB : mg "cuts_from" = some (.ref fB)) (kB : PySem.W.keepIn K (.ref fB) = true) (bB : Binds K fdB ["row", "settings", "start"] []) (GB : FnOk P w K mg base CX0 4 fB fdB ["row", "settings", "start"] (spCuts C))
    (gC : mg "count_before" = some (.ref fC)) (kC : PySem.W.keepIn K (.ref fC) = true) (bC : Binds K fdC ["places", "place"] []) (GC : FnOk P w K mg base CX0 1 fC fdC ["places", "place"] spCB) :
    FnOk P w K mg base CX0 5 f fd ["row", "settings", "start", "low", "high"] (spWithin C) := by
  refine F.ok scWi (fun vs H Q E h => ?_) (fun cdv A outer s H vs Q E hr h => ?_)
  · obtain ⟨r, t, n, l, m, g, p, lo, hi, ms, ss, rfl, _⟩ := h
    rfl
  · obtain ⟨r, t, n, l, m, g, p, lo, hi, ms, ss, rfl, hR, p0, pl, lh, hn, q⟩ := h
    have hr1 : Room 1 (A.deeper (PyProof.Rows.envOfC "cuts_within" (defScope sWithin) s.heap.objs.size f cdv)) := hr.mono (by decide)
    refine ⟨_, pss_cons (ps_expr (pe_call GA hr rfl gA kA bA .nil pass0 (pa_cons (pv 0) (pa_cons (pv 1) (pa_cons (pe_lst (pa_cons (pv 2) (pa_cons (pv 3) (pa_cons (pv 4) pa_nil)))) pa_nil)))))
      (pss_cons (ps_set (i := 5) scWi.nd rfl (Or.inl rfl) (pe_call GB hr rfl gB kB bB .nil pass0 (pa_cons (pv 0) (pa_cons (pv 1) (pa_cons (pv 2) pa_nil)))))
      (pss_one (ps_ret (pe_op op_sub (pe_call GC hr1 rfl gC kC bC .nil pass0 (pa_cons (pv 5) (pa_cons (pv 4) pa_nil))) (pe_call GC hr1 rfl gC kC bC .nil pass0 (pa_cons (pv 5) (pa_cons (pv 3) pa_nil))))))), ?_⟩
    refine ⟨_, rfl, _, rfl, _, rfl, _, rfl, _, rfl, (by show 3 ≤ sizeLine; decide), fun c hc => ?_⟩
    have s1 := same_new (o := .lst [.int p, .int lo, .int hi]) (Same.refl H) hc
    refine ⟨r, t, c, n, l, m, g, ms, ss, [p, lo, hi], rfl, hR.same s1, upd_same, (by show 3 ≤ 1000; decide), fun i hi' => ?_, fun H2 s2 => ?_⟩
    · match i, hi' with
      | 0, _ => exact ⟨p0, by show p ≤ n; omega⟩
      | 1, _ => exact ⟨pl, by show lo ≤ n; omega⟩
      | 2, _ => exact ⟨lh, hn⟩
      | i + 3, h => exact absurd (show i + 3 < 3 from h) (by omega)
    have s12 := s1.trans s2
    have R2 := hR.same s12
    refine ⟨_, rfl, _, rfl, _, rfl, r, t, n, l, m, g, p, ms, ss, rfl, R2.row, R2.tup, R2.good, R2.set, R2.big, p0, by omega, fun y H3 k s3 ny wk hy => ?_⟩
    have as := wl_asc (nx_stp hR.good hR.set) wk
    have few := wk.few
    refine ⟨_, rfl, _, rfl, y, _, hi, rfl, hy, by rw [wl_len]; omega, as, ?_⟩
    refine ⟨_, rfl, _, rfl, y, _, lo, rfl, hy, by rw [wl_len]; omega, as, ?_⟩
    exact ⟨_, _, rfl, rfl, q H3 k (s12.trans s3) wk⟩
end
end Cw
namespace Cw
open PySem L2
theorem kc_up {F : Int → Int} {n l s : Int} (S : Stp F n l) {i : Nat} : ∀ j : Nat, kc F n s i ≤ kc F n s (i + j)
  | 0 => Int.le_refl _
  | j + 1 => by
    have h := kc_up S (i := i) (s := s) j
    by_cases c : kc F n s (i + j) < n
    · have e := S.gt c
      have k : kc F n s (i + (j + 1)) = F (kc F n s (i + j)) := kc_at c
      omega
    · have k : kc F n s (i + (j + 1)) = kc F n s (i + j) := if_neg c
      omega
theorem kc_wk {F : Int → Int} {n l s : Int} (S : Stp F n l) {i j : Nat} (h : i ≤ j) : kc F n s i ≤ kc F n s j := by
  have := kc_up S (s := s) (i := i) (j - i)
  rw [Nat.add_sub_cancel' h] at this
  exact this
structure Met (F : Int → Int) (n a b : Int) (i j : Nat) (x y : Int) : Prop where
  ex : kc F n a i = x
  ey : kc F n b j = y
  na : ∀ i', i' < i → ∀ j', kc F n a i' ≠ kc F n b j'
  nb : ∀ j', j' < j → ∀ i', kc F n b j' ≠ kc F n a i'
  pa : 0 < i → kc F n a (i - 1) < y
  pb : 0 < j → kc F n b (j - 1) < x
theorem Met.swap {F : Int → Int} {n a b : Int} {i j : Nat} {x y : Int} (M : Met F n a b i j x y) : Met F n b a j i y x := ⟨M.ey, M.ex, M.nb, M.na, M.pb, M.pa⟩
theorem Met.start {F : Int → Int} {n a b : Int} : Met F n a b 0 0 a b := ⟨rfl, rfl, fun _ h => absurd h (Nat.not_lt_zero _), fun _ h => absurd h (Nat.not_lt_zero _), fun h => absurd h (Nat.lt_irrefl _), fun h => absurd h (Nat.lt_irrefl _)⟩
theorem Met.next {F : Int → Int} {n l a b : Int} {i j : Nat} {x y : Int} (S : Stp F n l) (M : Met F n a b i j x y) (h : x < y) (hy : y ≤ n) : Met F n a b (i + 1) j (F x) y := by
  have c : kc F n a i < n := by rw [M.ex]; omega
  have e := S.gt c
  rw [M.ex] at e
  refine ⟨by rw [kc_at c, M.ex], M.ey, fun i' hi' j' z => ?_, M.nb, fun _ => by rw [Nat.add_sub_cancel, M.ex]; exact h, fun hj => by have := M.pb hj; omega⟩
  by_cases d : i' = i
  · rw [d, M.ex] at z
    by_cases f : j' < j
    · have w := kc_wk S (s := b) (show j' ≤ j - 1 by omega)
      have := M.pb (by omega)
      omega
    · have w := kc_wk S (s := b) (show j ≤ j' by omega)
      rw [M.ey] at w
      omega
  · exact M.na i' (by omega) j' z
/-- where two walks meet -/
def Mt (F : Int → Int) (n a b v : Int) : Prop := ∃ i j, kc F n a i = v ∧ kc F n b j = v ∧ (∀ i', i' < i → ∀ j', kc F n a i' ≠ kc F n b j') ∧ (∀ j', j' < j → ∀ i', kc F n b j' ≠ kc F n a i')
def spMeet (C : Addr) : Sp := fun vs H Q _ => ∃ (r t : Addr) (n l m g a b : Int) (ms ss : List Int), vs = [.ref r, .ref t, .int a, .int b] ∧ RwS C H r t n l m g ms ss ∧ 0 ≤ a ∧ a ≤ n ∧ 0 ≤ b ∧ b ≤ n ∧ ∀ H' v, Same H H' → Mt (nx n ms ss l m g) n a b v → Q (.int v) H'
def muMe (n : Int) : St → Hp → Nat := fun σ _ => match σ with | [_, _, some (.int x), some (.int y)] => (n - x).toNat + (n - y).toNat | _ => 0
section
variable {P : Program} {w : World} {K : PySem.W.Frag} {mg : Str → Option Value} {base : Heap}
abbrev NMe : List Str := ["row", "settings", "first", "second"]
end
end Cw
namespace Cw
open PySem L2
theorem take_fil {ns : List Int} {i : Nat} {z : Int} (h : ns[i]? = some z) (p : Int → Bool) : (ns.take (i + 1)).filter p = (ns.take i).filter p ++ (if p z = true then [z] else []) := by
  rw [List.take_add_one, h, List.filter_append]
  congr 1
  show List.filter p [z] = _
  rw [List.filter_cons]
  rfl
/-- a raw row with its three numbers -/
def RawS (H : Hp) (p : Addr) (n : Int) (prs : List (Int × Int)) (l m g : Int) : Prop := ∃ lp t ts, H p = some (.tup [.int n, .ref lp, .ref t]) ∧ H lp = some (.lst (ts.map V.ref)) ∧ PrAt H ts prs ∧ H t = some (.tup [.int l, .int m, .int g])
theorem RawS.raw {H : Hp} {p : Addr} {n : Int} {prs : List (Int × Int)} {l m g : Int} (r : RawS H p n prs l m g) : RawAt H p n prs := by
  obtain ⟨lp, t, ts, h1, h2, h3, _⟩ := r
  exact ⟨lp, t, ts, h1, h2, h3⟩
theorem RawS.but {H H' : Hp} {p a : Addr} {k : Nat} {n : Int} {prs : List (Int × Int)} {l m g : Int} (r : RawS H p n prs l m g) (J : JarAt H a k) (s : But H H' a) : RawS H' p n prs l m g := by
  obtain ⟨lp, t, ts, h1, h2, h3, h4⟩ := r
  refine ⟨lp, t, ts, s _ _ h1 (J.no h1 fun _ _ _ z => nomatch z), s _ _ h2 (J.no h2 fun r m n z => ?_), h3.imp fun t p h => s _ _ h (J.no h fun _ _ _ z => nomatch z), s _ _ h4 (J.no h4 fun _ _ _ z => nomatch z)⟩
  injection z with z
  cases ts with
  | nil => cases z
  | cons t ts => cases z
def spSmall : Sp := fun vs H Q _ => ∃ (a : Addr) (k : Nat) (mo : Int), vs = [.ref a, .int mo] ∧ 1 ≤ mo ∧ mo ≤ 40 ∧ JarAt H a (k + 60) ∧ ∀ (p : Addr) (H' : Hp) (n l m g : Int) (prs : List (Int × Int)), n ≤ mo → GoodP n prs → prs.length ≤ 39 → RawS H' p n prs l m g → SetOk l m g → n ≤ 200 * l → g ≤ 40 → JarAt H' a k → But H H' a → Q (.ref p) H'
theorem asc_snoc {ms : List Int} {z : Int} (h : Asc ms) (k : ∀ x ∈ ms, x < z) : Asc (ms ++ [z]) := by
  rw [Asc, List.pairwise_append]
  refine ⟨h, List.pairwise_singleton _ _, fun x hx y hy => ?_⟩
  rw [List.mem_singleton.mp hy]
  exact k x hx
/-- what the loop has found: the pairs, all below the place i -/
structure Found (i : Int) (prs : List (Int × Int)) : Prop where
  rng : ∀ q ∈ prs, 1 ≤ q.1 ∧ q.1 < i ∧ (q.2 = 1 ∨ q.2 = 2)
  asc : Asc (prs.map (·.1))
theorem Found.nil (i : Int) : Found i [] := ⟨fun _ h => (nomatch h), List.Pairwise.nil⟩
theorem Found.up {i : Int} {prs : List (Int × Int)} (h : Found i prs) : Found (i + 1) prs := by
  refine ⟨fun q hq => ?_, h.asc⟩
  have := h.rng q hq
  omega
theorem Found.snoc {i : Int} {prs : List (Int × Int)} {z : Int} (h : Found i prs) (h0 : 1 ≤ i) (hz : z = 1 ∨ z = 2) : Found (i + 1) (prs ++ [(i, z)]) := by
  refine ⟨fun q hq => ?_, ?_⟩
  · rcases List.mem_append.mp hq with hq | hq
    · have := h.rng q hq
      omega
    · rw [List.mem_singleton.mp hq]
      refine ⟨h0, ?_, hz⟩
      show i < i + 1
      omega
  · rw [List.map_append]
    refine asc_snoc h.asc fun x hx => ?_
    obtain ⟨q, hq, rfl⟩ := List.mem_map.mp hx
    exact (h.rng q hq).2.1
section
variable {P : Program} {w : World} {K : PySem.W.Frag} {mg : Str → Option Value} {base : Heap}
abbrev NSm : List Str := ["jar", "most", "length", "way", "found", "spot", "kind"]
theorem scSm : FnScope NSm ["jar", "most"] (defScope sSmall) := ⟨rfl, rfl, rfl, by decide +kernel, rfl, by decide +kernel, by decide +kernel⟩
theorem ok_small {f fD fT : Addr} {fd fdD fdT : FuncData} (F : Fun K "_law_small" "_law_small" sSmall f fd) (T : Bl mg)
    (gD : mg "_law_dip" = some (.ref fD)) (kD : PySem.W.keepIn K (.ref fD) = true) (bD : Binds K fdD ["jar", "many"] []) (GD : FnOk P w K mg base CX0 1 fD fdD ["jar", "many"] spDip)
    (gT : mg "_law_three" = some (.ref fT)) (kT : PySem.W.keepIn K (.ref fT) = true) (bT : Binds K fdT ["jar", "wide"] []) (GT : FnOk P w K mg base CX0 2 fT fdT ["jar", "wide"] spThree) :
    FnOk P w K mg base CX0 3 f fd ["jar", "most"] spSmall := by
  refine F.ok scSm (fun vs H Q E h => ?_) (fun cdv A outer s H vs Q E hr h => ?_)
  · obtain ⟨a, k, mo, rfl, _⟩ := h
    rfl
  · obtain ⟨a, k, mo, rfl, mo1, mo2, J, q⟩ := h
    have hr1 : Room 1 (A.deeper (PyProof.Rows.envOfC "_law_small" (defScope sSmall) s.heap.objs.size f cdv)) := hr.mono (by decide)
    refine ⟨_, pss_cons (ps_par3 (i := 2) (j := 3) (l := 4) rfl scSm.nd rfl rfl rfl (by decide) (by decide) (by decide) rfl rfl rfl (pa_cons (pe_op op_add pe_int (pe_call GD hr1 rfl gD kD bD .nil pass0 (pa_cons (pv 0) (pa_cons (pv 1) pa_nil)))) (pa_cons (pe_call GD hr1 rfl gD kD bD .nil pass0 (pa_cons (pv 0) (pa_cons pe_int pa_nil))) (pa_cons (pe_lst pa_nil) pa_nil))) (by rfl))
      (pss_cons (ps_for PassesOwn.never rfl (pi_range2 (by rfl) T.range (pa_cons pe_int (pa_cons (pv 2) pa_nil))) (pg_name (i := 5) scSm.nd rfl (Or.inl rfl))
        (pss_cons (ps_set (i := 6) scSm.nd rfl (Or.inl rfl) (pe_ifExp (pt_cmpR op_eq (pv 3) pe_int (nomark _)) (pe_op op_add pe_int (pe_call GD hr1 rfl gD kD bD .nil pass0 (pa_cons (pv 0) (pa_cons pe_int pa_nil))))
            (pe_callB (call_max2 rfl) (by rfl) T.max (by decide +kernel) (pa_cons pe_int (pa_cons (pe_op op_sub (pe_call GD hr1 rfl gD kD bD .nil pass0 (pa_cons (pv 0) (pa_cons pe_int pa_nil))) pe_int) pa_nil)))))
        (pss_one (ps_if (PW.pt (pw_and (pt_cmpR op_gt (pv 6) pe_int (nomark _)) (pw_and1 (pt_cmpR op_ne (pv 3) pe_int (nomark _)))))
          (pss_one (ps_expr (pe_bm PySem.F.plainAttrs_list PySem.F.slot_list_append PySem.F.type_list_append mt_append (pv 4) (pa_cons (pe_tup (pa_cons (pv 5) (pa_cons (pv 6) pa_nil))) pa_nil)))) pss_nil))))
      (pss_one (ps_ret (pe_tup (pa_cons (pv 2) (pa_cons (pv 4) (pa_cons (pe_call GT hr rfl gT kT bT .nil pass0 (pa_cons (pv 0) (pa_cons pe_int pa_nil))) pa_nil))))))), ?_⟩
    refine ⟨_, rfl, _, rfl, a, k + 59, mo, rfl, J, by omega, by omega, fun v1 H1 a1 b1 J1 B1 => ⟨_, _, rfl, rfl, ?_⟩⟩
    refine ⟨_, rfl, a, k + 58, 5, rfl, J1, by decide, by decide, fun v2 H2 a2 b2 J2 B2 => ⟨Nat.zero_le _, fun l hl => ⟨_, _, _, rfl, ?_⟩⟩⟩
    have nla : a ≠ l := J2.ne hl
    have nl : H l = none := none_of (fun c o e => by
      by_cases z : c = a
      · obtain ⟨r, m, n, e', _⟩ := J2
        exact ⟨_, by rw [z]; exact e'⟩
      · exact ⟨o, (B1.trans B2) _ _ e z⟩) hl
    refine ⟨_, rfl, _, _, rfl, ⟨by decide, by decide, by omega, by omega⟩, for_range (lo := 1) (n := (1 + v1 - 1).toNat) (fun i σ H' => ∃ (v5 v6 : Option V) (ts : List Addr) (prs : List (Int × Int)),
        σ = [some (.ref a), some (.int mo), some (.int (1 + v1)), some (.int v2), some (.ref l), v5, v6] ∧ JarAt H' a (k + 7 + (50 - i)) ∧ But H H' a ∧ H' l = some (.lst (ts.map V.ref)) ∧ PrAt H' ts prs ∧ Found (1 + i) prs ∧ prs.length ≤ i)
      ⟨none, none, [], [], rfl, (J2.put nla).mono (by omega), (B1.trans B2).new hl, upd_same, .nil, Found.nil _, Nat.le_refl _⟩ ?_ ?_⟩
    · rintro i σ H' hi ⟨v5, v6, ts, prs, rfl, J', B', hL, hP, hF, hlen⟩
      have Jd : JarAt H' a (k + 7 + (50 - (i + 1)) + 1) := J'.mono (by omega)
      refine ⟨_, rfl, rfl, _, rfl, ?_⟩
      refine ite2 (fun hv => ?ga) (fun hv => ?gb)
      case' ga =>
        refine ⟨_, rfl, a, _, 2, rfl, Jd, by decide, by decide, fun v3 H3 a3 b3 J3 B3 => ⟨_, _, rfl, rfl, ?_⟩⟩
        have z0 : 0 ≤ 1 + v3 := by omega
        have z2 : 1 + v3 ≤ 2 := by omega
        dsimp only
        generalize 1 + v3 = z at z0 z2 ⊢
      case' gb =>
        refine ⟨_, rfl, a, _, 5, rfl, Jd, by decide, by decide, fun v3 H3 a3 b3 J3 B3 => ⟨_, _, rfl, rfl, _, _, rfl, ?_⟩⟩
        have z0 : 0 ≤ (if v3 - 2 > 0 then v3 - 2 else 0) := by split <;> omega
        have z2 : (if v3 - 2 > 0 then v3 - 2 else 0) ≤ 2 := by split <;> omega
        dsimp only
        generalize (if v3 - 2 > 0 then v3 - 2 else 0) = z at z0 z2 ⊢
      all_goals
        have hL3 : H3 l = some (.lst (ts.map V.ref)) := B3 _ _ hL nla.symm
        have hP3 : PrAt H3 ts prs := hP.imp fun t p h => B3 _ _ h (J'.no h (fun _ _ _ y => nomatch y))
        have stay : ∃ (v5 v6 : Option V) (ts : List Addr) (prs : List (Int × Int)), [some (V.ref a), some (V.int mo), some (V.int (1 + v1)), some (V.int v2), some (V.ref l), some (V.int (1 + (i : Int))), some (V.int z)] = [some (V.ref a), some (V.int mo), some (V.int (1 + v1)), some (V.int v2), some (V.ref l), v5, v6] ∧ JarAt H3 a (k + 7 + (50 - (i + 1))) ∧ But H H3 a ∧ H3 l = some (.lst (ts.map V.ref)) ∧ PrAt H3 ts prs ∧ Found (1 + ((i + 1 : Nat) : Int)) prs ∧ prs.length ≤ i + 1 :=
          ⟨_, _, ts, prs, rfl, J3, B'.trans B3, hL3, hP3, by have := hF.up; rwa [show (1 : Int) + ((i + 1 : Nat) : Int) = 1 + i + 1 by omega], by omega⟩
        refine ⟨_, rfl, _, _, rfl, rfl, _, rfl, ?_⟩
        by_cases c1 : z > 0
        · refine ifT (decide_eq_true c1) ?_
          refine ⟨_, rfl, rfl, _, rfl, ?_⟩
          by_cases c2 : v2 = 1
          · refine ifF (by simp [c2]) ?_
            exact stay
          · refine ifT (by simp [c2]) ?_
            refine ⟨_, rfl, .inl ⟨rfl, _, SqL.of hL3⟩, _, rfl, _, rfl, (by show 2 ≤ sizeLine; decide), fun t ht => ?_⟩
            have nlt : l ≠ t := ne_of_none hL3 ht
            have hts := hP3.len
            refine ⟨l, _, _, rfl, rfl, by rw [upd_ne nlt]; exact hL3, by rw [List.length_map]; exact small1000 (by omega), ?_⟩
            refine ⟨_, _, ts ++ [t], prs ++ [(1 + (i : Int), z)], rfl, ((J3.put (J3.ne ht)).put nla), ?_, ?_, ?_, ?_, ?_⟩
            · exact ((B'.trans B3).new ht).put nl
            · rw [upd_same, List.map_append]
              rfl
            · refine PrAt.app (hP3.imp fun u p h => ?_) (.cons ?_ .nil)
              · rw [upd_ne (ne_of h hL3 (by intro y; cases y)), upd_ne (ne_of_none h ht)]
                exact h
              · rw [upd_ne (Ne.symm nlt)]
                exact upd_same
            · have := hF.snoc (z := z) (by omega) (by omega)
              rwa [show (1 : Int) + ((i + 1 : Nat) : Int) = 1 + i + 1 by omega]
            · rw [List.length_append]
              exact Nat.succ_le_succ hlen
        · refine ifF (decide_eq_false c1) ?_
          refine ifF rfl ?_
          exact stay
    · rintro σ H' ⟨v5, v6, ts, prs, rfl, J', B', hL, hP, hF, hlen⟩
      have hlen' : prs.length ≤ 39 := by omega
      refine ⟨_, rfl, _, rfl, _, rfl, a, k, 4, rfl, J'.mono (by omega), by decide, by decide, fun p H3 x y g x1 x2 y1 y2 g1 g2 J3 B3 hp _ => ⟨(by show 3 ≤ sizeLine; decide), fun r hr' => ?_⟩⟩
      have s3 : Same H3 (upd H3 r (.tup [.int (1 + v1), .ref l, .ref p])) := same_new (Same.refl H3) hr'
      refine q r _ (1 + v1) x y g prs (by omega) ⟨by omega, by omega, fun w hw => ?_, hF.asc⟩ hlen' ⟨l, p, ts, upd_same, s3 _ _ (B3 _ _ hL nla.symm), hP.imp fun t w h => s3 _ _ (B3 _ _ h (J'.no h (fun _ _ _ y => nomatch y))), s3 _ _ hp⟩ ⟨x1, y1, g1⟩ (by omega) (by omega) (J3.put (J3.ne hr')) ((B'.trans B3).new hr')
      have z := hF.rng w hw
      exact ⟨z.1, by omega, z.2.2⟩
end
end Cw
namespace Cw
open PySem L2
/-! ## walks beside one another -/
theorem kc_add {F : Int → Int} {n s : Int} {i : Nat} : ∀ k : Nat, kc F n s (i + k) = kc F n (kc F n s i) k
  | 0 => rfl
  | k + 1 => by
    have h := kc_add (F := F) (n := n) (s := s) (i := i) k
    show (if kc F n s (i + k) < n then F (kc F n s (i + k)) else kc F n s (i + k)) = (if kc F n (kc F n s i) k < n then F (kc F n (kc F n s i) k) else kc F n (kc F n s i) k)
    rw [h]
theorem WkOk.from {F : Int → Int} {n s : Int} {m i : Nat} (w : WkOk F n s m) (h : i ≤ m) : WkOk F n (kc F n s i) (m - i) := by
  refine ⟨by have := w.few; omega, ?_, fun k hk => ?_⟩
  · rw [← kc_add, Nat.add_sub_cancel' h]
    exact w.fin
  · rw [← kc_add]
    exact w.bef _ (by omega)
theorem WkOk.one {F : Int → Int} {n s : Int} {m k : Nat} (w : WkOk F n s m) (u : WkOk F n s k) : m = k := by
  rcases Nat.lt_trichotomy m k with h | h | h
  · have := u.bef _ h
    have := w.fin
    omega
  · exact h
  · have := w.bef _ h
    have := u.fin
    omega
theorem WkOk.later {F : Int → Int} {n s : Int} {m k : Nat} (w : WkOk F n s m) (h : m ≤ k) : kc F n s k = n := by
  have z := kc_end (F := F) (n := n) (s := s) (m := m) (by rw [w.fin]; omega) (k - m)
  rw [Nat.add_sub_cancel' h, w.fin] at z
  exact z
theorem fil_ge {F : Int → Int} {n l a v : Int} {m i : Nat} (S : Stp F n l) (w : WkOk F n a m) (hi : i ≤ m) (hv : kc F n a i = v) : (wl F n a m).filter (fun c => decide (c ≥ v)) = wl F n v (m - i) := by
  have e : m + 1 = i + (m - i + 1) := by omega
  unfold wl
  rw [e, List.range_add, List.map_append, List.filter_append, List.map_map]
  have z1 : ((List.range i).map (kc F n a)).filter (fun c => decide (c ≥ v)) = [] := List.filter_eq_nil_iff.mpr fun x hx => by
    obtain ⟨k, hk, rfl⟩ := List.mem_map.mp hx
    rw [List.mem_range] at hk
    have := kc_lt S w hk hi
    simp only [decide_eq_true_eq]
    omega
  have z2 : ((List.range (m - i + 1)).map (kc F n a ∘ (i + ·))).filter (fun c => decide (c ≥ v)) = (List.range (m - i + 1)).map (kc F n a ∘ (i + ·)) := List.filter_eq_self.mpr fun x hx => by
    obtain ⟨k, hk, rfl⟩ := List.mem_map.mp hx
    have := kc_wk S (s := a) (show i ≤ i + k by omega)
    refine decide_eq_true ?_
    show kc F n a (i + k) ≥ v
    omega
  rw [z1, z2, List.nil_append]
  refine List.map_congr_left fun k _ => ?_
  show kc F n a (i + k) = kc F n v k
  rw [kc_add, hv]
theorem mt_same {F : Int → Int} {n l a b v : Int} {m k : Nat} (S : Stp F n l) (M : Mt F n a b v) (w : WkOk F n a m) (u : WkOk F n b k) : (wl F n a m).filter (fun c => decide (c ≥ v)) = (wl F n b k).filter (fun c => decide (c ≥ v)) := by
  obtain ⟨i, j, e1, e2, na, nb⟩ := M
  have hi : i ≤ m := by
    by_cases c : i ≤ m
    · exact c
    · exact absurd (w.fin.trans u.fin.symm) (na m (by omega) k)
  have hj : j ≤ k := by
    by_cases c : j ≤ k
    · exact c
    · exact absurd (u.fin.trans w.fin.symm) (nb k (by omega) m)
  have w' := w.from hi
  have u' := u.from hj
  rw [e1] at w'
  rw [e2] at u'
  rw [fil_ge S w hi e1, fil_ge S u hj e2, w'.one u']
theorem mt_none {F : Int → Int} {n l a b v : Int} {m k : Nat} (S : Stp F n l) (M : Mt F n a b v) : (wl F n a m).filter (fun c => decide (c < v) && decide (c ∈ wl F n b k)) = [] := by
  obtain ⟨i, j, e1, e2, na, nb⟩ := M
  refine List.filter_eq_nil_iff.mpr fun x hx => ?_
  obtain ⟨i', _, rfl⟩ := kc_mem.mp hx
  simp only [Bool.and_eq_true, decide_eq_true_eq]
  rintro ⟨h1, h2⟩
  obtain ⟨j', _, e⟩ := kc_mem.mp h2
  by_cases c : i' < i
  · exact na i' c j' e.symm
  · have := kc_wk S (s := a) (show i ≤ i' by omega)
    omega
theorem turns {F : Int → Int} {n l a b : Int} (S : Stp F n l) (ab : a ≤ b) (bn : b ≤ n) (bF : b ≤ kc F n a 1) : ∀ k, kc F n a k ≤ kc F n b k ∧ kc F n b k ≤ kc F n a (k + 1)
  | 0 => ⟨ab, bF⟩
  | k + 1 => by
    obtain ⟨h1, h2⟩ := turns S ab bn bF k
    have st : ∀ p q, p ≤ q → q ≤ n → (if p < n then F p else p) ≤ (if q < n then F q else q) := fun p q h hq => by
      by_cases c : q < n
      · rw [if_pos c, if_pos (by omega)]
        exact S.mono _ _ h
      · rw [if_neg c]
        by_cases d : p < n
        · rw [if_pos d]
          have := S.le p
          omega
        · rw [if_neg d]
          exact h
    exact ⟨st _ _ h1 (kc_le S bn k), st _ _ h2 (kc_le S (by omega) (k + 1))⟩
/-- the number of cuts before z is the first index that is not -/
theorem cb_wl {F : Int → Int} {n l s z : Int} {m : Nat} (S : Stp F n l) (w : WkOk F n s m) (hz : z ≤ n) : z ≤ kc F n s (cb (wl F n s m) z) ∧ (∀ i, i < cb (wl F n s m) z → kc F n s i < z) ∧ cb (wl F n s m) z ≤ m := by
  obtain ⟨h1, h2⟩ := cb_split (wl_asc S w) z
  have g : ∀ i, i ≤ m → (wl F n s m)[i]? = some (kc F n s i) := fun i hi => by
    unfold wl
    rw [List.getElem?_map, List.getElem?_range (by omega)]
    rfl
  have c : cb (wl F n s m) z ≤ m := by
    by_cases c : cb (wl F n s m) z ≤ m
    · exact c
    · have := h1 m (by omega) _ (g m (Nat.le_refl _))
      have := w.fin
      omega
  exact ⟨h2 _ (Nat.le_refl _) _ (g _ c), fun i hi => h1 i hi _ (g i (by omega)), c⟩
theorem last_up {F : Int → Int} {n a b : Int} (ab : a ≤ b) : ∀ m, (∃ i, kc F n a i ≤ b ∧ b ≤ kc F n a (i + 1)) ∨ kc F n a m ≤ b
  | 0 => .inr ab
  | m + 1 => by
    rcases last_up ab m with h | h
    · exact .inl h
    · by_cases c : kc F n a (m + 1) ≤ b
      · exact .inr c
      · exact .inl ⟨m, h, by omega⟩
/-- how the numbers of cuts before a place differ, behind both starts -/
theorem cb_near {F : Int → Int} {n l a b : Int} {m k : Nat} (S : Stp F n l) (w : WkOk F n a m) (u : WkOk F n b k) (ab : a ≤ b) (bn : b < n) :
    ∃ i, ∀ z, b ≤ z → z ≤ n → i + cb (wl F n b k) z ≤ cb (wl F n a m) z ∧ cb (wl F n a m) z ≤ i + cb (wl F n b k) z + 1 := by
  obtain ⟨i, h1, h2⟩ : ∃ i, kc F n a i ≤ b ∧ b ≤ kc F n a (i + 1) := by
    rcases last_up (F := F) (n := n) ab m with h | h
    · exact h
    · have := w.fin
      omega
  refine ⟨i, fun z bz zn => ?_⟩
  have tn := turns S h1 (by omega) (by rw [← kc_add]; exact h2)
  obtain ⟨a1, a2, a3⟩ := cb_wl S w zn
  obtain ⟨b1, b2, b3⟩ := cb_wl S u zn
  generalize cb (wl F n a m) z = A at a1 a2 a3 ⊢
  generalize cb (wl F n b k) z = B at b1 b2 b3 ⊢
  constructor
  · by_cases c : i ≤ A
    · have t := (tn (A - i)).1
      rw [← kc_add, Nat.add_sub_cancel' c] at t
      by_cases d : A - i < B
      · have := b2 _ d
        omega
      · omega
    · exfalso
      have e1 := kc_wk S (s := a) (show A ≤ i by omega)
      have c1 : kc F n a A < n := by omega
      have e2 := S.gt c1
      rw [← kc_at c1] at e2
      have e3 := kc_wk S (s := a) (show A + 1 ≤ i by omega)
      omega
  · by_cases d : i + B + 1 < A
    · have t := (tn B).2
      have e := kc_add (F := F) (n := n) (s := a) (i := i) (B + 1)
      rw [← e] at t
      have := a2 (i + (B + 1)) (by omega)
      omega
    · omega
end Cw
namespace Cw
open PySem PySem.Spec PyProof.Rows L2
/-! ## defs of which it is known that no list's text is being made around them -/
structure FnG (P : Program) (w : World) (K : PySem.W.Frag) (mg : Str → Option Value) (base : Heap) (k : Nat) (f : Addr) (fd : FuncData) (ps : List Str) (sp : Sp) : Prop where
  len : ∀ vs H Q E, sp vs H Q E → vs.length = ps.length
  run : ∀ (A : Around) (outer : List Env) (s : Shared) (H : Hp) (args : Args) (us : List Value) (vs : List V) (Q : VK) (E : XK), Room k A → A.guards = some [] → Env0 P w K mg base A outer s H → BindsTo s fd args (ps.zip us) → Vals vs us → sp vs H Q E →
    codeAny (model P w) A (.call (.ref f) args) (CR CX0 outer P w H s Q E) s
theorem FnG.of {P : Program} {w : World} {K : PySem.W.Frag} {mg : Str → Option Value} {base : Heap} {k : Nat} {f : Addr} {fd : FuncData} {ps : List Str} {sp : Sp} (F : FnOk P w K mg base CX0 k f fd ps sp) : FnG P w K mg base k f fd ps sp :=
  ⟨F.len, fun A outer s H args us vs Q E hr _ => F.run A outer s H args us vs Q E hr⟩
section
variable {P : Program} {w : World} {K : PySem.W.Frag} {mg : Str → Option Value} {base : Heap}
theorem okG {x qual : Str} {st : Stmt} {f : Addr} {fd : FuncData} {N ps : List Str} {k : Nat} {sp : Sp} (F : Fun K x qual st f fd) (S : FnScope N ps (defScope st)) (len : ∀ vs H Q E, sp vs H Q E → vs.length = ps.length)
    (body : ∀ (cdv : Value) (A : Around) (outer : List Env) (s : Shared) (H : Hp) (vs : List V) (Q : VK) (E : XK), Room k (A.deeper (envOfC qual (defScope st) s.heap.objs.size f cdv)) → A.guards = some [] → sp vs H Q E →
      ∃ t, PSs (cxOf CX0 P w K mg base N qual (defScope st) f cdv A outer s H E).nox (defBody st) t ∧ t { nx := fun _ H' => Q .non H', rt := Q } (start N vs) H) : FnG P w K mg base (k + 1) f fd ps sp := by
  obtain ⟨oc, od, kV, doc, pm, an, cdv, ct, osl, rfl, look, hcd⟩ := F.ex
  refine ⟨len, fun A outer s H args us vs Q E room gu env bind rel prom => ?_⟩
  have here : K.In s.heap := env.mod.kin.keeps fun b o e => (env.bs b o e).1
  have free : s.heap.NoLimit := env.mod.nolimit.keeps fun b o e => (env.bs b o e).1
  have kinds : ∀ y ∈ ps.zip us, (defScope st).names.lookup y.1 = some .local ∨ ((defScope st).names.lookup y.1 = some .cell ∧ ((cellsFrom (s.heap.objs.size + 1) (defScope st).names []).lookup y.1).isSome = true) := fun y hy =>
    (S.par y.1 (List.of_mem_zip (show (y.1, y.2) ∈ ps.zip us from hy)).1).imp id fun z => ⟨z, PySem.W.cellsFrom_some _ _ _ (.inl z)⟩
  refine codeAny_call_function room.depth (here _ _ look) rfl S.co S.gen rfl (PySem.W.codeRec_of here hcd) (bind _ _ _ _ (wpAny_newFunctionEnv_cells S.kind kinds fun e he s1 ic => ?_))
  subst he
  obtain ⟨t, ht, hq⟩ := body cdv A outer s H vs Q E (room.deeper _) gu prom
  refine ⟨free.keeps ic.toInCall.keep, codeAny_func (wpAny_mono (ht.nox.run [] s1 (start N vs) H _ (inv_start S room.hd env (len _ _ _ _ prom) rel ic) hq) (fun fl s2 z => ?_) fun _ _ z => z)⟩
  cases fl with
  | ret u =>
    obtain ⟨v, _, H2, J, rv, qq⟩ := z
    exact ⟨v, H2, J.os, J.bare, J.base, J.hok, rv, qq⟩
  | next =>
    obtain ⟨_, H2, J, qq⟩ := z
    exact ⟨V.non, H2, J.os, J.bare, J.base, J.hok, rfl, qq⟩
  | brk =>
    obtain ⟨_, _, _, qq⟩ := z
    exact qq.elim
  | cont =>
    obtain ⟨_, _, _, qq⟩ := z
    exact qq.elim
end
section
variable {X : Cx} {k : Nat} {f : Addr} {fd : FuncData} {ps : List Str} {sp : Sp} {x : Str} {p pos : Pos} {e : Expr} {es : List Expr} {t : TA}
/-- a call of such a def where no list's text is being made -/
theorem pe_callG (F : FnG X.prog X.w X.K X.mg X.base k f fd ps sp) (room : Room k X.A) (gu : X.A.guards = some []) (gl : Gl X x) (hm : X.mg x = some (.ref f)) (kp : PySem.W.keepIn X.K (.ref f) = true) (bi : Binds X.K fd ps [])
    (ha : PA X (e :: es) t) (hdb : (x == ("__debug__" : Str)) = false := by decide) (he : starEach (e :: es) X.env = (false, eval e X.env) :: starEach es X.env := by rfl) (hpl : (backTo pos (starEach es X.env)).any (·.1) = false := by rfl) :
    PE X (.Call (.Name x p) (e :: es) [] pos) (tCall sp [] E0 t) := by
  refine ⟨fun pins s σ H Q I h => wpAny_Call_Name_kw (ld_glob I gl hm (PySem.W.callWith_K (h₀ := X.base) I.ok.mod.kin kp (thn (ha.run pos pins s σ H _ I h) fun us s1 ⟨vs, H1, I1, r, q⟩ => ⟨I1.kIn, ?_⟩) he hpl) hdb)⟩
  have q' : sp vs H1 Q E0 := by
    have z : sp (vs ++ []) H1 Q E0 := q
    rw [List.append_nil] at z
    exact z
  have many : us.length = ps.length := by rw [← r.length]; exact F.len _ _ _ _ q'
  refine wpAny_call (codeAny_mono (F.run X.A X.stack s1 H1 ⟨us, []⟩ us vs Q E0 room gu I1.env0 (by have z := bi s1 us I1.kIn (by rw [List.append_nil]; exact many); rw [List.append_nil] at z; exact z) r q') fun res s2 z => ?_)
  cases res with
  | error er => exact z.elim
  | ok fl =>
    cases fl with
    | ret u => exact I1.after z
    | next => exact z.elim
    | brk => exact z.elim
    | cont => exact z.elim
/-- repr of data: none of its lists is being shown around here -/
def rReprD (K : PySem.W.Frag) : List V → Hp → VK → Prop := fun xs H Q => ∃ a d, xs = [V.ref a] ∧ Dp K H (.ref a) d ∧ d.showable = true ∧ d.hasDict = false ∧ d.depth ≤ 60 ∧ d.shown.length ≤ sizeLine ∧ Q (.str d.shown) H
theorem call_reprD (gu : X.A.guards = some []) (hu : X.A.units + 64 < cLine) : CallR X (.builtin "repr") (rReprD X.K) := by
  intro pins s σ H xs us Q I r h
  obtain ⟨a, d, rfl, hd, sh, nd, dp, sz, q⟩ := h
  obtain ⟨u, rfl, rx⟩ := vals1 r
  obtain rfl : u = Value.ref a := rx
  obtain ⟨as, rd⟩ := Dp.reads I d (.ref a) (.ref a) hd rfl
  exact repr_of_reads' rd sh (fun z => by rw [nd] at z; cases z) gu (by omega) (fun _ _ e => e) (fun h' u tk keep => ⟨.str d.shown, H, I.kept keep, ⟨_, rfl⟩, q⟩) sz
end
end Cw
namespace Cw
open PySem PySem.Spec PyProof.Rows L2
/-- the law's call, its def being one of FnG; H tracks at most the script -/
theorem startG {P : Program} {w : World} {K : PySem.W.Frag} {mg mb : Str → Option Value} {k : Nat} {fa a : Addr} {fd : FuncData} {x : Str} {sp : Sp} {s1 : Shared} {vs : List Value} {ns : List Int}
    (kin : K.In s1.heap) (glob : s1.heap.Ns mainGlobals mg) (bns : s1.heap.Ns builtinsNs mb) (boot : ∀ y : Str, y ≠ "__name__" → mb y = bootBuiltins y) (lim : s1.heap.NoLimit) (gens : s1.gens = #[])
    (scr : s1.heap.get? a = some { cls := .type "list", data := .seq vs.toArray }) (room : Room k callerA)
    (F : ∀ base : Heap, K.In base → base.Ns mainGlobals mg → FnG P w K mg base k fa fd [x] sp) (bind : ∀ (s : Shared) (u : Value), BindsTo s fd ⟨[u], []⟩ [(x, u)])
    (H : Hp) (only : Only H) (prom : sp [.ref a] H (fun v _ => v = .bl true) E0) (hok : HOk P w H s1.heap) (at_ : ∀ b, H b ≠ none → b = a) (off : H a ≠ none → K.lookup a = none) :
    codeAny (model P w) callerA (.call (.ref fa) ⟨[.ref a], []⟩) (fun r s' => r = .ok (.ret (.bool true)) ∧ OldK s1.heap s'.heap ∧ s'.os = s1.os ∧ AllBare s'.gens) s1 := by
  have none_at : ∀ {b : Addr}, b ≠ a → H b = none := fun {b} nb => by
    cases z : H b with
    | none => rfl
    | some o => exact absurd (at_ b (by rw [z]; exact fun y => nomatch y)) nb
  have dicts : ∀ {b : Addr} {m : Str → Option Value}, s1.heap.Ns b m → (hidT s1.heap H).Ns b m := fun {b m} ⟨o, es, ep, e, d, r⟩ => by
    refine ⟨o, es, ep, hidT_get e (none_at fun z => ?_), d, r⟩
    rw [z, scr] at e
    cases e
    exact nomatch (show Data.seq vs.toArray _ = Data.dict es ep from d)
  have kin2 : K.In (hidT s1.heap H) := fun b o e => by
    refine hidT_get (kin b o e) ?_
    by_cases nb : b = a
    · subst nb
      cases z : H b with
      | none => rfl
      | some y =>
        rw [off (by rw [z]; exact fun y => nomatch y)] at e
        cases e
    · exact none_at nb
  obtain ⟨mc, lm1, lm2⟩ := lim
  have e0 : Env0 P w K mg (hidT s1.heap H) callerA [] s1 H := ⟨rfl, ⟨kin2, dicts glob, ⟨mb, dicts bns, boot⟩, ⟨mc, dicts lm1, lm2⟩⟩, fun _ _ e => of_hidT e, Nat.le_of_eq (hidT_size _ _), trivial, fun b hb => (List.not_mem_nil hb).elim, hok, .of_eq gens⟩
  refine codeAny_mono ((F _ kin2 (dicts glob)).run callerA [] s1 H ⟨[.ref a], []⟩ [.ref a] [.ref a] _ E0 room rfl e0 (bind s1 (.ref a)) (.cons rfl .nil) prom) fun res s2 z => ?_
  cases res with
  | error er => exact z.elim
  | ok fl =>
    cases fl with
    | next => exact z.elim
    | brk => exact z.elim
    | cont => exact z.elim
    | ret u =>
      obtain ⟨v, H2, os, bare, un, hok2, rel, q⟩ := z
      have qv : v = .bl true := q
      subst qv
      obtain rfl : u = Value.bool true := rel
      refine ⟨rfl, OldK.of_keep fun b o e => ?_, os, bare⟩
      rcases only b with nb | ⟨ob, xs, fz⟩
      · exact un.keep b o e nb (fun y => (List.not_mem_nil y).elim) (fun y => (List.not_mem_nil y).elim)
      · obtain ⟨h1, _⟩ := hok b _ fz
        obtain ⟨h2, _⟩ := hok2 b _ (un.frzs b ob _ fz)
        rw [e] at h1
        cases h1
        exact h2
theorem callG {P : Program} {w : World} {K : PySem.W.Frag} {mg mb : Str → Option Value} {k : Nat} {fa a : Addr} {fd : FuncData} {x : Str} {sp : Sp} {s1 : Shared} {vs : List Value} {ns : List Int}
    (kin : K.In s1.heap) (glob : s1.heap.Ns mainGlobals mg) (bns : s1.heap.Ns builtinsNs mb) (boot : ∀ y : Str, y ≠ "__name__" → mb y = bootBuiltins y) (lim : s1.heap.NoLimit) (gens : s1.gens = #[])
    (scr : s1.heap.get? a = some { cls := .type "list", data := .seq vs.toArray }) (nts : IntsAre vs ns) (few : ns.length ≤ sizeLine) (room : Room k callerA)
    (F : ∀ base : Heap, K.In base → base.Ns mainGlobals mg → FnG P w K mg base k fa fd [x] sp) (bind : ∀ (s : Shared) (u : Value), BindsTo s fd ⟨[u], []⟩ [(x, u)])
    (prom : ∀ H : Hp, Only H → SqL K H a (ns.map V.int) → sp [.ref a] H (fun v _ => v = .bl true) E0) :
    codeAny (model P w) callerA (.call (.ref fa) ⟨[.ref a], []⟩) (fun r s' => r = .ok (.ret (.bool true)) ∧ OldK s1.heap s'.heap ∧ s'.os = s1.os ∧ AllBare s'.gens) s1 := by
  have rel := vals_ints nts
  have many : vs.length = ns.length := nts.length
  cases hk : K.lookup a with
  | some o =>
    have e := kin a o hk
    rw [scr] at e
    cases e
    have on : Only fun _ => none := fun _ => .inl rfl
    exact startG (ns := ns) kin glob bns boot lim gens scr room F bind (fun _ => none) on (prom _ on (.inr ⟨_, vs.toArray, _, hk, rfl, rfl, rfl, by rw [List.size_toArray, many]; exact few, by simpa using rel⟩)) (fun _ _ z => nomatch z) (fun _ z => (z rfl).elim) fun z => (z rfl).elim
  | none =>
    obtain ⟨H, hH⟩ : ∃ H : Hp, H = fun b => if b = a then some (.frz { cls := .type "list", data := .seq vs.toArray } (.lst (ns.map V.int))) else none := ⟨_, rfl⟩
    have atA : H a = some (.frz { cls := .type "list", data := .seq vs.toArray } (.lst (ns.map V.int))) := by rw [hH]; exact if_pos rfl
    have els : ∀ b, b ≠ a → H b = none := fun b nb => by rw [hH]; exact if_neg nb
    have on : Only H := fun b => by
      by_cases nb : b = a
      · exact .inr ⟨_, _, by rw [nb]; exact atA⟩
      · exact .inl (els b nb)
    refine startG (ns := ns) kin glob bns boot lim gens scr room F bind H on (prom H on (.inl (.inr ⟨_, atA⟩))) (fun b u z => ?_) (fun b z => ?_) fun _ => hk
    · by_cases nb : b = a
      · subst nb
        rw [atA] at z
        cases z
        exact ⟨scr, by rw [List.length_map]; exact few, vs, _, rel, scr⟩
      · rw [els b nb] at z
        cases z
    · by_cases nb : b = a
      · exact nb
      · exact (z (els b nb)).elim
/-- the walk of a law whose def is one of FnG -/
theorem walkG {l : PySem.W.OpenLaw} {n k : Nat} {q : Program} {loose : List Str} {XP : (Str → Option Value) → Heap → Prop} {YP : World → Heap → Prop} {d : DefRec} {K : Params → PySem.W.Frag} {sp : World → Sp} {x : Str}
    (most : l.most = some n) (n2 : n ≤ sizeLine) (dfl : d.params.defaults = []) (room : Room k callerA) (hY : ∀ (w : World) (h : Heap), YP w h → (K w.params).In h)
    (F : ∀ (w : World) (mg : Str → Option Value) (fa : Addr) (h : Heap), (K w.params).In h → h.Ns mainGlobals mg → mg d.name = some (.ref fa) →
      ∃ fd : FuncData, (∀ (s : Shared) (u : Value), BindsTo s fd ⟨[u], []⟩ [(x, u)]) ∧ ∀ base : Heap, (K w.params).In base → base.Ns mainGlobals mg → FnG l.prog w (K w.params) mg base k fa fd [x] (sp w))
    (prom : ∀ (w : World) (H : Hp) (a : Addr) (ns : List Int), ns.length ≤ n → Only H → SqL (K w.params) H a (ns.map V.int) → sp w [.ref a] H (fun v _ => v = .bl true) E0) :
    PySem.W.WalkO q loose XP YP l.row.toRowW d [] (fun f vs => PySem.call f vs) := by
  refine Att.attach_call most dfl fun w s0 s1 mg mb fa o pm cd doc a vs ns G Y ho hd hcd hmg scr nts few gens => ?_
  have kin := hY w _ Y
  obtain ⟨fd, bi, FF⟩ := F w mg fa _ kin G.T.g hmg
  exact callG kin G.T.g G.T.b G.T.builtins G.T.nolimit gens scr nts (Nat.le_trans few n2) room FF bi fun H on hs => prom w H a ns few on hs
end Cw
namespace Cw
open PySem L2
def RowOff (C : Addr) (H : Hp) (a p : Addr) (n : Int) (ms ss : List Int) : Prop := ∃ dx l1 l2, H p = some (.ins C dx (flds n l1 l2)) ∧ IL H l1 ms ∧ IL H l2 ss ∧ l1 ≠ a ∧ l2 ≠ a
theorem RowNew.off {C : Addr} {H H' : Hp} {p a : Addr} {k : Nat} {n : Int} {ms ss : List Int} (r : RowNew C H H' p n ms ss) (J : JarAt H a k) : RowOff C H' a p n ms ss := by
  obtain ⟨dx, l1, l2, h1, h2, h3, n1, n2⟩ := r
  exact ⟨dx, l1, l2, h1, h2, h3, (J.ne n1).symm, (J.ne n2).symm⟩
theorem RowOff.at {C : Addr} {H : Hp} {p a : Addr} {n : Int} {ms ss : List Int} (r : RowOff C H a p n ms ss) : RowAt C H p n ms ss := by
  obtain ⟨dx, l1, l2, h1, h2, h3, _⟩ := r
  exact ⟨dx, l1, l2, h1, h2, h3⟩
theorem RowOff.but {C : Addr} {H H' : Hp} {p a : Addr} {k : Nat} {n : Int} {ms ss : List Int} (r : RowOff C H a p n ms ss) (J : JarAt H a k) (B : But H H' a) : RowOff C H' a p n ms ss := by
  obtain ⟨dx, l1, l2, h1, h2, h3, n1, n2⟩ := r
  exact ⟨dx, l1, l2, B _ _ h1 (J.no h1 fun _ _ _ z => nomatch z), B _ _ h2 n1, B _ _ h3 n2, n1, n2⟩
/-- a row and settings that stay while the jar is drawn from -/
structure RwO (C : Addr) (H : Hp) (a r t : Addr) (n l m g : Int) (ms ss : List Int) : Prop where
  row : RowOff C H a r n ms ss
  tup : H t = some (.tup [.int l, .int m, .int g])
  good : Good n ms ss
  set : SetOk l m g
  big : n ≤ 200 * l
theorem RwO.rws {C : Addr} {H : Hp} {a r t : Addr} {n l m g : Int} {ms ss : List Int} (R : RwO C H a r t n l m g ms ss) : RwS C H r t n l m g ms ss := ⟨R.row.at, R.tup, R.good, R.set, R.big⟩
theorem RwO.but {C : Addr} {H H' : Hp} {a r t : Addr} {k : Nat} {n l m g : Int} {ms ss : List Int} (R : RwO C H a r t n l m g ms ss) (J : JarAt H a k) (B : But H H' a) : RwO C H' a r t n l m g ms ss :=
  ⟨R.row.but J B, B _ _ R.tup (J.no R.tup fun _ _ _ z => nomatch z), R.good, R.set, R.big⟩
theorem inV_il {z : Int} {ns : List Int} : inV (.int z) (ns.map V.int) = decide (z ∈ ns) := by
  unfold inV
  induction ns with
  | nil => rfl
  | cons a r ih =>
    rw [List.map_cons, List.any_cons, ih]
    have e : eqV (.int a) (.int z) = decide (a = z) := by
      by_cases c : a = z
      · subst c; simp [eqV]
      · simp [eqV, c]
    rw [e]
    by_cases c : a = z
    · subst c; simp
    · have c' : ¬ z = a := fun h => c h.symm
      simp [c, c']
theorem flat_il {ns : List Int} : (ns.map V.int).all flatV = true := by
  rw [List.all_map]
  exact List.all_eq_true.mpr fun _ _ => rfl
theorem nx_reach {n l m g p : Int} {ms ss : List Int} : nx n ms ss l m g p ≤ p + g := by
  unfold nx
  omega
/-- a comprehension that takes some whole numbers of a list -/
theorem lc_fil {K : PySem.W.Frag} {a D : Addr} {ns : List Int} {g : TG} {tt : TT} {te : TE} {vs : List Nat} {σ : St} {H1 : Hp} {Qd : Hp → Prop} (f : Int → Bool)
    (ha : IL H1 a ns) (hD : H1 D = none) (few : ns.length ≤ 999)
    (step : ∀ (z : Int) (H : Hp) (A : V → Hp → Prop) (B : Hp → Prop), Same H1 H → (f z = true → A (.int z) H) → (f z = false → B H) →
      g (.int z) (wipe σ vs) H fun σ2 H2 => wipe σ2 vs = wipe σ vs ∧ tt σ2 H2 fun b H3 => if b = true then te σ2 H3 fun y H4 => A y H4 else B H3)
    (fin : ∀ (H : Hp), Same H1 H → IL H D (ns.filter f) → Qd H) :
    ∃ W : Nat → Nat → Hp → Prop, (∃ m, W 0 m (upd H1 D (HO.lst []))) ∧ ∀ (i m : Nat) (H : Hp), W i m H → (Itl K a).stop i H ∧ Qd H ∨ (Itl K a).go i H ∧ ∃ Nx : Hp → Prop, (∀ H', Nx H' → ∃ m', m' < m ∧ W (i + 1) m' H') ∧
      ∀ (x : V) (H' : Hp), (Itl K a).yld i H x H' → g x (wipe σ vs) H' fun σ2 H2 => wipe σ2 vs = wipe σ vs ∧ tt σ2 H2 fun b H3 => if b = true then te σ2 H3 fun y H4 => ∃ acc, H4 D = some (HO.lst acc) ∧ acc.length < sizeLine ∧ Nx (upd H4 D (HO.lst (acc ++ [y]))) else Nx H3 := by
  refine lc_list (K := K) (a := a) (xs := ns.map V.int) (fun i H' => Same H1 H' ∧ IL H' D ((ns.take i).filter f)) ⟨same_new (Same.refl H1) hD, upd_same⟩ (fun i H' _ z => SqL.of (z.1 _ _ ha)) ?_ ?_
  · rintro i x H' hx ⟨s1, hE⟩
    obtain ⟨z, rfl, hz⟩ := il_at hx
    have hil := (List.getElem?_eq_some_iff.mp hz).1
    have tk := take_fil hz f
    have ln : ((ns.take i).filter f).length ≤ 999 := by
      have z1 := List.length_filter_le f (ns.take i)
      rw [List.length_take] at z1
      omega
    refine step z H' _ _ s1 (fun c => ?_) (fun c => ?_)
    · refine ⟨_, hE, by rw [List.length_map]; exact small1000 (by omega), same_put s1 hD, ?_⟩
      show upd _ _ _ D = _
      rw [upd_same, ints_app, tk, if_pos c]
    · refine ⟨s1, ?_⟩
      show H' D = _
      rw [hE, tk, if_neg (by rw [c]; exact Bool.false_ne_true), List.append_nil]
  · rintro H ⟨s1, hE⟩
    rw [List.length_map, List.take_length] at hE
    exact fin H s1 hE
theorem near_at {ks : List Int} {z : Int} (h0 : 0 ≤ z) (h1 : z < (ks.map V.int).length) : ∃ v, atI (ks.map V.int) z = some (V.int v) ∧ v ∈ ks := by
  obtain ⟨v, e, m⟩ := at_lt h0 h1
  obtain ⟨y, hy, rfl⟩ := List.mem_map.mp m
  exact ⟨y, e, hy⟩
theorem refs_no {ts : List Addr} : ∀ r m n : Int, HO.lst (ts.map V.ref) ≠ .lst [.int r, .int m, .int n] := fun r m n z => by
  injection z with z
  cases ts with
  | nil => cases z
  | cons t ts => cases z
theorem same_but {H0 H1 H' : Hp} {p : Addr} (s : Same H0 H1) (n : H0 p = none) (b : But H1 H' p) : Same H0 H' := fun c o e => b c o (s c o e) (ne_of_none e n)
/-- what is said of == of rows -/
structure Eqs (P : Program) (w : World) (K : PySem.W.Frag) (mg : Str → Option Value) (base : Heap) (C fE : Addr) (fdE : FuncData) : Prop where
  ok : FnOk P w K mg base CX0 1 fE fdE ["self", "other"] (spEq (Alike C))
  hm : PySem.W.mroIn K C (.type "object") = some true
  hn : PySem.W.findIn K (.ref C) "__ne__" = some (some (.builtin "object.__ne__"))
  hs : PySem.W.findIn K (.ref C) "__eq__" = some (some (.ref fE))
  hf : PySem.W.isFn K (.ref fE) = true
  hb : Binds K fdE ["self", "other"] []
theorem alike_ins {C : Addr} {H : Hp} {a b : Addr} {n : Int} {ms ss : List Int} (r : RowAt C H a n ms ss) (q : RowAt C H b n ms ss) : DIns C (Alike C) (.ref a) (.ref b) H := by
  obtain ⟨dx, l1, l2, h1, h2, h3⟩ := id r
  obtain ⟨dy, m1, m2, g1, g2, g3⟩ := id q
  exact ⟨a, b, dx, dy, _, _, rfl, rfl, h1, g1, n, ms, ss, r, q⟩
end Cw
namespace Cw
open PySem L2
abbrev sSlow : Stmt := top 0
/-! ## the next cut, place by place -/
def Srv (prs : List (Int × Int)) (p m z : Int) : Prop := (z, 2) ∈ prs ∨ ((z, 1) ∈ prs ∧ z ≥ p + m)
theorem mem_marks {prs : List (Int × Int)} {n x : Int} (G : GoodP n prs) : x ∈ marksOf prs ↔ (x, 1) ∈ prs ∨ (x, 2) ∈ prs := by
  constructor
  · intro h
    obtain ⟨q, hq, rfl⟩ := List.mem_map.mp h
    obtain ⟨q1, q2⟩ := q
    rcases (G.rng _ hq).2.2 with e | e
    · exact .inl (by rw [show q2 = 1 from e] at hq; exact hq)
    · exact .inr (by rw [show q2 = 2 from e] at hq; exact hq)
  · rintro (h | h) <;> exact List.mem_map.mpr ⟨_, h, rfl⟩
theorem mem_strict {prs : List (Int × Int)} {x : Int} : x ∈ strictOf prs ↔ (x, 2) ∈ prs := by
  constructor
  · intro h
    obtain ⟨q, hq, rfl⟩ := List.mem_map.mp h
    obtain ⟨h1, h2⟩ := List.mem_filter.mp hq
    obtain ⟨q1, q2⟩ := q
    have e : q2 = 2 := of_decide_eq_true h2
    rw [e] at h1
    exact h1
  · intro h
    exact List.mem_map.mpr ⟨_, List.mem_filter.mpr ⟨h, decide_eq_true rfl⟩, rfl⟩
theorem nx_found {n l m g p z : Int} {prs : List (Int × Int)} (G : GoodP n prs) (S : SetOk l m g) (h1 : p + l ≤ z) (h2 : z < p + g) (h3 : z < n) (h : Srv prs p m z) (no : ∀ y, p + l ≤ y → y < z → ¬ Srv prs p m y) : nx n (marksOf prs) (strictOf prs) l m g p = z := by
  have l1 := S.l1
  have lm := S.lm
  have Gd := G.good
  have a : z ≤ fm (strictOf prs) (p + l) n := by
    rcases fm_or Gd.asc2 (p + l) n with ⟨k1, k2⟩ | ⟨k1, _⟩
    · by_cases c : fm (strictOf prs) (p + l) n < z
      · exact absurd (.inl (mem_strict.mp k1)) (no _ k2 c)
      · omega
    · omega
  have b : z ≤ fm (marksOf prs) (p + m) n := by
    rcases fm_or Gd.asc (p + m) n with ⟨k1, k2⟩ | ⟨k1, _⟩
    · by_cases c : fm (marksOf prs) (p + m) n < z
      · rcases (mem_marks G).mp k1 with k | k
        · exact absurd (.inr ⟨k, k2⟩) (no _ (by omega) c)
        · exact absurd (.inl k) (no _ (by omega) c)
      · omega
    · omega
  have c : fm (strictOf prs) (p + l) n ≤ z ∨ fm (marksOf prs) (p + m) n ≤ z := by
    rcases h with h | ⟨h, hz⟩
    · exact .inl (fm_le Gd.asc2 (mem_strict.mpr h) h1)
    · exact .inr (fm_le Gd.asc ((mem_marks G).mpr (.inl h)) hz)
  unfold nx
  omega
theorem nx_none {n l m g p : Int} {prs : List (Int × Int)} (G : GoodP n prs) (S : SetOk l m g) (no : ∀ y, p + l ≤ y → y < p + g → y < n → ¬ Srv prs p m y) : nx n (marksOf prs) (strictOf prs) l m g p = min (p + g) n := by
  have l1 := S.l1
  have lm := S.lm
  have Gd := G.good
  have a : min (p + g) n ≤ fm (strictOf prs) (p + l) n := by
    rcases fm_or Gd.asc2 (p + l) n with ⟨k1, k2⟩ | ⟨k1, _⟩
    · by_cases c : fm (strictOf prs) (p + l) n < min (p + g) n
      · exact absurd (.inl (mem_strict.mp k1)) (no _ k2 (by omega) (by omega))
      · omega
    · omega
  have b : min (p + g) n ≤ fm (marksOf prs) (p + m) n := by
    rcases fm_or Gd.asc (p + m) n with ⟨k1, k2⟩ | ⟨k1, _⟩
    · by_cases c : fm (marksOf prs) (p + m) n < min (p + g) n
      · rcases (mem_marks G).mp k1 with k | k
        · exact absurd (.inr ⟨k, k2⟩) (no _ (by omega) (by omega) (by omega))
        · exact absurd (.inl k) (no _ (by omega) (by omega) (by omega))
      · omega
    · omega
  unfold nx
  omega
/-! ## pairs as data -/
abbrev dP (q : Int × Int) : PyData := .tuple [.int q.1, .int q.2]
theorem dp_pair {K : PySem.W.Frag} {H : Hp} {t : Addr} {q : Int × Int} (h : H t = some (.tup [.int q.1, .int q.2])) : Dp K H (.ref t) (dP q) := .tup (SqT.of h) (.cons (.int _) (.cons (.int _) .nil))
theorem dps_pairs {K : PySem.W.Frag} {H : Hp} : ∀ {ts : List Addr} {ps : List (Int × Int)}, PrAt H ts ps → DpAll K H (ts.map V.ref) (ps.map dP)
  | _, _, .nil => .nil
  | _, _, .cons h r => .cons (dp_pair h) (dps_pairs r)
theorem lay_pairs : ∀ ps : List (Int × Int), PyData.canLayAll0 (ps.map dP) = true := fun ps => by
  induction ps with
  | nil => rfl
  | cons q r ih =>
    rw [List.map_cons]
    unfold PyData.canLayAll0
    rw [ih]
    rfl
theorem depth_pairs : ∀ ps : List (Int × Int), PyData.depthAll (ps.map dP) ≤ 3 := fun ps => by
  induction ps with
  | nil => exact Nat.zero_le _
  | cons q r ih =>
    rw [List.map_cons]
    unfold PyData.depthAll
    have e : PyData.depth (dP q) ≤ 3 := by
      have z : PyData.depth (dP q) = PyData.depth (.tuple [.int 0, .int 0]) := rfl
      rw [z]
      decide +kernel
    omega
theorem shape_pairs (ps : List (Int × Int)) : SeqAt.shaped (.list (ps.map dP)) = true := by
  have h1 : PyData.canLay0 (.list (ps.map dP)) = true := by
    unfold PyData.canLay0
    exact lay_pairs ps
  have h2 : PyData.depth (.list (ps.map dP)) ≤ 64 := by
    have z := depth_pairs ps
    unfold PyData.depth
    omega
  unfold SeqAt.shaped
  rw [h1, decide_eq_true h2]
  rfl
theorem shape_pair (q : Int × Int) : SeqAt.shaped (dP q) = true := by
  have z : SeqAt.shaped (dP q) = SeqAt.shaped (.tuple [.int 0, .int 0]) := rfl
  rw [z]
  decide +kernel
theorem any_pairs {q : Int × Int} {ps : List (Int × Int)} : ((ps.map dP).any fun z => PyData.eqv z (dP q)) = decide (q ∈ ps) := by
  induction ps with
  | nil => rfl
  | cons y r ih =>
    rw [List.map_cons, List.any_cons, ih]
    have e : PyData.eqv (dP y) (dP q) = decide (y = q) := by
      obtain ⟨y1, y2⟩ := y
      obtain ⟨q1, q2⟩ := q
      simp only [dP, PyData.eqv, PyData.eqvAll]
      by_cases c1 : y1 = q1 <;> by_cases c2 : y2 = q2 <;> simp [c1, c2]
    rw [e]
    by_cases c : y = q
    · subst c; simp
    · have c' : ¬ q = y := fun h => c h.symm
      simp [c, c']
def spSlow : Sp := fun vs H Q _ => ∃ (p : Addr) (n l m g z : Int) (prs : List (Int × Int)), vs = [.ref p, .int z] ∧ RawS H p n prs l m g ∧ GoodP n prs ∧ SetOk l m g ∧ -1000000 ≤ z ∧ z ≤ 1000000 ∧ n ≤ 1000 ∧ g ≤ 1000000 ∧
  ∀ H', Same H H' → Q (.int (nx n (marksOf prs) (strictOf prs) l m g z)) H'
section
variable {P : Program} {w : World} {K : PySem.W.Frag} {mg : Str → Option Value} {base : Heap}
abbrev NSl : List Str := ["raw", "spot", "length", "marked", "three", "goal"]
end
end Cw
namespace Cw
open PySem L2
theorem log_wide {i : Int} (h0 : 0 ≤ i) (h1 : i ≤ 1000000000000000000000000000000000) : i.natAbs.log2 < 1920 := by
  by_cases c : i.natAbs = 0
  · rw [c]; decide
  · have z : i.natAbs.log2 < 120 := (Nat.log2_lt c).mpr (by
      have e : (2 : Nat) ^ 120 = 1329227995784915872903807060280344576 := by decide +kernel
      rw [e]; omega)
    omega
theorem shown_wide {i : Int} (h0 : 0 ≤ i) (h1 : i ≤ 1000000000000000000000000000000000) : (PyData.shown (.int i)).length ≤ 1921 := by
  have e := int_text_length_le (k := 1920) (by decide) (log_wide h0 h1)
  simp only [PyData.shown]
  rw [PySem.ofString_length]
  exact e
def Wide (ns : List Int) : Prop := ns.length ≤ 900 ∧ ∀ x ∈ ns, 0 ≤ x ∧ x ≤ 1000000000000000000000000000000000
theorem all_show : ∀ {ns : List Int}, (∀ x ∈ ns, 0 ≤ x ∧ x ≤ 1000000000000000000000000000000000) → PyData.showableAll (ns.map PyData.int) = true ∧ PyData.hasDictAll (ns.map PyData.int) = false ∧ PyData.depthAll (ns.map PyData.int) ≤ 2 ∧
    ((PyData.shownAll (ns.map PyData.int)).map (·.length)).sum ≤ 1921 * ns.length ∧ (PyData.shownAll (ns.map PyData.int)).length = ns.length
  | [], _ => ⟨rfl, rfl, Nat.zero_le _, Nat.zero_le _, rfl⟩
  | x :: r, h => by
    obtain ⟨i1, i2, i3, i4, i5⟩ := all_show (ns := r) fun y hy => h y (List.mem_cons_of_mem _ hy)
    obtain ⟨x0, x1⟩ := h x (List.mem_cons_self ..)
    have sx := shown_wide x0 x1
    simp only [List.map_cons, PyData.showableAll, PyData.showable, PyData.hasDictAll, PyData.hasDict, PyData.depthAll, PyData.depth, PyData.shownAll, List.sum_cons, List.length_cons, i1, i2, i5, decide_eq_true (log_wide x0 x1)]
    refine ⟨rfl, rfl, by omega, ?_, trivial⟩
    omega
def Txt (K : PySem.W.Frag) (H : Hp) (p : Addr) (d : PyData) : Prop := Dp K H (.ref p) d ∧ d.showable = true ∧ d.hasDict = false ∧ d.depth ≤ 60 ∧ d.shown.length ≤ sizeLine
theorem txt_il {K : PySem.W.Frag} {H : Hp} {p : Addr} {ns : List Int} (h : IL H p ns) (wm : Wide ns) : Txt K H p (.list (ns.map PyData.int)) := by
  obtain ⟨a1, a2, a3, a4, a5⟩ := all_show wm.2
  refine ⟨dp_il h, ?_, ?_, ?_, ?_⟩
  · simp only [PyData.showable, a1]
  · simp only [PyData.hasDict, a2]
  · simp only [PyData.depth]
    omega
  · have zm := listText_len_le (PyData.shownAll (ns.map PyData.int))
    simp only [PyData.shown]
    have w1 := wm.1
    rw [sizeLine_eq]
    omega
/-! ## the least cut from a place on; how many lie between two places -/
theorem RawS.same {H H' : Hp} {p : Addr} {n : Int} {prs : List (Int × Int)} {l m g : Int} (r : RawS H p n prs l m g) (s : Same H H') : RawS H' p n prs l m g := by
  obtain ⟨lp, t, ts, h1, h2, h3, h4⟩ := r
  exact ⟨lp, t, ts, s _ _ h1, s _ _ h2, h3.imp fun _ _ h => s _ _ h, s _ _ h4⟩
abbrev sOthers : Stmt := top 0
def spOthers : Sp := fun vs H Q _ => ∃ (a p : Addr) (k : Nat) (n l m g : Int) (prs : List (Int × Int)), vs = [.ref a, .ref p] ∧ JarAt H a (k + 1 + 1 + 1) ∧ RawS H p n prs l m g ∧ SetOk l m g ∧ g ≤ 40 ∧
  ∀ (q : Addr) (H' : Hp) (us : List Addr), H' q = some (.lst (us.map V.ref)) → us.length = 4 → q ≠ a → (∀ u ∈ us, ∃ l' m' g' : Int, SetOk l' m' g' ∧ g' ≤ 1000 ∧ RawS H' u n prs l' m' g') → JarAt H' a k → But H H' a → Q (.ref q) H'
section
variable {P : Program} {w : World} {K : PySem.W.Frag} {mg : Str → Option Value} {base : Heap}
abbrev NOs : List Str := ["jar", "raw", "least", "normal", "greatest", "some", "three"]
end
end Cw
namespace Cw
open PySem L2
abbrev sFF : Stmt := top 25
def spFF (C : Addr) : Sp := fun vs H Q _ => ∃ (r t : Addr) (n l m g p z : Int) (ms ss : List Int), vs = [.ref r, .ref t, .int p, .int z] ∧ RwS C H r t n l m g ms ss ∧ 0 ≤ p ∧ p ≤ z ∧ z ≤ n ∧
  ∀ H' k, Same H H' → WkOk (nx n ms ss l m g) n p k → Q (.int (kc (nx n ms ss l m g) n p (cb (wl (nx n ms ss l m g) n p k) z))) H'
section
variable {P : Program} {w : World} {K : PySem.W.Frag} {mg : Str → Option Value} {base : Heap}
abbrev NFf : List Str := ["row", "settings", "start", "place", "cuts"]
theorem scFf : FnScope NFf ["row", "settings", "start", "place"] (defScope sFF) := ⟨rfl, rfl, rfl, by decide +kernel, rfl, by decide +kernel, by decide +kernel⟩
theorem ok_ff {f C fA fB fC : Addr} {fd fdA fdB fdC : FuncData} (F : Fun K "first_from" "first_from" sFF f fd)
    (gA : mg "check_walk" = some (.ref fA)) (kA : PySem.W.keepIn K (.ref fA) = true) (bA : Binds K fdA ["row", "settings", "places"] []) (GA : FnOk P w K mg base CX0 4 fA fdA ["row", "settings", "places"] (spCW C))
    (gB : mg "cuts_from" = some (.ref fB)) (kB : PySem.W.keepIn K (.ref fB) = true) (bB : Binds K fdB ["row", "settings", "start"] []) (GB : FnOk P w K mg base CX0 4 fB fdB ["row", "settings", "start"] (spCuts C))
    (gC : mg "count_before" = some (.ref fC)) (kC : PySem.W.keepIn K (.ref fC) = true) (bC : Binds K fdC ["places", "place"] []) (GC : FnOk P w K mg base CX0 1 fC fdC ["places", "place"] spCB) :
    FnOk P w K mg base CX0 5 f fd ["row", "settings", "start", "place"] (spFF C) := by
  refine F.ok scFf (fun vs H Q E h => ?_) (fun cdv A outer s H vs Q E hr h => ?_)
  · obtain ⟨r, t, n, l, m, g, p, z, ms, ss, rfl, _⟩ := h
    rfl
  · obtain ⟨r, t, n, l, m, g, p, z, ms, ss, rfl, hR, p0, pz, zn, q⟩ := h
    have hr1 : Room 1 (A.deeper (PyProof.Rows.envOfC "first_from" (defScope sFF) s.heap.objs.size f cdv)) := hr.mono (by decide)
    refine ⟨_, pss_cons (ps_expr (pe_call GA hr rfl gA kA bA .nil pass0 (pa_cons (pv 0) (pa_cons (pv 1) (pa_cons (pe_lst (pa_cons (pv 2) (pa_cons (pv 3) pa_nil))) pa_nil)))))
      (pss_cons (ps_set (i := 4) scFf.nd rfl (Or.inl rfl) (pe_call GB hr rfl gB kB bB .nil pass0 (pa_cons (pv 0) (pa_cons (pv 1) (pa_cons (pv 2) pa_nil)))))
      (pss_one (ps_ret (pe_ix (r := rIxL K) ix_list (pv 4) (pe_call GC hr1 rfl gC kC bC .nil pass0 (pa_cons (pv 4) (pa_cons (pv 3) pa_nil))) (fun _ _ => rfl))))), ?_⟩
    refine ⟨_, rfl, _, rfl, _, rfl, _, rfl, (by show 2 ≤ sizeLine; decide), fun c hc => ?_⟩
    have s1 := same_new (o := .lst [.int p, .int z]) (Same.refl H) hc
    refine ⟨r, t, c, n, l, m, g, ms, ss, [p, z], rfl, hR.same s1, upd_same, (by show 2 ≤ 1000; decide), fun i hi' => ?_, fun H2 s2 => ?_⟩
    · match i, hi' with
      | 0, _ => exact ⟨p0, by show p ≤ n; omega⟩
      | 1, _ => exact ⟨pz, zn⟩
      | i + 2, h => exact absurd (show i + 2 < 2 from h) (by omega)
    have s12 := s1.trans s2
    have R2 := hR.same s12
    have ST := nx_stp hR.good hR.set
    refine ⟨_, rfl, _, rfl, _, rfl, r, t, n, l, m, g, p, ms, ss, rfl, R2.row, R2.tup, R2.good, R2.set, R2.big, p0, by omega, fun y H3 k s3 ny wk hy => ?_⟩
    have few := wk.few
    obtain ⟨_, _, ck⟩ := cb_wl ST wk zn
    refine ⟨_, rfl, _, rfl, _, rfl, y, _, z, rfl, hy, by rw [wl_len]; omega, wl_asc ST wk, ?_⟩
    have gt : (wl (nx n ms ss l m g) n p k)[cb (wl (nx n ms ss l m g) n p k) z]? = some (kc (nx n ms ss l m g) n p (cb (wl (nx n ms ss l m g) n p k) z)) := by
      generalize cb (wl (nx n ms ss l m g) n p k) z = i at ck ⊢
      unfold wl
      rw [List.getElem?_map, List.getElem?_range (by omega)]
      rfl
    exact ⟨y, _, _, _, rfl, rfl, SqL.of hy, at_of2 (j := cb (wl (nx n ms ss l m g) n p k) z) rfl (by rw [List.getElem?_map, gt]; rfl), q H3 k (s12.trans s3) wk⟩
end
end Cw
namespace Cw
open PySem L2
/-! ## comprehensions that give whole numbers -/
theorem lcF {α : Type} {K : PySem.W.Frag} {a D : Addr} {src : List V} {xs : List α} {g : TG} {tt : TT} {te : TE} {vs : List Nat} {σ : St} {H1 : Hp} {Qd : Hp → Prop} (p : α → Bool) (v : α → Int)
    (ha : ∀ H, Same H1 H → SqL K H a src) (hl : src.length = xs.length) (hD : H1 D = none) (few : xs.length ≤ 999)
    (step : ∀ (i : Nat) (x : V) (z : α) (H : Hp) (A : V → Hp → Prop) (B : Hp → Prop), src[i]? = some x → xs[i]? = some z → Same H1 H → (∀ H', p z = true → Same H H' → A (.int (v z)) H') → (∀ H', p z = false → Same H H' → B H') →
      g x (wipe σ vs) H fun σ2 H2 => wipe σ2 vs = wipe σ vs ∧ tt σ2 H2 fun b H3 => if b = true then te σ2 H3 fun y H4 => A y H4 else B H3)
    (fin : ∀ (H : Hp), Same H1 H → IL H D ((xs.filter p).map v) → Qd H) :
    ∃ W : Nat → Nat → Hp → Prop, (∃ m, W 0 m (upd H1 D (HO.lst []))) ∧ ∀ (i m : Nat) (H : Hp), W i m H → (Itl K a).stop i H ∧ Qd H ∨ (Itl K a).go i H ∧ ∃ Nx : Hp → Prop, (∀ H', Nx H' → ∃ m', m' < m ∧ W (i + 1) m' H') ∧
      ∀ (x : V) (H' : Hp), (Itl K a).yld i H x H' → g x (wipe σ vs) H' fun σ2 H2 => wipe σ2 vs = wipe σ vs ∧ tt σ2 H2 fun b H3 => if b = true then te σ2 H3 fun y H4 => ∃ acc, H4 D = some (HO.lst acc) ∧ acc.length < sizeLine ∧ Nx (upd H4 D (HO.lst (acc ++ [y]))) else Nx H3 := by
  refine lc_list (K := K) (a := a) (xs := src) (fun i H' => Same H1 H' ∧ IL H' D (((xs.take i).filter p).map v)) ⟨same_new (Same.refl H1) hD, upd_same⟩ (fun i H' _ z => ha _ z.1) ?_ ?_
  · rintro i x H' hx ⟨s1, hE⟩
    have il : i < xs.length := by rw [← hl]; exact (List.getElem?_eq_some_iff.mp hx).1
    obtain ⟨z, hz⟩ : ∃ z, xs[i]? = some z := ⟨_, List.getElem?_eq_getElem il⟩
    have tk : ((xs.take (i + 1)).filter p).map v = ((xs.take i).filter p).map v ++ (if p z = true then [v z] else []) := by
      rw [List.take_add_one, hz, List.filter_append, List.map_append]
      congr 1
      cases c : p z <;> simp [c]
    have ln : (((xs.take i).filter p).map v).length ≤ 999 := by
      rw [List.length_map]
      refine Nat.le_trans (List.length_filter_le _ _) ?_
      rw [List.length_take]
      omega
    refine step i x z H' _ _ hx hz s1 (fun H2 c s2 => ?_) fun H2 c s2 => ?_
    · refine ⟨_, s2 _ _ hE, by rw [List.length_map]; exact small1000 (by omega), same_put (s1.trans s2) hD, ?_⟩
      show upd _ _ _ D = _
      rw [upd_same, tk, if_pos c, ints_app]
    · refine ⟨s1.trans s2, ?_⟩
      rw [tk, if_neg (by rw [c]; decide), List.append_nil]
      exact s2 _ _ hE
  · rintro H' ⟨s1, hE⟩
    rw [hl, List.take_length] at hE
    exact fin H' s1 hE
theorem lcFt {α : Type} {K : PySem.W.Frag} {a D : Addr} {src : List V} {xs : List α} {g : TG} {tt : TT} {te : TE} {vs : List Nat} {σ : St} {H1 : Hp} {Qd : Hp → Prop} (p : α → Bool) (v : α → Int)
    (ha : ∀ H, Same H1 H → SqT K H a src) (hl : src.length = xs.length) (hD : H1 D = none) (few : xs.length ≤ 999)
    (step : ∀ (i : Nat) (x : V) (z : α) (H : Hp) (A : V → Hp → Prop) (B : Hp → Prop), src[i]? = some x → xs[i]? = some z → Same H1 H → (∀ H', p z = true → Same H H' → A (.int (v z)) H') → (∀ H', p z = false → Same H H' → B H') →
      g x (wipe σ vs) H fun σ2 H2 => wipe σ2 vs = wipe σ vs ∧ tt σ2 H2 fun b H3 => if b = true then te σ2 H3 fun y H4 => A y H4 else B H3)
    (fin : ∀ (H : Hp), Same H1 H → IL H D ((xs.filter p).map v) → Qd H) :
    ∃ W : Nat → Nat → Hp → Prop, (∃ m, W 0 m (upd H1 D (HO.lst []))) ∧ ∀ (i m : Nat) (H : Hp), W i m H → (Itt K a).stop i H ∧ Qd H ∨ (Itt K a).go i H ∧ ∃ Nx : Hp → Prop, (∀ H', Nx H' → ∃ m', m' < m ∧ W (i + 1) m' H') ∧
      ∀ (x : V) (H' : Hp), (Itt K a).yld i H x H' → g x (wipe σ vs) H' fun σ2 H2 => wipe σ2 vs = wipe σ vs ∧ tt σ2 H2 fun b H3 => if b = true then te σ2 H3 fun y H4 => ∃ acc, H4 D = some (HO.lst acc) ∧ acc.length < sizeLine ∧ Nx (upd H4 D (HO.lst (acc ++ [y]))) else Nx H3 := by
  refine lc_tup (K := K) (a := a) (xs := src) (fun i H' => Same H1 H' ∧ IL H' D (((xs.take i).filter p).map v)) ⟨same_new (Same.refl H1) hD, upd_same⟩ (fun i H' _ z => ha _ z.1) ?_ ?_
  · rintro i x H' hx ⟨s1, hE⟩
    have il : i < xs.length := by rw [← hl]; exact (List.getElem?_eq_some_iff.mp hx).1
    obtain ⟨z, hz⟩ : ∃ z, xs[i]? = some z := ⟨_, List.getElem?_eq_getElem il⟩
    have tk : ((xs.take (i + 1)).filter p).map v = ((xs.take i).filter p).map v ++ (if p z = true then [v z] else []) := by
      rw [List.take_add_one, hz, List.filter_append, List.map_append]
      congr 1
      cases c : p z <;> simp [c]
    have ln : (((xs.take i).filter p).map v).length ≤ 999 := by
      rw [List.length_map]
      refine Nat.le_trans (List.length_filter_le _ _) ?_
      rw [List.length_take]
      omega
    refine step i x z H' _ _ hx hz s1 (fun H2 c s2 => ?_) fun H2 c s2 => ?_
    · refine ⟨_, s2 _ _ hE, by rw [List.length_map]; exact small1000 (by omega), same_put (s1.trans s2) hD, ?_⟩
      show upd _ _ _ D = _
      rw [upd_same, tk, if_pos c, ints_app]
    · refine ⟨s1.trans s2, ?_⟩
      rw [tk, if_neg (by rw [c]; decide), List.append_nil]
      exact s2 _ _ hE
  · rintro H' ⟨s1, hE⟩
    rw [hl, List.take_length] at hE
    exact fin H' s1 hE
theorem eqv_nilI {ns : List Int} : PyData.eqv (.list (ns.map PyData.int)) (.list []) = decide (ns = []) := by
  cases ns with
  | nil => rfl
  | cons a r => rfl
/-- the last k of a list -/
theorem cut_last {α : Type} (f : α → V) (xs : List α) (k : Nat) (hk : 0 < k) : ∃ j, cutV (xs.map f) (some (-(k : Int))) none = (xs.drop j).map f ∧ (xs.drop j).length ≤ k := by
  have e : HT.sIx (xs.map f).length 0 (some (-(k : Int))) = ((-(k : Int)) + (((xs.map f).length : Nat) : Int)).toNat := if_pos (by omega)
  refine ⟨HT.sIx (xs.map f).length 0 (some (-(k : Int))), ?_, ?_⟩
  · unfold cutV
    rw [List.map_drop, List.take_of_length_le]
    rw [List.length_drop]
    exact Nat.le_refl _
  · rw [List.length_drop, e, List.length_map]
    omega
theorem PrAt.drop {H : Hp} : ∀ {ts : List Addr} {ps : List (Int × Int)} (j : Nat), PrAt H ts ps → PrAt H (ts.drop j) (ps.drop j)
  | _, _, 0, h => h
  | _, _, _ + 1, .nil => .nil
  | _, _, j + 1, .cons _ r => PrAt.drop j r
end Cw
namespace Cw
open PySem L2
/-! ## next cuts told by what they are -/
structure NxP (n : Int) (ms ss : List Int) (l m g p v : Int) : Prop where
  top : v ≤ n
  far : v ≤ p + g
  st : ∀ x ∈ ss, p + l ≤ x → v ≤ x
  pl : ∀ x ∈ ms, p + m ≤ x → v ≤ x
  is : v = n ∨ v = p + g ∨ (v ∈ ss ∧ p + l ≤ v) ∨ (v ∈ ms ∧ p + m ≤ v)
theorem nx_props {n l m g p : Int} {ms ss : List Int} (G : Good n ms ss) : NxP n ms ss l m g p (nx n ms ss l m g p) := by
  have a := fm_or G.asc2 (p + l) n
  have b := fm_or G.asc (p + m) n
  refine ⟨by unfold nx; omega, by unfold nx; omega, fun x hx h => ?_, fun x hx h => ?_, ?_⟩
  · have := fm_le G.asc2 (e := n) hx h
    unfold nx
    omega
  · have := fm_le G.asc (e := n) hx h
    unfold nx
    omega
  · have d : nx n ms ss l m g p = fm ss (p + l) n ∨ nx n ms ss l m g p = fm ms (p + m) n ∨ nx n ms ss l m g p = p + g ∨ nx n ms ss l m g p = n := by
      unfold nx
      omega
    rcases d with d | d | d | d
    · rcases a with ⟨h, h2⟩ | ⟨h, _⟩
      · exact .inr (.inr (.inl (by rw [d]; exact ⟨h, h2⟩)))
      · exact .inl (d.trans h)
    · rcases b with ⟨h, h2⟩ | ⟨h, _⟩
      · exact .inr (.inr (.inr (by rw [d]; exact ⟨h, h2⟩)))
      · exact .inl (d.trans h)
    · exact .inr (.inl d)
    · exact .inl d
theorem nx_is {n l m g p v : Int} {ms ss : List Int} (G : Good n ms ss) (h : NxP n ms ss l m g p v) : nx n ms ss l m g p = v := by
  have P := nx_props (l := l) (m := m) (g := g) (p := p) G
  have le : v ≤ nx n ms ss l m g p := by
    rcases P.is with d | d | ⟨d, d2⟩ | ⟨d, d2⟩
    · rw [d]; exact h.top
    · rw [d]; exact h.far
    · exact h.st _ d d2
    · exact h.pl _ d d2
  have ge : nx n ms ss l m g p ≤ v := by
    rcases h.is with d | d | ⟨d, d2⟩ | ⟨d, d2⟩
    · rw [d]; exact P.top
    · rw [d]; exact P.far
    · exact P.st _ d d2
    · exact P.pl _ d d2
  omega
end Cw
namespace Cw
open PySem L2
/-! ## bounds of settings that give cuts -/
def mx (x y : Int) : Int := if y > x then y else x
theorem mx_le {x y z : Int} : mx x y ≤ z ↔ x ≤ z ∧ y ≤ z := by
  unfold mx
  split <;> omega
theorem mx_l {x y : Int} : x ≤ mx x y := by
  unfold mx
  split <;> omega
theorem mx_r {x y : Int} : y ≤ mx x y := by
  unfold mx
  split <;> omega
/-- the greatest of some numbers from 1 on -/
structure MaxOf (P : Int → Prop) (m : Int) : Prop where
  is : m = 1 ∨ P m
  one : 1 ≤ m
  up : ∀ x, P x → x ≤ m
theorem MaxOf.nil {P : Int → Prop} (h : ∀ x, ¬ P x) : MaxOf P 1 := ⟨.inl rfl, Int.le_refl _, fun x hx => absurd hx (h x)⟩
theorem MaxOf.iff {P Q : Int → Prop} {m : Int} (h : MaxOf P m) (e : ∀ x, P x ↔ Q x) : MaxOf Q m := ⟨h.is.imp id (e m).mp, h.one, fun x hx => h.up x ((e x).mpr hx)⟩
theorem MaxOf.eq {P : Int → Prop} {m k : Int} (a : MaxOf P m) (b : MaxOf P k) : m = k := by
  have h1 : m ≤ k := by
    rcases a.is with e | e
    · have := b.one
      omega
    · exact b.up _ e
  have h2 : k ≤ m := by
    rcases b.is with e | e
    · have := a.one
      omega
    · exact a.up _ e
  omega
theorem MaxOf.add {P Q : Int → Prop} {m v : Int} (h : MaxOf P m) (hv : 1 ≤ v) (e : ∀ x, Q x ↔ P x ∨ x = v) : MaxOf Q (if v > m then v else m) := by
  have h1 := h.one
  refine ⟨?_, by split <;> omega, fun x hx => ?_⟩
  · split
    · exact .inr ((e v).mpr (.inr rfl))
    · exact h.is.imp id fun z => (e m).mpr (.inl z)
  · rcases (e x).mp hx with z | z
    · have := h.up x z
      split <;> omega
    · split <;> omega
/-- how far the last one between b and e is behind b -/
def LastW (xs : List Int) (b e w : Int) : Prop := (w = 0 ∧ ∀ y ∈ xs, ¬ (b < y ∧ y < e)) ∨ ∃ y ∈ xs, b < y ∧ y < e ∧ w = y - b ∧ ∀ z ∈ xs, b < z → z < e → z ≤ y
theorem MaxOf.last {P Q : Int → Prop} {m b e w : Int} {xs : List Int} (h : MaxOf P m) (l : LastW xs b e w) (hQ : ∀ x, Q x ↔ P x ∨ ∃ y ∈ xs, b < y ∧ y < e ∧ x = y - b + 1) : MaxOf Q (if w + 1 > m then w + 1 else m) := by
  have h1 := h.one
  rcases l with ⟨e0, no⟩ | ⟨y, hy, y1, y2, ew, top⟩
  · rw [if_neg (by omega)]
    refine h.iff fun x => (hQ x).trans ⟨fun z => z.elim id fun ⟨y, hy, a, b, _⟩ => absurd ⟨a, b⟩ (no y hy), .inl⟩ |>.symm
  · refine ⟨?_, by split <;> omega, fun x hx => ?_⟩
    · split
      · exact .inr ((hQ _).mpr (.inr ⟨y, hy, y1, y2, by omega⟩))
      · exact h.is.imp id fun z => (hQ m).mpr (.inl z)
    · rcases (hQ x).mp hx with z | ⟨y', hy', a1, a2, a3⟩
      · have := h.up x z
        split <;> omega
      · have := top y' hy' a1 a2
        split <;> omega
/-- the least of some numbers, or none -/
def MinOf (P : Int → Prop) : Option Int → Prop
  | none => ∀ x, ¬ P x
  | some m => P m ∧ ∀ x, P x → m ≤ x
theorem MinOf.eq {P : Int → Prop} : ∀ {a b : Option Int}, MinOf P a → MinOf P b → a = b
  | none, none, _, _ => rfl
  | none, some _, h, k => absurd k.1 (h _)
  | some _, none, h, k => absurd h.1 (k _)
  | some x, some y, h, k => by
    have := h.2 y k.1
    have := k.2 x h.1
    congr 1
    omega
theorem MinOf.iff {P Q : Int → Prop} : ∀ {o : Option Int}, MinOf P o → (∀ x, P x ↔ Q x) → MinOf Q o
  | none, h, e => fun x hx => h x ((e x).mpr hx)
  | some _, h, e => ⟨(e _).mp h.1, fun x hx => h.2 x ((e x).mpr hx)⟩
/-- the j-th cut -/
abbrev cAt (cuts : List Int) (j : Nat) : Int := cuts.getD j 0
def PL (cuts : List Int) (K : Nat) (xs : List Int) (x : Int) : Prop := ∃ j, j < K ∧ ∃ y ∈ xs, cAt cuts j < y ∧ y < cAt cuts (j + 1) ∧ x = y - cAt cuts j + 1
def PG (cuts : List Int) (K : Nat) (x : Int) : Prop := ∃ j, j < K ∧ x = cAt cuts (j + 1) - cAt cuts j
def PT (cuts : List Int) (K : Nat) (n : Int) (φ : Int → Prop) (x : Int) : Prop := ∃ j, j < K ∧ cAt cuts (j + 1) < n ∧ φ (cAt cuts (j + 1)) ∧ x = cAt cuts (j + 1) - cAt cuts j
theorem PL_succ {cuts : List Int} {K : Nat} {xs : List Int} (x : Int) : PL cuts (K + 1) xs x ↔ PL cuts K xs x ∨ ∃ y ∈ xs, cAt cuts K < y ∧ y < cAt cuts (K + 1) ∧ x = y - cAt cuts K + 1 := by
  constructor
  · rintro ⟨j, hj, h⟩
    by_cases c : j < K
    · exact .inl ⟨j, c, h⟩
    · have : j = K := by omega
      subst this
      exact .inr h
  · rintro (⟨j, hj, h⟩ | h)
    · exact ⟨j, by omega, h⟩
    · exact ⟨K, by omega, h⟩
theorem PG_succ {cuts : List Int} {K : Nat} (x : Int) : PG cuts (K + 1) x ↔ PG cuts K x ∨ x = cAt cuts (K + 1) - cAt cuts K := by
  constructor
  · rintro ⟨j, hj, h⟩
    by_cases c : j < K
    · exact .inl ⟨j, c, h⟩
    · have : j = K := by omega
      subst this
      exact .inr h
  · rintro (⟨j, hj, h⟩ | h)
    · exact ⟨j, by omega, h⟩
    · exact ⟨K, by omega, h⟩
theorem PT_succ {cuts : List Int} {K : Nat} {n : Int} {φ : Int → Prop} (x : Int) : PT cuts (K + 1) n φ x ↔ PT cuts K n φ x ∨ (cAt cuts (K + 1) < n ∧ φ (cAt cuts (K + 1)) ∧ x = cAt cuts (K + 1) - cAt cuts K) := by
  constructor
  · rintro ⟨j, hj, h⟩
    by_cases c : j < K
    · exact .inl ⟨j, c, h⟩
    · have : j = K := by omega
      subst this
      exact .inr h
  · rintro (⟨j, hj, h⟩ | h)
    · exact ⟨j, by omega, h⟩
    · exact ⟨K, by omega, h⟩
/-- a list of cuts -/
structure CutsOk (n : Int) (cuts : List Int) (K : Nat) : Prop where
  len : cuts.length = K + 1
  few : K ≤ 200
  asc : Asc cuts
  rng : ∀ x ∈ cuts, 0 ≤ x ∧ x ≤ n
  last : cAt cuts K = n
theorem CutsOk.mem {n : Int} {cuts : List Int} {K j : Nat} (C : CutsOk n cuts K) (h : j ≤ K) : cAt cuts j ∈ cuts := by
  have hl := C.len
  have e : cAt cuts j = cuts[j]'(by omega) := by
    show cuts.getD j 0 = _
    rw [List.getD_eq_getElem?_getD, List.getElem?_eq_getElem (by omega)]
    rfl
  rw [e]
  exact List.getElem_mem _
theorem CutsOk.at {n : Int} {cuts : List Int} {K j : Nat} (C : CutsOk n cuts K) (h : j ≤ K) : cuts[j]? = some (cAt cuts j) := by
  have hl := C.len
  show _ = some (cuts.getD j 0)
  rw [List.getD_eq_getElem?_getD, List.getElem?_eq_getElem (by omega)]
  rfl
theorem CutsOk.lt {n : Int} {cuts : List Int} {K i j : Nat} (C : CutsOk n cuts K) (h : i < j) (hj : j ≤ K) : cAt cuts i < cAt cuts j := by
  have hl := C.len
  have a := List.pairwise_iff_getElem.mp C.asc i j (by omega) (by omega) h
  have e1 := C.at (j := i) (by omega)
  have e2 := C.at hj
  rw [List.getElem?_eq_getElem (by omega)] at e1 e2
  rw [← Option.some.inj e1, ← Option.some.inj e2]
  exact a
theorem CutsOk.lt_n {n : Int} {cuts : List Int} {K j : Nat} (C : CutsOk n cuts K) (h : j < K) : cAt cuts j < n := by
  rw [← C.last]
  exact C.lt h (Nat.le_refl _)
def plM (ms ss : List Int) : List Int := ms.filter fun x => decide (x ∉ ss)
theorem mem_pl {ms ss : List Int} {x : Int} : x ∈ plM ms ss ↔ x ∈ ms ∧ x ∉ ss := by
  unfold plM
  rw [List.mem_filter, decide_eq_true_iff]
structure Lo (cuts : List Int) (K : Nat) (ms ss : List Int) (L N G : Int) : Prop where
  l : MaxOf (PL cuts K ss) L
  p : MaxOf (PL cuts K (plM ms ss)) N
  g : MaxOf (PG cuts K) G
structure Hi (cuts : List Int) (K : Nat) (n : Int) (ms ss : List Int) (a b c : Option Int) : Prop where
  l : MinOf (PT cuts K n fun e => e ∈ ss) a
  p : MinOf (PT cuts K n fun e => e ∈ ms ∧ e ∉ ss) b
  g : MinOf (PT cuts K n fun e => e ∉ ms) c
/-- whether some settings lie within the bounds -/
def OkS (L N G : Int) (a b c : Option Int) : Prop := (∀ t, a = some t → L ≤ t) ∧ (∀ t, b = some t → mx L N ≤ t) ∧ ∀ t, c = some t → mx (mx L N) G ≤ t
/-- settings within the bounds -/
structure Within (L N G : Int) (a b c : Option Int) (l m g : Int) : Prop where
  l1 : L ≤ l
  n1 : N ≤ m
  g1 : G ≤ g
  l2 : ∀ t, a = some t → l ≤ t
  n2 : ∀ t, b = some t → m ≤ t
  g2 : ∀ t, c = some t → g ≤ t
theorem Within.ok {L N G l m g : Int} {a b c : Option Int} (w : Within L N G a b c l m g) (S : SetOk l m g) : OkS L N G a b c := by
  have h1 := w.l1
  have h2 := w.n1
  have h3 := w.g1
  have s1 := S.lm
  have s2 := S.mg
  refine ⟨fun t e => ?_, fun t e => ?_, fun t e => ?_⟩
  · have := w.l2 t e
    omega
  · have := w.n2 t e
    exact mx_le.mpr ⟨by omega, by omega⟩
  · have := w.g2 t e
    exact mx_le.mpr ⟨mx_le.mpr ⟨by omega, by omega⟩, by omega⟩
theorem steps_of {n l m g L N G : Int} {ms ss cuts : List Int} {a b c : Option Int} {K : Nat} (R : Good n ms ss) (S : SetOk l m g) (C : CutsOk n cuts K) (lo : Lo cuts K ms ss L N G) (hi : Hi cuts K n ms ss a b c) (w : Within L N G a b c l m g) {j : Nat} (hj : j < K) : nx n ms ss l m g (cAt cuts j) = cAt cuts (j + 1) := by
  have lt := C.lt (show j < j + 1 by omega) (show j + 1 ≤ K by omega)
  have rg := C.rng _ (C.mem (show j + 1 ≤ K by omega))
  have w1 := w.l1
  have w2 := w.n1
  have w3 := w.g1
  have s1 := S.lm
  have s2 := S.mg
  have gG := lo.g.up _ ⟨j, hj, rfl⟩
  refine nx_is R ⟨rg.2, by omega, fun x hx h => ?_, fun x hx h => ?_, ?_⟩
  · by_cases d : x < cAt cuts (j + 1)
    · have := lo.l.up _ ⟨j, hj, x, hx, by have := S.l1; omega, d, rfl⟩
      omega
    · omega
  · by_cases d : x < cAt cuts (j + 1)
    · have l1 := S.l1
      by_cases e : x ∈ ss
      · have := lo.l.up _ ⟨j, hj, x, e, by omega, d, rfl⟩
        omega
      · have := lo.p.up _ ⟨j, hj, x, mem_pl.mpr ⟨hx, e⟩, by omega, d, rfl⟩
        omega
    · omega
  · by_cases d : cAt cuts (j + 1) < n
    · by_cases e : cAt cuts (j + 1) ∈ ss
      · cases ea : a with
        | none =>
          have z := hi.l
          rw [ea] at z
          exact absurd ⟨j, hj, d, e, rfl⟩ (z _)
        | some t =>
          have z := hi.l
          rw [ea] at z
          have y := z.2 _ ⟨j, hj, d, e, rfl⟩
          have := w.l2 t ea
          exact .inr (.inr (.inl ⟨e, by omega⟩))
      · by_cases f : cAt cuts (j + 1) ∈ ms
        · cases eb : b with
          | none =>
            have z := hi.p
            rw [eb] at z
            exact absurd ⟨j, hj, d, ⟨f, e⟩, rfl⟩ (z _)
          | some t =>
            have z := hi.p
            rw [eb] at z
            have y := z.2 _ ⟨j, hj, d, ⟨f, e⟩, rfl⟩
            have := w.n2 t eb
            exact .inr (.inr (.inr ⟨f, by omega⟩))
        · cases ec : c with
          | none =>
            have z := hi.g
            rw [ec] at z
            exact absurd ⟨j, hj, d, f, rfl⟩ (z _)
          | some t =>
            have z := hi.g
            rw [ec] at z
            have y := z.2 _ ⟨j, hj, d, f, rfl⟩
            have := w.g2 t ec
            exact .inr (.inl (by omega))
    · exact .inl (by omega)
theorem within_of {n l m g L N G : Int} {ms ss cuts : List Int} {a b c : Option Int} {K : Nat} (R : Good n ms ss) (S : SetOk l m g) (C : CutsOk n cuts K) (lo : Lo cuts K ms ss L N G) (hi : Hi cuts K n ms ss a b c) (st : ∀ j, j < K → nx n ms ss l m g (cAt cuts j) = cAt cuts (j + 1)) : Within L N G a b c l m g := by
  have s1 := S.lm
  have s2 := S.mg
  have l1 := S.l1
  have P : ∀ j, j < K → NxP n ms ss l m g (cAt cuts j) (cAt cuts (j + 1)) := fun j hj => by
    have z := nx_props R (l := l) (m := m) (g := g) (p := cAt cuts j)
    rw [st j hj] at z
    exact z
  refine ⟨?_, ?_, ?_, fun t e => ?_, fun t e => ?_, fun t e => ?_⟩
  · rcases lo.l.is with e | ⟨j, hj, y, hy, y1, y2, e⟩
    · omega
    · have z := (P j hj).st y hy
      omega
  · rcases lo.p.is with e | ⟨j, hj, y, hy, y1, y2, e⟩
    · omega
    · have z := (P j hj).pl y (mem_pl.mp hy).1
      omega
  · rcases lo.g.is with e | ⟨j, hj, e⟩
    · omega
    · have z := (P j hj).far
      omega
  · have z := hi.l
    rw [e] at z
    obtain ⟨⟨j, hj, d, f, ex⟩, _⟩ := z
    rcases (P j hj).is with h | h | h | h <;> omega
  · have z := hi.p
    rw [e] at z
    obtain ⟨⟨j, hj, d, f, ex⟩, _⟩ := z
    rcases (P j hj).is with h | h | h | h
    · omega
    · omega
    · exact absurd h.1 f.2
    · omega
  · have z := hi.g
    rw [e] at z
    obtain ⟨⟨j, hj, d, f, ex⟩, _⟩ := z
    rcases (P j hj).is with h | h | h | h
    · omega
    · omega
    · exact absurd (R.sub _ h.1) f
    · exact absurd h.1 f
theorem chain_wl {F : Int → Int} {n : Int} {cuts : List Int} {K : Nat} (C : CutsOk n cuts K) (st : ∀ j, j < K → F (cAt cuts j) = cAt cuts (j + 1)) : WkOk F n (cAt cuts 0) K ∧ wl F n (cAt cuts 0) K = cuts := by
  have key : ∀ j, j ≤ K → kc F n (cAt cuts 0) j = cAt cuts j := fun j => by
    induction j with
    | zero => exact fun _ => rfl
    | succ j ih =>
      intro h
      have e := ih (by omega)
      have lt : kc F n (cAt cuts 0) j < n := by rw [e]; exact C.lt_n (by omega)
      rw [kc_at lt, e]
      exact st j (by omega)
  refine ⟨⟨C.few, by rw [key K (Nat.le_refl _)]; exact C.last, fun i hi => by rw [key i (by omega)]; exact C.lt_n hi⟩, ?_⟩
  refine List.ext_getElem? fun i => ?_
  unfold wl
  rw [List.getElem?_map]
  by_cases h : i ≤ K
  · rw [List.getElem?_range (by omega), C.at h]
    show some (kc F n (cAt cuts 0) i) = _
    rw [key i h]
  · have hl := C.len
    rw [List.getElem?_eq_none (by rw [List.length_range]; omega), List.getElem?_eq_none (by omega)]
    rfl
theorem wl_cuts {F : Int → Int} {n l s : Int} {k : Nat} (S : Stp F n l) (w : WkOk F n s k) (s0 : 0 ≤ s) (sn : s ≤ n) : CutsOk n (wl F n s k) k := by
  have e : ∀ j, j ≤ k → cAt (wl F n s k) j = kc F n s j := fun j h => by
    show (wl F n s k).getD j 0 = _
    unfold wl
    rw [List.getD_eq_getElem?_getD, List.getElem?_map, List.getElem?_range (by omega)]
    rfl
  have up : ∀ i j, i < j → j ≤ k → kc F n s i < kc F n s j := fun i j h hj => by
    have lt := w.bef i (by omega)
    have a := S.gt lt
    rw [← kc_at lt] at a
    have b := kc_wk S (s := s) (show i + 1 ≤ j by omega)
    omega
  refine ⟨wl_len, w.few, ?_, fun x hx => ?_, by rw [e k (Nat.le_refl _)]; exact w.fin⟩
  · unfold wl
    refine List.pairwise_map.mpr (List.pairwise_lt_range.imp_of_mem fun {i j} hi hj h => up i j h ?_)
    have := List.mem_range.mp hj
    omega
  · obtain ⟨j, _, rfl⟩ := List.mem_map.mp hx
    have a := kc_wk S (s := s) (Nat.zero_le j)
    have b := kc_le S sn j
    have c : kc F n s 0 = s := rfl
    omega
theorem wl_steps {F : Int → Int} {n s : Int} {k : Nat} (w : WkOk F n s k) {j : Nat} (hj : j < k) : F (cAt (wl F n s k) j) = cAt (wl F n s k) (j + 1) := by
  have e : ∀ j, j ≤ k → cAt (wl F n s k) j = kc F n s j := fun j h => by
    show (wl F n s k).getD j 0 = _
    unfold wl
    rw [List.getD_eq_getElem?_getD, List.getElem?_map, List.getElem?_range (by omega)]
    rfl
  rw [e j (by omega), e (j + 1) (by omega), kc_at (w.bef j hj)]
end Cw
namespace Cw
open PySem PySem.Spec PyProof.Rows L2
/-! ## x -> 5 x + 1 meets all numbers below a power of two -/
def ff : Nat → Nat → Nat
  | 0, i => i
  | n + 1, i => 5 * ff n i + 1
theorem ff_add (a i : Nat) : ∀ b, ff (a + b) i = ff b (ff a i)
  | 0 => rfl
  | b + 1 => by
    show 5 * ff (a + b) i + 1 = 5 * ff b (ff a i) + 1
    rw [ff_add a i b]
theorem ff_two (k : Nat) : ∃ u v : Nat, ∀ i, ff (2 ^ k) i = (1 + 4 * 2 ^ k * u) * i + 2 ^ k * (1 + 2 * v) := by
  induction k with
  | zero => exact ⟨1, 0, fun i => by show 5 * i + 1 = _; omega⟩
  | succ k ih =>
    obtain ⟨u, v, h⟩ := ih
    generalize hK : 2 ^ k = K at h
    refine ⟨u + 2 * K * u * u, v + K * u * (1 + 2 * v), fun i => ?_⟩
    have e : 2 ^ (k + 1) = K + K := by rw [Nat.pow_succ, hK]; omega
    rw [e, ff_add, h, h]
    grind
theorem ff_half (k i : Nat) : ∃ c, ff (2 ^ k) i = i + 2 ^ k + 2 ^ (k + 1) * c := by
  obtain ⟨u, v, h⟩ := ff_two k
  refine ⟨2 * u * i + v, ?_⟩
  rw [h, Nat.pow_succ]
  generalize 2 ^ k = K
  grind
/-- each residue comes -/
theorem ff_all : ∀ (k i j : Nat), j < 2 ^ k → ∃ n, n < 2 ^ k ∧ ff n i % 2 ^ k = j
  | 0, i, j, h => ⟨0, by decide, by
    have : j < 1 := h
    show i % 1 = j
    omega⟩
  | k + 1, i, j, h => by
    obtain ⟨n, hn, e⟩ := ff_all k i (j % 2 ^ k) (Nat.mod_lt _ (Nat.pow_pos (by decide)))
    obtain ⟨c, hc⟩ := ff_half k (ff n i)
    have e1 : 2 ^ (k + 1) = 2 * 2 ^ k := by rw [Nat.pow_succ]; omega
    rw [e1] at h hc ⊢
    have pos : 0 < 2 ^ k := Nat.pow_pos (by decide)
    generalize 2 ^ k = K at *
    generalize hx : ff n i = x at *
    have d1 := Nat.div_add_mod x (2 * K)
    have m1 := Nat.mod_lt x (show 0 < 2 * K by omega)
    have key : x % (2 * K) % K = j % K := by rw [Nat.mod_mul_left_mod]; exact e
    by_cases q : x % (2 * K) = j
    · exact ⟨n, by omega, by rw [hx]; exact q⟩
    · refine ⟨n + K, by omega, ?_⟩
      rw [ff_add, hx, hc]
      have z : x + K + 2 * K * c = (x % (2 * K) + K) + 2 * K * (x / (2 * K) + c) := by
        rw [Nat.mul_add]
        omega
      rw [z, Nat.add_mul_mod_self_left]
      generalize x % (2 * K) = y at *
      have dy : y % K = if y < K then y else y - K := by
        split
        · exact Nat.mod_eq_of_lt (by assumption)
        · rw [Nat.mod_eq_sub_mod (by omega), Nat.mod_eq_of_lt (by omega)]
      have dj : j % K = if j < K then j else j - K := by
        split
        · exact Nat.mod_eq_of_lt (by assumption)
        · rw [Nat.mod_eq_sub_mod (by omega), Nat.mod_eq_of_lt (by omega)]
      rw [dy, dj] at key
      by_cases a : y < K
      · rw [if_pos a] at key
        have b : ¬ j < K := fun b => by rw [if_pos b] at key; exact q key
        rw [if_neg b] at key
        rw [Nat.mod_eq_of_lt (by omega)]
        omega
      · rw [if_neg a] at key
        have b : j < K := by
          by_cases b : j < K
          · exact b
          · rw [if_neg b] at key
            omega
        rw [if_pos b] at key
        rw [Nat.mod_eq_sub_mod (by omega), Nat.mod_eq_of_lt (by omega)]
        omega
/-- a mask of a set's table -/
def MaskG (m : Nat) : Prop := ∃ k, m + 1 = 2 ^ k
theorem lcgI_ff (m i : Nat) : ∀ n, 0 < n → lcgI m i n = ff n i % (m + 1)
  | 0, h => absurd h (Nat.lt_irrefl _)
  | 1, _ => by
    show (i * 5 + 1) % (m + 1) = (5 * i + 1) % (m + 1)
    rw [Nat.mul_comm]
  | n + 2, _ => by
    have ih := lcgI_ff m i (n + 1) (Nat.succ_pos _)
    show (lcgI m i (n + 1) * 5 + 1) % (m + 1) = (5 * ff (n + 1) i + 1) % (m + 1)
    rw [ih, Nat.mul_comm, Nat.add_mod, Nat.mul_mod, Nat.mod_mod, ← Nat.mul_mod, ← Nat.add_mod]
theorem lcgI_any {m i j : Nat} (G : MaskG m) (hi : i ≤ m) (hj : j ≤ m) : ∃ n, n ≤ m ∧ lcgI m i n = j := by
  obtain ⟨k, e⟩ := G
  obtain ⟨n, hn, h⟩ := ff_all k i j (by omega)
  refine ⟨n, by omega, ?_⟩
  cases n with
  | zero =>
    have : i % 2 ^ k = j := h
    rw [Nat.mod_eq_of_lt (by omega)] at this
    exact this
  | succ n => rw [lcgI_ff m i _ (Nat.succ_pos _), e, h]
end Cw
namespace Cw
open PySem PySem.Spec PyProof.Rows L2
/-! ## a table is laid for any mask -/
theorem runs_meet {m j : Nat} (G : MaskG m) (h : Int) (hj : j ≤ m) : ∃ n, n ≤ m + 12 ∧ runI m (SetTable.bits h) n = j := by
  obtain ⟨k, hk, e⟩ := lcgI_any G (runI_le m (SetTable.bits h) 12) hj
  refine ⟨12 + k, by omega, ?_⟩
  rw [runI_tail (bits_lt h) k, e]
/-- one more hash finds its slot -/
theorem free_got {m j : Nat} (G : MaskG m) (owner : Array (Option Nat)) (h : Int) (hj : j ≤ m) (hf : oAt owner j = none) :
    ∃ i, i ≤ m ∧ oAt owner i = none ∧ SetTable.layClean.free m owner (SetTable.turns m) (SetTable.bits h % (m + 1)) (SetTable.bits h) = some i := by
  obtain ⟨n, hn, e⟩ := runs_meet G h hj
  let P : Nat → Prop := fun k => oAt owner (nth m (runAt m (SetTable.bits h % (m + 1)) (SetTable.bits h)) k).j = none
  have at_n : P (off m (SetTable.bits h % (m + 1)) (SetTable.bits h) n) := by
    show oAt owner (nth m (runAt m _ _) (off m _ _ n)).j = none
    rw [nth_off, itL_run]
    show oAt owner (runI m (SetTable.bits h) n) = none
    rw [e]
    exact hf
  obtain ⟨k, h1, h2, h3⟩ := st_least (p := P) _ at_n
  refine ⟨_, ?_, h2, free_spec m owner (SetTable.turns m) n _ _ k (by unfold SetTable.turns; omega) h1 (fun i hi => ?_) ?_⟩
  · have i0 : SetTable.bits h % (m + 1) ≤ m := Nat.le_of_lt_succ (Nat.mod_lt _ (Nat.succ_pos _))
    have r0 := runEnd_bd i0
    have z := nth_in (m := m) k (runAt m (SetTable.bits h % (m + 1)) (SetTable.bits h)) (show SetTable.bits h % (m + 1) + (SetTable.runEnd m (SetTable.bits h % (m + 1)) - SetTable.bits h % (m + 1)) ≤ m by omega)
    omega
  · have q := h3 i hi
    cases z : oAt owner (nth m (runAt m (SetTable.bits h % (m + 1)) (SetTable.bits h)) i).j with
    | none => exact absurd z q
    | some _ => rfl
  · have q : oAt owner (nth m (runAt m (SetTable.bits h % (m + 1)) (SetTable.bits h)) k).j = none := h2
    rw [q]
    rfl
/-- the first c hashes have their slots -/
structure Ow (m c : Nat) (u : Array (Option Nat)) : Prop where
  sz : u.size = m + 1
  has : ∀ k, k < c → ∃ j, j ≤ m ∧ oAt u j = some k
  occ : ∃ ps : List Nat, ps.length = c ∧ ∀ j, j ≤ m → oAt u j ≠ none → j ∈ ps
theorem ow_one {m c : Nat} {u : Array (Option Nat)} (G : MaskG m) (O : Ow m c u) (few : c ≤ m) (h : Int) :
    ∃ i, SetTable.layClean.free m u (SetTable.turns m) (SetTable.bits h % (m + 1)) (SetTable.bits h) = some i ∧ Ow m (c + 1) (u.setIfInBounds i (some c)) := by
  obtain ⟨ps, pl, pm⟩ := O.occ
  obtain ⟨j, j1, j2⟩ := st_missing ps (m + 1) (by omega)
  have fj : oAt u j = none := by
    cases z : oAt u j with
    | none => rfl
    | some k => exact absurd (pm j (by omega) (by rw [z]; exact Option.some_ne_none k)) j2
  obtain ⟨i, im, fi, e⟩ := free_got G u h (by omega) fj
  have ib : i < u.size := by rw [O.sz]; omega
  have other : ∀ {x : Nat}, x ≠ i → oAt (u.setIfInBounds i (some c)) x = oAt u x := fun {x} hx => oAt_set_ne _ hx
  refine ⟨i, e, by rw [Array.size_setIfInBounds]; exact O.sz, fun k hk => ?_, i :: ps, by rw [List.length_cons, pl], fun x hx hne => ?_⟩
  · rcases Nat.lt_or_ge k c with q | q
    · obtain ⟨x, x1, x2⟩ := O.has k q
      refine ⟨x, x1, (other fun z => ?_).trans x2⟩
      rw [z, fi] at x2
      cases x2
    · have : k = c := by omega
      exact ⟨i, im, by rw [this]; exact oAt_set_self _ ib⟩
  · by_cases q : x = i
    · rw [q]
      exact List.mem_cons_self ..
    · rw [other q] at hne
      exact List.mem_cons_of_mem _ (pm x hx hne)
theorem ow_fold {m : Nat} (G : MaskG m) : ∀ (rest : List Int) (c : Nat) (u : Array (Option Nat)), Ow m c u → c + rest.length ≤ m + 1 →
    ∃ v, rest.foldl (stepF m) (some (u, c)) = some (v, c + rest.length) ∧ Ow m (c + rest.length) v
  | [], c, u, O, _ => ⟨u, rfl, O⟩
  | h :: rest, c, u, O, few => by
    rw [List.length_cons] at few
    obtain ⟨i, e, O2⟩ := ow_one G O (by omega) h
    obtain ⟨v, f, O3⟩ := ow_fold G rest (c + 1) _ O2 (by omega)
    have z : c + 1 + rest.length = c + (h :: rest).length := by rw [List.length_cons]; omega
    rw [z] at f O3
    exact ⟨v, by rw [List.foldl_cons, stepF_some e]; exact f, O3⟩
theorem clean_got {m : Nat} (G : MaskG m) {hs : Array Int} (few : hs.size ≤ m + 1) : ∃ u, SetTable.layClean m hs = some u ∧ Ow m hs.size u := by
  have O0 : Ow m 0 (Array.replicate (m + 1) none) := ⟨by simp, fun k hk => absurd hk (Nat.not_lt_zero _), [], rfl, fun j hj e => absurd (oAt_init hj) e⟩
  have hl : hs.toList.length = hs.size := Array.length_toList
  obtain ⟨u, f, O⟩ := ow_fold G hs.toList 0 _ O0 (by omega)
  rw [Nat.zero_add, hl] at O
  refine ⟨u, ?_, O⟩
  rw [layClean_eq, f]
  rfl
theorem laid_got {m : Nat} (G : MaskG m) (fi mo : Nat) (ld pl : Bool) {hs : Array Int} (few : hs.size ≤ m) :
    ∃ t order, SetTable.laid m fi mo ld pl hs = some (t, order) ∧ order.toList.Perm (List.range hs.size) ∧ t.fits hs.size = true ∧ Ris t.place.toList ∧ t.led = ld ∧ t.plain = pl := by
  obtain ⟨u, e, O⟩ := clean_got G (hs := hs) (by omega)
  have rl := ris_live (fun j => u.getD j none) (List.range (m + 1)) (by unfold Ris; exact List.pairwise_lt_range)
  have r1 : Ris ((liveOf m u).map (·.1)) := rl.1
  have nd : ((liveOf m u).map (·.1)).Nodup := List.Pairwise.imp (fun h => Nat.ne_of_lt h) r1
  have inn : ∀ k, k < hs.size → k ∈ (liveOf m u).map (·.2) := fun k hk => by
    obtain ⟨j, j1, j2⟩ := O.has k hk
    exact List.mem_map.mpr ⟨(j, k), (mem_live O.sz).mpr ⟨j1, j2⟩, rfl⟩
  have up : (liveOf m u).length ≤ hs.size := by
    obtain ⟨ps, p1, p2⟩ := O.occ
    have z := nat_nodup_len _ ps nd fun x hx => by
      obtain ⟨⟨a, b⟩, hab, rfl⟩ := List.mem_map.mp hx
      obtain ⟨h1, h2⟩ := (mem_live O.sz).mp hab
      exact p2 a h1 (by rw [h2]; exact Option.some_ne_none b)
    rw [List.length_map, p1] at z
    exact z
  have dn : hs.size ≤ (liveOf m u).length := by
    have z := nat_nodup_len (List.range hs.size) _ List.nodup_range fun x hx => inn x (List.mem_range.mp hx)
    rw [List.length_range, List.length_map] at z
    exact z
  refine ⟨{ mask := m, place := ((liveOf m u).map (·.1)).toArray, dummies := #[], finger := fi, led := ld, moves := mo, plain := pl }, ((liveOf m u).map (·.2)).toArray, ?_, ?_, ?_, ?_, rfl, rfl⟩
  · show (SetTable.layClean m hs).bind _ = _
    rw [e]
    rfl
  · rw [List.toList_toArray]
    exact perm_range _ _ (by rw [List.length_map]; omega) inn
  · unfold SetTable.fits SetTable.fill
    dsimp only
    rw [List.size_toArray, List.length_map]
    simp only [Bool.and_eq_true, beq_iff_eq, decide_eq_true_eq]
    exact ⟨by omega, by show (liveOf m u).length + 0 ≤ m; omega⟩
  · exact r1
theorem pick_range {α : Type} : ∀ l : List α, (List.range l.length).filterMap (fun i => l[i]?) = l
  | [] => rfl
  | x :: r => by
    rw [List.length_cons, List.range_succ_eq_map, List.filterMap_cons_some (f := fun i => (x :: r)[i]?) (a := 0) (b := x) rfl, List.filterMap_map]
    show x :: (List.range r.length).filterMap (fun i => r[i]?) = _
    rw [pick_range r]
theorem order_perm {α : Type} (es : Array α) {order : Array Nat} (h : order.toList.Perm (List.range es.size)) : (order.filterMap (es[·]?)).toList.Perm es.toList := by
  rw [Array.toList_filterMap]
  have e : (fun i => es[i]?) = fun i : Nat => es.toList[i]? := funext fun i => Array.getElem?_toList.symm
  rw [e]
  refine (h.filterMap _).trans ?_
  rw [← Array.length_toList, pick_range]
theorem above_go : ∀ (f size n : Nat), (∃ k, size = 2 ^ k) → n < size * 2 ^ f → (∃ k, SetTable.sizeAbove.go n f size = 2 ^ k) ∧ n < SetTable.sizeAbove.go n f size ∧ (SetTable.sizeAbove.go n f size ≤ size ∨ SetTable.sizeAbove.go n f size ≤ 2 * n)
  | 0, size, n, h, l => ⟨h, by rw [Nat.pow_zero, Nat.mul_one] at l; exact l, .inl (Nat.le_refl _)⟩
  | f + 1, size, n, h, l => by
    obtain ⟨k, rfl⟩ := h
    show (∃ k', (if 2 ^ k ≤ n then SetTable.sizeAbove.go n f (2 ^ k * 2) else 2 ^ k) = 2 ^ k') ∧ n < (if 2 ^ k ≤ n then SetTable.sizeAbove.go n f (2 ^ k * 2) else 2 ^ k) ∧ ((if 2 ^ k ≤ n then SetTable.sizeAbove.go n f (2 ^ k * 2) else 2 ^ k) ≤ 2 ^ k ∨ (if 2 ^ k ≤ n then SetTable.sizeAbove.go n f (2 ^ k * 2) else 2 ^ k) ≤ 2 * n)
    by_cases c : 2 ^ k ≤ n
    · rw [if_pos c]
      obtain ⟨h1, h2, h3⟩ := above_go f (2 ^ k * 2) n ⟨k + 1, by rw [Nat.pow_succ]⟩ (by rw [Nat.pow_succ] at l; rw [Nat.mul_assoc, Nat.mul_comm 2]; exact l)
      exact ⟨h1, h2, .inr (by omega)⟩
    · rw [if_neg c]
      exact ⟨⟨k, rfl⟩, by omega, .inl (Nat.le_refl _)⟩
/-- the new size is a power of two, above what is wanted, and not far above -/
theorem above_ok {n : Nat} (h : n < 100000) : MaskG (SetTable.sizeAbove n - 1) ∧ n < SetTable.sizeAbove n ∧ SetTable.sizeAbove n ≤ 8 + 2 * n := by
  obtain ⟨⟨k, e⟩, h2, h3⟩ := above_go 64 8 n ⟨3, rfl⟩ (Nat.lt_of_lt_of_le h (by decide))
  have e0 : SetTable.sizeAbove n = SetTable.sizeAbove.go n 64 8 := rfl
  rw [e0]
  refine ⟨⟨k, by omega⟩, h2, by omega⟩
end Cw
namespace Cw
open PySem PySem.Spec PyProof.Rows L2
section
variable {P : Program} {w : World} {A : Around} {E : Value → Shared → Prop} {s : Shared} {a b : Addr} {S T : Int → Bool} {n m : Nat}
/-- more of a laid table -/
theorem laid_more {m : Nat} {fi mo : Nat} {ld pl : Bool} {hs : Array Int} {t : SetTable} {order : Array Nat} (e : SetTable.laid m fi mo ld pl hs = some (t, order)) : t.mask = m ∧ t.dummies = #[] := by
  have e2 : (SetTable.layClean m hs).bind (fun u => some (({ mask := m, place := ((liveOf m u).map (·.1)).toArray, dummies := #[], finger := fi, led := ld, moves := mo, plain := pl } : SetTable), ((liveOf m u).map (·.2)).toArray)) = some (t, order) := e
  cases z : SetTable.layClean m hs with
  | none => rw [z] at e2; cases e2
  | some u =>
    rw [z] at e2
    injection e2 with e3
    injection e3 with e4 e5
    rw [← e4]
    exact ⟨rfl, rfl⟩
/-- laid anew with more room -/
theorem relay_got {wanted : Nat} (R : SetR w s.heap a S n) (hw : wanted < 100000) (few : n < SetTable.sizeAbove wanted) {Q : Unit → Shared → Prop}
    (q : ∀ h' o es ep t, Heap.SameBut a s.heap h' → SetR w h' a S n → h'.get? a = some o → o.data = .set es ep t → MaskG t.mask → t.mask = SetTable.sizeAbove wanted - 1 → t.dummies = #[] → Q () { s with heap := h' }) : wpAny (model P w) A (setRelay a wanted) Q E s := by
  obtain ⟨o, es, ep, t, ho, hx, hd, g, nd, hm, hb, hf, hn, hr, hl⟩ := R
  obtain ⟨G, h1, h2⟩ := above_ok hw
  have hs0 : (es.map (·.1)).size = es.size := Array.size_map ..
  obtain ⟨t', order, e, p, f, r, l1, l2⟩ := laid_got G t.finger (t.movedTo (SetTable.sizeAbove wanted - 1)) t.led t.plain (hs := es.map (·.1)) (by omega)
  obtain ⟨m1, m2⟩ := laid_more e
  rw [hs0] at p f
  have pm := order_perm es p
  have sz : (order.filterMap (es[·]?)).size = es.size := by rw [← Array.length_toList, pm.length_eq, Array.length_toList]
  have er : t.relaid (es.map (·.1)) wanted = some (t', order) := e
  rw [setRelay_eq]
  refine wpAny_bind (wpAny_setState_of ho hd hf ?_)
  dsimp only
  refine wp_if_neg (by rw [sizeLine_eq]; omega) ?_
  try refine wpAny_bind (wpAny_pure ?_)
  rw [er]
  dsimp only
  refine wpAny_bind ?_
  refine wp_if_neg (by rw [sz]; simp) ?_
  try refine wpAny_bind (wpAny_pure ?_)
  refine wpAny_pure ?_
  dsimp only
  refine wpAny_storeSet_of ho hd ?_ (fits_of_scanBound (by rw [sz]; exact hb))
  refine q _ _ _ _ _ (Heap.SameBut.update ..) ⟨_, _, _, _, store_at ho hd, ⟨hx.1, hx.2.1, hx.2.2⟩, rfl, fun e he => g e (pm.mem_iff.mp he), (pm.map keyOf).nodup_iff.mpr nd, fun k => (hm k).trans (pm.map keyOf).mem_iff.symm, by rw [sz]; exact hb, by rw [sz]; exact f, by rw [sz]; exact hn, r, hl.imp id fun z => by rw [l1]; exact z⟩ (store_at ho hd) rfl (by rw [m1]; exact G) m1 m2
/-- all of the set's members are walked -/
def MemAll (xs : Array (Int × Value)) (S : Int → Bool) (n : Nat) : Prop := (∀ e ∈ xs.toList, GoodE e) ∧ (∀ k, S k = true ↔ k ∈ xs.toList.map keyOf) ∧ xs.size = n
theorem walk_all {o : Obj} {es : Array (Int × Value)} {ep : Nat} {t : SetTable} (ho : s.heap.get? a = some o) (hd : o.data = .set es ep t) (hf : t.fits es.size = true) (hl : w.params.followText "set-order" = true ∨ t.led = true) (hp : w.params.followText "set-order" = true ∨ (!t.plain && decide (es.size > 1)) = false)
    {Q : Array (Int × Value) → Shared → Prop} (q : ∀ xs : Array (Int × Value), xs.toList.Perm es.toList → Q xs s) : wpAny (model P w) A (setWalk a) Q E s := by
  unfold setWalk
  refine wpAny_bind (wpAny_setState_of ho hd hf ?_)
  dsimp only
  refine wpAny_bind (wpAny_byText ?_)
  by_cases c : w.params.followText "set-order" = true
  · refine wp_if_pos c ?_
    exact wpAny_bind (wpAny_askSetting (wpAny_pure (q _ (pick_perm _ es))))
  · have p1 := hp.resolve_left c
    have p2 := hl.resolve_left c
    refine wp_if_neg c ?_
    try refine wpAny_bind (wpAny_pure ?_)
    refine wp_if_neg (by show ¬ ((!t.plain && decide (es.size > 1)) = true); rw [p1]; exact Bool.false_ne_true) ?_
    try refine wpAny_bind (wpAny_pure ?_)
    refine wpAny_bind (wpAny_of_eq (a := ()) ?_ (wpAny_pure (q es (List.Perm.refl _))))
    show (if (!t.led && decide (es.size > 1)) = true then unsupported "set:maker-not-led" else pure ()) = pure ()
    rw [p2]
    rfl
/-- the set at a walked while the set at r is filled -/
theorem unseen_all {r : Addr} {U : Int → Bool} {c : Nat} (R : SetR w s.heap a S n) (Rr : SetR w s.heap r U c) {l : List Addr} (hall : ∀ c ∈ a :: l, ∃ S n, SetR w s.heap c S n) {Q : Array (Int × Value) → Shared → Prop}
    (q : ∀ xs h', MemAll xs S n → Heap.SameBut r s.heap h' → SetR w h' r U c → Q xs { s with heap := h' }) : wpAny (model P w) A (setWalkUnseen a l (some r)) Q E s := by
  obtain ⟨o, es, ep, t, ho, hx, hd, g, nd, hm, hb, hf, hn, hr, hl⟩ := R
  have mem : ∀ xs : Array (Int × Value), xs.toList.Perm es.toList → MemAll xs S n := fun xs h => ⟨fun e he => g e (h.mem_iff.mp he), fun k => (hm k).trans (h.map keyOf).mem_iff.symm, by rw [← Array.length_toList, h.length_eq, Array.length_toList, hn]⟩
  unfold setWalkUnseen
  refine wpAny_bind (wpAny_setState_of ho hd hf ?_)
  dsimp only
  refine wpAny_bind (wpAny_byText ?_)
  by_cases c : (w.params.followText "set-order" || t.led && t.plain || decide (es.size ≤ 1)) = true
  · refine wp_if_pos c ?_
    refine walk_all ho hd hf hl ?_ fun xs h => q xs s.heap (mem xs h) (Heap.SameBut.refl _ _) Rr
    simp only [Bool.or_eq_true, Bool.and_eq_true, decide_eq_true_eq] at c
    rcases c with (c | c) | c
    · exact .inl c
    · exact .inr (by rw [c.2]; rfl)
    · exact .inr (by rw [decide_eq_false (by omega), Bool.and_false])
  · refine wp_if_neg c ?_
    try refine wpAny_bind (wpAny_pure ?_)
    refine wpAny_bind (quiet_at (a :: l) hall ?_)
    refine wp_if_neg (by decide) ?_
    try refine wpAny_bind (wpAny_pure ?_)
    refine wpAny_bind (wpAny_rule ?_)
    obtain ⟨o2, es2, ep2, t2, ho2, hx2, hd2, g2, nd2, hm2, hb2, hf2, hn2, hr2, hl2⟩ := Rr
    try dsimp only
    refine wpAny_bind (wpAny_setState_of ho2 hd2 hf2 ?_)
    dsimp only
    have nb : w.params.followText "set-order" = false := by
      cases z : w.params.followText "set-order" with
      | false => rfl
      | true => rw [z] at c; simp at c
    have l1 : t.led = true := hl.resolve_left (by rw [nb]; exact Bool.false_ne_true)
    have l2 : t2.led = true := hl2.resolve_left (by rw [nb]; exact Bool.false_ne_true)
    by_cases c2 : (t2.led && !t.led || t2.plain && !t.plain) = true
    · refine wp_if_pos c2 ?_
      refine wpAny_bind (wpAny_storeSet_of ho2 hd2 ?_ (fits_of_scanBound hb2))
      refine wpAny_pure (q es _ (mem es (List.Perm.refl _)) (Heap.SameBut.update ..) ?_)
      exact ⟨_, es2, _, _, store_at ho2 hd2, ⟨hx2.1, hx2.2.1, hx2.2.2⟩, rfl, g2, nd2, hm2, hb2, by exact hf2, hn2, hr2, .inr (by rw [l1, l2]; rfl)⟩
    · refine wp_if_neg c2 ?_
      try refine wpAny_bind (wpAny_pure ?_)
      exact wpAny_pure (q es s.heap (mem es (List.Perm.refl _)) (Heap.SameBut.refl _ _) ⟨o2, es2, ep2, t2, ho2, hx2, hd2, g2, nd2, hm2, hb2, hf2, hn2, hr2, hl2⟩)
end
end Cw
namespace Cw
open PySem PySem.Spec PyProof.Rows L2
theorem merge_eq (s o : Addr) (each : Sem Unit) : setMerge s o each = (do
    if s == o then return
    let (eo, epoch, to) ← setState o
    if eo.isEmpty then return
    (do if let some wanted := (← setState s).2.2.roomFor eo.size then setRelay s wanted)
    let (_, _, ts) ← setState s
    match ts.road to with
    | .slotForSlot => storeSet s eo { to with finger := ts.finger, led := ts.led && to.led, moves := ts.moves, plain := ts.plain && to.plain }
    | .clean =>
      let (es, t) ← (do
        let some (t, order) := SetTable.laid ts.mask ts.finger ts.moves (ts.led && to.led) (ts.plain && to.plain) (eo.map (·.1)) | unsupported "internal:set-table-without-room"
        let es' := order.filterMap (eo[·]?)
        if es'.size != eo.size then unsupported "internal:set-table-lost-an-element"
        pure (es', t) : Sem (Array (Int × Value) × SetTable))
      storeSet s es t
    | .oneByOne =>
      for (h, x) in ← setWalkUnseen o [s] (some s) do
        let _ ← holding [x] (setAddHashed s x h)
        each
        if (← setState o).2.1 != epoch then unsupported "set.changed-during-merge") := by rfl
section
variable {P : Program} {w : World} {A : Around} {E : Value → Shared → Prop} {s : Shared} {a b : Addr} {S T : Int → Bool} {n m : Nat}
/-- the empty new set -/
def Fresh (w : World) (h : Heap) (r : Addr) : Prop := ∃ o ep ld, h.get? r = some o ∧ o.ExactSet ∧ o.data = .set #[] ep (.fresh 0 0 ld) ∧ (w.params.followText "set-order" = true ∨ ld = true)
theorem Fresh.setR {h : Heap} {r : Addr} (f : Fresh w h r) : SetR w h r (fun _ => false) 0 := by
  obtain ⟨o, ep, ld, ho, hx, hd, hl⟩ := f
  exact ⟨o, #[], ep, _, ho, hx, hd, (fun e he => by simp at he), (by simp), (fun k => by simp), (by decide), rfl, rfl, List.Pairwise.nil, hl⟩
/-- all of b's members into a new set -/
theorem merge_fresh {r : Addr} {each : Sem Unit} (f : Fresh w s.heap r) (R : SetR w s.heap b T m) (ne : r ≠ b) {Q : Unit → Shared → Prop}
    (q : ∀ h', Heap.SameBut r s.heap h' → SetR w h' r T m → (m = 0 → Fresh w h' r) → Q () { s with heap := h' }) : wpAny (model P w) A (setMerge r b each) Q E s := by
  have Rr := f.setR
  obtain ⟨o, es, ep, t, ho, hx, hd, g, nd, hm, hb, hf, hn, hr, hl⟩ := id R
  rw [merge_eq]
  refine wp_if_neg (by simp [ne]) ?_
  try refine wpAny_bind (wpAny_pure ?_)
  refine wpAny_bind (wpAny_setState_of ho hd hf ?_)
  dsimp only
  by_cases c0 : es = #[]
  · have m0 : m = 0 := by rw [← hn, c0]; rfl
    refine wp_if_pos (by rw [c0]; rfl) (wpAny_pure ?_)
    refine q s.heap (Heap.SameBut.refl _ _) ?_ fun _ => f
    have e : T = fun _ => false := funext fun k => by
      cases z : T k with
      | false => rfl
      | true =>
        have := (hm k).mp z
        rw [c0] at this
        simp at this
    rw [e, m0]
    exact Rr
  · have pos : 0 < es.size := Array.size_pos_iff.mpr c0
    refine wp_if_neg (by simp [c0]) ?_
    try refine wpAny_bind (wpAny_pure ?_)
    obtain ⟨o1, ep1, ld, ho1, hx1, hd1, hl1⟩ := f
    have hb' : es.size < 4096 := hb
    -- the last part, for any table without members
    have last : ∀ (h1 : Heap) (o2 : Obj) (e2 : Nat) (t2 : SetTable), Heap.SameBut r s.heap h1 → h1.get? r = some o2 → o2.ExactSet → o2.data = .set #[] e2 t2 → t2.dummies = #[] → t2.fits 0 = true → MaskG t2.mask → es.size ≤ t2.mask → (w.params.followText "set-order" = true ∨ t2.led = true) →
        wpAny (model P w) A (do
          let (_, _, ts) ← setState r
          match ts.road t with
          | .slotForSlot => storeSet r es { t with finger := ts.finger, led := ts.led && t.led, moves := ts.moves, plain := ts.plain && t.plain }
          | .clean =>
            let (es, t) ← (do
              let some (t, order) := SetTable.laid ts.mask ts.finger ts.moves (ts.led && t.led) (ts.plain && t.plain) (es.map (·.1)) | unsupported "internal:set-table-without-room"
              let es' := order.filterMap (es[·]?)
              if es'.size != es.size then unsupported "internal:set-table-lost-an-element"
              pure (es', t) : Sem (Array (Int × Value) × SetTable))
            storeSet r es t
          | .oneByOne =>
            for (h, x) in ← setWalkUnseen b [r] (some r) do
              let _ ← holding [x] (setAddHashed r x h)
              each
              if (← setState b).2.1 != ep then unsupported "set.changed-during-merge") Q E { s with heap := h1 } := by
      intro h1 o2 e2 t2 sb ho2 hx2 hd2 dm2 f2 G2 few2 l2
      refine wpAny_bind (wpAny_setState_of ho2 hd2 f2 ?_)
      dsimp only
      have p0 : t2.place.size = 0 := by
        unfold SetTable.fits at f2
        simp only [Bool.and_eq_true, beq_iff_eq] at f2
        exact f2.1
      have fill0 : t2.fill = 0 := by
        unfold SetTable.fill
        rw [p0, dm2]
        rfl
      have led2 : w.params.followText "set-order" = true ∨ (t2.led && t.led) = true := by
        rcases l2 with x | x
        · exact .inl x
        · rcases hl with y | y
          · exact .inl y
          · exact .inr (by rw [x, y]; rfl)
      have m0 : m ≠ 0 := by omega
      unfold SetTable.road
      rw [fill0, if_neg (by decide)]
      by_cases c1 : (t2.mask == t.mask && t.dummies.isEmpty) = true
      · rw [if_pos c1]
        dsimp only
        refine wpAny_storeSet_of ho2 hd2 ?_ (fits_of_scanBound hb)
        exact q _ (sb.trans (Heap.SameBut.update ..)) ⟨_, _, _, _, store_at ho2 hd2, ⟨hx2.1, hx2.2.1, hx2.2.2⟩, rfl, g, nd, hm, hb, hf, hn, hr, led2⟩ fun z => absurd z m0
      · rw [if_neg c1]
        dsimp only
        have hs0 : (es.map (·.1)).size = es.size := Array.size_map ..
        obtain ⟨t', order, e, p, f', r', k1, k2⟩ := laid_got G2 t2.finger t2.moves (t2.led && t.led) (t2.plain && t.plain) (hs := es.map (·.1)) (by omega)
        rw [hs0] at p f'
        have pm := order_perm es p
        have sz : (order.filterMap (es[·]?)).size = es.size := by rw [← Array.length_toList, pm.length_eq, Array.length_toList]
        rw [e]
        dsimp only
        refine wpAny_bind ?_
        refine wp_if_neg (by rw [sz]; simp) ?_
        try refine wpAny_bind (wpAny_pure ?_)
        refine wpAny_pure ?_
        dsimp only
        refine wpAny_storeSet_of ho2 hd2 ?_ (fits_of_scanBound (by rw [sz]; exact hb))
        exact q _ (sb.trans (Heap.SameBut.update ..)) ⟨_, _, _, _, store_at ho2 hd2, ⟨hx2.1, hx2.2.1, hx2.2.2⟩, rfl, fun e he => g e (pm.mem_iff.mp he), (pm.map keyOf).nodup_iff.mpr nd, fun k => (hm k).trans (pm.map keyOf).mem_iff.symm, by rw [sz]; exact hb, by rw [sz]; exact f', by rw [sz]; exact hn, r', by rw [k1]; exact led2⟩ fun z => absurd z m0
    refine wpAny_bind ?_
    refine wpAny_bind (wpAny_setState_of ho1 hd1 rfl ?_)
    dsimp only
    unfold SetTable.roomFor
    by_cases c2 : ((SetTable.fresh 0 0 ld).fill + es.size) * 5 ≥ (SetTable.fresh 0 0 ld).mask * 3
    · rw [if_pos c2]
      dsimp only
      have wn : ((SetTable.fresh 0 0 ld).place.size + es.size) * 2 = es.size * 2 := by
        show (0 + es.size) * 2 = _
        rw [Nat.zero_add]
      rw [wn]
      obtain ⟨G3, k3, k4⟩ := above_ok (n := es.size * 2) (by omega)
      refine relay_got Rr (by omega) (by omega) fun h' o2 es2 e2 t2 sb R2 ho2 hd2 G2 mk dm => ?_
      obtain ⟨o3, es3, ep3, t3, ho3, hx3, hd3, g3, nd3, hm3, hb3, hf3, hn3, hr3, hl3⟩ := R2
      rw [ho2] at ho3
      cases ho3
      rw [hd2] at hd3
      cases hd3
      have e0 : es2 = #[] := Array.size_eq_zero_iff.mp hn3
      subst e0
      exact last h' o2 e2 t2 sb ho2 hx3 hd2 dm hf3 G2 (by rw [mk]; omega) hl3
    · rw [if_neg c2]
      dsimp only
      refine wpAny_pure ?_
      have c3 : ¬ ((0 + es.size) * 5 ≥ 7 * 3) := c2
      exact last s.heap o1 ep1 _ (Heap.SameBut.refl _ _) ho1 hx1 hd1 rfl rfl ⟨3, rfl⟩ (by show es.size ≤ 7; omega) hl1
theorem forIn_upto {α β : Type} {M : Model} {f : α → β → Sem (ForInStep β)} {b : β} (I : List α → Shared → Prop) : ∀ (l done : List α) {s : Shared} {Q : β → Shared → Prop},
    (∀ (d : List α) (x : α) (r : List α), d ++ x :: r = done ++ l → ∀ (s : Shared) (Q' : ForInStep β → Shared → Prop), I d s → (∀ s', I (d ++ [x]) s' → Q' (.yield b) s') → wpAny M A (f x b) Q' E s) → I done s → (∀ s', I (done ++ l) s' → Q b s') → wpAny M A (forIn l b f) Q E s
  | [], done, s, Q, _, i, q => by
    rw [List.forIn_nil]
    rw [List.append_nil] at q
    exact wpAny_pure (q s i)
  | x :: l, done, s, Q, h, i, q => by
    rw [List.forIn_cons]
    have e : (done ++ [x]) ++ l = done ++ x :: l := by rw [List.append_assoc]; rfl
    refine wpAny_bind (h done x l rfl s _ i fun s' i' => ?_)
    refine forIn_upto I l (done ++ [x]) (fun d y r z => h d y r (z.trans e)) i' ?_
    rw [e]
    exact q
/-- all of b's members, one by one, into a set that isn't empty -/
theorem merge_more {each : Sem Unit} (R : SetR w s.heap a S n) (R2 : SetR w s.heap b T m) (ne : a ≠ b) (pos : 0 < n) (room : n + m + 1 < scanBound)
    (he : ∀ (h' : Heap) (Q' : Unit → Shared → Prop), (∀ o, s.heap.get? b = some o → h'.get? b = some o) → Q' () { s with heap := h' } → wpAny (model P w) A each Q' E { s with heap := h' }) {Q : Unit → Shared → Prop}
    (q : ∀ h' c, Heap.SameBut a s.heap h' → SetR w h' a (fun j => S j || T j) c → c ≤ n + m → Q () { s with heap := h' }) : wpAny (model P w) A (setMerge a b each) Q E s := by
  obtain ⟨o, es, ep, t, ho, hx, hd, g, nd, hm, hb, hf, hn, hr, hl⟩ := id R2
  rw [merge_eq]
  refine wp_if_neg (by simp [ne]) ?_
  try refine wpAny_bind (wpAny_pure ?_)
  refine wpAny_bind (wpAny_setState_of ho hd hf ?_)
  dsimp only
  by_cases c0 : es = #[]
  · refine wp_if_pos (by rw [c0]; rfl) (wpAny_pure ?_)
    refine q s.heap n (Heap.SameBut.refl _ _) (R.congr fun k => ?_) (Nat.le_add_right _ _)
    have z : T k = false := by
      cases z : T k with
      | false => rfl
      | true =>
        have := (hm k).mp z
        rw [c0] at this
        simp at this
    rw [z, Bool.or_false]
  · refine wp_if_neg (by simp [c0]) ?_
    try refine wpAny_bind (wpAny_pure ?_)
    have rm : n + m + 1 < 4096 := room
    have last : ∀ h1 : Heap, Heap.SameBut a s.heap h1 → SetR w h1 a S n →
        wpAny (model P w) A (do
          let (_, _, ts) ← setState a
          match ts.road t with
          | .slotForSlot => storeSet a es { t with finger := ts.finger, led := ts.led && t.led, moves := ts.moves, plain := ts.plain && t.plain }
          | .clean =>
            let (es, t) ← (do
              let some (t, order) := SetTable.laid ts.mask ts.finger ts.moves (ts.led && t.led) (ts.plain && t.plain) (es.map (·.1)) | unsupported "internal:set-table-without-room"
              let es' := order.filterMap (es[·]?)
              if es'.size != es.size then unsupported "internal:set-table-lost-an-element"
              pure (es', t) : Sem (Array (Int × Value) × SetTable))
            storeSet a es t
          | .oneByOne =>
            for (h, x) in ← setWalkUnseen b [a] (some a) do
              let _ ← holding [x] (setAddHashed a x h)
              each
              if (← setState b).2.1 != ep then unsupported "set.changed-during-merge") Q E { s with heap := h1 } := by
      intro h1 sb R1
      obtain ⟨o1, es1, ep1, t1, ho1, hx1, hd1, g1, nd1, hm1, hb1, hf1, hn1, hr1, hl1⟩ := id R1
      refine wpAny_bind (wpAny_setState_of ho1 hd1 hf1 ?_)
      dsimp only
      have fill1 : t1.fill ≠ 0 := by
        have z := hf1
        unfold SetTable.fits at z
        simp only [Bool.and_eq_true, beq_iff_eq] at z
        unfold SetTable.fill
        omega
      unfold SetTable.road
      rw [if_pos (by simp [fill1])]
      dsimp only
      have ob : ∀ {h : Heap}, Heap.SameBut a s.heap h → ∀ o, s.heap.get? b = some o → h.get? b = some o := fun {h} k o e => by rw [k.2 b (Ne.symm ne)]; exact e
      refine wpAny_bind (unseen_all (R2.at (ob sb)) R1 (fun c hc => ?_) fun xs h2 M sb2 R3 => ?_)
      · rcases List.mem_cons.mp hc with rfl | hc
        · exact ⟨_, _, R2.at (ob sb)⟩
        rcases List.mem_cons.mp hc with rfl | hc
        · exact ⟨_, _, R1⟩
        · cases hc
      · obtain ⟨M1, M2, M3⟩ := M
        rw [← Array.forIn_toList]
        have len : xs.toList.length = m := by rw [Array.length_toList]; exact M3
        refine wpAny_bind (forIn_upto (fun d s' => ∃ h' c, s' = { s with heap := h' } ∧ Heap.SameBut a s.heap h' ∧ SetR w h' a (fun j => S j || decide (j ∈ d.map keyOf)) c ∧ c ≤ n + d.length) xs.toList [] (fun d x r e s' Q' i k => ?_)
          ⟨h2, n, rfl, sb.trans sb2, R3.congr fun j => by simp, Nat.le_add_right _ _⟩ fun s' i => ?_)
        · obtain ⟨h', c, rfl, sb', Rc, cl⟩ := i
          have hxm : x ∈ xs.toList := by
            rw [List.nil_append] at e
            rw [← e]
            simp
          have dl : d.length + 1 ≤ m := by
            have := congrArg List.length e
            simp at this
            omega
          obtain ⟨i, tk, e1, e2⟩ := M1 x hxm
          obtain ⟨x1, x2⟩ := x
          dsimp only at e1 e2
          subst e1 e2
          have kk : keyOf (hashInt i, Value.int i tk) = i := rfl
          dsimp only
          refine wpAny_bind (wpAny_holding (setR_add_hashed Rc (by show c + 1 < 4096; omega) fun h3 sb3 R4 => ?_))
          have sb4 := sb'.trans sb3
          refine wpAny_bind (he h3 _ (ob sb4) ?_)
          refine wpAny_bind (wpAny_setState_of (ob sb4 _ ho) hd hf ?_)
          refine wp_if_neg (by simp) ?_
          try refine wpAny_bind (wpAny_pure ?_)
          refine wpAny_pure (k _ ⟨h3, _, rfl, sb4, R4.congr fun j => ?_, ?_⟩)
          · try dsimp only
            rw [Bool.or_assoc]
            congr 1
            rw [List.map_append, Bool.eq_iff_iff, Bool.or_eq_true, decide_eq_true_eq, decide_eq_true_eq, decide_eq_true_eq, List.mem_append, List.map_cons, kk]
            simp
          · try dsimp only
            rw [List.length_append]
            show _ ≤ n + (d.length + 1)
            split <;> omega
        · obtain ⟨h', c, rfl, sb', Rc, cl⟩ := i
          rw [List.nil_append] at Rc cl
          refine wpAny_pure (q h' c sb' (Rc.congr fun j => ?_) (by omega))
          congr 1
          rw [Bool.eq_iff_iff, decide_eq_true_eq]
          exact M2 j
    obtain ⟨o1, es1, ep1, t1, ho1, hx1, hd1, g1, nd1, hm1, hb1, hf1, hn1, hr1, hl1⟩ := id R
    refine wpAny_bind ?_
    refine wpAny_bind (wpAny_setState_of ho1 hd1 hf1 ?_)
    dsimp only
    unfold SetTable.roomFor
    have z : t1.place.size = n := by
      have z := hf1
      unfold SetTable.fits at z
      simp only [Bool.and_eq_true, beq_iff_eq] at z
      omega
    by_cases c2 : (t1.fill + es.size) * 5 ≥ t1.mask * 3
    · rw [if_pos c2]
      dsimp only
      rw [z]
      obtain ⟨G3, k3, k4⟩ := above_ok (n := (n + es.size) * 2) (by omega)
      exact relay_got R (by omega) (by omega) fun h' o2 es2 e2 t2 sb R4 _ _ _ _ _ => last h' sb R4
    · rw [if_neg c2]
      dsimp only
      exact wpAny_pure (last s.heap (Heap.SameBut.refl _ _) R)
end
end Cw
namespace Cw
open PySem PySem.Spec PyProof.Rows L2
section
variable {P : Program} {w : World} {A : Around} {E : Value → Shared → Prop} {s : Shared} {a b : Addr} {S T : Int → Bool} {n m : Nat}
theorem entry_or : entryFor table "set.__or__" = some Builtin.«frozenset.__or__» := entryFor_alias (id' := "frozenset.__or__") (by kernel_rfl) rfl (by decide +kernel) (by kernel_rfl)
theorem or_form (a b : Value) : Builtin.«frozenset.__or__» ⟨[a, b], []⟩ = (do
    let p ← Builtin.Frozenset.slot1 "__or__" ⟨[a, b], []⟩
    if !(← (Builtin.Frozenset.isAnySet p.1 <&&> Builtin.Frozenset.isAnySet p.2)) then
      rule "frozenset.__or__.declined"
      ret .notImplemented
    else do
      let la ← Builtin.Frozenset.addrOf p.1
      let v ← (do
        let result ← Builtin.Frozenset.copyOf la
        if p.2 != .ref la then holding [result] (Builtin.Frozenset.updateFrom "frozenset.__or__" (← Builtin.Frozenset.addrOf result) p.2)
        return result)
      ret v) := by
  rfl
/-- a | b: a new set -/
theorem or_new (R1 : SetR w s.heap a S n) (R2 : SetR w s.heap b T m) (ne : a ≠ b) (room : n + m + 1 < scanBound) {Q : Value → Shared → Prop}
    (q : ∀ h' c, (∀ x o, s.heap.get? x = some o → h'.get? x = some o) → SetR w h' s.heap.objs.size (fun j => S j || T j) c → c ≤ n + m → Q (.ref s.heap.objs.size) { s with heap := h' }) : wpAny (model P w) A (binaryOp .BitOr (.ref a) (.ref b)) Q E s := by
  have ta : s.TypeIs (.ref a) "set" := (R1.setOf (P := P)).typeIs
  have tb : s.TypeIs (.ref b) "set" := (R2.setOf (P := P)).typeIs
  refine wpAny_binaryOp_same (T := "set") ta tb F.fills_set_or F.slot_set_or ?_
  refine wpAny_call_entry F.slot_set_or ta entry_or ?_ (F.args_set_or_2 _ _)
  rw [or_form]
  unfold Builtin.Frozenset.slot1 slotArgs
  refine wpAny_bind (wpAny_bind (wpAny_of_eq (a := (Value.ref a, [Value.ref b])) rfl (wpAny_pure ?_)))
  dsimp only
  refine wpAny_bind (m := _ <&&> _) ?_
  unfold andM
  refine wpAny_bind (isSet_at ta ?_)
  show wpAny _ _ (Builtin.Frozenset.isAnySet (.ref b)) _ _ _
  refine isSet_at tb (wp_if_neg (by decide) ?_)
  try refine wpAny_bind (wpAny_pure ?_)
  refine wpAny_bind ?_
  unfold Builtin.Frozenset.copyOf Builtin.Frozenset.baseOf isInstance
  have z := sub_set_self
  obtain ⟨hp, gg, dr, tk, os⟩ := s
  dsimp only at q R1 R2
  have k1 : ∀ c o, hp.get? c = some o → (hp.push (newS w)).get? c = some o := fun c o e => Heap.get?_push_of_some _ e
  have fr : Fresh w (hp.push (newS w)) hp.objs.size := by
    refine ⟨newS w, 0, _, Heap.get?_push_size _ rfl, ⟨rfl, rfl, rfl⟩, rfl, ?_⟩
    cases w.params.followText "set-order"
    · exact .inr rfl
    · exact .inl rfl
  have na : hp.objs.size ≠ a := Nat.ne_of_gt R1.lt
  have nb : hp.objs.size ≠ b := Nat.ne_of_gt R2.lt
  wp_walk
  refine wpAny_askSetting (wpAny_pure ?_)
  simp only [newObj, if_true]
  refine wpAny_bind (wpAny_alloc (wpAny_pure ?_))
  dsimp only
  refine wpAny_bind (m := Builtin.Frozenset.addrOf (.ref hp.objs.size)) (wpAny_pure ?_)
  refine wpAny_bind (merge_fresh fr (R1.at fun o e => k1 _ _ e) na fun h1 sb1 Rr f1 => ?_)
  have k2 : ∀ c o, c ≠ hp.objs.size → hp.get? c = some o → h1.get? c = some o := fun c o hc e => by
    rw [sb1.2 c hc]
    exact k1 c o e
  have k3 : ∀ c o, hp.get? c = some o → h1.get? c = some o := fun c o e => k2 c o (Nat.ne_of_lt (Heap.lt_size e)) e
  have R3 : SetR w h1 b T m := R2.at fun o e => k3 _ _ e
  refine wpAny_pure ?_
  refine wp_if_pos (by simp [Ne.symm ne]) ?_
  refine wpAny_bind (m := Builtin.Frozenset.addrOf (.ref hp.objs.size)) (wpAny_pure ?_)
  refine wpAny_bind (wpAny_holding ?_)
  unfold Builtin.Frozenset.updateFrom
  refine wpAny_bind (isSet_at (R3.setOf (P := P)).typeIs ?_)
  refine wp_if_pos rfl ?_
  refine wpAny_bind (m := Builtin.Frozenset.addrOf (.ref b)) (wpAny_pure ?_)
  unfold Builtin.Frozenset.merge
  obtain ⟨o, es, ep, t, ho, hx, hd, g, nd, hm, hb, hf, hn, hr, hl⟩ := id R3
  refine wpAny_bind (wpAny_setEpoch_of ho hd hf ?_)
  have fin : ∀ h' c, Heap.SameBut hp.objs.size h1 h' → SetR w h' hp.objs.size (fun j => S j || T j) c → c ≤ n + m → Q (.ref hp.objs.size) ⟨h', gg, dr, tk, os⟩ := fun h' c sb R le =>
    q h' c (fun x o e => by rw [sb.2 x (Nat.ne_of_lt (Heap.lt_size e))]; exact k3 x o e) R le
  have done : ∀ h' c, Heap.SameBut hp.objs.size h1 h' → SetR w h' hp.objs.size (fun j => S j || T j) c → c ≤ n + m →
      wpAny (model P w) A.in1 (pure (Value.ref hp.objs.size)) (fun a s' => wpAny (model P w) A.in1 (ret a) (fun fin s' => ∃ v, fin = Fin.done (Flow.ret v) ∧ v ≠ Value.notImplemented ∧ Q v s') E s') E ⟨h', gg, dr, tk, os⟩ := fun h' c sb R le =>
    wpAny_pure (wpAny_pure ⟨_, rfl, (fun z => nomatch z), fin h' c sb R le⟩)
  by_cases n0 : n = 0
  · refine merge_fresh (f1 n0) R3 nb fun h2 sb2 R4 _ => ?_
    refine done h2 m sb2 (R4.congr fun k => ?_) (Nat.le_add_left _ _)
    obtain ⟨o5, es5, ep5, t5, ho5, hx5, hd5, g5, nd5, hm5, hb5, hf5, hn5, _⟩ := R1
    have e0 : es5 = #[] := Array.size_eq_zero_iff.mp (by omega)
    have z : S k = false := by
      cases z : S k with
      | false => rfl
      | true =>
        have := (hm5 k).mp z
        rw [e0] at this
        simp at this
    rw [z, Bool.false_or]
  · refine merge_more Rr R3 nb (Nat.pos_of_ne_zero n0) room (fun h' Q' kb qq => ?_) fun h2 c sb2 R4 le => done h2 c sb2 R4 le
    unfold Builtin.Frozenset.unchanged
    refine wpAny_bind (wpAny_setEpoch_of (kb _ ho) hd hf ?_)
    refine wp_if_neg (by simp) (wpAny_pure qq)
end
end Cw
namespace Cw
open PySem PySem.Spec PyProof.Rows L2
section
variable {X : Cx}
/-- a | b -/
def rOrN (w : World) : R2 := fun x y H Q => ∃ (a b : Addr) (S T : Int → Bool) (n m : Nat), x = .ref a ∧ y = .ref b ∧ a ≠ b ∧ H a = some (SetO w a S n) ∧ H b = some (SetO w b T m) ∧ n + m ≤ 4000 ∧ ∀ p c, c ≤ n + m → H p = none → Q (.ref p) (upd H p (SetO w p (fun j => S j || T j) c))
theorem op_orN : OpR X (binaryOp .BitOr) (rOrN X.w) := by
  intro pins s σ H x y v u Q I rx ry h
  obtain ⟨a, b, S, T, n, m, rfl, rfl, ne, ha, hb, le, q⟩ := h
  cases rx
  cases ry
  refine or_new (setO_get I ha) (setO_get I hb) ne (by show n + m + 1 < 4096; omega) fun h' c k R lc => ?_
  exact ⟨.ref s.heap.objs.size, _, I.laid (t' := s.toks) k (Nat.le_refl _) (setO_new R), rfl, q _ c lc (I.hok.fresh (Nat.le_refl _))⟩
end
end Cw
namespace Cw
open PySem PySem.Spec PyProof.Rows L2
section
variable {P : Program} {w : World} {A : Around} {E : Value → Shared → Prop} {s : Shared} {a : Addr}
/-- sorted of a set of ints, as many as there are -/
theorem sorted_all {S : Int → Bool} {n : Nat} {Q : Value → Shared → Prop} (R : SetR w s.heap a S n) (calm : A.handled = none)
    (q : ∀ (t : Shared) (p : Addr) (out : Array Value) (c : Nat) (ns : List Int), (∀ x o, s.heap.get? x = some o → t.heap.get? x = some o) → t.gens = s.gens → t.os = s.os → s.heap.objs.size ≤ p →
      t.heap.get? p = some (seqObj "list" out c) → IntsAre out.toList ns → List.Pairwise (· < ·) ns → (∀ k, k ∈ ns ↔ S k = true) → ns.length = n → Q (.ref p) t) :
    wpAny (model P w) A (call (.builtin "sorted") [.ref a]) Q E s := by
  obtain ⟨o, es, ep, t, ho, hx, hd, g, nd, hm, hb, hf, hn, hr, hl⟩ := R
  refine Calls.call_function_entry kind_sorted
    plain_sorted entry_sorted (args_sorted1 _) ?_
  unfold Builtin.«sorted»
  refine wpAny_bind (m := checkCount "sorted" 1 1 _)
    (wpAny_pure ?_)
  refine wpAny_bind (collect_set (A := A.in1) calm ⟨o, ho, hx.1, hd⟩ hf hb hr hl fun u vs old sz ge oss pm => ?_)
  have len : vs.length = n := by
    rw [pm.length_eq, List.length_map, Array.length_toList, hn]
  have iz : IntsAre vs (vs.map Builtin.Re.reRawOf) := ints_of vs fun v hv => by
    obtain ⟨e, he, z⟩ := List.mem_map.mp (pm.mem_iff.mp hv)
    obtain ⟨k, tk, e1, _⟩ := g e he
    exact ⟨k, tk, by rw [← z]; exact e1⟩
  have keys : (vs.map Builtin.Re.reRawOf).Perm (es.toList.map keyOf) := by
    have z := pm.map Builtin.Re.reRawOf
    rw [List.map_map] at z
    exact z
  have nb : n < 4096 := by rw [← hn]; exact hb
  refine wpAny_bind (wpAny_newList ?_ (by rw [len, sizeLine_eq]; omega))
  have at0 : (u.heap.push (seqObj "list" vs.toArray 0)).get? u.heap.objs.size = some (seqObj "list" vs.toArray 0) := Heap.get?_push_size _ rfl
  refine wpAny_bind (wpAny_holding (wpAny_call_entry slot_list_sort ⟨_, at0, rfl⟩ entry_list_sort
    (SrtO.list_sort_ord SrtO.swo_int at0 (by rw [len, sizeLine_eq]; omega) (fun h2 => SrtO.ints_sortable iz h2) fun out h1 h2 => ⟨.none, rfl, ?_⟩) (args_list_sort _)))
  obtain ⟨k1, k2, k3⟩ := SrtO.ints_out iz h1 h2
  obtain ⟨c, hc⟩ := sortedHeap_at (vs := vs) (out := out.toArray) at0
  have perm := k2.trans keys
  refine wpAny_pure ⟨_, rfl, q _ u.heap.objs.size out.toArray c (out.map SrtO.iv) (fun x v e => ?_) ge oss sz hc k1 (lt_of_le_nodup _ k3 (perm.nodup_iff.mpr nd)) (fun k => ?_) ?_⟩
  · have z := old x v e
    have lt := Heap.lt_size z
    show (sortedHeap (u.heap.push (seqObj "list" vs.toArray 0)) u.heap.objs.size vs out.toArray).get? x = some v
    rw [sortedHeap_old (Nat.ne_of_lt lt) (Nat.lt_of_lt_of_le lt (by rw [size_push']; exact Nat.le_succ _))]
    exact Heap.get?_push_of_some _ z
  · rw [perm.mem_iff]
    exact (hm k).symm
  · rw [perm.length_eq, List.length_map, Array.length_toList, hn]
end
section
variable {X : Cx}
/-- sorted(s), s a set of ints -/
def rSortSet (w : World) : List V → Hp → VK → Prop := fun vs H Q => ∃ (a : Addr) (S : Int → Bool) (n : Nat), vs = [V.ref a] ∧ H a = some (SetO w a S n) ∧
  ∀ (ns : List Int) (p : Addr), List.Pairwise (· < ·) ns → (∀ k, k ∈ ns ↔ S k = true) → H p = none → Q (.ref p) (upd H p (.lst (ns.map V.int)))
theorem cr_sortSet (hc : X.calm = true) : CallR X (.builtin "sorted") (rSortSet X.w) := by
  intro pins s σ H vs us Q I r h
  obtain ⟨a, S, n, rfl, ha, q⟩ := h
  have R := setO_get I ha
  rw [Vals.ref1 r]
  obtain ⟨o, es, ep, t, ho, hx, hd, g, nd, hm, hb, hf, hn, hr, hl⟩ := id R
  have nb : n < 4096 := by rw [← hn]; exact hb
  refine sorted_all R (I.ok.hd hc) fun t p out c ns k ge oss sz hg hi hs hm' hl' => ?_
  have few : (ns.map V.int).length ≤ sizeLine := by
    rw [List.length_map, hl', sizeLine_eq]
    omega
  have np : H p = none := I.hok.fresh sz
  obtain ⟨hp2, g2, d2, tk2, os2⟩ := t
  dsimp only at k ge oss hg
  subst ge oss
  refine ⟨.ref p, upd H p (.lst (ns.map V.int)), ?_, rfl, q ns p hs hm' np⟩
  exact I.call (ch := []) (Un.laid k sz np) (I.hok.laid k sz ⟨few, out.toList, c, vals_of_ints hi, hg⟩) I.bare (fun _ z => nomatch z)
end
end Cw
namespace Cw
open PySem L2
def rSetOfW (K : PySem.W.Frag) (w : World) : List V → Hp → VK → Prop := fun xs H Q => ∃ (l : Addr) (ns : List Int), xs = [.ref l] ∧ SqL K H l (ns.map V.int) ∧ ns.length ≤ 4000 ∧ ∀ p c, c ≤ ns.length → H p = none → Q (.ref p) (upd H p (SetO w p (fun j => decide (j ∈ ns)) c))
end Cw
namespace Cw
open PySem PySem.Spec PyProof.Rows PySem.SeqAt L2
/-! ## min(xs, default=None) -/
section
variable {X : Cx}
def rMinN (K : PySem.W.Frag) : List V → List V → Hp → VK → Prop := fun xs zs H Q => ∃ (a : Addr) (ns : List Int), xs = [.ref a] ∧ SqL K H a (ns.map V.int) ∧ zs = [.non] ∧ (ns = [] → Q .non H) ∧ ∀ M, M ∈ ns → (∀ y ∈ ns, M ≤ y) → Q (.int M) H
theorem fold_min (n : Int) : ∀ (ns : List Int), ns.foldl min n ≤ n ∧ (∀ y ∈ ns, ns.foldl min n ≤ y) ∧ (ns.foldl min n = n ∨ ns.foldl min n ∈ ns) := by
  intro ns
  induction ns generalizing n with
  | nil => exact ⟨Int.le_refl _, fun _ h => (nomatch h), .inl rfl⟩
  | cons k r ih =>
    rw [List.foldl_cons]
    obtain ⟨h1, h2, h3⟩ := ih (min n k)
    refine ⟨Int.le_trans h1 (Int.min_le_left _ _), fun y hy => ?_, ?_⟩
    · rcases List.mem_cons.mp hy with rfl | hy
      · exact Int.le_trans h1 (Int.min_le_right _ _)
      · exact h2 y hy
    · rcases h3 with e | e
      · rw [e]
        by_cases c : n ≤ k
        · exact .inl (Int.min_eq_left c)
        · exact .inr (by rw [Int.min_eq_right (by omega)]; exact List.mem_cons_self ..)
      · exact .inr (List.mem_cons_of_mem _ e)
theorem cr_minN (hc : X.calm = true) (hu : X.A.units + 3 < cLine) : CallRK X (.builtin "min") ["default"] (rMinN X.K) := by
  intro pins s σ H xs zs us ws Q I r rz h
  obtain ⟨a, ns, rfl, hs, rfl, q0, q⟩ := h
  obtain ⟨its, rv, pl, _⟩ := I.list hs
  rw [Vals.ref1 r]
  obtain ⟨u, rfl, ru⟩ := vals1 rz
  obtain rfl : u = Value.none := ru
  have dpi : ∀ ns : List Int, DpAll X.K H (ns.map V.int) (ns.map PyData.int) := fun ns => by
    induction ns with
    | nil => exact .nil
    | cons n r ih => exact .cons (.int n) ih
  have dpt : ∀ ns : List Int, PyData.depthAll (ns.map PyData.int) ≤ 1 := fun ns => by
    induction ns with
    | nil => exact Nat.zero_le _
    | cons n r ih =>
      rw [List.map_cons]
      unfold PyData.depthAll PyData.depth
      omega
  obtain ⟨as, hr⟩ := Dp.readsAll I _ _ _ (dpi ns) rv
  have hd := dpt ns
  refine PySem.W.min_list_default (vs := its.toArray) (I.ok.hd hc) pl.isList (by rw [List.toList_toArray]; exact hr) (alike_ints ns) (by omega) (fun e h' tk k' => ?_) (fun y ys i v h' tk bs e _ rd k' => ?_)
  · exact ⟨.non, H, I.kept k', rfl, q0 (List.map_eq_nil_iff.mp e)⟩
  · cases ns with
    | nil => cases e
    | cons n r =>
      rw [List.map_cons] at e
      injection e with e1 e2
      subst e1 e2
      rw [PySem.W.minD_ints] at rd
      cases rd with
      | int i t =>
        obtain ⟨f1, f2, f3⟩ := fold_min n r
        refine ⟨.int (r.foldl min n), H, I.kept k', ⟨t, rfl⟩, q _ ?_ fun y hy => ?_⟩
        · rcases f3 with e | e
          · rw [e]
            exact List.mem_cons_self ..
          · exact List.mem_cons_of_mem _ e
        · rcases List.mem_cons.mp hy with rfl | hy
          · exact f1
          · exact f2 y hy
end
end Cw
namespace Cw
open PySem L2
abbrev sPm : Stmt := top 33
abbrev sLw : Stmt := top 35
abbrev sLb : Stmt := top 34
abbrev sTb : Stmt := top 36
abbrev sSos : Stmt := top 37
abbrev sSf : Stmt := top 27
theorem cut_tail {α : Type} (f : α → V) (xs : List α) : cutV (xs.map f) (some 1) none = (xs.drop 1).map f := by
  unfold cutV
  have e : HT.sIx (xs.map f).length 0 (some 1) = min 1 (xs.map f).length := HT.sIx_nat _ _ 1
  rw [e, HT.sIx_none, List.map_drop]
  by_cases h : xs.length = 0
  · have : xs = [] := List.length_eq_zero_iff.mp h
    subst this
    rfl
  · rw [show min 1 (xs.map f).length = 1 by rw [List.length_map]; omega, List.take_of_length_le]
    rw [List.length_drop]
    exact Nat.le_refl _
theorem cut_init {α : Type} (f : α → V) (xs : List α) : cutV (xs.map f) none (some (-1)) = xs.dropLast.map f := by
  have e : HT.sIx (xs.map f).length (xs.map f).length (some (-1)) = ((-1 : Int) + (((xs.map f).length : Nat) : Int)).toNat := by
    show (if (-1 : Int) < 0 then ((-1 : Int) + _).toNat else min (-1 : Int).toNat (xs.map f).length) = _
    rw [if_pos (by decide)]
  unfold cutV
  rw [e, HT.sIx_none, List.drop_zero, List.dropLast_eq_take, List.map_take, List.length_map]
  congr 1
  omega
def oV : Option Int → V
  | none => .non
  | some k => .int k
theorem zip_cuts {n : Int} {cuts : List Int} {K i : Nat} {x1 x2 : V} (C : CutsOk n cuts K) (hi : i < K) (e1 : (cuts.map V.int)[i]? = some x1) (e2 : ((cuts.drop 1).map V.int)[i]? = some x2) : x1 = .int (cAt cuts i) ∧ x2 = .int (cAt cuts (i + 1)) := by
  rw [List.getElem?_map, C.at (by omega)] at e1
  rw [List.getElem?_map, List.getElem?_drop, show 1 + i = i + 1 by omega, C.at (by omega)] at e2
  exact ⟨(Option.some.inj e1).symm, (Option.some.inj e2).symm⟩
def spPm (C : Addr) : Sp := fun vs H Q _ => ∃ (r : Addr) (n : Int) (ms ss : List Int), vs = [.ref r] ∧ RowAt C H r n ms ss ∧ Good n ms ss ∧ ∀ q H', Same H H' → H q = none → IL H' q (plM ms ss) → Q (.ref q) H'
def spLw : Sp := fun vs H Q _ => ∃ (a : Addr) (xs : List Int) (b e : Int), vs = [.ref a, .int b, .int e] ∧ IL H a xs ∧ Asc xs ∧ xs.length ≤ 400 ∧ ∀ x, LastW xs b e x → Q (.int x) H
def spLb (C : Addr) : Sp := fun vs H Q _ => ∃ (r c : Addr) (n : Int) (ms ss cuts : List Int) (K' : Nat), vs = [.ref r, .ref c] ∧ RowAt C H r n ms ss ∧ Good n ms ss ∧ IL H c cuts ∧ CutsOk n cuts K' ∧
  ∀ (q : Addr) (H' : Hp) (L N G : Int), Same H H' → H q = none → IL H' q [L, N, G] → Lo cuts K' ms ss L N G → Q (.ref q) H'
def spTb (C : Addr) : Sp := fun vs H Q _ => ∃ (r c : Addr) (n : Int) (ms ss cuts : List Int) (K' : Nat), vs = [.ref r, .ref c] ∧ RowAt C H r n ms ss ∧ Good n ms ss ∧ IL H c cuts ∧ CutsOk n cuts K' ∧
  ∀ (q : Addr) (H' : Hp) (x y z : Option Int), Same H H' → H q = none → H' q = some (.lst [oV x, oV y, oV z]) → Hi cuts K' n ms ss x y z → Q (.ref q) H'
def spSos : Sp := fun vs H Q _ => ∃ (p q : Addr) (L N G : Int) (x y z : Option Int), vs = [.ref p, .ref q] ∧ IL H p [L, N, G] ∧ H q = some (.lst [oV x, oV y, oV z]) ∧ 1 ≤ L ∧ ∀ (H' : Hp) (b : Bool), Same H H' → (b = true ↔ OkS L N G x y z) → Q (.bl b) H'
def spSf (C : Addr) : Sp := fun vs H Q _ => ∃ (r c : Addr) (n : Int) (ms ss cuts : List Int) (K' : Nat), vs = [.ref r, .ref c] ∧ RowAt C H r n ms ss ∧ Good n ms ss ∧ IL H c cuts ∧ CutsOk n cuts K' ∧
  ∀ (H' : Hp) (L N G : Int) (x y z : Option Int), Same H H' → Lo cuts K' ms ss L N G → Hi cuts K' n ms ss x y z → (¬ OkS L N G x y z → Q .non H') ∧ (OkS L N G x y z → ∀ p, H' p = none → Q (.ref p) (upd H' p (.tup [.int L, oV x, .int N, oV y, .int G, oV z])))
section
variable {P : Program} {w : World} {K : PySem.W.Frag} {mg : Str → Option Value} {base : Heap}
abbrev NPm : List Str := ["row", "strict", "mark"]
theorem scPm : FnScope NPm ["row"] (defScope sPm) := ⟨rfl, rfl, rfl, by decide +kernel, rfl, by decide +kernel, by decide +kernel⟩
theorem ok_pm {f C pL fGL pM fGM pS fGS : Addr} {fd dL dM dS : FuncData} (F : Fun K "plain_marks" "plain_marks" sPm f fd) (T : Bl mg) (R : Cl K mg C) (Gs : Gets P w K mg base C pL fGL pM fGM pS fGS dL dM dS) :
    FnOk P w K mg base CX0 3 f fd ["row"] (spPm C) := by
  refine F.ok scPm (fun vs H Q E h => ?_) (fun cdv A outer s H vs Q E hr h => ?_)
  · obtain ⟨r, n, ms, ss, rfl, _⟩ := h
    rfl
  · obtain ⟨r, n, ms, ss, rfl, row, G, q⟩ := h
    refine ⟨_, (pss_cons (ps_set (i := 1) scPm.nd rfl (Or.inr rfl) (pe_callTy (show CallR _ (.type "set") (rSetOfW K w) from cr_setOf rfl) (by rfl) T.set (by decide +kernel) (pa_cons (pe_prop (pv 0) R.cl Gs.hS Gs.GS (hr.mono (by decide)) Gs.bS .nil pass0 rfl) pa_nil)))
        (pss_one (ps_ret (pe_lc (own := [("mark", 2)]) (g := (gName 2)) rfl scPm.nd (pi_list (pe_prop (pv 0) R.cl Gs.hM Gs.GM (hr.mono (by decide)) Gs.bM .nil pass0 rfl)) (blkOk_by (own := [("mark", 2)]) (N := NPm) (sc := defScope sPm) (by decide +kernel)) (fun _ _ _ _ _ => (pg_name (i := 2) scPm.nd rfl (Or.inl rfl))) (fun _ _ _ _ _ => (pts_one (pt_cmpR (show OpR _ (compareOp .NotIn) (rSNotIn w) from or_snotin) (pv 2) (pv 1) (by rfl)))) (fun _ _ _ _ _ => (pv 2)))))), ?_⟩
    obtain ⟨dx, _, _, ho, _, _⟩ := id row
    have ml := G.len
    have sl := G.len2
    refine ⟨_, rfl, r, dx, _, rfl, ho, r, n, ms, ss, rfl, row, fun c H1 s1 nc ic => ⟨c, ss, rfl, SqL.of ic, by omega, fun p cc hc hp => ?_⟩⟩
    have s2 := same_new (o := SetO w p (fun j => decide (j ∈ ss)) cc) (Same.refl H1) hp
    have k2 : upd H1 p (SetO w p (fun j => decide (j ∈ ss)) cc) p = some (SetO w p (fun j => decide (j ∈ ss)) cc) := upd_same
    generalize upd H1 p (SetO w p (fun j => decide (j ∈ ss)) cc) = H2 at s2 k2 ⊢
    have s02 := s1.trans s2
    try dsimp only [L2.start, List.set, List.map, List.append, List.replicate, List.length]
    refine ⟨_, rfl, r, dx, _, rfl, s02 _ _ ho, r, n, ms, ss, rfl, row.same s02, fun c2 H3 s3 nc2 ic2 => ⟨c2, rfl, ⟨_, SqL.of ic2⟩, fun D hD => ?_⟩⟩
    refine lcF (α := Int) (K := K) (src := ms.map V.int) (xs := ms) (fun x => decide (x ∉ ss)) (fun x => x) (fun H' s => SqL.of (s _ _ ic2)) (by rw [List.length_map]) hD (by omega) ?_ ?_
    · intro i x z H4 A' B' hx hz s4 ka kb
      obtain ⟨z3, rfl, hz3⟩ := il_at hx
      rw [hz] at hz3
      cases hz3
      refine ⟨rfl, _, rfl, _, rfl, z, p, _, cc, rfl, rfl, s4 _ _ (s3 _ _ k2), _, rfl, ?_⟩
      by_cases c1 : z ∈ ss
      · refine ifF (by rw [decide_eq_true c1]; rfl) ?_
        exact kb _ (decide_eq_false fun h => h c1) (Same.refl _)
      · refine ifT (by rw [decide_eq_false c1]; rfl) ?_
        exact ⟨_, rfl, ka _ (decide_eq_true c1) (Same.refl _)⟩
    intro H4 s4 hE
    rw [List.map_id'] at hE
    exact q D H4 (s02.trans (s3.trans s4)) ((s02.trans s3).free hD) hE
abbrev NLw : List Str := ["marks", "begin", "end", "at"]
theorem scLw : FnScope NLw ["marks", "begin", "end"] (defScope sLw) := ⟨rfl, rfl, rfl, by decide +kernel, rfl, by decide +kernel, by decide +kernel⟩
theorem ok_lw {f fB : Addr} {fd fdB : FuncData} (F : Fun K "last_within" "last_within" sLw f fd) (T : Bl mg)
    (gB : mg "count_before" = some (.ref fB)) (kB : PySem.W.keepIn K (.ref fB) = true) (bB : Binds K fdB ["places", "place"] []) (GB : FnOk P w K mg base CX0 1 fB fdB ["places", "place"] spCB) :
    FnOk P w K mg base CX0 2 f fd ["marks", "begin", "end"] (spLw) := by
  refine F.ok scLw (fun vs H Q E h => ?_) (fun cdv A outer s H vs Q E hr h => ?_)
  · obtain ⟨a, xs, b, e, rfl, _⟩ := h
    rfl
  · obtain ⟨a, xs, b, e, rfl, hA, asc, few, q⟩ := h
    refine ⟨_, (pss_cons (ps_set (i := 3) scLw.nd rfl (Or.inl rfl) (pe_call GB (hr.mono (by decide)) rfl gB kB bB .nil pass0 (pa_cons (pv 0) (pa_cons (pv 2) pa_nil))))
        (pss_cons (ps_if (pt_cmpR op_eq (pv 3) pe_int (nomark _)) (pss_one (ps_ret pe_int)) pss_nil)
        (pss_one (ps_ret (pe_callB (call_max2 rfl) (by rfl) T.max (by decide +kernel) (pa_cons (pe_op op_sub (pe_ix (r := rIxL K) ix_list (pv 0) (pe_op op_sub (pv 3) pe_int) (fun _ _ => rfl)) (pv 1)) (pa_cons pe_int pa_nil))))))), ?_⟩
    refine ⟨_, rfl, _, rfl, a, xs, e, rfl, hA, by omega, asc, ?_⟩
    obtain ⟨lo, hi⟩ := cb_split asc e
    have cl := cb_le (ns := xs) (z := e)
    try dsimp only [L2.start, List.set, List.map, List.append, List.replicate, List.length]
    refine ⟨_, rfl, rfl, _, rfl, ?_⟩
    by_cases c : cb xs e = 0
    · refine ifT (decide_eq_true (by rw [c]; rfl)) ?_
      refine q 0 (.inl ⟨rfl, fun y hy h => ?_⟩)
      obtain ⟨i, hi', rfl⟩ := List.mem_iff_getElem.mp hy
      have := hi i (by omega) _ (List.getElem?_eq_getElem hi')
      omega
    · refine ifF (decide_eq_false fun z => c (by have := V.int.inj z; omega)) ?_
      have il : cb xs e - 1 < xs.length := by omega
      have hy := List.getElem?_eq_getElem il
      refine ⟨_, rfl, _, rfl, _, _, rfl, rfl, a, _, _, _, rfl, rfl, SqL.of hA, at_of2 (j := cb xs e - 1) (by omega) (by rw [List.getElem?_map, hy]; rfl), _, rfl, _, _, rfl, rfl, _, _, rfl, ?_⟩
      generalize hv : xs[cb xs e - 1] = v at hy
      have v1 := lo (cb xs e - 1) (by omega) _ hy
      have vm := List.mem_of_getElem? hy
      have top : ∀ z ∈ xs, z < e → z ≤ v := fun z hz h => by
        obtain ⟨i, hi', rfl⟩ := List.mem_iff_getElem.mp hz
        by_cases d : i < cb xs e
        · by_cases f : i = cb xs e - 1
          · subst f
            omega
          · have := List.pairwise_iff_getElem.mp asc i (cb xs e - 1) hi' il (by omega)
            omega
        · have := hi i (by omega) _ (List.getElem?_eq_getElem hi')
          omega
      refine q _ ?_
      by_cases d : b < v
      · rw [if_neg (by omega)]
        exact .inr ⟨v, vm, d, v1, rfl, fun z hz _ h2 => top z hz h2⟩
      · refine .inl ⟨by split <;> omega, fun y hy' h => ?_⟩
        have := top y hy' h.2
        omega
abbrev NLb : List Str := ["row", "cuts", "strict", "plain", "least", "normal", "greatest", "begin", "end"]
theorem scLb : FnScope NLb ["row", "cuts"] (defScope sLb) := ⟨rfl, rfl, rfl, by decide +kernel, rfl, by decide +kernel, by decide +kernel⟩
theorem ok_lb {f C fP fW pL fGL pM fGM pS fGS : Addr} {fd fdP fdW dL dM dS : FuncData} (F : Fun K "low_bounds" "low_bounds" sLb f fd) (T : Bl mg) (R : Cl K mg C) (Gs : Gets P w K mg base C pL fGL pM fGM pS fGS dL dM dS)
    (gP : mg "plain_marks" = some (.ref fP)) (kP : PySem.W.keepIn K (.ref fP) = true) (bP : Binds K fdP ["row"] []) (GP : FnOk P w K mg base CX0 3 fP fdP ["row"] (spPm C))
    (gW : mg "last_within" = some (.ref fW)) (kW : PySem.W.keepIn K (.ref fW) = true) (bW : Binds K fdW ["marks", "begin", "end"] []) (GW : FnOk P w K mg base CX0 2 fW fdW ["marks", "begin", "end"] spLw) :
    FnOk P w K mg base CX0 4 f fd ["row", "cuts"] (spLb C) := by
  refine F.ok scLb (fun vs H Q E h => ?_) (fun cdv A outer s H vs Q E hr h => ?_)
  · obtain ⟨r, c, n, ms, ss, cuts, K', rfl, _⟩ := h
    rfl
  · obtain ⟨r, c, n, ms, ss, cuts, K', rfl, row, G, hC, CO, q⟩ := h
    refine ⟨_, (pss_cons (ps_set (i := 2) scLb.nd rfl (Or.inl rfl) (pe_prop (pv 0) R.cl Gs.hS Gs.GS (hr.mono (by decide)) Gs.bS .nil pass0 rfl))
        (pss_cons (ps_set (i := 3) scLb.nd rfl (Or.inl rfl) (pe_call GP (hr.mono (by decide)) rfl gP kP bP .nil pass0 (pa_cons (pv 0) pa_nil)))
        (pss_cons (ps_asg3 pe_int (pg_name (i := 4) scLb.nd rfl (Or.inl rfl)) (pg_name (i := 5) scLb.nd rfl (Or.inl rfl)) (pg_name (i := 6) scLb.nd rfl (Or.inl rfl)))
        (pss_cons (ps_for PassesOwn.never rfl (pi_zip (by rfl) T.zip (pa_cons (pv 1) (pa_cons (pe_slice sl_list (pv 1) (po_some pe_int) po_none) pa_nil))) (pg_tup rfl (pgs_cons (pg_name (i := 7) scLb.nd rfl (Or.inl rfl)) (pgs_cons (pg_name (i := 8) scLb.nd rfl (Or.inl rfl)) pgs_nil)))
        (pss_cons (ps_set (i := 4) scLb.nd rfl (Or.inl rfl) (pe_callB (call_max2 rfl) (by rfl) T.max (by decide +kernel) (pa_cons (pv 4) (pa_cons (pe_op op_add (pe_call GW (hr.mono (by decide)) rfl gW kW bW .nil pass0 (pa_cons (pv 2) (pa_cons (pv 7) (pa_cons (pv 8) pa_nil)))) pe_int) pa_nil))))
        (pss_cons (ps_set (i := 5) scLb.nd rfl (Or.inl rfl) (pe_callB (call_max2 rfl) (by rfl) T.max (by decide +kernel) (pa_cons (pv 5) (pa_cons (pe_op op_add (pe_call GW (hr.mono (by decide)) rfl gW kW bW .nil pass0 (pa_cons (pv 3) (pa_cons (pv 7) (pa_cons (pv 8) pa_nil)))) pe_int) pa_nil))))
        (pss_one (ps_set (i := 6) scLb.nd rfl (Or.inl rfl) (pe_callB (call_max2 rfl) (by rfl) T.max (by decide +kernel) (pa_cons (pv 6) (pa_cons (pe_op op_sub (pv 8) (pv 7)) pa_nil))))))))
        (pss_one (ps_ret (pe_lst (pa_cons (pv 4) (pa_cons (pv 5) (pa_cons (pv 6) pa_nil)))))))))), ?_⟩
    obtain ⟨dx, _, _, ho, _, _⟩ := id row
    have ml := G.len
    have sl := G.len2
    have cl := CO.len
    have cf := CO.few
    refine ⟨_, rfl, r, dx, _, rfl, ho, r, n, ms, ss, rfl, row, fun c1 H1 s1 nc1 ic1 => ?_⟩
    try dsimp only [L2.start, List.set, List.map, List.append, List.replicate, List.length]
    refine ⟨_, rfl, r, n, ms, ss, rfl, row.same s1, G, fun c2 H2 s2 nc2 ic2 => ?_⟩
    have s02 := s1.trans s2
    have ic1 := s2 _ _ ic1
    try dsimp only [L2.start, List.set, List.map, List.append, List.replicate, List.length]
    refine ⟨_, rfl, _, rfl, _, rfl, c, _, rfl, SqL.of (s02 _ _ hC), fun p hp => ?_⟩
    rw [cut_tail]
    have s3 := same_new (o := .lst ((cuts.drop 1).map V.int)) (Same.refl H2) hp
    have ip : IL (upd H2 p (.lst ((cuts.drop 1).map V.int))) p (cuts.drop 1) := upd_same
    generalize upd H2 p (.lst ((cuts.drop 1).map V.int)) = H3 at s3 ip ⊢
    have s03 := s02.trans s3
    have hC3 := s03 _ _ hC
    have hn : K' = min (cuts.map V.int).length ((cuts.drop 1).map V.int).length := by
      rw [List.length_map, List.length_map, List.length_drop]
      omega
    have asp : Asc (plM ms ss) := G.asc.filter _
    have pll : (plM ms ss).length ≤ 400 := Nat.le_trans (List.length_filter_le _ _) ml
    refine ⟨c, p, _, _, rfl, SqL.of hC3, SqL.of ip, for_it (walk_zip hn) (fun i σ H' => ∃ (L N G' : Int) (v7 v8 : Option V), σ = [some (.ref r), some (.ref c), some (.ref c1), some (.ref c2), some (.int L), some (.int N), some (.int G'), v7, v8] ∧ Same H3 H' ∧ MaxOf (PL cuts i ss) L ∧ MaxOf (PL cuts i (plM ms ss)) N ∧ MaxOf (PG cuts i) G')
      ⟨1, 1, 1, _, _, rfl, Same.refl _, MaxOf.nil fun x ⟨j, h, _⟩ => absurd h (Nat.not_lt_zero _), MaxOf.nil fun x ⟨j, h, _⟩ => absurd h (Nat.not_lt_zero _), MaxOf.nil fun x ⟨j, h, _⟩ => absurd h (Nat.not_lt_zero _)⟩
      (fun i σ H' _ ⟨_, _, _, _, _, _, s, _⟩ => ⟨SqL.of (s _ _ hC3), SqL.of (s _ _ ip)⟩) ?_ ?_⟩
    · rintro i x' σ H4 H5 hi ⟨L, N, G', v7, v8, rfl, s4, m1, m2, m3⟩ ⟨tt, x1, x2, rfl, nt, rfl, e1, e2⟩
      obtain ⟨rfl, rfl⟩ := zip_cuts CO hi e1 e2
      have s5 := same_new (o := .tup [.int (cAt cuts i), .int (cAt cuts (i + 1))]) s4 nt
      have kt : upd H4 tt (.tup [.int (cAt cuts i), .int (cAt cuts (i + 1))]) tt = some (.tup [.int (cAt cuts i), .int (cAt cuts (i + 1))]) := upd_same
      generalize upd H4 tt (.tup [.int (cAt cuts i), .int (cAt cuts (i + 1))]) = H5 at s5 kt ⊢
      refine ⟨tt, _, rfl, SqT.of kt, rfl, _, _, rfl, _, _, rfl, rfl, ?_⟩
      try dsimp only [L2.start, List.set, List.map, List.append, List.replicate, List.length]
      refine ⟨_, rfl, _, rfl, _, rfl, _, rfl, c1, ss, _, _, rfl, s5 _ _ (s3 _ _ ic1), G.asc2, by omega, fun w1 l1 => ⟨_, _, rfl, rfl, _, _, rfl, ?_⟩⟩
      try dsimp only [L2.start, List.set, List.map, List.append, List.replicate, List.length]
      refine ⟨_, rfl, _, rfl, _, rfl, _, rfl, c2, plM ms ss, _, _, rfl, s5 _ _ (s3 _ _ ic2), asp, pll, fun w2 l2 => ⟨_, _, rfl, rfl, _, _, rfl, ?_⟩⟩
      try dsimp only [L2.start, List.set, List.map, List.append, List.replicate, List.length]
      refine ⟨_, rfl, _, rfl, _, rfl, _, _, rfl, rfl, _, _, rfl, ?_⟩
      have lt := CO.lt (show i < i + 1 by omega) (show i + 1 ≤ K' by omega)
      exact ⟨_, _, _, _, _, rfl, s5, m1.last l1 PL_succ, m2.last l2 PL_succ, m3.add (by omega) PG_succ⟩
    · rintro σ H4 ⟨L, N, G', v7, v8, rfl, s4, m1, m2, m3⟩
      try dsimp only [L2.start, List.set, List.map, List.append, List.replicate, List.length]
      refine ⟨_, rfl, _, rfl, _, rfl, (by show 3 ≤ sizeLine; decide), fun l hl => ?_⟩
      have s5 := s03.trans s4
      exact q l _ L N G' (same_new s5 hl) (s5.free hl) upd_same ⟨m1, m2, m3⟩
abbrev NTb : List Str := ["row", "cuts", "ends", "pieces", "marks", "strict", "at_strict", "at_plain", "at_none", "begin", "end", "length", "lengths"]
theorem scTb : FnScope NTb ["row", "cuts"] (defScope sTb) := ⟨rfl, rfl, rfl, by decide +kernel, rfl, by decide +kernel, by decide +kernel⟩
theorem ok_tb {f C pL fGL pM fGM pS fGS : Addr} {fd dL dM dS : FuncData} (F : Fun K "top_bounds" "top_bounds" sTb f fd) (T : Bl mg) (R : Cl K mg C) (Gs : Gets P w K mg base C pL fGL pM fGM pS fGS dL dM dS) :
    FnOk P w K mg base CX0 4 f fd ["row", "cuts"] (spTb C) := by
  refine F.ok scTb (fun vs H Q E h => ?_) (fun cdv A outer s H vs Q E hr h => ?_)
  · obtain ⟨r, c, n, ms, ss, cuts, K', rfl, _⟩ := h
    rfl
  · obtain ⟨r, c, n, ms, ss, cuts, K', rfl, row, G, hC, CO, q⟩ := h
    have hu := hu_of hr
    have hu64 : (A.deeper (PyProof.Rows.envOfC "top_bounds" (defScope sTb) s.heap.objs.size f cdv)).units + 64 < cLine := Nat.lt_of_le_of_lt (by omega) hr.un
    refine ⟨_, (pss_cons (ps_set (i := 2) scTb.nd rfl (Or.inl rfl) (pe_slice sl_list (pv 1) po_none (po_some (pe_un un_neg pe_int))))
        (pss_cons (ps_setLc (i := 3) (own := [("begin", 9), ("end", 10)]) (g := (gTup K 2 (gCons (gName 9) (gCons (gName 10) gNil)))) (tt := tYes) rfl scTb.nd rfl rfl (sw_true rfl rfl rfl (by decide +kernel)) (pi_zip (by rfl) T.zip (pa_cons (pv 2) (pa_cons (pe_slice sl_list (pv 2) (po_some pe_int) po_none) pa_nil))) (blkOk_by (own := [("begin", 9), ("end", 10)]) (N := NTb) (sc := defScope sTb) (by decide +kernel)) (fun _ _ _ _ _ => (pg_tup rfl (pgs_cons (pg_name (i := 9) scTb.nd rfl (Or.inl rfl)) (pgs_cons (pg_name (i := 10) scTb.nd rfl (Or.inl rfl)) pgs_nil)))) (fun _ _ _ _ _ => pts_nil) (fun _ _ _ _ _ => (pe_tup (pa_cons (pv 10) (pa_cons (pe_op op_sub (pv 10) (pv 9)) pa_nil)))))
        (pss_cons (ps_set (i := 4) scTb.nd rfl (Or.inr rfl) (pe_callTy (show CallR _ (.type "set") (rSetOfW K w) from cr_setOf rfl) (by rfl) T.set (by decide +kernel) (pa_cons (pe_prop (pv 0) R.cl Gs.hM Gs.GM (hr.mono (by decide)) Gs.bM .nil pass0 rfl) pa_nil)))
        (pss_cons (ps_set (i := 5) scTb.nd rfl (Or.inr rfl) (pe_callTy (show CallR _ (.type "set") (rSetOfW K w) from cr_setOf rfl) (by rfl) T.set (by decide +kernel) (pa_cons (pe_prop (pv 0) R.cl Gs.hS Gs.GS (hr.mono (by decide)) Gs.bS .nil pass0 rfl) pa_nil)))
        (pss_cons (ps_setLc (i := 6) (own := [("end", 10), ("length", 11)]) (g := (gTup K 2 (gCons (gName 10) (gCons (gName 11) gNil)))) rfl scTb.nd rfl rfl (sw_true rfl rfl rfl (by decide +kernel)) (pi_list (pv 3)) (blkOk_by (own := [("end", 10), ("length", 11)]) (N := NTb) (sc := defScope sTb) (by decide +kernel)) (fun _ _ _ _ _ => (pg_tup rfl (pgs_cons (pg_name (i := 10) scTb.nd rfl (Or.inl rfl)) (pgs_cons (pg_name (i := 11) scTb.nd rfl (Or.inl rfl)) pgs_nil)))) (fun _ _ _ _ _ => (pts_one (pt_cmpR (show OpR _ (compareOp .In) (rSIn w) from or_sin) (pv 10) (pv 5) (by rfl)))) (fun _ _ _ _ _ => (pv 11)))
        (pss_cons (ps_setLc (i := 7) (own := [("end", 10), ("length", 11)]) (g := (gTup K 2 (gCons (gName 10) (gCons (gName 11) gNil)))) rfl scTb.nd rfl rfl (sw_true rfl rfl rfl (by decide +kernel)) (pi_list (pv 3)) (blkOk_by (own := [("end", 10), ("length", 11)]) (N := NTb) (sc := defScope sTb) (by decide +kernel)) (fun _ _ _ _ _ => (pg_tup rfl (pgs_cons (pg_name (i := 10) scTb.nd rfl (Or.inl rfl)) (pgs_cons (pg_name (i := 11) scTb.nd rfl (Or.inl rfl)) pgs_nil)))) (fun _ _ _ _ _ => (pts_one (PW.pt (pw_and (pt_cmpR (show OpR _ (compareOp .In) (rSIn w) from or_sin) (pv 10) (pv 4) (by rfl)) (pw_and1 (pt_cmpR (show OpR _ (compareOp .NotIn) (rSNotIn w) from or_snotin) (pv 10) (pv 5) (by rfl))))))) (fun _ _ _ _ _ => (pv 11)))
        (pss_cons (ps_setLc (i := 8) (own := [("end", 10), ("length", 11)]) (g := (gTup K 2 (gCons (gName 10) (gCons (gName 11) gNil)))) rfl scTb.nd rfl rfl (sw_true rfl rfl rfl (by decide +kernel)) (pi_list (pv 3)) (blkOk_by (own := [("end", 10), ("length", 11)]) (N := NTb) (sc := defScope sTb) (by decide +kernel)) (fun _ _ _ _ _ => (pg_tup rfl (pgs_cons (pg_name (i := 10) scTb.nd rfl (Or.inl rfl)) (pgs_cons (pg_name (i := 11) scTb.nd rfl (Or.inl rfl)) pgs_nil)))) (fun _ _ _ _ _ => (pts_one (pt_cmpR (show OpR _ (compareOp .NotIn) (rSNotIn w) from or_snotin) (pv 10) (pv 4) (by rfl)))) (fun _ _ _ _ _ => (pv 11)))
        (pss_one (ps_ret (pe_lc (own := [("lengths", 12)]) (g := (gName 12)) (tt := tYes) rfl scTb.nd (pi_tup (pe_tup (pa_cons (pv 6) (pa_cons (pv 7) (pa_cons (pv 8) pa_nil))))) (blkOk_by (own := [("lengths", 12)]) (N := NTb) (sc := defScope sTb) (by decide +kernel)) (fun _ _ _ _ _ => (pg_name (i := 12) scTb.nd rfl (Or.inl rfl))) (fun _ _ _ _ _ => pts_nil) (fun _ _ _ _ _ => (pe_callBK (show CallRK _ (.builtin "min") ["default"] (rMinN K) from cr_minN rfl (Nat.lt_of_le_of_lt (Nat.add_le_add_left (by decide : 3 ≤ 64) _) hu64)) (by rfl) T.min (by decide +kernel) (pa_cons (pv 12) pa_nil) (pk_cons pe_non pk_nil))))))))))))), ?_⟩
    obtain ⟨dx, _, _, ho, _, _⟩ := id row
    have ml := G.len
    have sl := G.len2
    have cl := CO.len
    have cf := CO.few
    refine ⟨_, rfl, _, rfl, _, rfl, c, _, rfl, SqL.of hC, fun en hen => ?_⟩
    rw [cut_init]
    have s1 := same_new (o := .lst (cuts.dropLast.map V.int)) (Same.refl H) hen
    have i1 : IL (upd H en (.lst (cuts.dropLast.map V.int))) en cuts.dropLast := upd_same
    generalize upd H en (.lst (cuts.dropLast.map V.int)) = H1 at s1 i1 ⊢
    try dsimp only [L2.start, List.set, List.map, List.append, List.replicate, List.length]
    -- the pieces
    refine ⟨_, rfl, _, rfl, _, rfl, en, _, rfl, SqL.of i1, fun e2 he2 => ?_⟩
    rw [cut_tail]
    have s2 := same_new (o := .lst ((cuts.dropLast.drop 1).map V.int)) (Same.refl H1) he2
    have i2 : IL (upd H1 e2 (.lst ((cuts.dropLast.drop 1).map V.int))) e2 (cuts.dropLast.drop 1) := upd_same
    generalize upd H1 e2 (.lst ((cuts.dropLast.drop 1).map V.int)) = H2 at s2 i2 ⊢
    have i1 := s2 _ _ i1
    have hn : K' - 1 = min (cuts.dropLast.map V.int).length ((cuts.dropLast.drop 1).map V.int).length := by
      rw [List.length_map, List.length_map, List.length_drop, List.length_dropLast]
      omega
    refine ⟨en, e2, _, _, rfl, SqL.of i1, SqL.of i2, fun PC hPC => ?_⟩
    refine lc_it (walk_zip hn) (fun i H' => Same H2 H' ∧ ∃ ts : List Addr, H' PC = some (.lst (ts.map V.ref)) ∧ PrAt H' ts ((List.range i).map fun j => (cAt cuts (j + 1), cAt cuts (j + 1) - cAt cuts j))) ⟨same_new (Same.refl H2) hPC, [], upd_same, .nil⟩ (fun i H' _ ⟨s, _⟩ => ⟨SqL.of (s _ _ i1), SqL.of (s _ _ i2)⟩) ?_ ?_
    · rintro i x H3 H4 hi ⟨s3, ts, hP, hq⟩ ⟨tt, x1, x2, rfl, nt, rfl, e1, e2'⟩
      have g1 : x1 = .int (cAt cuts i) := by
        dsimp only at e1
        rw [List.getElem?_map, List.dropLast_eq_take, List.getElem?_take, if_pos (by omega), CO.at (by omega)] at e1
        exact (Option.some.inj e1).symm
      have g2 : x2 = .int (cAt cuts (i + 1)) := by
        dsimp only at e2'
        rw [List.getElem?_map, List.getElem?_drop, List.dropLast_eq_take, List.getElem?_take, if_pos (by omega), show 1 + i = i + 1 by omega, CO.at (by omega)] at e2'
        exact (Option.some.inj e2').symm
      subst g1 g2
      have s4 := same_new (o := .tup [.int (cAt cuts i), .int (cAt cuts (i + 1))]) (Same.refl H3) nt
      have kt : upd H3 tt (.tup [.int (cAt cuts i), .int (cAt cuts (i + 1))]) tt = some (.tup [.int (cAt cuts i), .int (cAt cuts (i + 1))]) := upd_same
      generalize upd H3 tt (.tup [.int (cAt cuts i), .int (cAt cuts (i + 1))]) = H4 at s4 kt ⊢
      have hP := s4 _ _ hP
      have hq : PrAt H4 ts _ := hq.imp fun _ _ h => s4 _ _ h
      have tl : ts.length = i := by rw [hq.len, List.length_map, List.length_range]
      refine ⟨tt, _, rfl, SqT.of kt, rfl, _, _, rfl, _, _, rfl, rfl, rfl, ?_⟩
      unfold tYes
      refine iteT ?_
      refine ⟨_, rfl, _, rfl, _, rfl, _, _, rfl, rfl, (by show 2 ≤ sizeLine; decide), fun u hu' => ?_⟩
      have nu : PC ≠ u := ne_of_none hP hu'
      refine ⟨_, by rw [upd_ne nu]; exact hP, by rw [List.length_map]; exact small1000 (by omega), same_put (same_new (s3.trans s4) hu') hPC, ts ++ [u], by rw [upd_same, List.map_append]; rfl, ?_⟩
      rw [List.range_succ, List.map_append]
      refine PrAt.app (hq.imp fun v p e => ?_) (.cons ?_ .nil)
      · rw [upd_ne (ne_of e hP (by intro y; cases y)), upd_ne (ne_of_none e hu')]
        exact e
      · rw [upd_ne (Ne.symm nu)]
        exact upd_same
    rintro H3 ⟨s3, ts, hP, hq⟩
    generalize hps : ((List.range (K' - 1)).map fun j => (cAt cuts (j + 1), cAt cuts (j + 1) - cAt cuts j)) = ps at hq
    have pl : ps.length ≤ 200 := by
      rw [← hps, List.length_map, List.length_range]
      omega
    have mem : ∀ (φ : Int → Prop) [DecidablePred φ] (x : Int), x ∈ (ps.filter fun q => decide (φ q.1)).map (fun q => q.2) ↔ PT cuts K' n φ x := fun φ _ x => by
      rw [← hps]
      constructor
      · intro h
        obtain ⟨q', hq', rfl⟩ := List.mem_map.mp h
        obtain ⟨h1, h2⟩ := List.mem_filter.mp hq'
        obtain ⟨j, hj, rfl⟩ := List.mem_map.mp h1
        have jl := List.mem_range.mp hj
        exact ⟨j, by omega, CO.lt_n (by omega), of_decide_eq_true h2, rfl⟩
      · rintro ⟨j, hj, h1, h2, rfl⟩
        have jl : j < K' - 1 := by
          by_cases d : j < K' - 1
          · exact d
          · exfalso
            have : j + 1 = K' := by omega
            rw [this, CO.last] at h1
            omega
        exact List.mem_map.mpr ⟨_, List.mem_filter.mpr ⟨List.mem_map.mpr ⟨j, List.mem_range.mpr jl, rfl⟩, decide_eq_true h2⟩, rfl⟩
    have s03 := (s1.trans s2).trans s3
    try dsimp only [L2.start, List.set, List.map, List.append, List.replicate, List.length]
    -- the sets
    refine ⟨_, rfl, r, dx, _, rfl, s03 _ _ ho, r, n, ms, ss, rfl, row.same s03, fun c1 H4 s4 nc1 ic1 => ⟨c1, ms, rfl, SqL.of ic1, by omega, fun p1 cc1 hc1 hp1 => ?_⟩⟩
    have s5 := same_new (o := SetO w p1 (fun j => decide (j ∈ ms)) cc1) (Same.refl H4) hp1
    have k5 : upd H4 p1 (SetO w p1 (fun j => decide (j ∈ ms)) cc1) p1 = some (SetO w p1 (fun j => decide (j ∈ ms)) cc1) := upd_same
    generalize upd H4 p1 (SetO w p1 (fun j => decide (j ∈ ms)) cc1) = H5 at s5 k5 ⊢
    have s35 := s4.trans s5
    have s05 := s03.trans s35
    try dsimp only [L2.start, List.set, List.map, List.append, List.replicate, List.length]
    refine ⟨_, rfl, r, dx, _, rfl, s05 _ _ ho, r, n, ms, ss, rfl, row.same s05, fun c2 H6 s6 nc2 ic2 => ⟨c2, ss, rfl, SqL.of ic2, by omega, fun p2 cc2 hc2 hp2 => ?_⟩⟩
    have s7 := same_new (o := SetO w p2 (fun j => decide (j ∈ ss)) cc2) (Same.refl H6) hp2
    have k7 : upd H6 p2 (SetO w p2 (fun j => decide (j ∈ ss)) cc2) p2 = some (SetO w p2 (fun j => decide (j ∈ ss)) cc2) := upd_same
    generalize upd H6 p2 (SetO w p2 (fun j => decide (j ∈ ss)) cc2) = H7 at s7 k7 ⊢
    have s57 := s6.trans s7
    have k5 := s57 _ _ k5
    have s37 := s35.trans s57
    have hP := s37 _ _ hP
    have hq : PrAt H7 ts ps := hq.imp fun _ _ h => s37 _ _ h
    have s07 := s03.trans s37
    clear i1 i2 s4 s5 s6
    try dsimp only [L2.start, List.set, List.map, List.append, List.replicate, List.length]
    -- at strict marks
    refine ⟨_, rfl, PC, rfl, ⟨_, SqL.of hP⟩, fun D1 hD1 => ?_⟩
    refine lcF (α := Int × Int) (K := K) (src := ts.map V.ref) (xs := ps) (fun q => decide (q.1 ∈ ss)) (fun q => q.2) (fun H' s => SqL.of (s _ _ hP)) (by rw [List.length_map]; exact hq.len) hD1 (by omega) ?_ ?_
    · intro i x z H8 A' B' hx hz s8 ka kb
      obtain ⟨u, y, rfl, hy, hu'⟩ := hq.get hx
      rw [hz] at hy
      cases hy
      refine ⟨u, _, rfl, SqT.of (s8 _ _ hu'), rfl, _, _, rfl, _, _, rfl, rfl, rfl, ?_⟩
      refine ⟨_, rfl, _, rfl, z.1, p2, _, cc2, rfl, rfl, s8 _ _ k7, _, rfl, ?_⟩
      by_cases c1 : z.1 ∈ ss
      · refine ifT (decide_eq_true c1) ?_
        exact ⟨_, rfl, ka _ (decide_eq_true c1) (Same.refl _)⟩
      · refine ifF (decide_eq_false c1) ?_
        exact kb _ (decide_eq_false c1) (Same.refl _)
    intro H8 s8 hA1
    have mA := mem (fun e => e ∈ ss)
    have lA : ((ps.filter fun q => decide (q.1 ∈ ss)).map fun q => q.2).length ≤ 200 := by
      rw [List.length_map]
      exact Nat.le_trans (List.length_filter_le _ _) pl
    generalize ((ps.filter fun q => decide (q.1 ∈ ss)).map fun q => q.2) = as at hA1 mA lA
    try dsimp only [L2.start, List.set, List.map, List.append, List.replicate, List.length]
    -- at plain marks
    refine ⟨_, rfl, PC, rfl, ⟨_, SqL.of (s8 _ _ hP)⟩, fun D2 hD2 => ?_⟩
    refine lcF (α := Int × Int) (K := K) (src := ts.map V.ref) (xs := ps) (fun q => decide (q.1 ∈ ms ∧ q.1 ∉ ss)) (fun q => q.2) (fun H' s => SqL.of (s _ _ (s8 _ _ hP))) (by rw [List.length_map]; exact hq.len) hD2 (by omega) ?_ ?_
    · intro i x z H9 A' B' hx hz s9 ka kb
      obtain ⟨u, y, rfl, hy, hu'⟩ := hq.get hx
      rw [hz] at hy
      cases hy
      have s79 := s8.trans s9
      refine ⟨u, _, rfl, SqT.of (s79 _ _ hu'), rfl, _, _, rfl, _, _, rfl, rfl, rfl, ?_⟩
      refine ⟨_, rfl, _, rfl, z.1, p1, _, cc1, rfl, rfl, s79 _ _ k5, _, rfl, ?_⟩
      by_cases c1 : z.1 ∈ ms
      · refine ifT (decide_eq_true c1) ?_
        refine ⟨_, rfl, _, rfl, z.1, p2, _, cc2, rfl, rfl, s79 _ _ k7, _, rfl, ?_⟩
        by_cases c2 : z.1 ∈ ss
        · refine ifF (by rw [decide_eq_true c2]; rfl) ?_
          exact kb _ (decide_eq_false fun h => h.2 c2) (Same.refl _)
        · refine ifT (by rw [decide_eq_false c2]; rfl) ?_
          exact ⟨_, rfl, ka _ (decide_eq_true ⟨c1, c2⟩) (Same.refl _)⟩
      · refine ifF (decide_eq_false c1) ?_
        refine ifF rfl ?_
        exact kb _ (decide_eq_false fun h => c1 h.1) (Same.refl _)
    intro H9 s9 hB1
    have mB := mem (fun e => e ∈ ms ∧ e ∉ ss)
    have lB : ((ps.filter fun q => decide (q.1 ∈ ms ∧ q.1 ∉ ss)).map fun q => q.2).length ≤ 200 := by
      rw [List.length_map]
      exact Nat.le_trans (List.length_filter_le _ _) pl
    generalize ((ps.filter fun q => decide (q.1 ∈ ms ∧ q.1 ∉ ss)).map fun q => q.2) = bs at hB1 mB lB
    have s79 := s8.trans s9
    try dsimp only [L2.start, List.set, List.map, List.append, List.replicate, List.length]
    -- at none
    refine ⟨_, rfl, PC, rfl, ⟨_, SqL.of (s79 _ _ hP)⟩, fun D3 hD3 => ?_⟩
    refine lcF (α := Int × Int) (K := K) (src := ts.map V.ref) (xs := ps) (fun q => decide (q.1 ∉ ms)) (fun q => q.2) (fun H' s => SqL.of (s _ _ (s79 _ _ hP))) (by rw [List.length_map]; exact hq.len) hD3 (by omega) ?_ ?_
    · intro i x z HA A' B' hx hz sA ka kb
      obtain ⟨u, y, rfl, hy, hu'⟩ := hq.get hx
      rw [hz] at hy
      cases hy
      have s7A := s79.trans sA
      refine ⟨u, _, rfl, SqT.of (s7A _ _ hu'), rfl, _, _, rfl, _, _, rfl, rfl, rfl, ?_⟩
      refine ⟨_, rfl, _, rfl, z.1, p1, _, cc1, rfl, rfl, s7A _ _ k5, _, rfl, ?_⟩
      by_cases c1 : z.1 ∈ ms
      · refine ifF (by rw [decide_eq_true c1]; rfl) ?_
        exact kb _ (decide_eq_false fun h => h c1) (Same.refl _)
      · refine ifT (by rw [decide_eq_false c1]; rfl) ?_
        exact ⟨_, rfl, ka _ (decide_eq_true c1) (Same.refl _)⟩
    intro HA sA hC1
    have mC := mem (fun e => e ∉ ms)
    have lC : ((ps.filter fun q => decide (q.1 ∉ ms)).map fun q => q.2).length ≤ 200 := by
      rw [List.length_map]
      exact Nat.le_trans (List.length_filter_le _ _) pl
    generalize ((ps.filter fun q => decide (q.1 ∉ ms)).map fun q => q.2) = cs at hC1 mC lC
    have hA2 := sA _ _ (s9 _ _ hA1)
    have hB2 := sA _ _ hB1
    try dsimp only [L2.start, List.set, List.map, List.append, List.replicate, List.length]
    -- the least of each
    refine ⟨_, rfl, _, rfl, _, rfl, (by show 3 ≤ sizeLine; decide), fun tp htp => ⟨tp, rfl, ⟨_, SqT.of upd_same⟩, fun D4 hD4 => ?_⟩⟩
    have sB := same_new (o := .tup [.ref D1, .ref D2, .ref D3]) (Same.refl HA) htp
    have kB : upd HA tp (.tup [.ref D1, .ref D2, .ref D3]) tp = some (.tup [.ref D1, .ref D2, .ref D3]) := upd_same
    try dsimp -proj only at hD4 ⊢
    generalize upd HA tp (.tup [.ref D1, .ref D2, .ref D3]) = HB at sB kB hD4 ⊢
    have pick : ∀ (i : Nat) (v : V), [V.ref D1, V.ref D2, V.ref D3][i]? = some v → ∃ (d : Addr) (xs : List Int), v = .ref d ∧ IL HB d xs ∧ [as, bs, cs][i]? = some xs := fun i v h => by
      match i with
      | 0 =>
        cases h
        exact ⟨D1, as, rfl, sB _ _ hA2, rfl⟩
      | 1 =>
        cases h
        exact ⟨D2, bs, rfl, sB _ _ hB2, rfl⟩
      | 2 =>
        cases h
        exact ⟨D3, cs, rfl, sB _ _ hC1, rfl⟩
      | i + 3 => cases h
    refine lc_tup (K := K) (a := tp) (xs := [.ref D1, .ref D2, .ref D3]) (fun i H' => Same HB H' ∧ ∃ ys : List (Option Int), H' D4 = some (.lst (ys.map oV)) ∧ ys.length = i ∧ ∀ j l, j < i → [as, bs, cs][j]? = some l → ∃ o, ys[j]? = some o ∧ MinOf (fun x => x ∈ l) o) ⟨same_new (Same.refl HB) hD4, [], upd_same, rfl, fun j l h => absurd h (Nat.not_lt_zero _)⟩ (fun i H' _ ⟨s, _⟩ => SqT.of (s _ _ kB)) ?_ ?_
    · rintro i v HC hv ⟨sC, ys, hY, yl, ym⟩
      obtain ⟨d, xs, rfl, hd, hx⟩ := pick i v hv
      have i3 : i < 3 := (List.getElem?_eq_some_iff.mp hv).1
      have put : ∀ o, MinOf (fun x => x ∈ xs) o → ∃ acc, HC D4 = some (.lst acc) ∧ acc.length < sizeLine ∧ Same HB (upd HC D4 (.lst (acc ++ [oV o]))) ∧ ∃ ys' : List (Option Int), upd HC D4 (.lst (acc ++ [oV o])) D4 = some (.lst (ys'.map oV)) ∧ ys'.length = i + 1 ∧ ∀ j l, j < i + 1 → [as, bs, cs][j]? = some l → ∃ o, ys'[j]? = some o ∧ MinOf (fun x => x ∈ l) o := fun o ho => by
        refine ⟨_, hY, by rw [List.length_map]; exact small1000 (by omega), same_put sC hD4, ys ++ [o], by rw [upd_same, List.map_append]; rfl, by rw [List.length_append, yl]; rfl, fun j l hj hl => ?_⟩
        by_cases d : j < i
        · obtain ⟨o', h1, h2⟩ := ym j l d hl
          exact ⟨o', by rw [List.getElem?_append_left (by omega)]; exact h1, h2⟩
        · have e : j = i := by omega
          subst e
          rw [hx] at hl
          cases hl
          exact ⟨o, by rw [List.getElem?_append_right (by omega), yl, Nat.sub_self]; rfl, ho⟩
      refine ⟨rfl, ?_⟩
      unfold tYes
      refine iteT ?_
      refine ⟨_, rfl, d, xs, rfl, SqL.of (sC _ _ hd), rfl, fun e => ?_, fun M hm hle => ?_⟩
      · exact put none (by rw [e]; exact fun x h => (nomatch h))
      · exact put (some M) ⟨hm, hle⟩
    rintro HC ⟨sC, ys, hY, yl, ym⟩
    have yl : ys.length = 3 := yl
    obtain ⟨o1, e1, m1⟩ := ym 0 as (by show 0 < 3; decide) rfl
    obtain ⟨o2, e2, m2⟩ := ym 1 bs (by show 1 < 3; decide) rfl
    obtain ⟨o3, e3, m3⟩ := ym 2 cs (by show 2 < 3; decide) rfl
    have ey : ys = [o1, o2, o3] := by
      match ys, yl with
      | [a1, a2, a3], _ =>
        cases e1
        cases e2
        cases e3
        rfl
    subst ey
    have s0A := ((s07.trans s79).trans sA).trans sB
    exact q D4 HC o1 o2 o3 (s0A.trans sC) (s0A.free hD4) hY ⟨m1.iff fun x => mA x, m2.iff fun x => mB x, m3.iff fun x => mC x⟩
abbrev NSos : List Str := ["lows", "tops", "number", "low", "top"]
theorem scSos : FnScope NSos ["lows", "tops"] (defScope sSos) := ⟨rfl, rfl, rfl, by decide +kernel, rfl, by decide +kernel, by decide +kernel⟩
theorem ok_sos {f : Addr} {fd : FuncData} (F : Fun K "some_settings" "some_settings" sSos f fd) (T : Bl mg) :
    FnOk P w K mg base CX0 1 f fd ["lows", "tops"] (spSos) := by
  refine F.ok scSos (fun vs H Q E h => ?_) (fun cdv A outer s H vs Q E hr h => ?_)
  · obtain ⟨p, p2, L, N, G, x, y, z, rfl, _⟩ := h
    rfl
  · obtain ⟨p, p2, L, N, G, x, y, z, rfl, hp, hq, l1, q⟩ := h
    refine ⟨_, (pss_cons (ps_set (i := 2) scSos.nd rfl (Or.inl rfl) pe_int)
        (pss_cons (ps_for PassesOwn.never rfl (pi_zip (by rfl) T.zip (pa_cons (pv 0) (pa_cons (pv 1) pa_nil))) (pg_tup rfl (pgs_cons (pg_name (i := 3) scSos.nd rfl (Or.inl rfl)) (pgs_cons (pg_name (i := 4) scSos.nd rfl (Or.inl rfl)) pgs_nil)))
        (pss_cons (ps_set (i := 2) scSos.nd rfl (Or.inl rfl) (pe_callB (call_max2 rfl) (by rfl) T.max (by decide +kernel) (pa_cons (pv 2) (pa_cons (pv 3) pa_nil))))
        (pss_one (ps_if (PW.pt (pw_and (pt_cmpR op_notN (pv 4) pe_non (nomark _)) (pw_and1 (pt_cmpR op_gt (pv 2) (pv 4) (nomark _))))) (pss_one (ps_ret pe_bl)) pss_nil))))
        (pss_one (ps_ret pe_bl)))), ?_⟩
    have hn : 3 = min ([L, N, G].map V.int).length [oV x, oV y, oV z].length := rfl
    try dsimp only [L2.start, List.set, List.map, List.append, List.replicate, List.length]
    refine ⟨_, rfl, _, rfl, p, p2, _, _, rfl, SqL.of hp, SqL.of hq, for_it (walk_zip hn) (fun i σ H' => ∃ (v3 v4 : Option V) (num : Int), σ = [some (.ref p), some (.ref p2), some (.int num), v3, v4] ∧ Same H H' ∧ ([1, L, mx L N, mx (mx L N) G])[i]? = some num ∧ (1 ≤ i → ∀ t, x = some t → L ≤ t) ∧ (2 ≤ i → ∀ t, y = some t → mx L N ≤ t) ∧ (3 ≤ i → ∀ t, z = some t → mx (mx L N) G ≤ t))
      ⟨_, _, 1, rfl, Same.refl _, rfl, fun h => absurd h (by decide), fun h => absurd h (by decide), fun h => absurd h (by decide)⟩ (fun i σ H' _ ⟨_, _, _, _, s, _⟩ => ⟨SqL.of (s _ _ hp), SqL.of (s _ _ hq)⟩) ?_ ?_⟩
    · rintro i v σ H1 H2 hi ⟨v3, v4, num, rfl, s1, en, c1, c2, c3⟩ ⟨tt, x1, x2, rfl, nt, rfl, e1, e2⟩
      obtain ⟨lo, hlo⟩ : ∃ lo, [L, N, G][i]? = some lo := ⟨_, List.getElem?_eq_getElem (by show i < 3; omega)⟩
      obtain ⟨to, hto⟩ : ∃ to, [x, y, z][i]? = some to := ⟨_, List.getElem?_eq_getElem (by show i < 3; omega)⟩
      have g1 : x1 = .int lo := by
        dsimp only at e1
        rw [List.getElem?_map, hlo] at e1
        exact (Option.some.inj e1).symm
      have g2 : x2 = oV to := by
        have e2 : ([x, y, z].map oV)[i]? = some x2 := e2
        rw [List.getElem?_map, hto] at e2
        exact (Option.some.inj e2).symm
      subst g1 g2
      have s2 := same_new (o := .tup [.int lo, oV to]) (Same.refl H1) nt
      have kt : upd H1 tt (.tup [.int lo, oV to]) tt = some (.tup [.int lo, oV to]) := upd_same
      generalize upd H1 tt (.tup [.int lo, oV to]) = H2 at s2 kt ⊢
      refine ⟨tt, _, rfl, SqT.of kt, rfl, _, _, rfl, _, _, rfl, rfl, ?_⟩
      try dsimp only [L2.start, List.set, List.map, List.append, List.replicate, List.length]
      refine ⟨_, rfl, _, rfl, _, _, rfl, ?_⟩
      have ex : ([1, L, mx L N, mx (mx L N) G])[i + 1]? = some (mx num lo) := by
        match i, hi with
        | 0, _ =>
          cases en
          cases hlo
          show some L = some (mx 1 L)
          congr 1
          unfold mx
          split <;> omega
        | 1, _ =>
          cases en
          cases hlo
          rfl
        | 2, _ =>
          cases en
          cases hlo
          rfl
      have fin : (∀ t, to = some t → mx num lo ≤ t) → ∃ (w3 w4 : Option V) (num' : Int), [some (.ref p), some (.ref p2), some (.int (if lo > num then lo else num)), some (.int lo), some (oV to)] = [some (V.ref p), some (V.ref p2), some (.int num'), w3, w4] ∧ Same H H2 ∧ ([1, L, mx L N, mx (mx L N) G])[i + 1]? = some num' ∧ (1 ≤ i + 1 → ∀ t, x = some t → L ≤ t) ∧ (2 ≤ i + 1 → ∀ t, y = some t → mx L N ≤ t) ∧ (3 ≤ i + 1 → ∀ t, z = some t → mx (mx L N) G ≤ t) := fun h => by
        refine ⟨_, _, _, rfl, s1.trans s2, ex, ?_, ?_, ?_⟩
        · intro _
          match i, hi with
          | 0, _ =>
            cases hto
            have e : mx num lo = L := (Option.some.inj ex).symm
            rw [← e]
            exact h
          | 1, _ => exact c1 (by decide)
          | 2, _ => exact c1 (by decide)
        · intro h2
          match i, hi with
          | 0, _ => exact absurd h2 (by decide)
          | 1, _ =>
            cases hto
            have e : mx num lo = mx L N := (Option.some.inj ex).symm
            rw [← e]
            exact h
          | 2, _ => exact c2 (by decide)
        · intro h3
          match i, hi with
          | 0, _ => exact absurd h3 (by decide)
          | 1, _ => exact absurd h3 (by decide)
          | 2, _ =>
            cases hto
            have e : mx num lo = mx (mx L N) G := (Option.some.inj ex).symm
            rw [← e]
            exact h
      have bad : ∀ t, to = some t → t < mx num lo → ¬ OkS L N G x y z := fun t et lt ok => by
        match i, hi with
        | 0, _ =>
          cases hto
          have e : mx num lo = L := (Option.some.inj ex).symm
          have := ok.1 t et
          omega
        | 1, _ =>
          cases hto
          have e : mx num lo = mx L N := (Option.some.inj ex).symm
          have := ok.2.1 t et
          omega
        | 2, _ =>
          cases hto
          have e : mx num lo = mx (mx L N) G := (Option.some.inj ex).symm
          have := ok.2.2 t et
          omega
      try dsimp only [L2.start, List.set, List.map, List.append, List.replicate, List.length]
      refine ⟨_, rfl, rfl, _, rfl, ?_⟩
      cases to with
      | none =>
        refine ifF rfl ?_
        refine ifF rfl ?_
        exact fin fun t h => (nomatch h)
      | some t =>
        refine ifT rfl ?_
        refine ⟨_, rfl, _, rfl, _, _, rfl, rfl, _, rfl, ?_⟩
        by_cases d : mx num lo > t
        · refine ifT (decide_eq_true d) ?_
          exact q H2 false (s1.trans s2) ⟨fun h => (nomatch h), fun h => absurd h (bad t rfl d)⟩
        · refine ifF (decide_eq_false d) ?_
          exact fin fun t' h => by
            cases h
            omega
    · rintro σ H1 ⟨v3, v4, num, rfl, s1, en, c1, c2, c3⟩
      exact q H1 true s1 ⟨fun _ => ⟨c1 (by decide), c2 (by decide), c3 (by decide)⟩, fun _ => rfl⟩
abbrev NSf : List Str := ["row", "cuts", "lows", "tops"]
theorem scSf : FnScope NSf ["row", "cuts"] (defScope sSf) := ⟨rfl, rfl, rfl, by decide +kernel, rfl, by decide +kernel, by decide +kernel⟩
theorem ok_sf {f C fA fL fU fO pL fGL pM fGM pS fGS : Addr} {fd fdA fdL fdU fdO dL dM dS : FuncData} (F : Fun K "settings_for" "settings_for" sSf f fd) (T : Bl mg) (R : Cl K mg C) (Gs : Gets P w K mg base C pL fGL pM fGM pS fGS dL dM dS)
    (gA : mg "are_ascending" = some (.ref fA)) (kA : PySem.W.keepIn K (.ref fA) = true) (bA : Binds K fdA ["thing", "low", "high"] []) (GA : FnOk P w K mg base CX0 3 fA fdA ["thing", "low", "high"] spAsc)
    (gL : mg "low_bounds" = some (.ref fL)) (kL : PySem.W.keepIn K (.ref fL) = true) (bL : Binds K fdL ["row", "cuts"] []) (GL : FnOk P w K mg base CX0 4 fL fdL ["row", "cuts"] (spLb C))
    (gU : mg "top_bounds" = some (.ref fU)) (kU : PySem.W.keepIn K (.ref fU) = true) (bU : Binds K fdU ["row", "cuts"] []) (GU : FnOk P w K mg base CX0 4 fU fdU ["row", "cuts"] (spTb C))
    (gO : mg "some_settings" = some (.ref fO)) (kO : PySem.W.keepIn K (.ref fO) = true) (bO : Binds K fdO ["lows", "tops"] []) (GO : FnOk P w K mg base CX0 1 fO fdO ["lows", "tops"] spSos) :
    FnOk P w K mg base CX0 5 f fd ["row", "cuts"] (spSf C) := by
  refine F.ok scSf (fun vs H Q E h => ?_) (fun cdv A outer s H vs Q E hr h => ?_)
  · obtain ⟨r, c, n, ms, ss, cuts, K', rfl, _⟩ := h
    rfl
  · obtain ⟨r, c, n, ms, ss, cuts, K', rfl, row, G, hC, CO, q⟩ := h
    refine ⟨_, (pss_cons (ps_if (PW.pt (pw_or (pt_not (pt_val (pe_call GA (hr.mono (by decide)) rfl gA kA bA .nil pass0 (pa_cons (pv 1) (pa_cons pe_int (pa_cons (pe_prop (pv 0) R.cl Gs.hL Gs.GL (hr.mono (by decide)) Gs.bL .nil pass0 rfl) pa_nil)))))) (pw_or1 (pt_cmpR (op_neD hr.units) (pe_slice sl_list (pv 1) (po_some (pe_un un_neg pe_int)) po_none) (pe_lst (pa_cons (pe_prop (pv 0) R.cl Gs.hL Gs.GL (hr.mono (by decide)) Gs.bL .nil pass0 rfl) pa_nil)) (nomark _))))) pss_never pss_nil)
        (pss_cons (ps_set (i := 2) scSf.nd rfl (Or.inl rfl) (pe_call GL (hr.mono (by decide)) rfl gL kL bL .nil pass0 (pa_cons (pv 0) (pa_cons (pv 1) pa_nil))))
        (pss_cons (ps_set (i := 3) scSf.nd rfl (Or.inl rfl) (pe_call GU (hr.mono (by decide)) rfl gU kU bU .nil pass0 (pa_cons (pv 0) (pa_cons (pv 1) pa_nil))))
        (pss_cons (ps_if (pt_not (pt_val (pe_call GO (hr.mono (by decide)) rfl gO kO bO .nil pass0 (pa_cons (pv 2) (pa_cons (pv 3) pa_nil))))) (pss_one (ps_ret pe_non)) pss_nil)
        (pss_one (ps_ret (pe_tup (pa_cons (pe_ix (r := rIxL K) ix_list (pv 2) pe_int (fun _ _ => rfl)) (pa_cons (pe_ix (r := rIxL K) ix_list (pv 3) pe_int (fun _ _ => rfl)) (pa_cons (pe_ix (r := rIxL K) ix_list (pv 2) pe_int (fun _ _ => rfl)) (pa_cons (pe_ix (r := rIxL K) ix_list (pv 3) pe_int (fun _ _ => rfl)) (pa_cons (pe_ix (r := rIxL K) ix_list (pv 2) pe_int (fun _ _ => rfl)) (pa_cons (pe_ix (r := rIxL K) ix_list (pv 3) pe_int (fun _ _ => rfl)) pa_nil))))))))))))), ?_⟩
    obtain ⟨dx, _, _, ho, _, _⟩ := id row
    have cl := CO.len
    have cf := CO.few
    refine ⟨_, rfl, _, rfl, r, dx, _, rfl, ho, r, n, ms, ss, rfl, row, c, cuts, 0, n, rfl, hC, by omega, CO.rng, CO.asc, fun H1 s1 => ⟨_, rfl, ?_⟩⟩
    refine ifF rfl ?_
    have row1 := row.same s1
    refine ⟨_, rfl, _, rfl, _, rfl, c, _, rfl, SqL.of (s1 _ _ hC), fun l1 hl1 => ?_⟩
    obtain ⟨jd, ej, jl⟩ := cut_last V.int cuts 1 (by decide)
    have ej : cutV (cuts.map V.int) (some (-1)) none = (cuts.drop jd).map V.int := ej
    have e1 : cutV (cuts.map V.int) (some (-1)) none = [n].map V.int := by
      have e : HT.sIx (cuts.map V.int).length 0 (some (-1)) = K' := by
        show (if (-1 : Int) < 0 then ((-1 : Int) + (((cuts.map V.int).length : Nat) : Int)).toNat else min (-1 : Int).toNat (cuts.map V.int).length) = _
        rw [if_pos (by decide), List.length_map]
        omega
      unfold cutV
      rw [e, HT.sIx_none, List.take_of_length_le (by rw [List.length_drop]; exact Nat.le_refl _), ← List.map_drop]
      congr 1
      have a := CO.at (Nat.le_refl K')
      rw [CO.last] at a
      obtain ⟨lk, ek⟩ := List.getElem?_eq_some_iff.mp a
      rw [List.drop_eq_getElem_cons lk, ek, List.drop_eq_nil_of_le (by omega)]
    rw [e1]
    have s2 := same_new (o := .lst ([n].map V.int)) (Same.refl H1) hl1
    have k2 : IL (upd H1 l1 (.lst ([n].map V.int))) l1 [n] := upd_same
    generalize upd H1 l1 (.lst ([n].map V.int)) = H2 at s2 k2 ⊢
    have s02 := s1.trans s2
    refine ⟨_, rfl, r, dx, _, rfl, s02 _ _ ho, r, n, ms, ss, rfl, row.same s02, (by show 1 ≤ sizeLine; decide), fun l2 hl2 => ?_⟩
    have s3 := same_new (o := .lst [.int n]) (Same.refl H2) hl2
    have k3 : IL (upd H2 l2 (.lst [.int n])) l2 [n] := upd_same
    generalize upd H2 l2 (.lst [.int n]) = H3 at s3 k3 ⊢
    refine ⟨_, _, dp_il (s3 _ _ k2), dp_il k3, shape_il _, shape_il _, _, rfl, ?_⟩
    rw [eqv_il]
    refine ifF rfl ?_
    have s03 := s02.trans s3
    try dsimp only [L2.start, List.set, List.map, List.append, List.replicate, List.length]
    refine ⟨_, rfl, _, rfl, r, c, n, ms, ss, cuts, K', rfl, row.same s03, G, s03 _ _ hC, CO, fun lo H4 L N G' s4 nlo ilo LO => ?_⟩
    have s04 := s03.trans s4
    try dsimp only [L2.start, List.set, List.map, List.append, List.replicate, List.length]
    refine ⟨_, rfl, _, rfl, r, c, n, ms, ss, cuts, K', rfl, row.same s04, G, s04 _ _ hC, CO, fun hi H5 x y z s5 nhi ihi HI => ?_⟩
    have s05 := s04.trans s5
    have ilo := s5 _ _ ilo
    try dsimp only [L2.start, List.set, List.map, List.append, List.replicate, List.length]
    refine ⟨_, rfl, _, rfl, lo, hi, L, N, G', x, y, z, rfl, ilo, ihi, LO.l.one, fun H6 b s6 hb => ⟨_, rfl, ?_⟩⟩
    have ilo := s6 _ _ ilo
    have ihi := s6 _ _ ihi
    have qq := q H6 L N G' x y z (s05.trans s6) LO HI
    cases b with
    | false =>
      refine ifT rfl ?_
      exact qq.1 fun h => by have := hb.mpr h; cases this
    | true =>
      refine ifF rfl ?_
      refine ⟨_, rfl, lo, _, _, _, rfl, rfl, SqL.of ilo, at_of2 (j := 0) rfl rfl, _, rfl, hi, _, _, _, rfl, rfl, SqL.of ihi, at_of2 (j := 0) rfl rfl, _, rfl, lo, _, _, _, rfl, rfl, SqL.of ilo, at_of2 (j := 1) rfl rfl, _, rfl, hi, _, _, _, rfl, rfl, SqL.of ihi, at_of2 (j := 1) rfl rfl, _, rfl, lo, _, _, _, rfl, rfl, SqL.of ilo, at_of2 (j := 2) rfl rfl, _, rfl, hi, _, _, _, rfl, rfl, SqL.of ihi, at_of2 (j := 2) rfl rfl, (by show 6 ≤ sizeLine; decide), fun p hp => ?_⟩
      exact qq.2 (hb.mp rfl) p hp
end
end Cw
namespace Cw
open PySem PySem.Spec PyProof.Rows L2 L2H HotX
/-! ## a def that is called in an except suite and asks the handled error -/
/-- its promise may speak of the handled error -/
structure FnE (P : Program) (w : World) (K : PySem.W.Frag) (mg : Str → Option Value) (base : Heap) (CX : CXT) (k : Nat) (f : Addr) (fd : FuncData) (ps : List Str) (sp : Addr × Obj → Sp) : Prop where
  le : ∀ p vs H Q E, sp p vs H Q E → vs.length = ps.length
  go : ∀ (p : Addr × Obj) (A : Around) (outer : List Env) (s : Shared) (H : Hp) (args : Args) (us : List Value) (vs : List V) (Q : VK) (E : XK), RoomH k A → Hot1 A p → PinOk outer H s p → Env0 P w K mg base A outer s H →
    BindsTo s fd args (ps.zip us) → Vals vs us → sp p vs H Q E → codeAny (model P w) A (.call (.ref f) args) (CR CX outer P w H s Q E) s
theorem fnE_of {P : Program} {w : World} {K : PySem.W.Frag} {mg : Str → Option Value} {base : Heap} {CX : CXT} {k : Nat} {f : Addr} {name qual : Str} {pars : Arguments} {bd : List Stmt} {sco : Scope} {v1 v2 v3 v4 cdv v5 v6 : Value} {a1 a2 : Option Addr}
    {osl : Array (Option Value)} {N ps : List Str} {sp : Addr × Obj → Sp} (lk : K.lookup f = some ⟨v6, a2, .func (PySem.W.fnOf name qual pars bd sco v1 v2 v3 v4 a1 cdv v5), osl⟩) (hcd : PySem.W.codeIn K cdv qual = true) (S : FnScope N ps sco)
    (le : ∀ p vs H Q E, sp p vs H Q E → vs.length = ps.length)
    (hb : ∀ (p : Addr × Obj) (A : Around) (outer : List Env) (s : Shared) (H : Hp) (vs : List V) (Q : VK) (E : XK), Hot1 A p → RoomH k (A.deeper (envOfC qual sco s.heap.objs.size f cdv)) → sp p vs H Q E →
      ∃ t, PSs (cxH CX P w K mg base N qual sco f cdv A outer s H E p) bd t ∧ t { nx := fun _ H' => Q .non H', rt := Q } (L2.start N vs) H) :
    FnE P w K mg base CX (k + 1) f (PySem.W.fnOf name qual pars bd sco v1 v2 v3 v4 a1 cdv v5) ps sp := by
  refine ⟨le, fun p A outer s H args us vs Q E rm ht pk e0 bi rv hs => ?_⟩
  have z1 := le _ _ _ _ _ hs
  have KX : K.In s.heap := e0.mod.kin.keeps fun b o e => (e0.bs b o e).1
  have lim : s.heap.NoLimit := e0.mod.nolimit.keeps fun b o e => (e0.bs b o e).1
  have kin : ∀ y ∈ ps.zip us, sco.names.lookup y.1 = some .local ∨ (sco.names.lookup y.1 = some .cell ∧ ((cellsFrom (s.heap.objs.size + 1) sco.names []).lookup y.1).isSome = true) := by
    rintro ⟨n, v⟩ hy
    rcases S.par n (List.of_mem_zip hy).1 with q | q
    · exact .inl q
    · exact .inr ⟨q, PySem.W.cellsFrom_some _ _ _ (.inl q)⟩
  refine codeAny_call_function rm.depth (KX _ _ lk) rfl S.co S.gen rfl (PySem.W.codeRec_of KX hcd) (bi _ _ _ _ ?_)
  refine wpAny_newFunctionEnv_cells S.kind kin fun en he s1 x => ?_
  subst he
  refine ⟨lim.keeps x.toInCall.keep, codeAny_func ?_⟩
  obtain ⟨t, tt, tq⟩ := hb p A outer s H vs Q E ht (rm.deeper _) hs
  have I : Inv (cxH CX P w K mg base N qual sco f cdv A outer s H E p) [] (L2.start N vs) H s1 := inv_startH S pk e0 z1 rv x
  refine wpAny_mono (tt.run [] s1 (L2.start N vs) H _ I tq) (fun fl s2 h2 => ?_) fun e s2 h2 => h2
  have fin : ∀ {σ : L2.St} {H2 : Hp} {v : V} {u : Value}, Inv (cxH CX P w K mg base N qual sco f cdv A outer s H E p) [] σ H2 s2 → RelV v u → Q v H2 → CE outer P w H s Q u s2 :=
    fun {σ H2 v u} J r q => ⟨v, H2, J.os, J.bare, J.base, J.hok, r, q⟩
  cases fl with
  | ret u =>
    obtain ⟨v, σ, H2, J, r, q⟩ := h2
    exact fin J r q
  | next =>
    obtain ⟨σ, H2, J, q⟩ := h2
    exact fin (v := V.non) (u := Value.none) J rfl q
  | brk => exact False.elim h2.choose_spec.choose_spec.2
  | cont => exact False.elim h2.choose_spec.choose_spec.2
section
variable {X : Cx} {CX : CXT} {k : Nat} {f : Addr} {fd : FuncData} {ps : List Str} {sp : Addr × Obj → Sp} {x : Str} {q pos : Pos} {e : Expr} {es : List Expr} {t : TA} {p : Addr × Obj}
/-- the call of such a def in the suite of the handled error p -/
theorem pe_callE (F : FnE X.prog X.w X.K X.mg X.base CX k f fd ps sp) (rm : RoomH k X.A) (ht : Hot1 X.A p) (hp : p ∈ X.pn) (hg : Gl X x) (hm : X.mg x = some (.ref f)) (hk : PySem.W.keepIn X.K (.ref f) = true) (hb : Binds X.K fd ps []) (hx : ∀ σ, PassesAt CX X σ fun _ _ _ => False)
    (ha : PA X (e :: es) t) (hdb : (x == ("__debug__" : Str)) = false := by decide) (he : starEach (e :: es) X.env = (false, eval e X.env) :: starEach es X.env := by rfl) (hpl : (backTo pos (starEach es X.env)).any (·.1) = false := by rfl) :
    PE X (.Call (.Name x q) (e :: es) [] pos) (fun σ H Q => t σ H fun vs H1 => sp p vs H1 Q fun _ _ _ => False) := by
  refine ⟨fun pins s σ H Q I h => wpAny_Call_Name_kw (ld_glob I hg hm ?_ hdb)⟩
  refine PySem.W.callWith_K (h₀ := X.base) I.ok.mod.kin hk (thn (ha.run pos pins s σ H _ I h) fun us s1 z => ?_) he hpl
  obtain ⟨vs, H1, I1, r, hq⟩ := z
  refine ⟨I1.kIn, ?_⟩
  have hl : us.length = ps.length := r.length.symm.trans (F.le _ _ _ _ _ hq)
  have b := hb s1 us I1.kIn (by rw [List.append_nil]; exact hl)
  rw [List.append_nil] at b
  have P1 := I1.pin p (List.mem_append_left _ hp)
  have pk : PinOk X.stack H1 s1 p := ⟨P1.1, P1.2.1, fun hm => (List.mem_cons.mp (I1.stkSub p.1 hm)).elim P1.2.2.1 P1.2.2.2.1, P1.2.2.2.2⟩
  refine wpAny_call (codeAny_mono (F.go p X.A X.stack s1 H1 ⟨us, []⟩ us vs Q _ rm ht pk I1.env0 b r hq) fun r s2 hr => ?_)
  cases r with
  | error e => exact hx σ pins H1 s1 e s2 I1 hr
  | ok fl =>
    cases fl with
    | ret u => exact I1.after hr
    | next => exact False.elim hr
    | brk => exact False.elim hr
    | cont => exact False.elim hr
theorem call_isP {X : Cx} {a : Addr} {oe : Obj} {cls : Value} {d : Option Addr} (hp : (a, oe) ∈ X.pn) (hz : Zc cls d oe) (hf : ∃ vs, oe.data = .fields vs) : CallR X (.builtin "isinstance")
    (fun xs H Q => ∃ (D : Addr) (c : V) (cv : Value) (b : Bool), cls = .ref D ∧ d = none ∧ ExcC X.K D ∧ xs = [.ref a, c] ∧ (∀ u, RelV c u → u = cv) ∧ PySem.W.kitOne X.K (.ref D) cv = some b ∧ Q (.bl b) H) := by
  intro pins s σ H xs us Q I r h
  obtain ⟨D, c, cv, b, rfl, rfl, C, rfl, hcv, e, q⟩ := h
  obtain ⟨u1, u2, rfl, r1, r2⟩ := vals2 r
  cases (show u1 = Value.ref a from r1)
  have ec := hcv _ r2
  subst ec
  obtain ⟨hget, _⟩ := I.pin (a, oe) (List.mem_append_left _ hp)
  obtain ⟨vs, hv⟩ := hf
  have J : PySem.W.InstAt s.heap a oe D none := by
    obtain ⟨oc, od, oda, osl⟩ := oe
    obtain ⟨h1, h2⟩ := hz
    dsimp only at h1 h2 hv
    subst h1 h2 hv
    exact ⟨hget, rfl, rfl, trivial⟩
  exact PySem.W.kia_one (PySem.W.handS_kitx_exc C.hg C.hk C.hs C.hd C.ha C.hn C.ht C.hm) I.kIn J e (fun z => nomatch z) fun tk => ⟨.bl b, H, I.kept (t' := tk) fun _ _ z => z, rfl, q⟩
theorem call_isPT {X : Cx} {a : Addr} {oe : Obj} {cls : Value} {d : Option Addr} (hp : (a, oe) ∈ X.pn) (hz : Zc cls d oe) (hf : ∃ vs, oe.data = .fields vs) : CallR X (.builtin "isinstance")
    (fun xs H Q => ∃ (D tp : Addr) (cs : List V) (ws : List Value) (b : Bool), cls = .ref D ∧ d = none ∧ ExcC X.K D ∧ xs = [.ref a, .ref tp] ∧ H tp = some (.tup cs) ∧ Paired ClsV cs ws ∧ PySem.W.kitAny X.K (.ref D) ws = some b ∧ Q (.bl b) H) := by
  intro pins s σ H xs us Q I r h
  obtain ⟨D, tp, cs, ws, b, rfl, rfl, C, rfl, hT, pc, e, q⟩ := h
  obtain ⟨u1, u2, rfl, r1, r2⟩ := vals2 r
  cases (show u1 = Value.ref a from r1)
  cases (show u2 = Value.ref tp from r2)
  obtain ⟨hget, _⟩ := I.pin (a, oe) (List.mem_append_left _ hp)
  obtain ⟨vs, hv⟩ := hf
  have J : PySem.W.InstAt s.heap a oe D none := by
    obtain ⟨oc, od, oda, osl⟩ := oe
    obtain ⟨h1, h2⟩ := hz
    dsimp only at h1 h2 hv
    subst h1 h2 hv
    exact ⟨hget, rfl, rfl, trivial⟩
  obtain ⟨_, its, rv, o, g1, g2, n, g3⟩ := (show ObjOk X.prog X.w H s.heap tp (.tup cs) from I.hok tp _ hT)
  have e3 := ClsV.all pc rv
  subst e3
  obtain ⟨oc, od, dt, sl⟩ := o
  simp only at g2 g3
  subst g2 g3
  exact PySem.W.kia_tup (PySem.W.handS_kitx_exc C.hg C.hk C.hs C.hd C.ha C.hn C.ht C.hm) I.kIn J g1 e (fun z => nomatch z) fun tk => ⟨.bl b, H, I.kept (t' := tk) fun _ _ z => z, rfl, q⟩
/-- X(e), the error to be raised with no context -/
theorem pmkN1 {X : Cx} {C : Addr} {bmB : List Value} {B newId initId : String} {x : Str} {e : Expr} {ta : TE} {p pos : Pos} (F : ExcBaseFacts B newId initId bmB) (q : PySem.W.excIn X.K C bmB newId = true) (gC : X.mg x = some (.ref C)) (kC : PySem.W.keepIn X.K (.ref C) = true) (r : Raises X (.ref C)) (hg : Gl X x)
    (he : PE X e ta) (hs : starEach [e] X.env = (false, eval e X.env) :: starEach [] X.env := by rfl) (hdb : (x == ("__debug__" : Str)) = false := by decide) :
    L2N.PMk X (.Call (.Name x p) [e] [] pos) (fun σ H Q => ta σ H fun _ H1 => Q (.ref C) none H1) := by
  intro pins s σ H Q I h
  refine wpAny_Call_Name_kw (ld_glob I hg gC (PySem.W.callWith_K (h₀ := X.base) I.ok.mod.kin kC ?_ hs (by rfl)) hdb)
  rw [hs]
  show wpAny _ _ (spliced ((false, eval e X.env) :: backTo pos (starEach [] X.env))) _ _ s
  refine Calls.spliced_cons (thn (he.run pins s σ H _ I h) fun u s1 z => Calls.spliced_nil ?_)
  obtain ⟨v, H1, I1, r1, q1⟩ := z
  refine ⟨I1.kIn, ?_⟩
  show wpAny _ _ (call (.ref C) [u]) _ _ _
  obtain ⟨bm, N, nm, qn, bs, hdct, sn, sub, ab, col, dd, k0, k1, k2, k3, k5, mN, hC, hN, hni, T⟩ := exc_obj I1.kIn q
  exact wpAny_call_exc_subT F T hC hN hni (fun h' e hm => L2N.mk_of I1 hm r q1 (I1.hok.gone hm.new)) (by show 1 ≤ sizeLine; rw [sizeLine_eq]; omega)
end
/-! ## promises with and without errors -/
section
variable {P : Program} {w : World} {K : PySem.W.Frag} {mg : Str → Option Value} {base : Heap}
/-- a def's promise, its errors with no context -/
theorem okN {x qual : Str} {st : Stmt} {f : Addr} {fd : FuncData} {N ps : List Str} {k : Nat} {sp : Sp} (F : Fun K x qual st f fd) (S : FnScope N ps (defScope st)) (len : ∀ vs H Q E, sp vs H Q E → vs.length = ps.length)
    (hbody : ∀ (cdv : Value) (A : Around) (outer : List Env) (s : Shared) (H : Hp) (vs : List V) (Q : VK) (E : XK), Room k (A.deeper (PyProof.Rows.envOfC qual (defScope st) s.heap.objs.size f cdv)) → sp vs H Q E →
      ∃ t, PSs (cxOf (L2N.CX P w) P w K mg base N qual (defScope st) f cdv A outer s H E) (defBody st) t ∧ t { nx := fun _ H' => Q .non H', rt := Q } (start N vs) H) : FnOk P w K mg base (L2N.CX P w) (k + 1) f fd ps sp := by
  obtain ⟨_, _, _, _, _, _, cdv, _, _, rfl, lk, hcd⟩ := F.ex
  exact fn_of lk hcd S len fun A outer s H vs Q E hr h => hbody cdv A outer s H vs Q E hr h
/-- a promise without errors from one with them -/
theorem FnOk.calm {k : Nat} {f : Addr} {fd : FuncData} {ps : List Str} {sp sp' : Sp} (F : FnOk P w K mg base (L2N.CX P w) k f fd ps sp) (h : ∀ vs H Q E, sp' vs H Q E → sp vs H Q E0) : FnOk P w K mg base CX0 k f fd ps sp' := by
  refine ⟨fun vs H Q E q => F.len vs H Q E0 (h _ _ _ _ q), fun A outer s H args us vs Q E hr he hb hv hs => ?_⟩
  refine codeAny_mono (F.run A outer s H args us vs Q E0 hr he hb hv (h _ _ _ _ hs)) fun r s' hq => ?_
  cases r with
  | error e =>
    obtain ⟨_, _, _, _, _, _, _, _, _, _, _, _, z⟩ := (show L2N.CX P w outer H s E0 e s' from hq)
    exact z.elim
  | ok fl =>
    cases fl <;> exact hq
theorem ps_nox {X : Cx} {st : Stmt} {t : TS} (h : PS X.nox st t) : PS X st t := ⟨fun pins s σ H D I hw =>
  wpAny_mono (h.run pins s σ H D (I.wish _) hw) (fun _ _ q => q.unwish) fun _ _ z => False.elim z⟩
theorem FnOk.lift {CX : CXT} {k : Nat} {f : Addr} {fd : FuncData} {ps : List Str} {sp : Sp} (F : FnOk P w K mg base CX0 k f fd ps sp) : FnOk P w K mg base CX k f fd ps sp :=
  ⟨F.len, fun A outer s H args us vs Q E hr he hb hv hs => codeAny_mono (F.run A outer s H args us vs Q E hr he hb hv hs) fun r s' hq => by
    cases r with
    | error e => exact False.elim hq
    | ok fl => cases fl <;> exact hq⟩
theorem FnOk.or {CX : CXT} {k : Nat} {f : Addr} {fd : FuncData} {ps : List Str} {sp sp' : Sp} (F : FnOk P w K mg base CX k f fd ps sp) (G : FnOk P w K mg base CX k f fd ps sp') : FnOk P w K mg base CX k f fd ps (fun vs H Q E => sp vs H Q E ∨ sp' vs H Q E) :=
  ⟨fun vs H Q E h => h.elim (F.len vs H Q E) (G.len vs H Q E), fun A outer s H args us vs Q E hr he hb hv hs => hs.elim (F.run A outer s H args us vs Q E hr he hb hv) (G.run A outer s H args us vs Q E hr he hb hv)⟩
end
end Cw
namespace Cw
open PySem L2
abbrev sPlA : Stmt := top 14
abbrev sAsA : Stmt := top 15
abbrev sCsA : Stmt := top 18
abbrev sCpA : Stmt := top 19
abbrev sClA : Stmt := top 21
abbrev sCzA : Stmt := top 20
/-- what is known of a class of errors -/
structure ErrC (K : PySem.W.Frag) (mg : Str → Option Value) (D : Addr) (x : Str) : Prop where
  g : mg x = some (.ref D)
  x : PySem.W.excIn K D [.type "ValueError", .type "Exception", .type "BaseException", .type "object"] "ValueError.__new__" = true
  k : PySem.W.keepIn K (.ref D) = true
  b : PySem.W.subIn K (.ref D) (.type "BaseException") = some true
  t : PySem.W.typeIn K (.ref D) = some (.type "type")
/-- whether a thing is an integer and no boolean -/
def IsI (K : PySem.W.Frag) (H : Hp) (x : V) (b : Bool) : Prop := ∃ (t : Value) (b1 b2 : Bool), TyX K H x t ∧ PySem.W.kitOne K t (.type "int") = some b1 ∧ PySem.W.kitOne K t (.type "bool") = some b2 ∧ b = (b1 && !b2)
def spIntA (K : PySem.W.Frag) : Sp := fun vs H Q _ => ∃ (x : V) (b : Bool), vs = [x] ∧ IsI K H x b ∧ Q (.bl b) H
/-- things of which something is known -/
inductive Thg (K : PySem.W.Frag) (H : Hp) : V → Prop where
  | non : Thg K H .non
  | bl (b : Bool) : Thg K H (.bl b)
  | int (i : Int) : Thg K H (.int i)
  | str (s : Str) : Thg K H (.str s)
  | lst {a : Addr} {xs : List V} (e : H a = some (.lst xs)) : Thg K H (.ref a)
  | tup {a : Addr} {xs : List V} (e : H a = some (.tup xs)) : Thg K H (.ref a)
  | dct {a : Addr} {kvs : List (Key × V)} (e : H a = some (.dK kvs)) : Thg K H (.ref a)
  | ins {a C dx : Addr} {fs : List (Str × V)} (e : H a = some (.ins C dx fs)) (i : PySem.W.kitOne K (.ref C) (.type "int") = some false) (b : PySem.W.kitOne K (.ref C) (.type "bool") = some false) (l : PySem.W.kitOne K (.ref C) (.type "list") = some false) (t : PySem.W.kitOne K (.ref C) (.type "tuple") = some false)
      (m : ∀ H' : Hp, H' a = some (.ins C dx fs) → TyX K H' (.ref a) (.ref C)) : Thg K H (.ref a)
def isIV : V → Bool
  | .int _ => true
  | _ => false
theorem Thg.same {K : PySem.W.Frag} {H H' : Hp} {x : V} (h : Thg K H x) (s : Same H H') : Thg K H' x := by
  cases h with
  | non => exact .non
  | bl b => exact .bl b
  | int i => exact .int i
  | str s => exact .str s
  | lst e => exact .lst (s _ _ e)
  | tup e => exact .tup (s _ _ e)
  | dct e => exact .dct (s _ _ e)
  | ins e i b l t m => exact .ins (s _ _ e) i b l t m
theorem Thg.isI {K : PySem.W.Frag} {H : Hp} {x : V} (h : Thg K H x) : IsI K H x (isIV x) := by
  cases h with
  | non => exact ⟨_, false, false, .base .non, kit_ty (by decide +kernel), kit_ty (by decide +kernel), rfl⟩
  | bl b => exact ⟨_, true, true, .base (.bl b), kit_ty (by decide +kernel), kit_ty (by decide +kernel), rfl⟩
  | int i => exact ⟨_, true, false, .base (.int i), kit_ty (by decide +kernel), kit_ty (by decide +kernel), rfl⟩
  | str s => exact ⟨_, false, false, .base (.str s), kit_ty (by decide +kernel), kit_ty (by decide +kernel), rfl⟩
  | lst e => exact ⟨_, false, false, .base (.lst e), kit_ty (by decide +kernel), kit_ty (by decide +kernel), rfl⟩
  | tup e => exact ⟨_, false, false, .base (.tup e), kit_ty (by decide +kernel), kit_ty (by decide +kernel), rfl⟩
  | dct e => exact ⟨_, false, false, .base (.dK e), kit_ty (by decide +kernel), kit_ty (by decide +kernel), rfl⟩
  | ins e i b l t m => exact ⟨_, false, false, m _ e, i, b, rfl⟩
theorem Thg.isL {K : PySem.W.Frag} {H : Hp} {x : V} (h : Thg K H x) (n : ∀ a xs, x = .ref a → H a ≠ some (.lst xs)) : ∃ t, TyX K H x t ∧ PySem.W.kitOne K t (.type "list") = some false := by
  cases h with
  | non => exact ⟨_, .base .non, kit_ty (by decide +kernel)⟩
  | bl b => exact ⟨_, .base (.bl b), kit_ty (by decide +kernel)⟩
  | int i => exact ⟨_, .base (.int i), kit_ty (by decide +kernel)⟩
  | str s => exact ⟨_, .base (.str s), kit_ty (by decide +kernel)⟩
  | lst e => exact absurd e (n _ _ rfl)
  | tup e => exact ⟨_, .base (.tup e), kit_ty (by decide +kernel)⟩
  | dct e => exact ⟨_, .base (.dK e), kit_ty (by decide +kernel)⟩
  | ins e i b l t m => exact ⟨_, m _ e, l⟩
theorem Thg.isT {K : PySem.W.Frag} {H : Hp} {x : V} (h : Thg K H x) (n : ∀ a xs, x = .ref a → H a ≠ some (.tup xs)) : ∃ t, TyX K H x t ∧ PySem.W.kitOne K t (.type "tuple") = some false := by
  cases h with
  | non => exact ⟨_, .base .non, kit_ty (by decide +kernel)⟩
  | bl b => exact ⟨_, .base (.bl b), kit_ty (by decide +kernel)⟩
  | int i => exact ⟨_, .base (.int i), kit_ty (by decide +kernel)⟩
  | str s => exact ⟨_, .base (.str s), kit_ty (by decide +kernel)⟩
  | lst e => exact ⟨_, .base (.lst e), kit_ty (by decide +kernel)⟩
  | tup e => exact absurd e (n _ _ rfl)
  | dct e => exact ⟨_, .base (.dK e), kit_ty (by decide +kernel)⟩
  | ins e i b l t m => exact ⟨_, m _ e, t⟩
/-- no list, a list of things -/
inductive NoL (K : PySem.W.Frag) (H : Hp) (x : V) : Prop where
  | mk (t : Thg K H x) (n : ∀ a xs, x = .ref a → H a ≠ some (.lst xs))
inductive NoT (K : PySem.W.Frag) (H : Hp) (x : V) : Prop where
  | mk (t : Thg K H x) (n : ∀ a xs, x = .ref a → H a ≠ some (.tup xs))
def plOk (lo hi : Int) : V → Bool
  | .int z => decide (lo ≤ z) && decide (z ≤ hi)
  | _ => false
/-- an ascending list of places -/
def AscOk (lo hi : Int) (xs : List V) : Prop := ∃ ns : List Int, xs = ns.map V.int ∧ (∀ x ∈ ns, lo ≤ x ∧ x ≤ hi) ∧ Asc ns
def spPlA (K : PySem.W.Frag) : Sp := fun vs H Q _ => ∃ (x : V) (lo hi : Int), vs = [x, .int lo, .int hi] ∧ ((NoL K H x ∧ Q (.bl false) H) ∨
  ∃ (a : Addr) (xs : List V), x = .ref a ∧ H a = some (.lst xs) ∧ xs.length ≤ 1000 ∧ (∀ y ∈ xs, Thg K H y) ∧ ∀ H', Same H H' → Q (.bl (xs.all (plOk lo hi))) H')
def spAscA (K : PySem.W.Frag) : Sp := fun vs H Q _ => ∃ (x : V) (lo hi : Int), vs = [x, .int lo, .int hi] ∧ ((NoL K H x ∧ Q (.bl false) H) ∨
  ∃ (a : Addr) (xs : List V), x = .ref a ∧ H a = some (.lst xs) ∧ xs.length ≤ 1000 ∧ (∀ y ∈ xs, Thg K H y) ∧ ∀ (H' : Hp) (b : Bool), Same H H' → (b = true ↔ AscOk lo hi xs) → Q (.bl b) H')
/-- no settings -/
inductive BadS (K : PySem.W.Frag) (H : Hp) : V → Prop where
  | no {x : V} (n : NoT K H x) : BadS K H x
  | len {a : Addr} {xs : List V} (e : H a = some (.tup xs)) (n : xs.length ≠ 3) : BadS K H (.ref a)
  | odd {a : Addr} {x y z : V} (e : H a = some (.tup [x, y, z])) (tx : Thg K H x) (ty : Thg K H y) (tz : Thg K H z) (n : (isIV x && isIV y && isIV z) = false) : BadS K H (.ref a)
  | ord {a : Addr} {l m g : Int} (e : H a = some (.tup [.int l, .int m, .int g])) (n : ¬ SetOk l m g) : BadS K H (.ref a)
def spSetA (K : PySem.W.Frag) (CS : Addr) : Sp := fun vs H Q E => (∃ (t : Addr) (l m g : Int), vs = [.ref t] ∧ H t = some (.tup [.int l, .int m, .int g]) ∧ SetOk l m g ∧ ∀ H', Same H H' → Q .non H') ∨ ∃ x, vs = [x] ∧ BadS K H x ∧ ∀ H', Same H H' → E (.ref CS) none H'
def spPlcA (CP : Addr) : Sp := fun vs H Q E => ∃ p lo hi : Int, vs = [.int p, .int lo, .int hi] ∧ 0 ≤ lo ∧ lo < 10 ^ 60 ∧ 0 ≤ hi ∧ hi < 10 ^ 60 ∧ (lo ≤ p ∧ p ≤ hi → Q .non H) ∧ (¬ (lo ≤ p ∧ p ≤ hi) → E (.ref CP) none H)
def spLenA (CT : Addr) : Sp := fun vs H Q E => ∃ (t : Addr) (n l m g : Int), vs = [.int n, .ref t] ∧ H t = some (.tup [.int l, .int m, .int g]) ∧ (n ≤ 200 * l → Q .non H) ∧ (200 * l < n → E (.ref CT) none H)
def spSizA (C CT : Addr) : Sp := fun vs H Q E => ∃ (r t : Addr) (n l m g : Int) (ms ss : List Int), vs = [.ref r, .ref t] ∧ RowAt C H r n ms ss ∧ H t = some (.tup [.int l, .int m, .int g]) ∧ (n ≤ 200 * l → Q .non H) ∧ (200 * l < n → E (.ref CT) none H)
theorem log_small {z : Int} (a : 0 ≤ z) (b : z < 10 ^ 60) : z.natAbs.log2 < 1920 := by
  have h : z.natAbs < 2 ^ 1920 := by omega
  by_cases e : z.natAbs = 0
  · rw [e]
    decide
  · exact (Nat.log2_lt e).mpr h
def adjB (ns : List Int) (i : Nat) : Bool := decide (ns.getD i 0 < ns.getD (i + 1) 0)
theorem asc_adj {ns : List Int} (h : ∀ i, i + 1 < ns.length → ns.getD i 0 < ns.getD (i + 1) 0) : Asc ns := by
  have key : ∀ d i, i + d + 1 < ns.length → ns.getD i 0 < ns.getD (i + d + 1) 0 := by
    intro d
    induction d with
    | zero => exact fun i hi => h i hi
    | succ d ih => exact fun i hi => Int.lt_trans (ih i (by omega)) (h (i + d + 1) hi)
  refine List.pairwise_iff_getElem.mpr fun i j hi hj hij => ?_
  have := key (j - i - 1) i (by omega)
  rw [show i + (j - i - 1) + 1 = j by omega] at this
  simpa [List.getD_eq_getElem?_getD, hi, hj] using this
theorem adj_asc {ns : List Int} (a : Asc ns) {i : Nat} (h : i + 1 < ns.length) : ns.getD i 0 < ns.getD (i + 1) 0 := by
  have := List.pairwise_iff_getElem.mp a i (i + 1) (by omega) h (Nat.lt_succ_self i)
  simpa [List.getD_eq_getElem?_getD, h, (by omega : i < ns.length)] using this
theorem map_ints {xs : List V} {lo hi : Int} (h : xs.all (plOk lo hi) = true) : ∃ ns : List Int, xs = ns.map V.int ∧ ∀ x ∈ ns, lo ≤ x ∧ x ≤ hi := by
  induction xs with
  | nil => exact ⟨[], rfl, fun _ h => nomatch h⟩
  | cons x xs ih =>
    rw [List.all_cons, Bool.and_eq_true] at h
    obtain ⟨ns, e, q⟩ := ih h.2
    cases x with
    | int z =>
      refine ⟨z :: ns, by rw [e]; rfl, fun y hy => ?_⟩
      rcases List.mem_cons.mp hy with rfl | hy
      · have := h.1
        unfold plOk at this
        rw [Bool.and_eq_true, decide_eq_true_eq, decide_eq_true_eq] at this
        exact this
      · exact q y hy
    | _ => exact Bool.noConfusion h.1
theorem all_map_ints {ns : List Int} {lo hi : Int} (h : ∀ x ∈ ns, lo ≤ x ∧ x ≤ hi) : (ns.map V.int).all (plOk lo hi) = true := by
  rw [List.all_eq_true]
  intro y hy
  obtain ⟨z, hz, rfl⟩ := List.mem_map.mp hy
  have := h z hz
  show (decide (lo ≤ z) && decide (z ≤ hi)) = true
  rw [decide_eq_true this.1, decide_eq_true this.2]
  rfl
theorem map_take_succ {α β : Type} (f : α → β) {xs : List α} {i : Nat} {x : α} (h : xs[i]? = some x) : (xs.take i).map f ++ [f x] = (xs.take (i + 1)).map f := by
  obtain ⟨hi, e⟩ := List.getElem?_eq_some_iff.mp h
  rw [List.take_succ_eq_append_getElem hi, List.map_append, e]
  rfl
section
variable {P : Program} {w : World} {K : PySem.W.Frag} {mg : Str → Option Value} {base : Heap}
theorem inta_ok {f : Addr} {fd : FuncData} (F : Fun K "is_integer" "is_integer" sIsInt f fd) (T : Bl mg) : FnOk P w K mg base CX0 1 f fd ["thing"] (spIntA K) := by
  refine F.ok scI (fun vs H Q E h => ?_) (fun cdv A outer s H vs Q E hr h => ?_)
  · obtain ⟨i, _, rfl, _⟩ := h
    rfl
  · obtain ⟨x, b, rfl, ⟨t, b1, b2, ty, h1, h2, rfl⟩, k⟩ := h
    refine ⟨_, pss_one (ps_ret (pe_and (pe_callB call_isi (by rfl) T.isi (by decide +kernel) (pa_cons (pv 0) (pa_cons (pe_bltn (by rfl) T.int (by decide +kernel) (v := V.ty "int") rfl) pa_nil)))
      (pe_one (pe_not (pe_callB call_isi (by rfl) T.isi (by decide +kernel) (pa_cons (pv 0) (pa_cons (pe_bltn (by rfl) T.bool (by decide +kernel) (v := V.ty "bool") rfl) pa_nil))))))), ?_⟩
    refine ⟨_, rfl, _, _, _, _, b1, rfl, ClsV.ty _, ty, h1, _, rfl, ?_⟩
    cases b1
    · refine ifF rfl ?_
      exact k
    · refine ifT rfl ?_
      refine ⟨_, rfl, _, _, _, _, b2, rfl, ClsV.ty _, ty, h2, _, rfl, ?_⟩
      exact k
abbrev NPlA : List Str := ["thing", "low", "high", "place"]
theorem scPlA : FnScope NPlA ["thing", "low", "high"] (defScope sPlA) := ⟨rfl, rfl, rfl, by decide +kernel, rfl, by decide +kernel, by decide +kernel⟩
theorem ok_pla {f fI : Addr} {fd fdI : FuncData} (F : Fun K "are_places" "are_places" sPlA f fd) (T : Bl mg)
    (gI : mg "is_integer" = some (.ref fI)) (kI : PySem.W.keepIn K (.ref fI) = true) (bI : Binds K fdI ["thing"] []) (GI : FnOk P w K mg base CX0 1 fI fdI ["thing"] (spIntA K)) :
    FnOk P w K mg base CX0 2 f fd ["thing", "low", "high"] (spPlA K) := by
  refine F.ok scPlA (fun vs H Q E h => ?_) (fun cdv A outer s H vs Q E hr h => ?_)
  · obtain ⟨x, lo, hi, rfl, _⟩ := h
    rfl
  · obtain ⟨x, lo, hi, rfl, z⟩ := h
    refine ⟨_, (pss_cons (ps_if (pt_not (pt_val (pe_callB call_isi (by rfl) T.isi (by decide +kernel) (pa_cons (pv 0) (pa_cons (pe_bltn (by rfl) T.list (by decide +kernel) (v := V.ty "list") rfl) pa_nil))))) (pss_one (ps_ret pe_bl)) pss_nil)
        (pss_one (ps_ret (pe_callB (cr_all rfl) (by rfl) T.all (by decide +kernel) (pa_cons (pe_lc (own := [("place", 3)]) (g := (gName 3)) (tt := tYes) rfl scPlA.nd (pi_list (pv 0)) (blkOk_by (own := [("place", 3)]) (N := NPlA) (sc := defScope sPlA) (by decide +kernel)) (fun _ _ _ _ _ => (pg_name (i := 3) scPlA.nd rfl (Or.inl rfl))) (fun _ _ _ _ _ => pts_nil) (fun _ _ _ _ _ => (pe_and (pe_call GI (hr.mono (by decide)) rfl gI kI bI .nil pass0 (pa_cons (pv 3) pa_nil)) (pe_one (pe_chain op_le op_le (pv 1) (pv 3) (pv 2)))))) pa_nil))))), ?_⟩
    rcases z with ⟨⟨tx, nx⟩, q⟩ | ⟨a, xs, rfl, hS, hl, tx, q⟩
    · obtain ⟨t, ty, kt⟩ := tx.isL nx
      refine ⟨_, rfl, _, _, _, _, false, rfl, ClsV.ty _, ty, kt, _, rfl, ?_⟩
      exact ifT rfl q
    refine ⟨_, rfl, _, _, _, _, true, rfl, ClsV.ty _, .base (.lst hS), kit_ty (by decide +kernel), _, rfl, ?_⟩
    refine ifF rfl ?_
    refine ⟨_, rfl, a, rfl, ⟨_, SqL.of hS⟩, fun D hD => ?_⟩
    refine lc_list (K := K) (a := a) (xs := xs) (fun i H' => Same H H' ∧ H' D = some (.lst ((xs.take i).map fun y => V.bl (plOk lo hi y)))) ⟨same_new (Same.refl H) hD, upd_same⟩ (fun i H' _ q => SqL.of (q.1 _ _ hS)) ?_ ?_
    · rintro i x H' hx ⟨s1, hD'⟩
      have tx := (tx x (List.mem_of_getElem? hx)).same s1
      have hil : i < xs.length := (List.getElem?_eq_some_iff.mp hx).1
      refine ⟨rfl, ?_⟩
      unfold tYes
      refine iteT ?_
      have fin : ∃ acc, H' D = some (.lst acc) ∧ acc.length < sizeLine ∧ Same H (upd H' D (.lst (acc ++ [V.bl (plOk lo hi x)]))) ∧ upd H' D (.lst (acc ++ [V.bl (plOk lo hi x)])) D = some (.lst ((xs.take (i + 1)).map fun y => V.bl (plOk lo hi y))) :=
        ⟨_, hD', by rw [List.length_map, List.length_take]; exact small1000 (by omega), same_put s1 hD, by rw [upd_same, map_take_succ (fun y => V.bl (plOk lo hi y)) hx]⟩
      refine ⟨_, rfl, _, _, rfl, tx.isI, _, rfl, ?_⟩
      cases x with
      | int z =>
        refine ifT rfl ?_
        refine ⟨_, rfl, _, rfl, _, _, rfl, rfl, _, rfl, ?_⟩
        by_cases c : lo ≤ z
        · refine ifT (decide_eq_true c) ?_
          refine ⟨_, rfl, _, _, rfl, rfl, ?_⟩
          have e : plOk lo hi (.int z) = decide (z ≤ hi) := by
            show (decide (lo ≤ z) && decide (z ≤ hi)) = _
            rw [decide_eq_true c]
            rfl
          rw [e] at fin
          exact fin
        · refine ifF (decide_eq_false c) ?_
          have e : plOk lo hi (.int z) = false := by
            show (decide (lo ≤ z) && decide (z ≤ hi)) = _
            rw [decide_eq_false c]
            rfl
          rw [e] at fin
          exact fin
      | _ => exact ifF rfl fin
    · rintro H' ⟨s1, hD'⟩
      refine ⟨D, xs.map (plOk lo hi), rfl, SqL.of (by rw [hD', List.take_length, List.map_map]; rfl), ?_⟩
      have e : (xs.map (plOk lo hi)).all id = xs.all (plOk lo hi) := by rw [List.all_map]; rfl
      rw [e]
      exact q _ s1
abbrev NAsA : List Str := ["thing", "low", "high", "before", "place"]
theorem scAsA : FnScope NAsA ["thing", "low", "high"] (defScope sAsA) := ⟨rfl, rfl, rfl, by decide +kernel, rfl, by decide +kernel, by decide +kernel⟩
theorem ok_asa {f fP : Addr} {fd fdP : FuncData} (F : Fun K "are_ascending" "are_ascending" sAsA f fd) (T : Bl mg)
    (gP : mg "are_places" = some (.ref fP)) (kP : PySem.W.keepIn K (.ref fP) = true) (bP : Binds K fdP ["thing", "low", "high"] []) (GP : FnOk P w K mg base CX0 2 fP fdP ["thing", "low", "high"] (spPlA K)) :
    FnOk P w K mg base CX0 3 f fd ["thing", "low", "high"] (spAscA K) := by
  refine F.ok scAsA (fun vs H Q E h => ?_) (fun cdv A outer s H vs Q E hr h => ?_)
  · obtain ⟨x, lo, hi, rfl, _⟩ := h
    rfl
  · obtain ⟨x, lo, hi, rfl, z⟩ := h
    refine ⟨_, (pss_cons (ps_if (pt_not (pt_val (pe_call GP (hr.mono (by decide)) rfl gP kP bP .nil pass0 (pa_cons (pv 0) (pa_cons (pv 1) (pa_cons (pv 2) pa_nil)))))) (pss_one (ps_ret pe_bl)) pss_nil)
        (pss_one (ps_ret (pe_callB (cr_all rfl) (by rfl) T.all (by decide +kernel) (pa_cons (pe_lc (own := [("before", 3), ("place", 4)]) (g := (gTup K 2 (gCons (gName 3) (gCons (gName 4) gNil)))) (tt := tYes) rfl scAsA.nd (pi_zip (by rfl) T.zip (pa_cons (pv 0) (pa_cons (pe_slice sl_list (pv 0) (po_some pe_int) po_none) pa_nil))) (blkOk_by (own := [("before", 3), ("place", 4)]) (N := NAsA) (sc := defScope sAsA) (by decide +kernel)) (fun _ _ _ _ _ => (pg_tup rfl (pgs_cons (pg_name (i := 3) scAsA.nd rfl (Or.inl rfl)) (pgs_cons (pg_name (i := 4) scAsA.nd rfl (Or.inl rfl)) pgs_nil)))) (fun _ _ _ _ _ => pts_nil) (fun _ _ _ _ _ => (pe_cmpR op_lt (pv 3) (pv 4) (nomark _)))) pa_nil))))), ?_⟩
    rcases z with ⟨nl, q⟩ | ⟨a, xs, rfl, hS, hl, tx, q⟩
    · refine ⟨_, rfl, _, rfl, _, rfl, x, lo, hi, rfl, .inl ⟨nl, ⟨_, rfl, ?_⟩⟩⟩
      exact ifT rfl q
    refine ⟨_, rfl, _, rfl, _, rfl, _, lo, hi, rfl, .inr ⟨a, xs, rfl, hS, hl, tx, fun H1 s1 => ⟨_, rfl, ?_⟩⟩⟩
    cases eA : xs.all (plOk lo hi) with
    | false =>
      refine ifT rfl (q _ _ s1 ⟨fun z => (nomatch z), fun ⟨ns, e, b, _⟩ => ?_⟩)
      rw [e, all_map_ints b] at eA
      exact eA.symm
    | true =>
    obtain ⟨ns, rfl, hb⟩ := map_ints eA
    rw [List.length_map] at hl
    refine ifF rfl ?_
    refine ⟨_, rfl, _, rfl, 1, rfl, a, _, rfl, SqL.of (s1 _ _ hS), fun c nc => ?_⟩
    have s2 := same_new (o := .lst (cutV (ns.map V.int) (some 1) none)) s1 nc
    rw [cut_one] at s2
    rw [cut_one]
    refine ⟨a, c, _, _, rfl, SqL.of (s2 _ _ hS), SqL.of upd_same, fun D hD => ?_⟩
    have nc' : H c = none := s1.free nc
    have ncD : c ≠ D := ne_of_none upd_same hD
    have hn : ns.length - 1 = min (ns.map V.int).length ((ns.map V.int).drop 1).length := by
      rw [List.length_drop, List.length_map]
      omega
    refine lc_it (walk_zip hn) (fun i H' => Same H H' ∧ H' c = some (.lst ((ns.map V.int).drop 1)) ∧ H' D = some (.lst ((List.range i).map fun j => V.bl (adjB ns j)))) ⟨same_new s2 hD, by rw [upd_ne ncD]; exact upd_same, upd_same⟩ (fun i H' _ q => ⟨SqL.of (q.1 _ _ hS), SqL.of q.2.1⟩) ?_ ?_
    · rintro i x H' H'' hi ⟨s3, hc, hD'⟩ ⟨t, x1, x2, rfl, nt, rfl, e1, e2⟩
      have h1 : i < ns.length := by omega
      have h2 : i + 1 < ns.length := by omega
      have g1 : x1 = .int ns[i] := by
        dsimp only at e1
        rw [List.getElem?_map, List.getElem?_eq_getElem h1] at e1
        exact (Option.some.inj e1).symm
      have g2 : x2 = .int ns[i + 1] := by
        dsimp only at e2
        rw [List.getElem?_drop, List.getElem?_map, Nat.add_comm 1 i, List.getElem?_eq_getElem h2] at e2
        exact (Option.some.inj e2).symm
      subst g1 g2
      have eb : decide (ns[i] < ns[i + 1]) = adjB ns i := by
        unfold adjB
        simp [List.getD_eq_getElem?_getD, h1, h2]
      have ntc : c ≠ t := ne_of_none hc nt
      have ntD : D ≠ t := ne_of_none hD' nt
      refine ⟨t, _, rfl, SqT.of upd_same, rfl, _, _, rfl, _, _, rfl, rfl, rfl, ?_⟩
      unfold tYes
      refine iteT ?_
      refine ⟨_, rfl, _, rfl, _, _, rfl, rfl, ?_⟩
      refine ⟨_, (by rw [upd_ne ntD]; exact hD'), by rw [List.length_map, List.length_range]; exact small1000 (by omega), same_put (same_new s3 nt) (s2.trans (Same.refl _) |>.free hD), ?_, ?_⟩
      · rw [upd_ne ncD, upd_ne ntc]
        exact hc
      · rw [upd_same, List.range_succ, List.map_append, List.map_singleton, ← eb]
    · rintro H' ⟨s3, hc, hD'⟩
      refine ⟨D, (List.range (ns.length - 1)).map (adjB ns), rfl, SqL.of (by rw [hD', List.map_map]; rfl), ?_⟩
      refine q _ _ s3 ⟨fun z => ⟨ns, rfl, hb, asc_adj fun i hi => ?_⟩, fun ⟨ns', e, _, asc⟩ => ?_⟩
      · rw [List.all_eq_true] at z
        have := z (adjB ns i) (List.mem_map.mpr ⟨i, List.mem_range.mpr (by omega), rfl⟩)
        exact of_decide_eq_true this
      · have e2 : ns' = ns := (List.map_inj_right (fun _ _ z => V.int.inj z)).mp e.symm
        subst e2
        rw [List.all_eq_true]
        intro y hy
        obtain ⟨i, hi, rfl⟩ := List.mem_map.mp hy
        exact decide_eq_true (adj_asc asc (by rw [List.mem_range] at hi; omega))
abbrev NCsA : List Str := ["settings", "least", "normal", "greatest", "number"]
theorem scCsA : FnScope NCsA ["settings"] (defScope sCsA) := ⟨rfl, rfl, rfl, by decide +kernel, rfl, by decide +kernel, by decide +kernel⟩
theorem ok_csa {f fI CS : Addr} {fd fdI : FuncData} (F : Fun K "check_settings" "check_settings" sCsA f fd) (T : Bl mg) (ES : ErrC K mg CS "InvalidSettings")
    (gI : mg "is_integer" = some (.ref fI)) (kI : PySem.W.keepIn K (.ref fI) = true) (bI : Binds K fdI ["thing"] []) (GI : FnOk P w K mg base CX0 1 fI fdI ["thing"] (spIntA K)) :
    FnOk P w K mg base (L2N.CX P w) 2 f fd ["settings"] (spSetA K CS) := by
  refine okN F scCsA (fun vs H Q E h => ?_) (fun cdv A outer s H vs Q E hr h => ?_)
  · rcases h with ⟨_, _, _, _, rfl, _⟩ | ⟨_, rfl, _⟩ <;> rfl
  · have hrr := hr
    refine ⟨_, (pss_cons (ps_if (PW.pt (pw_or (pt_not (pt_val (pe_callB call_isi (by rfl) T.isi (by decide +kernel) (pa_cons (pv 0) (pa_cons (pe_bltn (by rfl) T.tuple (by decide +kernel) (v := V.ty "tuple") rfl) pa_nil))))) (pw_or1 (pt_cmpR op_ne (pe_callB call_len_seq (by rfl) T.len PySem.boot_len (pa_cons (pv 0) pa_nil)) pe_int (nomark _))))) (pss_one (L2N.ps_raise rfl (L2N.takes_of rfl rfl rfl rfl) (L2N.pmk_own PySem.F.excBase_ValueError ES.x ES.g ES.k (raises_own ES.b ES.t) rfl))) pss_nil)
        (pss_cons (ps_if (pt_not (pt_val (pe_callB (cr_all rfl) (by rfl) T.all (by decide +kernel) (pa_cons (pe_lc (own := [("number", 4)]) (g := (gName 4)) (tt := tYes) rfl scCsA.nd (pi_tup (pv 0)) (blkOk_by (own := [("number", 4)]) (N := NCsA) (sc := defScope sCsA) (by decide +kernel)) (fun _ _ _ _ _ => (pg_name (i := 4) scCsA.nd rfl (Or.inl rfl))) (fun _ _ _ _ _ => pts_nil) (fun _ _ _ _ _ => (pe_call GI (hr.mono (by decide)) rfl gI kI bI .nil pass0 (pa_cons (pv 4) pa_nil)))) pa_nil)))) (pss_one (L2N.ps_raise rfl (L2N.takes_of rfl rfl rfl rfl) (L2N.pmk_own PySem.F.excBase_ValueError ES.x ES.g ES.k (raises_own ES.b ES.t) rfl))) pss_nil)
        (pss_cons (ps_asg (pv 0) (pg_tup rfl (pgs_cons (pg_name (i := 1) scCsA.nd rfl (Or.inl rfl)) (pgs_cons (pg_name (i := 2) scCsA.nd rfl (Or.inl rfl)) (pgs_cons (pg_name (i := 3) scCsA.nd rfl (Or.inl rfl)) pgs_nil)))))
        (pss_one (ps_if (pt_not (pt_chain3 op_le op_le op_le pe_int (pv 1) (pv 2) (pv 3))) (pss_one (L2N.ps_raise rfl (L2N.takes_of rfl rfl rfl rfl) (L2N.pmk_own PySem.F.excBase_ValueError ES.x ES.g ES.k (raises_own ES.b ES.t) rfl))) pss_nil))))), ?_⟩
    have cls : (∃ (a : Addr) (x y z : V), vs = [.ref a] ∧ H a = some (.tup [x, y, z]) ∧ Thg K H x ∧ Thg K H y ∧ Thg K H z ∧ ((isIV x && isIV y && isIV z) = false → ∀ H', Same H H' → E (.ref CS) none H') ∧
        (∀ l m g : Int, x = .int l → y = .int m → z = .int g → (SetOk l m g → ∀ H', Same H H' → Q .non H') ∧ (¬ SetOk l m g → ∀ H', Same H H' → E (.ref CS) none H'))) ∨
        (∃ x, vs = [x] ∧ NoT K H x ∧ E (.ref CS) none H) ∨ (∃ (a : Addr) (xs : List V), vs = [.ref a] ∧ H a = some (.tup xs) ∧ xs.length ≠ 3 ∧ E (.ref CS) none H) := by
      rcases h with ⟨a, l, m, g, rfl, ht, S, q⟩ | ⟨x, rfl, B, q⟩
      · exact .inl ⟨a, _, _, _, rfl, ht, .int l, .int m, .int g, (fun z => nomatch z), fun l' m' g' e1 e2 e3 => by
          cases e1
          cases e2
          cases e3
          exact ⟨fun _ => q, fun n => absurd S n⟩⟩
      · cases B with
        | no n => exact .inr (.inl ⟨_, rfl, n, q _ (Same.refl H)⟩)
        | len e n => exact .inr (.inr ⟨_, _, rfl, e, n, q _ (Same.refl H)⟩)
        | odd e tx ty tz n => exact .inl ⟨_, _, _, _, rfl, e, tx, ty, tz, (fun _ => q), fun l m g e1 e2 e3 => by
            subst e1 e2 e3
            exact Bool.noConfusion n⟩
        | @ord a l m g e n => exact .inl ⟨_, _, _, _, rfl, e, .int l, .int m, .int g, (fun z => nomatch z), fun l' m' g' e1 e2 e3 => by
            cases e1
            cases e2
            cases e3
            exact ⟨fun S => absurd S n, fun _ => q⟩⟩
    rcases cls with ⟨a, x, y, z, ev, ht, tx, ty, tz, q1, q2⟩ | ⟨x, ev, ⟨tx, nx⟩, q⟩ | ⟨a, xs, ev, e, n, q⟩
    · subst ev
      refine ⟨_, rfl, _, _, _, _, true, rfl, ClsV.ty _, .base (.tup ht), kit_ty (by decide +kernel), _, rfl, ?_⟩
      refine ifF rfl ?_
      refine ⟨_, rfl, a, _, rfl, .inr (SqT.of ht), rfl, _, rfl, ?_⟩
      refine ifF (by simp) ?_
      refine ⟨_, rfl, a, rfl, ⟨_, SqT.of ht⟩, fun D hD => ?_⟩
      have nt : a ≠ D := ne_of_none ht hD
      refine lc_tup (K := K) (a := a) (xs := [x, y, z]) (fun i H' => Same H H' ∧ H' D = some (.lst (([x, y, z].take i).map fun v => V.bl (isIV v))))
        ⟨same_new (Same.refl H) hD, upd_same⟩ (fun i H' _ q => SqT.of (q.1 _ _ ht)) ?_ ?_
      · rintro i v H' hx ⟨s2, h3⟩
        have hi : i < 3 := (List.getElem?_eq_some_iff.mp hx).1
        have tv : Thg K H' v := by
          have m := List.mem_of_getElem? hx
          simp only [List.mem_cons, List.not_mem_nil, or_false] at m
          rcases m with rfl | rfl | rfl
          · exact tx.same s2
          · exact ty.same s2
          · exact tz.same s2
        refine ⟨rfl, ?_⟩
        unfold tYes
        refine iteT ?_
        refine ⟨_, rfl, _, _, rfl, tv.isI, ?_⟩
        exact ⟨_, h3, by rw [List.length_map, List.length_take]; exact small1000 (by omega), same_put s2 hD, by rw [upd_same, map_take_succ (fun v => V.bl (isIV v)) hx]⟩
      · rintro H' ⟨s2, h3⟩
        refine ⟨D, [isIV x, isIV y, isIV z], rfl, SqL.of (by rw [h3]; rfl), _, rfl, ?_⟩
        have e : [isIV x, isIV y, isIV z].all id = (isIV x && isIV y && isIV z) := by
          simp [List.all_cons, Bool.and_assoc]
        rw [e]
        cases c : (isIV x && isIV y && isIV z) with
        | false => exact ifT rfl (q1 c _ s2)
        | true =>
          rw [Bool.and_eq_true, Bool.and_eq_true] at c
          obtain ⟨l, rfl⟩ : ∃ l, x = .int l := by cases x <;> first | exact ⟨_, rfl⟩ | exact Bool.noConfusion c.1.1
          obtain ⟨m, rfl⟩ : ∃ l, y = .int l := by cases y <;> first | exact ⟨_, rfl⟩ | exact Bool.noConfusion c.1.2
          obtain ⟨g, rfl⟩ : ∃ l, z = .int l := by cases z <;> first | exact ⟨_, rfl⟩ | exact Bool.noConfusion c.2
          obtain ⟨q2, q3⟩ := q2 l m g rfl rfl rfl
          refine ifF rfl ?_
          refine ⟨_, rfl, a, _, rfl, SqT.of (s2 _ _ ht), rfl, _, _, rfl, _, _, rfl, _, _, rfl, rfl, ?_⟩
          refine ⟨_, rfl, _, _, rfl, rfl, _, rfl, ?_⟩
          by_cases c1 : 1 ≤ l
          · refine ifT (decide_eq_true c1) ?_
            refine ⟨_, rfl, _, _, rfl, rfl, _, rfl, ?_⟩
            by_cases c2 : l ≤ m
            · refine ifT (decide_eq_true c2) ?_
              refine ⟨_, rfl, _, _, rfl, rfl, _, rfl, ?_⟩
              by_cases c3 : m ≤ g
              · exact ifF (by rw [decide_eq_true c3]; rfl) (q2 ⟨c1, c2, c3⟩ _ s2)
              · exact ifT (by rw [decide_eq_false c3]; rfl) (q3 (fun S => c3 S.mg) _ s2)
            · exact ifF (decide_eq_false c2) ⟨_, rfl, ifT rfl (q3 (fun S => c2 S.lm) _ s2)⟩
          · exact ifF (decide_eq_false c1) ⟨_, rfl, ifT rfl (q3 (fun S => c1 S.l1) _ s2)⟩
    · subst ev
      obtain ⟨t, ty, kt⟩ := tx.isT nx
      refine ⟨_, rfl, _, _, _, _, false, rfl, ClsV.ty _, ty, kt, _, rfl, ?_⟩
      exact ifT rfl q
    · subst ev
      refine ⟨_, rfl, _, _, _, _, true, rfl, ClsV.ty _, .base (.tup e), kit_ty (by decide +kernel), _, rfl, ?_⟩
      refine ifF rfl ?_
      refine ⟨_, rfl, a, _, rfl, .inr (SqT.of e), rfl, _, rfl, ?_⟩
      exact ifT (by simp; omega) q
abbrev NCpA : List Str := ["place", "low", "high"]
theorem scCpA : FnScope NCpA ["place", "low", "high"] (defScope sCpA) := ⟨rfl, rfl, rfl, by decide +kernel, rfl, by decide +kernel, by decide +kernel⟩
theorem ok_cpa {f fI CP : Addr} {fd fdI : FuncData} (F : Fun K "check_place" "check_place" sCpA f fd) (EP : ErrC K mg CP "InvalidPlace")
    (gI : mg "is_integer" = some (.ref fI)) (kI : PySem.W.keepIn K (.ref fI) = true) (bI : Binds K fdI ["thing"] []) (GI : FnOk P w K mg base CX0 1 fI fdI ["thing"] (spIntA K)) :
    FnOk P w K mg base (L2N.CX P w) 2 f fd ["place", "low", "high"] (spPlcA CP) := by
  refine okN F scCpA (fun vs H Q E h => ?_) (fun cdv A outer s H vs Q E hr h => ?_)
  · obtain ⟨p, lo, hi, rfl, _⟩ := h
    rfl
  · obtain ⟨p, lo, hi, rfl, a1, a2, b1, b2, q, qe⟩ := h
    refine ⟨_, (pss_one (ps_if (PW.pt (pw_or (pt_not (pt_val (pe_call GI (hr.mono (by decide)) rfl gI kI bI .nil pass0 (pa_cons (pv 0) pa_nil)))) (pw_or1 (pt_not (pt_chain op_le op_le (pv 1) (pv 0) (pv 2)))))) (pss_one (L2N.ps_raise rfl (L2N.takes_of rfl rfl rfl rfl) (pmkN1 PySem.F.excBase_ValueError EP.x EP.g EP.k (raises_own EP.b EP.t) rfl (pe_joined (.cons pe_str (.cons (pe_fmt (pv 1)) (.cons pe_str (.cons (pe_fmt (pv 2)) .nil)))))))) pss_nil)), ?_⟩
    refine ⟨_, rfl, _, true, rfl, ⟨_, true, false, .base (.int p), kit_ty (by decide +kernel), kit_ty (by decide +kernel), rfl⟩, _, rfl, ?_⟩
    refine ifF rfl ?_
    have fin : ¬ (lo ≤ p ∧ p ≤ hi) → tJs [tC (V.str (Str.ofString "not a place from ")), tFmt (tVar 1), tC (V.str (Str.ofString " to ")), tFmt (tVar 2)] Str.empty (L2.start NCpA [V.int p, V.int lo, V.int hi]) H fun out H1 => E (.ref CP) none H1 := fun c => by
      have l1 := PyProof.Rows.toString_length_le a1 (k := 60) (by decide) a2
      have l2 := PyProof.Rows.toString_length_le b1 (k := 60) (by decide) b2
      refine ⟨_, rfl, ?_, _, rfl, .inr ⟨_, rfl, log_small a1 a2, _, rfl, ?_, _, rfl, ?_, _, rfl, .inr ⟨_, rfl, log_small b1 b2, _, rfl, ?_, qe c⟩⟩⟩
      all_goals rw [sizeLine_eq]
      all_goals simp only [PySem.strLen_append]
      all_goals have w1 : Str.empty.length = 0 := rfl
      all_goals have w2 : (Str.ofString "not a place from ").length = 17 := by decide +kernel
      all_goals have w3 : (Str.ofString " to ").length = 4 := by decide +kernel
      all_goals omega
    refine ⟨_, rfl, _, rfl, _, _, rfl, rfl, _, rfl, ?_⟩
    by_cases c1 : lo ≤ p
    · refine ifT (decide_eq_true c1) ?_
      refine ⟨_, rfl, _, _, rfl, rfl, _, rfl, ?_⟩
      by_cases c2 : p ≤ hi
      · exact ifF (by rw [decide_eq_true c2]; rfl) (q ⟨c1, c2⟩)
      · exact ifT (by rw [decide_eq_false c2]; rfl) (fin fun z => c2 z.2)
    · exact ifF (decide_eq_false c1) ⟨_, rfl, ifT rfl (fin fun z => c1 z.1)⟩
abbrev NClA : List Str := ["length", "settings"]
theorem scClA : FnScope NClA ["length", "settings"] (defScope sClA) := ⟨rfl, rfl, rfl, by decide +kernel, rfl, by decide +kernel, by decide +kernel⟩
theorem ok_cla {f CT : Addr} {fd : FuncData} (F : Fun K "check_length" "check_length" sClA f fd) {tok : Tok} (ET : ErrC K mg CT "TooLarge") (gN : mg "MOST_PIECES" = some (.int 200 tok)) :
    FnOk P w K mg base (L2N.CX P w) 1 f fd ["length", "settings"] (spLenA CT) := by
  refine okN F scClA (fun vs H Q E h => ?_) (fun cdv A outer s H vs Q E hr h => ?_)
  · obtain ⟨t, n, l, m, g, rfl, _⟩ := h
    rfl
  · obtain ⟨t, n, l, m, g, rfl, ht, q, qe⟩ := h
    refine ⟨_, (pss_one (ps_if (pt_cmpR op_gt (pv 0) (pe_op op_mul (pe_glob rfl gN (v := V.int 200) ⟨_, rfl⟩) (pe_ix (r := rIxT K) ix_tup (pv 1) pe_int (fun _ _ => rfl))) (nomark _)) (pss_one (L2N.ps_raise rfl (L2N.takes_of rfl rfl rfl rfl) (L2N.pmk_own PySem.F.excBase_ValueError ET.x ET.g ET.k (raises_own ET.b ET.t) rfl))) pss_nil)), ?_⟩
    refine ⟨_, rfl, _, rfl, t, _, _, _, rfl, rfl, SqT.of ht, at_of2 (j := 0) rfl rfl, _, _, rfl, rfl, .inl ⟨by decide, by decide⟩, _, _, rfl, rfl, _, rfl, ?_⟩
    by_cases c : n ≤ 200 * l
    · exact ifF (decide_eq_false (by omega)) (q c)
    · exact ifT (decide_eq_true (by omega)) (qe (by omega))
abbrev NCzA : List Str := ["row", "settings"]
theorem scCzA : FnScope NCzA ["row", "settings"] (defScope sCzA) := ⟨rfl, rfl, rfl, by decide +kernel, rfl, by decide +kernel, by decide +kernel⟩
theorem ok_cza {f C fN CT pL fGL pM fGM pS fGS : Addr} {fd fdN dL dM dS : FuncData} (F : Fun K "check_size" "check_size" sCzA f fd) (R : Cl K mg C) (Gs : Gets P w K mg base C pL fGL pM fGM pS fGS dL dM dS)
    (gN : mg "check_length" = some (.ref fN)) (kN : PySem.W.keepIn K (.ref fN) = true) (bN : Binds K fdN ["length", "settings"] []) (GN : FnOk P w K mg base (L2N.CX P w) 1 fN fdN ["length", "settings"] (spLenA CT)) :
    FnOk P w K mg base (L2N.CX P w) 3 f fd ["row", "settings"] (spSizA C CT) := by
  refine okN F scCzA (fun vs H Q E h => ?_) (fun cdv A outer s H vs Q E hr h => ?_)
  · obtain ⟨r, t, n, l, m, g, ms, ss, rfl, _⟩ := h
    rfl
  · obtain ⟨r, t, n, l, m, g, ms, ss, rfl, row, ht, q, qe⟩ := h
    refine ⟨_, (pss_one (ps_expr (pe_call GN (hr.mono (by decide)) rfl gN kN bN .nil (L2N.passes_call (L2N.takes_of rfl rfl rfl rfl) fun _ _ _ _ h => h) (pa_cons (pe_prop (pv 0) R.cl Gs.hL Gs.GL (hr.mono (by decide)) Gs.bL .nil pass0 rfl) (pa_cons (pv 1) pa_nil))))), ?_⟩
    obtain ⟨dx, l1, l2, ho, h1, h2⟩ := id row
    refine ⟨_, rfl, r, dx, _, rfl, ho, r, n, ms, ss, rfl, row, _, rfl, t, n, l, m, g, rfl, ht, q, qe⟩
end
end Cw
namespace Cw
open PySem L2
abbrev sCWx : Stmt := top 28
abbrev sNxX : Stmt := top 23
abbrev sWlX : Stmt := top 24
abbrev sFfX : Stmt := top 25
abbrev sWiX : Stmt := top 26
abbrev sSfX : Stmt := top 27
theorem eqvAll_ints : ∀ {xs ys : List Int}, PyData.eqvAll (xs.map PyData.int) (ys.map PyData.int) = decide (xs = ys)
  | [], [] => rfl
  | [], _ :: _ => rfl
  | _ :: _, [] => rfl
  | x :: xs, y :: ys => by
    show ((x == y) && PyData.eqvAll (xs.map PyData.int) (ys.map PyData.int)) = _
    rw [eqvAll_ints, Bool.eq_iff_iff]
    simp
theorem eqv_ints {xs ys : List Int} : PyData.eqv (.list (xs.map PyData.int)) (.list (ys.map PyData.int)) = decide (xs = ys) := eqvAll_ints
def PlsOk (n : Int) (ps : List Int) : Prop := ∀ i, i < ps.length → (0 :: ps).getD i 0 ≤ ps.getD i 0 ∧ ps.getD i 0 ≤ n
/-- the ways in which settings, places and the length are wrong -/
def BadW (K : PySem.W.Frag) (CS CP CT : Addr) (H : Hp) (x : V) (n : Int) (ok : Prop) (E : XK) : Prop :=
  (BadS K H x ∧ ∀ H', Same H H' → E (.ref CS) none H') ∨ ∃ (t : Addr) (l m g : Int), x = .ref t ∧ H t = some (.tup [.int l, .int m, .int g]) ∧ SetOk l m g ∧ ((¬ ok ∧ ∀ H', Same H H' → E (.ref CP) none H') ∨ (ok ∧ 200 * l < n ∧ ∀ H', Same H H' → E (.ref CT) none H'))
theorem BadS.same {K : PySem.W.Frag} {H H' : Hp} {x : V} (h : BadS K H x) (s : Same H H') : BadS K H' x := by
  cases h with
  | no n =>
    obtain ⟨t, n⟩ := n
    refine .no ⟨t.same s, fun a xs e h2 => ?_⟩
    cases t with
    | lst e2 =>
      cases e
      rw [s _ _ e2] at h2
      cases h2
    | tup e2 =>
      cases e
      exact n _ _ rfl e2
    | dct e2 =>
      cases e
      rw [s _ _ e2] at h2
      cases h2
    | ins e2 =>
      cases e
      rw [s _ _ e2] at h2
      cases h2
    | _ => cases e
  | len e n => exact .len (s _ _ e) n
  | odd e tx ty tz n => exact .odd (s _ _ e) (tx.same s) (ty.same s) (tz.same s) n
  | ord e n => exact .ord (s _ _ e) n
theorem BadW.same {K : PySem.W.Frag} {CS CP CT : Addr} {H H' : Hp} {x : V} {n : Int} {ok : Prop} {E : XK} (h : BadW K CS CP CT H x n ok E) (s : Same H H') : BadW K CS CP CT H' x n ok E := by
  rcases h with ⟨b, q⟩ | ⟨t, l, m, g, e, ht, S, q⟩
  · exact .inl ⟨b.same s, fun H2 s2 => q _ (s.trans s2)⟩
  · refine .inr ⟨t, l, m, g, e, s _ _ ht, S, ?_⟩
    rcases q with ⟨n, q⟩ | ⟨o, b, q⟩
    · exact .inl ⟨n, fun H2 s2 => q _ (s.trans s2)⟩
    · exact .inr ⟨o, b, fun H2 s2 => q _ (s.trans s2)⟩
def spCWX (K : PySem.W.Frag) (C CS CP CT : Addr) : Sp := fun vs H Q E => ∃ (r c : Addr) (x : V) (n : Int) (ms ss ps : List Int), vs = [.ref r, x, .ref c] ∧ RowAt C H r n ms ss ∧ 1 ≤ n ∧ n < 10 ^ 60 ∧ IL H c ps ∧ ps.length ≤ 1000 ∧ BadW K CS CP CT H x n (PlsOk n ps) E
def spNextX (K : PySem.W.Frag) (C CS CP CT : Addr) : Sp := fun vs H Q E => ∃ (r : Addr) (x : V) (p n : Int) (ms ss : List Int), vs = [.ref r, x, .int p] ∧ RowAt C H r n ms ss ∧ 1 ≤ n ∧ n < 10 ^ 60 ∧ BadW K CS CP CT H x n (0 ≤ p ∧ p ≤ n - 1) E
def spWalkX (K : PySem.W.Frag) (C CS CP CT : Addr) : Sp := fun vs H Q E => ∃ (r : Addr) (x : V) (p n : Int) (ms ss : List Int), vs = [.ref r, x, .int p] ∧ RowAt C H r n ms ss ∧ 1 ≤ n ∧ n < 10 ^ 60 ∧ BadW K CS CP CT H x n (PlsOk n [p]) E
def spFFX (K : PySem.W.Frag) (C CS CP CT : Addr) : Sp := fun vs H Q E => ∃ (r : Addr) (x : V) (p z n : Int) (ms ss : List Int), vs = [.ref r, x, .int p, .int z] ∧ RowAt C H r n ms ss ∧ 1 ≤ n ∧ n < 10 ^ 60 ∧ BadW K CS CP CT H x n (PlsOk n [p, z]) E
def spWithinX (K : PySem.W.Frag) (C CS CP CT : Addr) : Sp := fun vs H Q E => ∃ (r : Addr) (x : V) (p lo hi n : Int) (ms ss : List Int), vs = [.ref r, x, .int p, .int lo, .int hi] ∧ RowAt C H r n ms ss ∧ 1 ≤ n ∧ n < 10 ^ 60 ∧ BadW K CS CP CT H x n (PlsOk n [p, lo, hi]) E
/-- no cuts of a row -/
inductive BadC (K : PySem.W.Frag) (H : Hp) (n : Int) : V → Prop where
  | no {x : V} (h : NoL K H x) : BadC K H n x
  | asc {a : Addr} {xs : List V} (e : H a = some (.lst xs)) (l : xs.length ≤ 1000) (t : ∀ y ∈ xs, Thg K H y) (h : ¬ AscOk 0 n xs) : BadC K H n (.ref a)
  | last {a : Addr} {ns : List Int} (e : IL H a ns) (l : ns.length ≤ 1000) (h : ns.getLast? ≠ some n) : BadC K H n (.ref a)
def spSfX (K : PySem.W.Frag) (C CC : Addr) : Sp := fun vs H Q E => ∃ (r : Addr) (x : V) (n : Int) (ms ss : List Int), vs = [.ref r, x] ∧ RowAt C H r n ms ss ∧ BadC K H n x ∧ ∀ H', Same H H' → E (.ref CC) none H'
section
variable {P : Program} {w : World} {K : PySem.W.Frag} {mg : Str → Option Value} {base : Heap}
abbrev NCWx : List Str := ["row", "settings", "places", "low", "place"]
theorem scCWx : FnScope NCWx ["row", "settings", "places"] (defScope sCWx) := ⟨rfl, rfl, rfl, by decide +kernel, rfl, by decide +kernel, by decide +kernel⟩
theorem ok_cwx {f C fA fB fZ CS CP CT pL fGL pM fGM pS fGS : Addr} {fd fdA fdB fdZ dL dM dS : FuncData} (F : Fun K "check_walk" "check_walk" sCWx f fd) (R : Cl K mg C) (Gs : Gets P w K mg base C pL fGL pM fGM pS fGS dL dM dS)
    (gA : mg "check_settings" = some (.ref fA)) (kA : PySem.W.keepIn K (.ref fA) = true) (bA : Binds K fdA ["settings"] []) (GA : FnOk P w K mg base (L2N.CX P w) 2 fA fdA ["settings"] (spSetA K CS))
    (gB : mg "check_place" = some (.ref fB)) (kB : PySem.W.keepIn K (.ref fB) = true) (bB : Binds K fdB ["place", "low", "high"] []) (GB : FnOk P w K mg base (L2N.CX P w) 2 fB fdB ["place", "low", "high"] (spPlcA CP))
    (gZ : mg "check_size" = some (.ref fZ)) (kZ : PySem.W.keepIn K (.ref fZ) = true) (bZ : Binds K fdZ ["row", "settings"] []) (GZ : FnOk P w K mg base (L2N.CX P w) 3 fZ fdZ ["row", "settings"] (spSizA C CT)) :
    FnOk P w K mg base (L2N.CX P w) 4 f fd ["row", "settings", "places"] (spCWX K C CS CP CT) := by
  refine okN F scCWx (fun vs H Q E h => ?_) (fun cdv A outer s H vs Q E hr h => ?_)
  · obtain ⟨r, c, x, n, ms, ss, ps, rfl, _⟩ := h
    rfl
  · obtain ⟨r, c, x, n, ms, ss, ps, rfl, row, n1, nb, hI, few, z⟩ := h
    refine ⟨_, (pss_cons (ps_expr (pe_call GA (hr.mono (by decide)) rfl gA kA bA .nil (L2N.passes_call (L2N.takes_of rfl rfl rfl rfl) fun _ _ _ _ h => h) (pa_cons (pv 1) pa_nil)))
        (pss_cons (ps_set (i := 3) scCWx.nd rfl (Or.inl rfl) pe_int)
        (pss_cons (ps_for (passes_of rfl) rfl (pi_list (pv 2)) (pg_name (i := 4) scCWx.nd rfl (Or.inl rfl))
        (pss_cons (ps_expr (pe_call GB (hr.mono (by decide)) rfl gB kB bB .nil (L2N.passes_call (L2N.takes_of rfl rfl rfl rfl) fun _ _ _ _ h => h) (pa_cons (pv 4) (pa_cons (pv 3) (pa_cons (pe_prop (pv 0) R.cl Gs.hL Gs.GL (hr.mono (by decide)) Gs.bL .nil pass0 rfl) pa_nil)))))
        (pss_one (ps_set (i := 3) scCWx.nd rfl (Or.inl rfl) (pv 4)))))
        (pss_one (ps_expr (pe_call GZ (hr.mono (by decide)) rfl gZ kZ bZ .nil (L2N.passes_call (L2N.takes_of rfl rfl rfl rfl) fun _ _ _ _ h => h) (pa_cons (pv 0) (pa_cons (pv 1) pa_nil)))))))), ?_⟩
    rcases z with ⟨bs, q⟩ | ⟨t, l, m, g, rfl, ht, S, z⟩
    · exact ⟨_, rfl, .inr ⟨_, rfl, bs, q⟩⟩
    refine ⟨_, rfl, .inl ⟨t, l, m, g, rfl, ht, S, fun H1 s1 => ?_⟩⟩
    have row1 := row.same s1
    obtain ⟨dx, l1, l2, ho, _, _⟩ := id row1
    have hI1 := s1 _ _ hI
    refine ⟨_, rfl, c, rfl, ⟨_, SqL.of hI1⟩, for_list (xs := ps.map V.int) (fun i σ H' => (∀ j, j < i → j < ps.length → (0 :: ps).getD j 0 ≤ ps.getD j 0 ∧ ps.getD j 0 ≤ n) ∧ ∃ v, σ = [some (.ref r), some (.ref t), some (.ref c), some (.int ((0 :: ps).getD i 0)), v] ∧ H' = H1)
      ⟨fun j h => absurd h (Nat.not_lt_zero _), none, rfl, rfl⟩ (fun i σ H' _ ⟨_, v, _, e⟩ => by rw [e]; exact SqL.of hI1) ?_ ?_⟩
    · rintro i x σ H' hx ⟨ok, v, rfl, rfl⟩
      obtain ⟨z', rfl, hz⟩ := il_at hx
      have il : i < ps.length := (List.getElem?_eq_some_iff.mp hz).1
      have e : ps.getD i 0 = z' := by rw [List.getD_eq_getElem?_getD, hz]; rfl
      have lo : 0 ≤ (0 :: ps).getD i 0 ∧ (0 :: ps).getD i 0 ≤ n := by
        cases i with
        | zero => exact ⟨Int.le_refl _, by show (0 : Int) ≤ n; omega⟩
        | succ i =>
          have key : ∀ k, k ≤ i → 0 ≤ ps.getD k 0 ∧ ps.getD k 0 ≤ n := by
            intro k
            induction k with
            | zero =>
              intro h
              have := ok 0 (by omega) (by omega)
              exact ⟨this.1, this.2⟩
            | succ k ih =>
              intro h
              have a := ih (by omega)
              have b := ok (k + 1) (by omega) (by omega)
              have b1 : ps.getD k 0 ≤ ps.getD (k + 1) 0 := b.1
              exact ⟨by omega, b.2⟩
          exact key i (Nat.le_refl _)
      refine ⟨_, rfl, _, rfl, _, rfl, r, dx, _, rfl, ho, r, n, ms, ss, rfl, row1, z', _, n, rfl, lo.1, by omega, by omega, nb, fun hok => ?_, fun hno => ?_⟩
      · refine ⟨_, rfl, fun j hj hl => ?_, some (.int z'), ?_, rfl⟩
        · by_cases c : j < i
          · exact ok j c hl
          · have ej : j = i := by omega
            rw [ej, e]
            exact hok
        · have e2 : (0 :: ps).getD (i + 1) 0 = z' := e
          rw [e2]
          rfl
      · rcases z with ⟨_, q⟩ | ⟨ok', _⟩
        · exact q _ s1
        · have := ok' i il
          rw [e] at this
          exact absurd this hno
    · rintro σ H' ⟨ok, v, rfl, rfl⟩
      rcases z with ⟨no, _⟩ | ⟨_, big, q⟩
      · exact absurd (fun i hi => ok i (by rw [List.length_map]; exact hi) hi) no
      · exact ⟨_, rfl, _, rfl, r, t, n, l, m, g, ms, ss, rfl, row1, s1 _ _ ht, fun h => absurd h (by omega), fun _ => q _ s1⟩
abbrev NNxX : List Str := ["row", "settings", "place"]
theorem scNxX : FnScope NNxX ["row", "settings", "place"] (defScope sNxX) := ⟨rfl, rfl, rfl, by decide +kernel, rfl, by decide +kernel, by decide +kernel⟩
theorem ok_nxx {f C fA fB fZ CS CP CT pL fGL pM fGM pS fGS : Addr} {fd fdA fdB fdZ dL dM dS : FuncData} (F : Fun K "next_cut" "next_cut" sNxX f fd) (R : Cl K mg C) (Gs : Gets P w K mg base C pL fGL pM fGM pS fGS dL dM dS)
    (gA : mg "check_settings" = some (.ref fA)) (kA : PySem.W.keepIn K (.ref fA) = true) (bA : Binds K fdA ["settings"] []) (GA : FnOk P w K mg base (L2N.CX P w) 2 fA fdA ["settings"] (spSetA K CS))
    (gB : mg "check_place" = some (.ref fB)) (kB : PySem.W.keepIn K (.ref fB) = true) (bB : Binds K fdB ["place", "low", "high"] []) (GB : FnOk P w K mg base (L2N.CX P w) 2 fB fdB ["place", "low", "high"] (spPlcA CP))
    (gZ : mg "check_size" = some (.ref fZ)) (kZ : PySem.W.keepIn K (.ref fZ) = true) (bZ : Binds K fdZ ["row", "settings"] []) (GZ : FnOk P w K mg base (L2N.CX P w) 3 fZ fdZ ["row", "settings"] (spSizA C CT)) :
    FnOk P w K mg base (L2N.CX P w) 4 f fd ["row", "settings", "place"] (spNextX K C CS CP CT) := by
  refine okN F scNxX (fun vs H Q E h => ?_) (fun cdv A outer s H vs Q E hr h => ?_)
  · obtain ⟨r, x, p, n, ms, ss, rfl, _⟩ := h
    rfl
  · obtain ⟨r, x, p, n, ms, ss, rfl, row, n1, nb, z⟩ := h
    refine ⟨_, (pss_cons (ps_expr (pe_call GA (hr.mono (by decide)) rfl gA kA bA .nil (L2N.passes_call (L2N.takes_of rfl rfl rfl rfl) fun _ _ _ _ h => h) (pa_cons (pv 1) pa_nil)))
        (pss_cons (ps_expr (pe_call GB (hr.mono (by decide)) rfl gB kB bB .nil (L2N.passes_call (L2N.takes_of rfl rfl rfl rfl) fun _ _ _ _ h => h) (pa_cons (pv 2) (pa_cons pe_int (pa_cons (pe_op op_sub (pe_prop (pv 0) R.cl Gs.hL Gs.GL (hr.mono (by decide)) Gs.bL .nil pass0 rfl) pe_int) pa_nil)))))
        (pss_cons (ps_expr (pe_call GZ (hr.mono (by decide)) rfl gZ kZ bZ .nil (L2N.passes_call (L2N.takes_of rfl rfl rfl rfl) fun _ _ _ _ h => h) (pa_cons (pv 0) (pa_cons (pv 1) pa_nil))))
        pss_never))), ?_⟩
    rcases z with ⟨bs, q⟩ | ⟨t, l, m, g, rfl, ht, S, z⟩
    · exact ⟨_, rfl, .inr ⟨_, rfl, bs, q⟩⟩
    refine ⟨_, rfl, .inl ⟨t, l, m, g, rfl, ht, S, fun H1 s1 => ?_⟩⟩
    have row1 := row.same s1
    obtain ⟨dx, l1, l2, ho, _, _⟩ := id row1
    refine ⟨_, rfl, _, rfl, r, dx, _, rfl, ho, r, n, ms, ss, rfl, row1, _, _, rfl, rfl, p, 0, n - 1, rfl, by decide, by decide, by omega, by omega, fun hok => ?_, fun hno => ?_⟩
    · rcases z with ⟨no, _⟩ | ⟨_, big, q⟩
      · exact absurd hok no
      · exact ⟨_, rfl, _, rfl, r, t, n, l, m, g, ms, ss, rfl, row1, s1 _ _ ht, fun h => absurd h (by omega), fun _ => q _ s1⟩
    · rcases z with ⟨_, q⟩ | ⟨ok, _⟩
      · exact q _ s1
      · exact absurd ok hno
abbrev NWlX : List Str := ["row", "settings", "start"]
theorem scWlX : FnScope NWlX ["row", "settings", "start"] (defScope sWlX) := ⟨rfl, rfl, rfl, by decide +kernel, rfl, by decide +kernel, by decide +kernel⟩
theorem ok_wlx {f C fW CS CP CT pL fGL pM fGM pS fGS : Addr} {fd fdW dL dM dS : FuncData} (F : Fun K "walk" "walk" sWlX f fd) (R : Cl K mg C) (Gs : Gets P w K mg base C pL fGL pM fGM pS fGS dL dM dS)
    (gW : mg "check_walk" = some (.ref fW)) (kW : PySem.W.keepIn K (.ref fW) = true) (bW : Binds K fdW ["row", "settings", "places"] []) (GW : FnOk P w K mg base (L2N.CX P w) 4 fW fdW ["row", "settings", "places"] (spCWX K C CS CP CT)) :
    FnOk P w K mg base (L2N.CX P w) 5 f fd ["row", "settings", "start"] (spWalkX K C CS CP CT) := by
  refine okN F scWlX (fun vs H Q E h => ?_) (fun cdv A outer s H vs Q E hr h => ?_)
  · obtain ⟨r, x, p, n, ms, ss, rfl, _⟩ := h
    rfl
  · obtain ⟨r, x, p, n, ms, ss, rfl, row, n1, nb, z⟩ := h
    refine ⟨_, (pss_cons (ps_expr (pe_call GW (hr.mono (by decide)) rfl gW kW bW .nil (L2N.passes_call (L2N.takes_of rfl rfl rfl rfl) fun _ _ _ _ h => h) (pa_cons (pv 0) (pa_cons (pv 1) (pa_cons (pe_lst (pa_cons (pv 2) pa_nil)) pa_nil)))))
        pss_never), ?_⟩
    refine ⟨_, rfl, _, rfl, _, rfl, (by show 1 ≤ sizeLine; decide), fun c hc => ?_⟩
    have s1 := same_new (o := .lst [.int p]) (Same.refl H) hc
    exact ⟨r, c, x, n, ms, ss, _, rfl, row.same s1, n1, nb, upd_same, (by show 1 ≤ 1000; decide), z.same s1⟩
abbrev NFfX : List Str := ["row", "settings", "start", "place", "cuts"]
theorem scFfX : FnScope NFfX ["row", "settings", "start", "place"] (defScope sFfX) := ⟨rfl, rfl, rfl, by decide +kernel, rfl, by decide +kernel, by decide +kernel⟩
theorem ok_ffx {f C fW CS CP CT pL fGL pM fGM pS fGS : Addr} {fd fdW dL dM dS : FuncData} (F : Fun K "first_from" "first_from" sFfX f fd) (R : Cl K mg C) (Gs : Gets P w K mg base C pL fGL pM fGM pS fGS dL dM dS)
    (gW : mg "check_walk" = some (.ref fW)) (kW : PySem.W.keepIn K (.ref fW) = true) (bW : Binds K fdW ["row", "settings", "places"] []) (GW : FnOk P w K mg base (L2N.CX P w) 4 fW fdW ["row", "settings", "places"] (spCWX K C CS CP CT)) :
    FnOk P w K mg base (L2N.CX P w) 5 f fd ["row", "settings", "start", "place"] (spFFX K C CS CP CT) := by
  refine okN F scFfX (fun vs H Q E h => ?_) (fun cdv A outer s H vs Q E hr h => ?_)
  · obtain ⟨r, x, p, z0, n, ms, ss, rfl, _⟩ := h
    rfl
  · obtain ⟨r, x, p, z0, n, ms, ss, rfl, row, n1, nb, z⟩ := h
    refine ⟨_, (pss_cons (ps_expr (pe_call GW (hr.mono (by decide)) rfl gW kW bW .nil (L2N.passes_call (L2N.takes_of rfl rfl rfl rfl) fun _ _ _ _ h => h) (pa_cons (pv 0) (pa_cons (pv 1) (pa_cons (pe_lst (pa_cons (pv 2) (pa_cons (pv 3) pa_nil))) pa_nil)))))
        pss_never), ?_⟩
    refine ⟨_, rfl, _, rfl, _, rfl, _, rfl, (by show 2 ≤ sizeLine; decide), fun c hc => ?_⟩
    have s1 := same_new (o := .lst [.int p, .int z0]) (Same.refl H) hc
    exact ⟨r, c, x, n, ms, ss, _, rfl, row.same s1, n1, nb, upd_same, (by show 2 ≤ 1000; decide), z.same s1⟩
abbrev NWiX : List Str := ["row", "settings", "start", "low", "high", "cuts"]
theorem scWiX : FnScope NWiX ["row", "settings", "start", "low", "high"] (defScope sWiX) := ⟨rfl, rfl, rfl, by decide +kernel, rfl, by decide +kernel, by decide +kernel⟩
theorem ok_wix {f C fW CS CP CT pL fGL pM fGM pS fGS : Addr} {fd fdW dL dM dS : FuncData} (F : Fun K "cuts_within" "cuts_within" sWiX f fd) (R : Cl K mg C) (Gs : Gets P w K mg base C pL fGL pM fGM pS fGS dL dM dS)
    (gW : mg "check_walk" = some (.ref fW)) (kW : PySem.W.keepIn K (.ref fW) = true) (bW : Binds K fdW ["row", "settings", "places"] []) (GW : FnOk P w K mg base (L2N.CX P w) 4 fW fdW ["row", "settings", "places"] (spCWX K C CS CP CT)) :
    FnOk P w K mg base (L2N.CX P w) 5 f fd ["row", "settings", "start", "low", "high"] (spWithinX K C CS CP CT) := by
  refine okN F scWiX (fun vs H Q E h => ?_) (fun cdv A outer s H vs Q E hr h => ?_)
  · obtain ⟨r, x, p, lo, hi, n, ms, ss, rfl, _⟩ := h
    rfl
  · obtain ⟨r, x, p, lo, hi, n, ms, ss, rfl, row, n1, nb, z⟩ := h
    refine ⟨_, (pss_cons (ps_expr (pe_call GW (hr.mono (by decide)) rfl gW kW bW .nil (L2N.passes_call (L2N.takes_of rfl rfl rfl rfl) fun _ _ _ _ h => h) (pa_cons (pv 0) (pa_cons (pv 1) (pa_cons (pe_lst (pa_cons (pv 2) (pa_cons (pv 3) (pa_cons (pv 4) pa_nil)))) pa_nil)))))
        pss_never), ?_⟩
    refine ⟨_, rfl, _, rfl, _, rfl, _, rfl, _, rfl, (by show 3 ≤ sizeLine; decide), fun c hc => ?_⟩
    have s1 := same_new (o := .lst [.int p, .int lo, .int hi]) (Same.refl H) hc
    exact ⟨r, c, x, n, ms, ss, _, rfl, row.same s1, n1, nb, upd_same, (by show 3 ≤ 1000; decide), z.same s1⟩
abbrev NSfX : List Str := ["row", "cuts", "lows", "tops"]
theorem scSfX : FnScope NSfX ["row", "cuts"] (defScope sSfX) := ⟨rfl, rfl, rfl, by decide +kernel, rfl, by decide +kernel, by decide +kernel⟩
theorem ok_sfx {f C fA CC pL fGL pM fGM pS fGS : Addr} {fd fdA dL dM dS : FuncData} (F : Fun K "settings_for" "settings_for" sSfX f fd) (R : Cl K mg C) (EC : ErrC K mg CC "InvalidCuts") (Gs : Gets P w K mg base C pL fGL pM fGM pS fGS dL dM dS)
    (gA : mg "are_ascending" = some (.ref fA)) (kA : PySem.W.keepIn K (.ref fA) = true) (bA : Binds K fdA ["thing", "low", "high"] []) (GA : FnOk P w K mg base CX0 3 fA fdA ["thing", "low", "high"] (spAscA K)) :
    FnOk P w K mg base (L2N.CX P w) 5 f fd ["row", "cuts"] (spSfX K C CC) := by
  refine okN F scSfX (fun vs H Q E h => ?_) (fun cdv A outer s H vs Q E hr h => ?_)
  · obtain ⟨r, x, n, ms, ss, rfl, _⟩ := h
    rfl
  · obtain ⟨r, x, n, ms, ss, rfl, row, z, q⟩ := h
    refine ⟨_, (pss_cons (ps_if (PW.pt (pw_or (pt_not (pt_val (pe_call GA (hr.mono (by decide)) rfl gA kA bA .nil pass0 (pa_cons (pv 1) (pa_cons pe_int (pa_cons (pe_prop (pv 0) R.cl Gs.hL Gs.GL (hr.mono (by decide)) Gs.bL .nil pass0 rfl) pa_nil)))))) (pw_or1 (pt_cmpR (op_neD hr.units) (pe_slice sl_list (pv 1) (po_some (pe_un un_neg pe_int)) po_none) (pe_lst (pa_cons (pe_prop (pv 0) R.cl Gs.hL Gs.GL (hr.mono (by decide)) Gs.bL .nil pass0 rfl) pa_nil)) (nomark _))))) (pss_one (L2N.ps_raise rfl (L2N.takes_of rfl rfl rfl rfl) (L2N.pmk_own PySem.F.excBase_ValueError EC.x EC.g EC.k (raises_own EC.b EC.t) rfl))) pss_nil)
        pss_never), ?_⟩
    obtain ⟨dx, _, _, ho, _, _⟩ := id row
    refine ⟨_, rfl, _, rfl, r, dx, _, rfl, ho, r, n, ms, ss, rfl, row, x, 0, n, rfl, ?_⟩
    cases z with
    | no h => exact .inl ⟨h, _, rfl, ifT rfl (q _ (Same.refl H))⟩
    | @asc a xs e l t h =>
      refine .inr ⟨a, xs, rfl, e, l, t, fun H1 b s1 hb => ⟨_, rfl, ?_⟩⟩
      cases b with
      | false => exact ifT rfl (q _ s1)
      | true => exact absurd (hb.mp rfl) h
    | @last a ns e l h =>
      refine .inr ⟨a, _, rfl, e, by rw [List.length_map]; exact l, fun y hy => ?_, fun H1 b s1 hb => ⟨_, rfl, ?_⟩⟩
      · obtain ⟨z, _, rfl⟩ := List.mem_map.mp hy
        exact .int z
      cases b with
      | false => exact ifT rfl (q _ s1)
      | true =>
      refine ifF rfl ?_
      have row1 := row.same s1
      refine ⟨_, rfl, _, rfl, _, rfl, a, _, rfl, SqL.of (s1 _ _ e), fun l1 hl1 => ?_⟩
      obtain ⟨jd, ej, jl⟩ := cut_last V.int ns 1 (by decide)
      have ej : cutV (ns.map V.int) (some (-1)) none = (ns.drop jd).map V.int := ej
      rw [ej]
      have s2 := same_new (o := .lst ((ns.drop jd).map V.int)) (Same.refl H1) hl1
      have k2 : IL (upd H1 l1 (.lst ((ns.drop jd).map V.int))) l1 (ns.drop jd) := upd_same
      generalize upd H1 l1 (.lst ((ns.drop jd).map V.int)) = H2 at s2 k2 ⊢
      have row2 := row1.same s2
      obtain ⟨dx2, _, _, ho2, _, _⟩ := id row2
      refine ⟨_, rfl, r, dx2, _, rfl, ho2, r, n, ms, ss, rfl, row2, (by show 1 ≤ sizeLine; decide), fun l2 hl2 => ?_⟩
      have s3 := same_new (o := .lst [.int n]) (Same.refl H2) hl2
      have k3 : IL (upd H2 l2 (.lst [.int n])) l2 [n] := upd_same
      generalize upd H2 l2 (.lst [.int n]) = H3 at s3 k3 ⊢
      refine ⟨_, _, dp_il (s3 _ _ k2), dp_il k3, shape_il _, shape_il _, _, rfl, ?_⟩
      rw [eqv_ints]
      refine ifT ?_ (q _ (s1.trans (s2.trans s3)))
      rw [decide_eq_false fun c => h ?_]
      · rfl
      · have e := List.take_append_drop jd ns
        rw [c] at e
        rw [← e]
        simp
end
end Cw
namespace Cw
open PySem PySem.Spec PyProof.Rows L2 HotX
/-! ## where an error is handled: an iterator's end, a tuple taken apart -/
section
variable {prog : Program} {w : World} {A : Around} {E : Value → Shared → Prop} {s : Shared}
theorem HotAt.push {x1 : Addr} {h : Heap} (o : Obj) (t : HotAt A x1 h) : HotAt A x1 (h.push o) := by
  obtain ⟨a, o1, vs, e, d, c⟩ := t
  exact ⟨a, o1, vs, Heap.get?_push_of_some _ e, d, c⟩
theorem HotAt.keeps {x1 : Addr} {h h' : Heap} (t : HotAt A x1 h) (k : ∀ o, h.get? x1 = some o → h'.get? x1 = some o) : HotAt A x1 h' := by
  obtain ⟨a, o1, vs, e, d, c⟩ := t
  exact ⟨a, o1, vs, k _ e, d, c⟩
/-- an object of two fields isn't the handled error -/
theorem HotAt.ne2 {x1 it : Addr} {h : Heap} {o : Obj} {u v : Value} (t : HotAt A x1 h) (e : h.get? it = some o) (d : o.data = .fields #[u, v]) : x1 ≠ it := by
  intro z
  subst z
  obtain ⟨_, o1, vs, e1, d1, c1⟩ := t
  rw [e] at e1
  cases e1
  rw [d] at d1
  cases d1
  simp at c1
theorem next_list_end_hot {it l x1 : Addr} {i : Nat} {items : Array Value} {Q : Option Value → Shared → Prop} (hot : HotAt A x1 s.heap)
    (hit : s.heap.IsListIter it l i) (hl : s.heap.IsList l items) (hx : items[i]? = none)
    (hQ : ∀ h', Heap.ExtBut it s.heap h' → Q none { s with heap := h' }) : wpAny (model prog w) A (pyNext (.ref it)) Q E s := by
  obtain ⟨o, ho, hc, hd⟩ := id hit
  obtain ⟨ol, hol, _, nl, hdl⟩ := hl
  have ne := HotAt.ne2 hot ho hd
  unfold pyNext
  refine wpAny_bind (wpAny_attempt (wpAny_callSpecial?_slot (name := Str.ofString "__next__") hit.typeIs slot_listiter_next
    (wpAny_call_entry slot_listiter_next hit.typeIs entry_listiter_next ?_ (args_listiter_next _))))
  show wpAny _ _ (field (.ref it) 0 >>= _) _ _ s
  refine wpAny_bind (wpAny_field ho hd (x := .ref l) rfl ?_)
  show wpAny _ _ (if (Value.ref l == Value.none) = true then _ else _) _ _ s
  rw [if_neg (show ¬ ((Value.ref l == Value.none) = true) from Bool.false_ne_true)]
  show wpAny _ _ (field (.ref it) 1 >>= _) _ _ s
  refine wpAny_bind (wpAny_field ho hd (x := .int i 0) rfl ?_)
  show wpAny _ _ (seqItems? (.ref l) >>= _) _ _ s
  refine wpAny_bind (wpAny_seqItems hol hdl ?_)
  simp only [Int.toNat_natCast, hx]
  refine wpAny_bind (wpAny_rule (wpAny_bind (wpAny_setField ho hd (by simp) ?_)))
  show wpAny _ _ (newExc (.type "StopIteration") [] >>= _) _ _ _
  refine wpAny_bind ?_
  simp only [newExc, newTuple]
  refine wpAny_bind (wpAny_newObj_type ?_ (by size_fits))
  refine wpAny_bind (m := firstArgMember _ _) (wpAny_of_eq (a := Value.none) (by first | rfl | (simp only [firstArgMember]; rfl)) ?_)
  refine wpAny_newObj_type ?_ (by size_fits)
  have hot1 := HotAt.keeps (h' := s.heap.update it (Obj.mapFields (·.setIfInBounds 0 .none))) hot fun o1 e => by rw [Heap.get?_update_other _ _ ne.symm]; exact e
  obtain ⟨hh, o1, vs1, h1, d1, c1⟩ := hot1
  refine raiseNew_hot ⟨hh, o1, vs1, Heap.get?_push_of_some _ (Heap.get?_push_of_some _ h1), d1, c1⟩ (Nat.ne_of_lt (Heap.lt_size (Heap.get?_push_of_some _ h1))) (Heap.get?_push_size _ rfl) rfl (by first | (simp; done) | (simp; omega) | (simp only [Array.size_append]; simp; omega)) ?_
  refine wpAny_bind (wpAny_isInstance (T := "StopIteration") (b := true) ⟨_, Heap.get?_update_self _ (Heap.get?_push_size _ rfl) rfl, rfl⟩ isSubtype_stop ?_)
  refine wpAny_pure (hQ _ fun b o e z => ?_)
  have z1 : (s.heap.update it (Obj.mapFields (·.setIfInBounds 0 .none))).get? b = some o := by rw [Heap.get?_update_other _ _ (Ne.symm e)]; exact z
  rw [Heap.get?_update_other _ _ (Nat.ne_of_gt (Heap.lt_size (Heap.get?_push_of_some _ z1)))]
  exact Heap.get?_push_of_some _ (Heap.get?_push_of_some _ z1)
theorem next_tuple_end_hot {it l x1 : Addr} {i : Nat} {items : Array Value} {Q : Option Value → Shared → Prop} (hot : HotAt A x1 s.heap)
    (hit : IsTupIter s.heap it l i) (hl : IsTup s.heap l items) (hx : items[i]? = none)
    (hQ : ∀ h', Heap.ExtBut it s.heap h' → Q none { s with heap := h' }) : wpAny (model prog w) A (pyNext (.ref it)) Q E s := by
  obtain ⟨o, ho, hc, hd⟩ := id hit
  obtain ⟨ol, hol, _, nl, hdl⟩ := hl
  have ne := HotAt.ne2 hot ho hd
  unfold pyNext
  refine wpAny_bind (wpAny_attempt (wpAny_callSpecial?_slot (name := Str.ofString "__next__") hit.typeIs slot_tupleiter_next
    (wpAny_call_entry slot_tupleiter_next hit.typeIs entry_tupleiter_next ?_ (args_tupleiter_next _))))
  show wpAny _ _ (field (.ref it) 0 >>= _) _ _ s
  refine wpAny_bind (wpAny_field ho hd (x := .ref l) rfl ?_)
  show wpAny _ _ (if (Value.ref l == Value.none) = true then _ else _) _ _ s
  rw [if_neg (show ¬ ((Value.ref l == Value.none) = true) from Bool.false_ne_true)]
  show wpAny _ _ (field (.ref it) 1 >>= _) _ _ s
  refine wpAny_bind (wpAny_field ho hd (x := .int i 0) rfl ?_)
  show wpAny _ _ (seqItems? (.ref l) >>= _) _ _ s
  refine wpAny_bind (wpAny_seqItems hol hdl ?_)
  simp only [Int.toNat_natCast, hx]
  refine wpAny_bind (wpAny_rule (wpAny_bind (wpAny_setField ho hd (by simp) ?_)))
  show wpAny _ _ (newExc (.type "StopIteration") [] >>= _) _ _ _
  refine wpAny_bind ?_
  simp only [newExc, newTuple]
  refine wpAny_bind (wpAny_newObj_type ?_ (by size_fits))
  refine wpAny_bind (m := firstArgMember _ _) (wpAny_of_eq (a := Value.none) (by first | rfl | (simp only [firstArgMember]; rfl)) ?_)
  refine wpAny_newObj_type ?_ (by size_fits)
  have hot1 := HotAt.keeps (h' := s.heap.update it (Obj.mapFields (·.setIfInBounds 0 .none))) hot fun o1 e => by rw [Heap.get?_update_other _ _ ne.symm]; exact e
  obtain ⟨hh, o1, vs1, h1, d1, c1⟩ := hot1
  refine raiseNew_hot ⟨hh, o1, vs1, Heap.get?_push_of_some _ (Heap.get?_push_of_some _ h1), d1, c1⟩ (Nat.ne_of_lt (Heap.lt_size (Heap.get?_push_of_some _ h1))) (Heap.get?_push_size _ rfl) rfl (by first | (simp; done) | (simp; omega) | (simp only [Array.size_append]; simp; omega)) ?_
  refine wpAny_bind (wpAny_isInstance (T := "StopIteration") (b := true) ⟨_, Heap.get?_update_self _ (Heap.get?_push_size _ rfl) rfl, rfl⟩ isSubtype_stop ?_)
  refine wpAny_pure (hQ _ fun b o e z => ?_)
  have z1 : (s.heap.update it (Obj.mapFields (·.setIfInBounds 0 .none))).get? b = some o := by rw [Heap.get?_update_other _ _ (Ne.symm e)]; exact z
  rw [Heap.get?_update_other _ _ (Nat.ne_of_gt (Heap.lt_size (Heap.get?_push_of_some _ z1)))]
  exact Heap.get?_push_of_some _ (Heap.get?_push_of_some _ z1)
theorem assign_tuple_hot {x1 : Addr} {env : Env} {elts : List Expr} {k : Nat} {pos : Pos} {t : Addr} {items : Array Value} {Q : Unit → Shared → Prop} (hot : HotAt A x1 s.heap) (ht : IsTup s.heap t items)
    (hn : (assignEach elts env).length = items.size) (hstar : (assignEach elts env).findIdx? (·.1) = none)
    (h : ∀ h', Heap.ExtBut s.heap.objs.size s.heap h' → wpAny (model prog w) A (assignInOrder ((assignEach elts env).map (·.2)) items.toList) Q E { s with heap := h' }) :
    wpAny (model prog w) A (assign (.Tuple elts k pos) env (.ref t)) Q E s := by
  have hlt : t ≠ s.heap.objs.size := by obtain ⟨o, ho, _⟩ := ht; exact Nat.ne_of_lt (Heap.lt_size ho)
  have hx1 : x1 ≠ s.heap.objs.size := by obtain ⟨_, o, _, ho, _⟩ := hot; exact Nat.ne_of_lt (Heap.lt_size ho)
  rw [assign_Tuple]
  refine wpAny_bind (wpAny_standAt ?_)
  unfold unpack
  rw [hn, hstar]
  refine wpAny_bind (wpAny_holding ?_)
  unfold unpackItems
  refine wpAny_bind ?_
  unfold notIterableAtAll
  refine wpAny_bind (wpAny_specialOf ht.typeIs slot_tuple_iter.lookup (wpAny_pure ?_))
  simp only [Bool.false_eq_true, if_false]
  refine wpAny_bind (wpAny_holding (iter_tuple ht ?_))
  refine wpAny_bind (wpAny_holding (draw_tuple hlt items.size 0 _ _ ⟨_, Heap.get?_push_size _ rfl, rfl, rfl⟩ (ht.push _) (by omega) fun h₁ it₁ s₁ => ?_))
  rw [show List.take items.size (List.drop 0 items.toList) = items.toList from by rw [List.drop_zero]; exact List.take_of_length_le (by simp)]
  rw [if_neg (by simp)]
  refine wpAny_bind (wpAny_holding (next_tuple_end_hot (x1 := x1) (HotAt.keeps hot fun o e => s₁.extBut x1 o hx1 (Heap.get?_push_of_some _ e)) it₁ ((ht.push _).extBut s₁.extBut hlt) (by simp) fun h₂ e₂ => ?_))
  simp only [Option.isSome_none, Bool.false_eq_true, if_false]
  exact wpAny_pure (h h₂ fun b o hb e => e₂ b o hb (s₁.extBut b o hb (Heap.get?_push_of_some _ e)))
end
end Cw
namespace Cw
open PySem PySem.Spec PyProof.Rows L2 HotX
/-! ## a comprehension over a list where an error is handled -/
/-- assigning where p, the handled error, is pinned -/
structure PGP (X : Cx) (p : Addr × Obj) (tg : Expr) (g : TG) : Prop where
  run : ∀ (pins : List (Addr × Obj)) (s : Shared) (σ : L2.St) (H : Hp) (v : V) (u : Value) (Q : L2.St → Hp → Prop), p ∈ X.pn ++ pins → Inv X pins σ H s → RelV v u → g v σ H Q →
    wpAny (model X.prog X.w) X.A (assign tg X.env u) (fun _ s' => ∃ σ' H', Inv X pins σ' H' s' ∧ Q σ' H') X.xe s
section
variable {X : Cx} {p : Addr × Obj}
theorem hotAt_of {pins : List (Addr × Obj)} {σ : L2.St} {H : Hp} {s : Shared} (hot : L2H.Hot1 X.A p) (hp : p ∈ X.pn ++ pins) (I : Inv X pins σ H s) : HotAt X.A p.1 s.heap := by
  obtain ⟨hh, vs, e, c⟩ := hot
  exact ⟨hh, p.2, vs, (I.pin p hp).1, e, c⟩
theorem pgp_tup {es : List Expr} {k : Nat} {t : TGs} {n : Nat} {pos : Pos} (hot : L2H.Hot1 X.A p) (h : PGs X es t)
    (hn : (assignEach es X.env).length = n := by rfl) (hst : (assignEach es X.env).findIdx? (·.1) = none := by rfl) : PGP X p (.Tuple es k pos) (gTup X.K n t) := by
  refine ⟨fun pins s σ H v u Q hp I r hw => ?_⟩
  obtain ⟨a, xs, e1, hq, hl, hw⟩ := hw
  subst e1
  cases r
  obtain ⟨its, rv, ht, hz⟩ := I.tuple hq
  refine assign_tuple_hot (hotAt_of hot hp I) ht (by simp [hn, ← hl, rv.length]) hst fun h' hx => ?_
  exact h.run pins _ σ H xs _ Q (I.kept (t' := s.toks) fun b o e => hx b o (Nat.ne_of_lt (Heap.lt_size e)) e) (by simpa using rv) hw
theorem lc_hot {pins : List (Addr × Obj)} {s : Shared} {σ : L2.St} {H : Hp} {Q : VK} {elt tg iter : Expr} {ifs : List Expr} {scope : Scope} {own : List (Str × Nat)} {pos pos' : Pos} {tl : TE} {g : TG} {tt : TT} {te : TE} {use : Option (Value → Sem Unit)} {Qf : Value → Shared → Prop}
    (hot : L2H.Hot1 X.A p) (hpn : p ∈ X.pn) (hN : X.N.Nodup) (I : Inv X pins σ H s) (hl : PE X iter tl) (ok : BlkOk X.N X.env.scope scope own)
    (hg : ∀ (s : Shared) (H : Hp) (C : Addr) (cl : List (Str × Addr)) (fp : List Addr), PGP (X.blk s H scope (compEnvC scope cl C X.env) fp) p tg g) (ht : ∀ (s : Shared) (H : Hp) (C : Addr) (cl : List (Str × Addr)) (fp : List Addr), PTs (X.blk s H scope (compEnvC scope cl C X.env) fp) ifs tt)
    (he : ∀ (s : Shared) (H : Hp) (C : Addr) (cl : List (Str × Addr)) (fp : List Addr), PE (X.blk s H scope (compEnvC scope cl C X.env) fp) elt te) (hs : ∀ x, foldedSetIterable iter X.env x = pure x)
    (h : tLc (iList X.K tl) g tt te (own.map (·.2)) σ H Q)
    (hRR : ∀ D C s' m H', Inv X pins σ H' s' → Q (.ref D) H' → s'.heap.Ns C m → FpOk X pins H' C → compPost (model X.prog X.w) X.A X.xe use Qf (.ref D) C (.ok .next) s') :
    wpAny (model X.prog X.w) X.A (comprehension (.ListComp elt [⟨tg, iter, ifs, 0⟩] scope pos) scope X.env pos' (newList []) false (eval iter X.env) use) Qf X.xe s := by
  have hfree : ∀ y ∈ scope.names, y.2 = .free → ∃ c, X.env.cells.lookup y.1 = some c := fun y hy e => (ok.free y hy e).elim (fun k => I.ok.has _ (.inl k)) fun k => I.ok.has _ (.inr k)
  refine wpAny_comprehension_free (use := use) rfl hs (closure_ok hfree) ok.kind (fun y hy e => by rw [ok.uniq y hy, e]) (thn (hl.run pins s σ H _ I h) fun v s1 ⟨x, H2, I1, r1, a, e1, hsq, q⟩ => ?_)
  subst e1
  cases r1
  obtain ⟨xs0, hq0⟩ := hsq
  obtain ⟨its0, rv0, p0, hz0⟩ := I1.list hq0
  refine wpAny_pyIter_list p0.isList ?_
  generalize hit : s1.heap.objs.size = it
  have fp1 : FpOk X pins H2 it := I1.fpOk (Nat.le_of_eq hit) (I1.hok.fresh (Nat.le_of_eq hit))
  generalize hs2 : ({ s1 with heap := s1.heap.push { cls := .type "list_iterator", data := .fields #[.ref a, .int 0 0] } } : Shared) = s2
  have I2 : Inv X pins σ H2 s2 := by
    rw [← hs2]
    exact I1.kept (t' := s1.toks) fun b o e => Heap.get?_push_of_some _ e
  have st2 : s2.heap.IsListIter it a 0 := by
    rw [← hs2, ← hit]
    exact ⟨_, Heap.get?_push_size _ rfl, rfl, rfl⟩
  have lt2 : it < s2.heap.objs.size := by
    obtain ⟨o, e, _⟩ := st2
    exact Heap.lt_size e
  refine wpAny_newObj_type (newEnv_comp ?_) (by show 0 ≤ sizeLine; decide)
  generalize hD : s2.heap.objs.size = D
  obtain ⟨W, ⟨m0, w0⟩, turn⟩ := q D (I2.hok.fresh (Nat.le_of_eq hD))
  generalize hs3 : ({ s2 with heap := s2.heap.push { cls := .type "list", data := .seq ([] : List Value).toArray } } : Shared) = s3
  have I3 : Inv X pins σ (upd H2 D (.lst [])) s3 := by
    rw [← hs3]
    refine I2.laid (t' := s2.toks) (fun b o e => Heap.get?_push_of_some _ e) (Nat.le_of_eq hD) ⟨Nat.zero_le _, [], 0, .nil, ?_⟩
    rw [← hD]
    exact Heap.get?_push_size _ rfl
  have h3 : s3.heap = s2.heap.push { cls := .type "list", data := .seq ([] : List Value).toArray } := by rw [← hs3]
  have f3 : ∀ b ∈ [it], FpOk X pins (upd H2 D (.lst [])) b ∧ b < s3.heap.objs.size := fun b hb => by
    obtain rfl : b = it := by simpa using hb
    refine ⟨⟨?_, fp1.2⟩, by rw [h3, Heap.size_push]; exact Nat.lt_succ_of_lt lt2⟩
    rw [upd_ne (by rw [← hD]; exact Nat.ne_of_lt lt2)]
    exact fp1.1
  have st3 : s3.heap.IsListIter it a 0 := by
    obtain ⟨o, e, r⟩ := st2
    exact ⟨o, by rw [h3]; exact Heap.get?_push_of_some _ e, r⟩
  have I4 := block_start I3 ok hN f3
  have pg := hg s3 (upd H2 D (.lst [])) s3.heap.objs.size (cellsFrom (s3.heap.objs.size + 1) scope.names (cloFrom X.env.cells scope.names [])) [it]
  have pt := ht s3 (upd H2 D (.lst [])) s3.heap.objs.size (cellsFrom (s3.heap.objs.size + 1) scope.names (cloFrom X.env.cells scope.names [])) [it]
  have pe := he s3 (upd H2 D (.lst [])) s3.heap.objs.size (cellsFrom (s3.heap.objs.size + 1) scope.names (cloFrom X.env.cells scope.names [])) [it]
  show codeAny _ _ (.compStart (.ListComp elt [⟨tg, iter, ifs, 0⟩] scope pos) 0 (.ref it) (.ref D) (compEnvC scope (cellsFrom (s3.heap.objs.size + 1) scope.names (cloFrom X.env.cells scope.names [])) s3.heap.objs.size X.env)) (compPost (model X.prog X.w) X.A X.xe use Qf (.ref D) s3.heap.objs.size) { s3 with heap := pushCells (s3.heap.push { cls := .type "dict", data := .dict #[] }) scope.names }
  generalize hce : compEnvC scope (cellsFrom (s3.heap.objs.size + 1) scope.names (cloFrom X.env.cells scope.names [])) s3.heap.objs.size X.env = ce at I4 pg pt pe ⊢
  have cL : ce.locals = s3.heap.objs.size := by subst hce; rfl
  generalize hH3 : upd H2 D (.lst []) = H3 at I3 I4 pg pt pe w0 f3
  have kp4 : ∀ b o, s3.heap.get? b = some o → (pushCells (s3.heap.push { cls := .type "dict", data := .dict #[] }) scope.names).get? b = some o := fun b o e => pushCells_keeps _ _ _ _ (Heap.get?_push_of_some _ e)
  generalize hs4 : ({ s3 with heap := pushCells (s3.heap.push { cls := .type "dict", data := .dict #[] }) scope.names } : Shared) = s4 at I4 ⊢
  have h4 : s4.heap = pushCells (s3.heap.push { cls := .type "dict", data := .dict #[] }) scope.names := by rw [← hs4]
  have st4 : s4.heap.IsListIter it a 0 := by
    obtain ⟨o, e, r⟩ := st3
    exact ⟨o, by rw [h4]; exact kp4 _ _ e, r⟩
  -- the handled error, pinned
  have hpp := I3.pin p (List.mem_append_left _ hpn)
  have pne : p.1 ≠ it := fp1.2.2.2.2.2 p (List.mem_append_left _ hpn)
  have I4p : Inv (X.blk s3 H3 scope ce [it]) [p] (wipe σ (own.map (·.2))) H3 s4 := I4.pins_of fun r hr => by
    obtain rfl : r = p := by simpa using hr
    refine ⟨by rw [h4]; exact kp4 _ _ hpp.1, hpp.2.1, ?_, fun z => ?_, hpp.2.2.2.2⟩
    · show r.1 ≠ ce.locals
      rw [cL]
      exact Nat.ne_of_lt (Heap.lt_size hpp.1)
    · rcases List.mem_cons.mp (I3.stkSub _ z) with e | e
      · exact hpp.2.2.1 e
      · exact hpp.2.2.2.1 e
  have stat : ∀ {σ' : L2.St} {H' : Hp} {s' : Shared}, Inv (X.blk s3 H3 scope ce [it]) [p] σ' H' s' → H' it = none → ∀ b ∈ [it], FpOk (X.blk s3 H3 scope ce [it]) [p] H' b := fun {σ' H' s'} I' hn b hb => by
    have e : b = it := by simpa using hb
    subst e
    refine ⟨hn, (I'.ok.exf b hb).1, I'.ok.exfs b hb, .inl hb, fun x c e => (I'.ok.exf b hb).2 x c e, fun r hr => ?_⟩
    have er : r = p := by simpa using (show r ∈ ([] : List (Addr × Obj)) ++ [p] from hr)
    subst er
    exact pne
  have loop : codeAny (model X.prog X.w) X.A (.compLoop (.ListComp elt [⟨tg, iter, ifs, 0⟩] scope pos) 0 (.ref it) (.ref D) ce) (compPost (model X.prog X.w) X.A X.xe use Qf (.ref D) s3.heap.objs.size) s4 := by
    refine compLoop_any (fun n s' => ∃ i H', Inv (X.blk s3 H3 scope ce [it]) [p] (wipe σ (own.map (·.2))) H' s' ∧ s'.heap.IsListIter it a i ∧ H' it = none ∧ W i n H') ?_ m0 ⟨0, H3, I4p, st4, (f3 it (by simp)).1.1, w0⟩
    rintro n s5 ⟨i, H5, I5, st5, n5, w5⟩
    obtain ⟨f0, f1, f2, f3', f4, f5⟩ := stat I5 n5 it (by simp)
    rcases turn i n H5 w5 with ⟨⟨xs, hq, hx⟩, qq⟩ | ⟨⟨xs, x, hq, hx⟩, Nx, hNx, step⟩
    · obtain ⟨its, rv, pl, hz⟩ := I5.list hq
      have hln := rv.length
      refine next_list_end_hot (x1 := p.1) (hotAt_of (X := X.blk s3 H3 scope ce [it]) hot (List.mem_append_right _ (by simp)) I5) st5 pl.isList (by simp; omega) fun h' eb => ?_
      have I6 : Inv (X.blk s3 H3 scope ce [it]) [p] (wipe σ (own.map (·.2))) H5 { s5 with heap := h' } := I5.turned (t' := s5.toks) (fun b o hb e => eb b o hb e) f0 f1 f3' f4 f5
      have I7 : Inv X pins σ H5 { s5 with heap := h' } := I3.call' (ch := [it]) I6.os I6.base I6.hok I6.bare fun b hb => ⟨(f3 b hb).1.2.2.2.1, (f3 b hb).1.2.1, (f3 b hb).1.2.2.2.2.1, (f3 b hb).1.2.2.2.2.2⟩
      have nC : H5 s3.heap.objs.size = none := by
        have z : H5 ce.locals = none := I6.free
        rw [cL] at z
        exact z
      obtain ⟨m, hn, _⟩ := I6.loc
      have hn : (({ s5 with heap := h' } : Shared).heap).Ns ce.locals m := hn
      rw [cL] at hn
      exact hRR D s3.heap.objs.size _ m H5 I7 qq hn (I3.fpOk (Nat.le_refl _) nC)
    · obtain ⟨its, rv, pl, hz⟩ := I5.list hq
      obtain ⟨u, hu, ru⟩ := rv.get hx
      refine wpAny_pyNext_list_item st5 pl.isList (x := u) (by simpa using hu) fun h' st6 sb => ?_
      have I6 : Inv (X.blk s3 H3 scope ce [it]) [p] (wipe σ (own.map (·.2))) H5 { s5 with heap := h' } := I5.turned (t' := s5.toks) (fun b o hb e => (sb.2 b hb).trans e) f0 f1 f3' f4 f5
      obtain ⟨oi, ei, ci, di⟩ := id st6
      have I6' := I6.pinned (stat I6 n5) (fun b hb => by
        obtain rfl : b = it := by simpa using hb
        exact ⟨oi, ei, fun v z => by rw [di] at z; cases z⟩)
      refine go_of (s := { s5 with heap := h' }) ei ci di (by decide) ?_
      refine thnF (pg.run _ { s5 with heap := h' } _ H5 x u _ (List.mem_append_right _ (List.mem_append_left _ (by simp))) I6' ru (step x H5 ⟨rfl, fun ys hy => by rw [I5.list_inj hy hq]; exact hx⟩)) fun _ s8 ⟨σ8, H8, I8, hw8, q8⟩ => ?_
      refine thnF (pt.run _ s8 σ8 H8 _ I8 q8) fun b s9 ⟨H9, I9, q9⟩ => ?_
      have fin : ∀ {s' : Shared} {H' : Hp}, Inv (X.blk s3 H3 scope ce [it]) ([p] ++ pinsAt [it] h') σ8 H' s' → Nx H' → ∃ m, m < n ∧ ∃ i H', Inv (X.blk s3 H3 scope ce [it]) [p] (wipe σ (own.map (·.2))) H' s' ∧ s'.heap.IsListIter it a i ∧ H' it = none ∧ W i m H' := fun {s' H'} I' nx => by
        obtain ⟨m', hm, w'⟩ := hNx H' nx
        have z := I'.pin (it, oi) (List.mem_append_right _ (List.mem_append_right _ (mem_pinsAt (by simp) ei)))
        refine ⟨m', hm, i + 1, H', (I'.unpinned (pins := [p])).weak (by rw [← hw8, wipe_length]) (fun j v e => ?_), ⟨oi, z.1, ci, di⟩, z.2.1, w'⟩
        rw [← hw8] at e
        exact (wipe_some e).1
      cases b with
      | false =>
        simp only [Bool.false_eq_true, if_false] at q9 ⊢
        exact fin I9 q9
      | true =>
        simp only [if_true] at q9 ⊢
        refine thnF (pe.run _ s9 σ8 H9 _ I9 q9) fun z s10 ⟨yv, H10, I10, r10, acc, hD10, hz10, nx⟩ => ?_
        exact app_ok (X := X.blk s3 H3 scope ce [it]) I10 hD10 hz10 r10 fun s11 I11 => fin I11 nx
  exact codeAny_compStart_list loop (wpAny_pyIter_listiter st4 loop)
theorem pe_lcH {elt tg iter : Expr} {ifs : List Expr} {scope : Scope} {own : List (Str × Nat)} {pos : Pos} {tl : TE} {g : TG} {tt : TT} {te : TE} (hot : L2H.Hot1 X.A p) (hpn : p ∈ X.pn) (hN : X.N.Nodup) (hl : PE X iter tl) (ok : BlkOk X.N X.env.scope scope own)
    (hg : ∀ (s : Shared) (H : Hp) (C : Addr) (cl : List (Str × Addr)) (fp : List Addr), PGP (X.blk s H scope (compEnvC scope cl C X.env) fp) p tg g) (ht : ∀ (s : Shared) (H : Hp) (C : Addr) (cl : List (Str × Addr)) (fp : List Addr), PTs (X.blk s H scope (compEnvC scope cl C X.env) fp) ifs tt)
    (he : ∀ (s : Shared) (H : Hp) (C : Addr) (cl : List (Str × Addr)) (fp : List Addr), PE (X.blk s H scope (compEnvC scope cl C X.env) fp) elt te) (hs : ∀ x, foldedSetIterable iter X.env x = pure x := by intro _; rfl) :
    PE X (.ListComp elt [⟨tg, iter, ifs, 0⟩] scope pos) (tLc (iList X.K tl) g tt te (own.map (·.2))) := by
  refine ⟨fun pins s σ H Q I h => ?_⟩
  rw [eval_ListComp]
  refine lc_hot hot hpn hN I hl ok hg ht he hs h fun D C s' m H' I' q hn f => ⟨m, hn, fun h'' sb => ?_⟩
  obtain ⟨f0, f1, f2, f3, f4, f5⟩ := f
  exact ⟨.ref D, H', I'.turned (t' := s'.toks) (fun b o hb e => (sb.2 b hb).trans e) f0 f1 f3 f4 f5, rfl, q⟩
end
end Cw
namespace Cw
open PySem PySem.Spec PyProof.Rows L2 L2H HotX
abbrev sWd : Stmt := top 46
abbrev rIsP (K : PySem.W.Frag) (p : Addr × Obj) : List V → Hp → VK → Prop := fun xs H Q => ∃ (D : Addr) (c : V) (cv : Value) (b : Bool), p.2.cls = .ref D ∧ p.2.dict = none ∧ ExcC K D ∧ xs = [.ref p.1, c] ∧ (∀ u, RelV c u → u = cv) ∧ PySem.W.kitOne K (.ref D) cv = some b ∧ Q (.bl b) H
abbrev rIsPT (K : PySem.W.Frag) (p : Addr × Obj) : List V → Hp → VK → Prop := fun xs H Q => ∃ (D tp : Addr) (cs : List V) (ws : List Value) (b : Bool), p.2.cls = .ref D ∧ p.2.dict = none ∧ ExcC K D ∧ xs = [.ref p.1, .ref tp] ∧ H tp = some (.tup cs) ∧ Paired ClsV cs ws ∧ PySem.W.kitAny K (.ref D) ws = some b ∧ Q (.bl b) H
def wd : Nat → Str
  | 0 => "settings"
  | 1 => "place"
  | 2 => "cuts"
  | _ => "large"
/-- what is known of the class at D, the j-th of four -/
structure WordAt (K : PySem.W.Frag) (D0 D1 D2 D3 : Addr) (os : List Value) (CE D : Addr) (j : Nat) : Prop where
  lt : j < 4
  xc : ExcC K D
  k0 : PySem.W.kitOne K (.ref D) (.ref D0) = some (decide (0 = j))
  k1 : PySem.W.kitOne K (.ref D) (.ref D1) = some (decide (1 = j))
  k2 : PySem.W.kitOne K (.ref D) (.ref D2) = some (decide (2 = j))
  k3 : PySem.W.kitOne K (.ref D) (.ref D3) = some (decide (3 = j))
  ko : ∀ o ∈ os, PySem.W.kitOne K (.ref D) o = some false
  kv : PySem.W.kitOne K (.ref D) (.type "ValueError") = some true
  ce : PySem.W.exmOne K (.ref D) (.ref CE) = some true
def spWd (K : PySem.W.Frag) (D0 D1 D2 D3 : Addr) (os : List Value) (CE : Addr) : Addr × Obj → Sp := fun p vs H Q _ => ∃ (D : Addr) (j : Nat), vs = [.ref p.1] ∧ p.2.cls = .ref D ∧ p.2.dict = none ∧ WordAt K D0 D1 D2 D3 os CE D j ∧ ∀ H', Same H H' → Q (.str (wd j)) H'
def someW (j i : Nat) : List V := ((List.range i).filter fun m => decide (m = j)).map fun m => V.str (wd m)
theorem someW_succ (j i : Nat) : someW j (i + 1) = if i = j then someW j i ++ [V.str (wd i)] else someW j i := by
  unfold someW
  rw [List.range_succ, List.filter_append, List.map_append]
  by_cases c : i = j
  · rw [if_pos c, List.filter_cons_of_pos (by simpa using c)]
    rfl
  · rw [if_neg c, List.filter_cons_of_neg (by simpa using c)]
    simp
theorem someW_len (j i : Nat) (h : i ≤ 4) : (someW j i).length ≤ 4 := by
  unfold someW
  rw [List.length_map]
  refine Nat.le_trans (List.length_filter_le _ _) ?_
  rw [List.length_range]
  exact h
theorem someW_all {j : Nat} (h : j < 4) : someW j 4 = [V.str (wd j)] := by
  match j, h with
  | 0, _ => rfl
  | 1, _ => rfl
  | 2, _ => rfl
  | 3, _ => rfl
  | n + 4, h => exact absurd h (by omega)
theorem upd_keep {H : Hp} {a b : Addr} {o x : HO} (h : H a = some o) (hb : H b = none) : upd H b x a = some o := by
  rw [upd_ne (fun z => by subst z; rw [hb] at h; cases h)]
  exact h
theorem kitAny_all {K : PySem.W.Frag} {t : Value} : ∀ {os : List Value}, (∀ o ∈ os, PySem.W.kitOne K t o = some false) → PySem.W.kitAny K t os = some false
  | [], _ => kitAny_nil
  | o :: os, h => kitAny_cons (h o List.mem_cons_self) (fun _ => kitAny_all fun o' ho => h o' (List.mem_cons_of_mem _ ho)) (fun z => nomatch z)
theorem wd_rhs (j : Nat) : 0 < (wd j).length ∧ (wd j).length ≤ 40 := by
  match j with
  | 0 => decide +kernel
  | 1 => decide +kernel
  | 2 => decide +kernel
  | n + 3 => exact (by decide +kernel : 0 < (wd 3).length ∧ (wd 3).length ≤ 40)
section
variable {P : Program} {w : World} {K : PySem.W.Frag} {mg : Str → Option Value} {base : Heap}
abbrev NWd : List Str := ["e", "some", "odd", "word", "is_one"]
theorem scWd : FnScope NWd ["e"] (defScope sWd) := ⟨rfl, rfl, rfl, by decide +kernel, rfl, by decide +kernel, by decide +kernel⟩
theorem ok_wd {f D0 D1 D2 D3 O0 O1 O2 CE : Addr} {fd : FuncData} (F : Fun K "_law_word" "_law_word" sWd f fd) (T : Bl mg) (hVE : mg "ValueError" = none)
    (g0 : mg "InvalidSettings" = some (.ref D0)) (g1 : mg "InvalidPlace" = some (.ref D1)) (g2 : mg "InvalidCuts" = some (.ref D2)) (g3 : mg "TooLarge" = some (.ref D3)) (h0 : mg "InvalidNumber" = some (.ref O0)) (h1 : mg "InvalidChange" = some (.ref O1)) (h2 : mg "InvalidRow" = some (.ref O2)) :
    FnE P w K mg base CX0 2 f fd ["e"] (spWd K D0 D1 D2 D3 [.ref O0, .ref O1, .ref O2] CE) := by
  obtain ⟨_, _, _, _, _, _, cdv, _, _, rfl, lk, hcd⟩ := F.ex
  refine fnE_of lk hcd scWd (fun p vs H Q E h => ?_) (fun p A outer s H vs Q E hot hr h => ?_)
  · obtain ⟨_, _, rfl, _⟩ := h
    rfl
  · obtain ⟨D, j, rfl, hc, hd, W, q⟩ := h
    have hz : Zc p.2.cls p.2.dict p.2 := ⟨rfl, rfl⟩
    have hf : ∃ us, p.2.data = .fields us := ⟨hot.2.choose, hot.2.choose_spec.1⟩
    refine ⟨_, (pss_cons (ps_set (i := 1) scWd.nd rfl (Or.inl rfl) (pe_lst (pa_cons (pe_tup (pa_cons pe_str (pa_cons (pe_callB (show CallR _ (.builtin "isinstance") (rIsP K p) from call_isP (List.mem_singleton_self p) hz hf) (by rfl) T.isi (by decide +kernel) (pa_cons (pv 0) (pa_cons (pe_glob (by rfl) g0 (v := V.ref D0) rfl) pa_nil))) pa_nil))) (pa_cons (pe_tup (pa_cons pe_str (pa_cons (pe_callB (show CallR _ (.builtin "isinstance") (rIsP K p) from call_isP (List.mem_singleton_self p) hz hf) (by rfl) T.isi (by decide +kernel) (pa_cons (pv 0) (pa_cons (pe_glob (by rfl) g1 (v := V.ref D1) rfl) pa_nil))) pa_nil))) pa_nil))))
      (pss_cons (ps_set (i := 1) scWd.nd rfl (Or.inl rfl) (pe_op op_cat (pv 1) (pe_lst (pa_cons (pe_tup (pa_cons pe_str (pa_cons (pe_callB (show CallR _ (.builtin "isinstance") (rIsP K p) from call_isP (List.mem_singleton_self p) hz hf) (by rfl) T.isi (by decide +kernel) (pa_cons (pv 0) (pa_cons (pe_glob (by rfl) g2 (v := V.ref D2) rfl) pa_nil))) pa_nil))) (pa_cons (pe_tup (pa_cons pe_str (pa_cons (pe_callB (show CallR _ (.builtin "isinstance") (rIsP K p) from call_isP (List.mem_singleton_self p) hz hf) (by rfl) T.isi (by decide +kernel) (pa_cons (pv 0) (pa_cons (pe_glob (by rfl) g3 (v := V.ref D3) rfl) pa_nil))) pa_nil))) pa_nil)))))
      (pss_cons (ps_set (i := 2) scWd.nd rfl (Or.inl rfl) (pe_or (pe_callB (show CallR _ (.builtin "isinstance") (rIsPT K p) from call_isPT (List.mem_singleton_self p) hz hf) (by rfl) T.isi (by decide +kernel) (pa_cons (pv 0) (pa_cons (pe_tup (pa_cons (pe_glob (by rfl) h0 (v := V.ref O0) rfl) (pa_cons (pe_glob (by rfl) h1 (v := V.ref O1) rfl) (pa_cons (pe_glob (by rfl) h2 (v := V.ref O2) rfl) pa_nil)))) pa_nil))) (pe_one (pe_not (pe_callB (show CallR _ (.builtin "isinstance") (rIsP K p) from call_isP (List.mem_singleton_self p) hz hf) (by rfl) T.isi (by decide +kernel) (pa_cons (pv 0) (pa_cons (pe_bltn (by rfl) hVE (by decide +kernel) (v := V.ty "ValueError") rfl) pa_nil)))))))
      (pss_one (ps_ret (pe_join pe_str (pe_op op_cat (pe_lcH (own := [("word", 3), ("is_one", 4)]) (g := (gTup K 2 (gCons (gName 3) (gCons (gName 4) gNil)))) hot (List.mem_singleton_self p) scWd.nd (pv 1) (blkOk_by (own := [("word", 3), ("is_one", 4)]) (N := NWd) (sc := defScope sWd) (by decide +kernel)) (fun _ _ _ _ _ => (pgp_tup hot (pgs_cons (pg_name (i := 3) scWd.nd rfl (Or.inl rfl)) (pgs_cons (pg_name (i := 4) scWd.nd rfl (Or.inl rfl)) pgs_nil)))) (fun _ _ _ _ _ => (pts_one (pt_val (pv 4)))) (fun _ _ _ _ _ => (pv 3))) (pe_op op_rep (pe_lst (pa_cons pe_str pa_nil)) (pe_callTy call_int1 (by rfl) T.int (by decide +kernel) (pa_cons (pv 2) pa_nil)))))))))), ?_⟩
    have hD : ∀ {D' : Addr}, (V.ref D' = V.ref D') → ∀ u, RelV (V.ref D') u → u = Value.ref D' := fun _ u r => by cases r; rfl
    have l1 : (1 : Nat) ≤ 1000 := by decide
    -- the four pairs
    refine ⟨_, rfl, D, _, _, _, hc, hd, W.xc, rfl, hD rfl, W.k0, small1000 (by show (1 : Nat) ≤ 1000; decide), fun p0 hp0 => ?_⟩
    have t1 := same_new (o := .tup [.str "settings", .bl (decide (0 = j))]) (Same.refl H) hp0
    have k0 : upd H p0 (.tup [.str "settings", .bl (decide (0 = j))]) p0 = some (.tup [.str "settings", .bl (decide (0 = j))]) := upd_same
    generalize upd H p0 (.tup [.str "settings", .bl (decide (0 = j))]) = H1 at t1  k0 ⊢
    refine ⟨_, rfl, D, _, _, _, hc, hd, W.xc, rfl, hD rfl, W.k1, small1000 (by show (1 : Nat) ≤ 1000; decide), fun p1 hp1 => ?_⟩
    have t2 := same_new (o := .tup [.str "place", .bl (decide (1 = j))]) t1 hp1
    have k0 := upd_keep (x := .tup [.str "place", .bl (decide (1 = j))]) k0 hp1
    have k1 : upd H1 p1 (.tup [.str "place", .bl (decide (1 = j))]) p1 = some (.tup [.str "place", .bl (decide (1 = j))]) := upd_same
    generalize upd H1 p1 (.tup [.str "place", .bl (decide (1 = j))]) = H2 at t2 k0 k1 ⊢
    refine ⟨small1000 (by show (1 : Nat) ≤ 1000; decide), fun q1 hq1 => ?_⟩
    have tq1 := same_new (o := .lst [.ref p0, .ref p1]) t2 hq1
    have k0 := upd_keep (x := .lst [.ref p0, .ref p1]) k0 hq1
    have k1 := upd_keep (x := .lst [.ref p0, .ref p1]) k1 hq1
    have kq1 : upd H2 q1 (.lst [.ref p0, .ref p1]) q1 = some (.lst [.ref p0, .ref p1]) := upd_same
    generalize upd H2 q1 (.lst [.ref p0, .ref p1]) = H3 at tq1 k0 k1 kq1 ⊢
    refine ⟨_, rfl, ?_⟩
    refine ⟨_, rfl, D, _, _, _, hc, hd, W.xc, rfl, hD rfl, W.k2, small1000 (by show (1 : Nat) ≤ 1000; decide), fun p2 hp2 => ?_⟩
    have t3 := same_new (o := .tup [.str "cuts", .bl (decide (2 = j))]) tq1 hp2
    have k0 := upd_keep (x := .tup [.str "cuts", .bl (decide (2 = j))]) k0 hp2
    have k1 := upd_keep (x := .tup [.str "cuts", .bl (decide (2 = j))]) k1 hp2
    have kq1 := upd_keep (x := .tup [.str "cuts", .bl (decide (2 = j))]) kq1 hp2
    have k2 : upd H3 p2 (.tup [.str "cuts", .bl (decide (2 = j))]) p2 = some (.tup [.str "cuts", .bl (decide (2 = j))]) := upd_same
    generalize upd H3 p2 (.tup [.str "cuts", .bl (decide (2 = j))]) = H4 at t3 k0 k1 kq1 k2 ⊢
    refine ⟨_, rfl, D, _, _, _, hc, hd, W.xc, rfl, hD rfl, W.k3, small1000 (by show (1 : Nat) ≤ 1000; decide), fun p3 hp3 => ?_⟩
    have t4 := same_new (o := .tup [.str "large", .bl (decide (3 = j))]) t3 hp3
    have k0 := upd_keep (x := .tup [.str "large", .bl (decide (3 = j))]) k0 hp3
    have k1 := upd_keep (x := .tup [.str "large", .bl (decide (3 = j))]) k1 hp3
    have k2 := upd_keep (x := .tup [.str "large", .bl (decide (3 = j))]) k2 hp3
    have kq1 := upd_keep (x := .tup [.str "large", .bl (decide (3 = j))]) kq1 hp3
    have k3 : upd H4 p3 (.tup [.str "large", .bl (decide (3 = j))]) p3 = some (.tup [.str "large", .bl (decide (3 = j))]) := upd_same
    generalize upd H4 p3 (.tup [.str "large", .bl (decide (3 = j))]) = H5 at t4 k0 k1 k2 kq1 k3 ⊢
    refine ⟨small1000 (by show (1 : Nat) ≤ 1000; decide), fun q2 hq2 => ?_⟩
    have tq2 := same_new (o := .lst [.ref p2, .ref p3]) t4 hq2
    have k0 := upd_keep (x := .lst [.ref p2, .ref p3]) k0 hq2
    have k1 := upd_keep (x := .lst [.ref p2, .ref p3]) k1 hq2
    have k2 := upd_keep (x := .lst [.ref p2, .ref p3]) k2 hq2
    have k3 := upd_keep (x := .lst [.ref p2, .ref p3]) k3 hq2
    have kq1 := upd_keep (x := .lst [.ref p2, .ref p3]) kq1 hq2
    have kq2 : upd H5 q2 (.lst [.ref p2, .ref p3]) q2 = some (.lst [.ref p2, .ref p3]) := upd_same
    generalize upd H5 q2 (.lst [.ref p2, .ref p3]) = H6 at tq2 k0 k1 k2 k3 kq1 kq2 ⊢
    refine ⟨_, _, _, _, rfl, rfl, kq1, kq2, (by show 4 ≤ sizeLine; decide), fun q3 hq3 => ?_⟩
    have tq3 := same_new (o := .lst ([.ref p0, .ref p1] ++ [.ref p2, .ref p3])) tq2 hq3
    have k0 := upd_keep (x := .lst ([.ref p0, .ref p1] ++ [.ref p2, .ref p3])) k0 hq3
    have k1 := upd_keep (x := .lst ([.ref p0, .ref p1] ++ [.ref p2, .ref p3])) k1 hq3
    have k2 := upd_keep (x := .lst ([.ref p0, .ref p1] ++ [.ref p2, .ref p3])) k2 hq3
    have k3 := upd_keep (x := .lst ([.ref p0, .ref p1] ++ [.ref p2, .ref p3])) k3 hq3
    have kq3 : upd H6 q3 (.lst ([.ref p0, .ref p1] ++ [.ref p2, .ref p3])) q3 = some (.lst [.ref p0, .ref p1, .ref p2, .ref p3]) := upd_same
    generalize upd H6 q3 (.lst ([.ref p0, .ref p1] ++ [.ref p2, .ref p3])) = H7 at tq3 k0 k1 k2 k3 kq3 ⊢
    -- the other ones
    refine ⟨_, rfl, small1000 (by show (2 : Nat) ≤ 1000; decide), fun tp htp => ?_⟩
    refine ⟨D, tp, _, _, false, hc, hd, W.xc, rfl, upd_same, (.cons (.own _) (.cons (.own _) (.cons (.own _) .nil))), kitAny_all W.ko, _, rfl, ?_⟩
    have ttp := same_new (o := .tup [.ref O0, .ref O1, .ref O2]) tq3 htp
    have k0 := upd_keep (x := .tup [.ref O0, .ref O1, .ref O2]) k0 htp
    have k1 := upd_keep (x := .tup [.ref O0, .ref O1, .ref O2]) k1 htp
    have k2 := upd_keep (x := .tup [.ref O0, .ref O1, .ref O2]) k2 htp
    have k3 := upd_keep (x := .tup [.ref O0, .ref O1, .ref O2]) k3 htp
    have kq3 := upd_keep (x := .tup [.ref O0, .ref O1, .ref O2]) kq3 htp
    generalize upd H7 tp (.tup [.ref O0, .ref O1, .ref O2]) = H8 at ttp k0 k1 k2 k3 kq3 ⊢
    refine ifF rfl ?_
    refine ⟨_, rfl, D, _, _, true, hc, hd, W.xc, rfl, (fun u r => by cases r; rfl), W.kv, _, rfl, ?_⟩
    dsimp only [L2.start, List.set, List.map, List.append, List.replicate, List.length]
    -- the words
    refine ⟨⟨_, rfl⟩, _, rfl, q3, rfl, ⟨_, SqL.of kq3⟩, fun D2 hD2 => ?_⟩
    refine lc_list (K := K) (a := q3) (xs := [.ref p0, .ref p1, .ref p2, .ref p3]) (fun i H' => Same H8 H' ∧ H' D2 = some (.lst (someW j i))) ⟨same_new (Same.refl H8) hD2, upd_same⟩ (fun i H' _ z => SqL.of (z.1 _ _ kq3)) ?_ ?_
    · rintro i x H' hx ⟨sm, hE⟩
      have ix : ∃ pp, x = .ref pp ∧ H8 pp = some (.tup [.str (wd i), .bl (decide (i = j))]) ∧ i < 4 := by
        match i, hx with
        | 0, hx => exact ⟨p0, (Option.some.inj hx).symm, k0, by decide⟩
        | 1, hx => exact ⟨p1, (Option.some.inj hx).symm, k1, by decide⟩
        | 2, hx => exact ⟨p2, (Option.some.inj hx).symm, k2, by decide⟩
        | 3, hx => exact ⟨p3, (Option.some.inj hx).symm, k3, by decide⟩
        | n + 4, hx => cases hx
      obtain ⟨pp, rfl, hp, li⟩ := ix
      refine ⟨pp, _, rfl, SqT.of (sm _ _ hp), rfl, _, _, rfl, _, _, rfl, rfl, rfl, _, rfl, _, rfl, ?_⟩
      have sl := someW_len j i (by omega)
      by_cases c : i = j
      · refine ifT (decide_eq_true c) ⟨_, rfl, ?_⟩
        exact ⟨_, hE, small1000 (by omega), same_put sm hD2, by rw [upd_same, someW_succ, if_pos c]⟩
      · exact ifF (decide_eq_false c) ⟨sm, by rw [hE, someW_succ, if_neg c]⟩
    · rintro H' ⟨sm, hE⟩
      have hE : H' D2 = some (.lst [V.str (wd j)]) := by
        rw [hE, ← someW_all W.lt]
        rfl
      have sm2 := ttp.trans sm
      refine ⟨small1000 (by show (0 : Nat) ≤ 1000; decide), fun r1 hr1 => ?_⟩
      refine ⟨_, rfl, .inr ⟨_, rfl, ?_⟩⟩
      have s1 := same_new (o := .lst [.str "odd"]) sm2 hr1
      have e1 := upd_keep (x := .lst [.str "odd"]) hE hr1
      have f1 : upd H' r1 (.lst [.str "odd"]) r1 = some (.lst [.str "odd"]) := upd_same
      generalize upd H' r1 (.lst [.str "odd"]) = H9 at s1 e1 f1 ⊢
      refine ⟨_, _, _, rfl, rfl, f1, by decide, by decide, by decide +kernel, fun r2 hr2 => ?_⟩
      have s2 := same_new (o := .lst []) s1 hr2
      have e2 := upd_keep (x := .lst []) e1 hr2
      have f2 : upd H9 r2 (.lst []) r2 = some (.lst []) := upd_same
      refine ⟨_, _, _, _, rfl, rfl, e2, f2, small1000 (by show (0 : Nat) ≤ 1000; decide), fun r3 hr3 => ?_⟩
      have s3 := same_new (o := .lst [.str (wd j)]) s2 hr3
      refine ⟨_, r3, [wd j], rfl, rfl, .inl (SqL.of upd_same), ?_, ?_⟩
      · have l := (wd_rhs j).2
        have e : (" " : Str).length = 1 := by decide +kernel
        rw [e]
        show ([wd j].map (·.length)).sum + 1 * 1 ≤ _
        show (wd j).length + 0 + 1 * 1 ≤ _
        omega
      · have e : Txt.join " " [wd j] = wd j := by
          match j, W.lt with
          | 0, _ => decide +kernel
          | 1, _ => decide +kernel
          | 2, _ => decide +kernel
          | 3, _ => decide +kernel
          | n + 4, h => exact absurd h (by omega)
        rw [e]
        exact q _ s3
end
end Cw
namespace Cw
open PySem PySem.Spec PyProof.Rows L2 L2H HotX
theorem hot_suite {X : Cx} {a : Addr} {oe : Obj} {pn : List (Addr × Obj)} {cls : Value} {d : Option Addr} (hz : L2N.Zn cls d oe) (hf : ∃ vs, oe.data = .fields vs) : L2H.Hot1 (X.suite a ((a, oe) :: pn)).A (a, oe) := by
  obtain ⟨vs, e⟩ := hf
  exact ⟨rfl, vs, e, hz.2.2 vs e⟩
theorem takes0N {X : Cx} : L2N.Takes X (fun _ _ _ _ => False) := fun _ _ x => by
  obtain ⟨_, _, _, _, _, _, _, _, _, _, _, _, _, _, _, _, z⟩ := x
  exact z.elim
/-- what _law_word(e) wishes in the suite -/
abbrev tWord (K : PySem.W.Frag) (D0 D1 D2 D3 : Addr) (os : List Value) (CE a : Addr) (cls : Value) (d : Option Addr) (t : TA) : TE := fun σ H Q => t σ H fun vs H1 => ∃ (D : Addr) (j : Nat), vs = [.ref a] ∧ cls = .ref D ∧ d = none ∧ WordAt K D0 D1 D2 D3 os CE D j ∧ ∀ H', Same H1 H' → Q (.str (wd j)) H'
theorem pe_word {X : Cx} {f D0 D1 D2 D3 CE a : Addr} {fd : FuncData} {os : List Value} {oe : Obj} {cls : Value} {d : Option Addr} {pn : List (Addr × Obj)} {x : Str} {q pos : Pos} {e : Expr} {es : List Expr} {t : TA} (F : FnE X.prog X.w X.K X.mg X.base CX0 2 f fd ["e"] (spWd X.K D0 D1 D2 D3 os CE)) (rm : Room 2 X.A)
    (hz : L2N.Zn cls d oe) (hf : ∃ vs, oe.data = .fields vs) (hg : Gl X x) (hm : X.mg x = some (.ref f)) (hk : PySem.W.keepIn X.K (.ref f) = true) (hb : Binds X.K fd ["e"] [])
    (ha : PA (X.suite a ((a, oe) :: pn)) (e :: es) t) (hdb : (x == ("__debug__" : Str)) = false := by decide) (he : starEach (e :: es) X.env = (false, eval e X.env) :: starEach es X.env := by rfl) (hpl : (backTo pos (starEach es X.env)).any (·.1) = false := by rfl) :
    PE (X.suite a ((a, oe) :: pn)) (.Call (.Name x q) (e :: es) [] pos) (tWord X.K D0 D1 D2 D3 os CE a cls d t) := by
  obtain ⟨z1, z2, z3⟩ := hz
  subst z1 z2
  exact pe_callE (X := X.suite a ((a, oe) :: pn)) (p := (a, oe)) F ⟨rm.dp, rm.un⟩ (hot_suite ⟨rfl, rfl, z3⟩ hf) List.mem_cons_self hg hm hk hb (fun _ _ _ _ _ _ _ h => h.elim) ha hdb he hpl
theorem told_word {K : PySem.W.Frag} {D0 D1 D2 D3 CE D : Addr} {os : List Value} {j i : Nat} {ts : Addr → Value → Option Addr → TS} (W : WordAt K D0 D1 D2 D3 os CE D j) {B : Ends} {σ : L2.St} {H : Hp} (k : ∀ a, ts a (.ref D) none { nx := fun σ' H' => B.nx (σ'.set i none) H', rt := B.rt, bk := fun σ' H' => B.bk (σ'.set i none) H', ct := fun σ' H' => B.ct (σ'.set i none) H' } (σ.set i (some (.ref a))) H) :
    wAs K (.ref CE) i ts (fun _ _ _ _ => False) B (.ref D) none σ H := ⟨true, W.ce, fun _ a _ => k a, fun q => nomatch q⟩
/-- what a call in the try wishes of its error -/
def EW (K : PySem.W.Frag) (D0 D1 D2 D3 : Addr) (os : List Value) (CE : Addr) (Q : VK) : XK := fun cls d H => ∃ (D : Addr) (j : Nat), cls = .ref D ∧ d = none ∧ WordAt K D0 D1 D2 D3 os CE D j ∧ ∀ H', Same H H' → Q (.str (wd j)) H'
end Cw
namespace Cw
open PySem PySem.Spec PyProof.Rows L2 L2H HotX
abbrev sTo : Stmt := top 47
def Fine (sp : Sp) (vs : List V) (H : Hp) : Prop := ∀ (Q : VK) (E : XK), (∀ v H', Same H H' → Q v H') → sp vs H Q E
def Bad (sp : Sp) (vs : List V) (H : Hp) (D : Addr) : Prop := ∀ (Q : VK) (E : XK), (∀ H', Same H H' → E (.ref D) none H') → sp vs H Q E
/-- what a call ends with: none, well; some j, the j-th class of errors -/
def Res (K : PySem.W.Frag) (D0 D1 D2 D3 : Addr) (os : List Value) (CE : Addr) (sp : Sp) (vs : List V) (H : Hp) (o : Option Nat) : Prop := (o = none ∧ Fine sp vs H) ∨ ∃ D j, o = some j ∧ WordAt K D0 D1 D2 D3 os CE D j ∧ Bad sp vs H D
def wo : Option Nat → Str
  | none => "fine"
  | some j => wd j
def ToldAt (K : PySem.W.Frag) (D0 D1 D2 D3 O0 O1 O2 CE C CS CP CT CC : Addr) (H : Hp) (way : Int) (v_made v_three v_one v_two v_last : V) (o : Option Nat) : Prop :=
    (way = 0 ∧ Res K D0 D1 D2 D3 [.ref O0, .ref O1, .ref O2] CE (fun vs H Q E => spNext C vs H Q E ∨ spNextX K C CS CP CT vs H Q E) [v_made, v_three, v_one] H o)
    ∨ (way = 1 ∧ Res K D0 D1 D2 D3 [.ref O0, .ref O1, .ref O2] CE (fun vs H Q E => spWalk C vs H Q E ∨ spWalkX K C CS CP CT vs H Q E) [v_made, v_three, v_one] H o)
    ∨ (way = 2 ∧ Res K D0 D1 D2 D3 [.ref O0, .ref O1, .ref O2] CE (fun vs H Q E => spFF C vs H Q E ∨ spFFX K C CS CP CT vs H Q E) [v_made, v_three, v_one, v_two] H o)
    ∨ (way = 3 ∧ Res K D0 D1 D2 D3 [.ref O0, .ref O1, .ref O2] CE (fun vs H Q E => spWithin C vs H Q E ∨ spWithinX K C CS CP CT vs H Q E) [v_made, v_three, v_one, v_two, v_last] H o)
    ∨ (way = 4 ∧ Res K D0 D1 D2 D3 [.ref O0, .ref O1, .ref O2] CE (fun vs H Q E => spSf C vs H Q E ∨ spSfX K C CC vs H Q E) [v_made, v_three] H o)
def spTo (K : PySem.W.Frag) (D0 D1 D2 D3 O0 O1 O2 CE C CS CP CT CC : Addr) : Sp := fun vs H Q _ => ∃ (way : Int) (v_made v_three v_one v_two v_last : V) (o : Option Nat), vs = [.int way, v_made, v_three, v_one, v_two, v_last] ∧ ToldAt K D0 D1 D2 D3 O0 O1 O2 CE C CS CP CT CC H way v_made v_three v_one v_two v_last o ∧ ∀ H', Same H H' → Q (.str (wo o)) H'
section
variable {P : Program} {w : World} {K : PySem.W.Frag} {mg : Str → Option Value} {base : Heap}
abbrev NTo : List Str := ["way", "made", "three", "one", "two", "last", "e"]
theorem scTo : FnScope NTo ["way", "made", "three", "one", "two", "last"] (defScope sTo) := ⟨rfl, rfl, rfl, by decide +kernel, rfl, by decide +kernel, by decide +kernel⟩
theorem ok_to {f fN fW fF fI fS fX D0 D1 D2 D3 O0 O1 O2 CE C CS CP CT CC : Addr} {fd fdN fdW fdF fdI fdS fdX : FuncData} (F : Fun K "_law_told" "_law_told" sTo f fd) (EE : ErrC K mg CE "CutError")
    (gN : mg "next_cut" = some (.ref fN)) (kN : PySem.W.keepIn K (.ref fN) = true) (bN : Binds K fdN ["row", "settings", "place"] []) (GN : FnOk P w K mg base (L2N.CX P w) 4 fN fdN ["row", "settings", "place"] (fun vs H Q E => spNext C vs H Q E ∨ spNextX K C CS CP CT vs H Q E))
    (gW : mg "walk" = some (.ref fW)) (kW : PySem.W.keepIn K (.ref fW) = true) (bW : Binds K fdW ["row", "settings", "start"] []) (GW : FnOk P w K mg base (L2N.CX P w) 5 fW fdW ["row", "settings", "start"] (fun vs H Q E => spWalk C vs H Q E ∨ spWalkX K C CS CP CT vs H Q E))
    (gF : mg "first_from" = some (.ref fF)) (kF : PySem.W.keepIn K (.ref fF) = true) (bF : Binds K fdF ["row", "settings", "start", "place"] []) (GF : FnOk P w K mg base (L2N.CX P w) 5 fF fdF ["row", "settings", "start", "place"] (fun vs H Q E => spFF C vs H Q E ∨ spFFX K C CS CP CT vs H Q E))
    (gI : mg "cuts_within" = some (.ref fI)) (kI : PySem.W.keepIn K (.ref fI) = true) (bI : Binds K fdI ["row", "settings", "start", "low", "high"] []) (GI : FnOk P w K mg base (L2N.CX P w) 5 fI fdI ["row", "settings", "start", "low", "high"] (fun vs H Q E => spWithin C vs H Q E ∨ spWithinX K C CS CP CT vs H Q E))
    (gS : mg "settings_for" = some (.ref fS)) (kS : PySem.W.keepIn K (.ref fS) = true) (bS : Binds K fdS ["row", "cuts"] []) (GS : FnOk P w K mg base (L2N.CX P w) 5 fS fdS ["row", "cuts"] (fun vs H Q E => spSf C vs H Q E ∨ spSfX K C CC vs H Q E))
    (gX : mg "_law_word" = some (.ref fX)) (kX : PySem.W.keepIn K (.ref fX) = true) (bX : Binds K fdX ["e"] []) (GX : FnE P w K mg base CX0 2 fX fdX ["e"] (spWd K D0 D1 D2 D3 [.ref O0, .ref O1, .ref O2] CE)) :
    FnOk P w K mg base CX0 6 f fd ["way", "made", "three", "one", "two", "last"] (spTo K D0 D1 D2 D3 O0 O1 O2 CE C CS CP CT CC) := by
  refine F.ok scTo (fun vs H Q E h => ?_) (fun cdv A outer s H vs Q E hr h => ?_)
  · obtain ⟨_, _, _, _, _, _, _, rfl, _⟩ := h
    rfl
  · obtain ⟨way, v_made, v_three, v_one, v_two, v_last, o, rfl, TA, q⟩ := h
    refine ⟨_, (pss_cons (L2N.ps_try_as (ts := (fun a cls d => tRet (tWord K D0 D1 D2 D3 [.ref O0, .ref O1, .ref O2] CE a cls d (tCons (tVar 6) tNil)))) (i := 6) rfl rfl scTo.nd rfl rfl ⟨rfl, by decide, .inl EE.g⟩ takes0N (fun W pn xe tk _ => (pss_one (ps_if (pt_cmpR op_eq (pv 0) pe_int (nomark _)) (pss_one (ps_expr (pe_callS GN (hr.mono (by decide)) rfl gN kN bN (fun σ => L2N.passAt tk σ) (pa_cons (pv 1) (pa_cons (pv 2) (pa_cons (pv 3) pa_nil)))))) (pss_one (ps_if (pt_cmpR op_eq (pv 0) pe_int (nomark _)) (pss_one (ps_expr (pe_callS GW (hr.mono (by decide)) rfl gW kW bW (fun σ => L2N.passAt tk σ) (pa_cons (pv 1) (pa_cons (pv 2) (pa_cons (pv 3) pa_nil)))))) (pss_one (ps_if (pt_cmpR op_eq (pv 0) pe_int (nomark _)) (pss_one (ps_expr (pe_callS GF (hr.mono (by decide)) rfl gF kF bF (fun σ => L2N.passAt tk σ) (pa_cons (pv 1) (pa_cons (pv 2) (pa_cons (pv 3) (pa_cons (pv 4) pa_nil))))))) (pss_one (ps_if (pt_cmpR op_eq (pv 0) pe_int (nomark _)) (pss_one (ps_expr (pe_callS GI (hr.mono (by decide)) rfl gI kI bI (fun σ => L2N.passAt tk σ) (pa_cons (pv 1) (pa_cons (pv 2) (pa_cons (pv 3) (pa_cons (pv 4) (pa_cons (pv 5) pa_nil)))))))) (pss_one (ps_expr (pe_callS GS (hr.mono (by decide)) rfl gS kS bS (fun σ => L2N.passAt tk σ) (pa_cons (pv 1) (pa_cons (pv 2) pa_nil))))))))))))))
      (fun a oe cls d pn hz hf => (pss_one (ps_ret (pe_word GX (hr.mono (by decide)) hz hf (by rfl) gX kX bX (pa_cons (pv 6) pa_nil))))))
      (pss_one (ps_ret pe_str))), ?_⟩
    rcases TA with ⟨rfl, R⟩ | ⟨rfl, R⟩ | ⟨rfl, R⟩ | ⟨rfl, R⟩ | ⟨rfl, R⟩
    · refine ⟨_, rfl, rfl, _, rfl, ifT (dec_int.trans (by decide)) ?_⟩
      refine ⟨_, rfl, _, rfl, _, rfl, ?_⟩
      rcases R with ⟨rfl, R⟩ | ⟨D, j, rfl, W, R⟩
      · exact R _ _ fun v H' s1 => q H' s1
      · exact R _ _ fun H' s1 => told_word W fun a => ⟨_, rfl, D, j, rfl, rfl, rfl, W, fun H2 s2 => q H2 (s1.trans s2)⟩
    · refine ⟨_, rfl, rfl, _, rfl, ifF (dec_int.trans (by decide)) ?_⟩
      refine ⟨_, rfl, rfl, _, rfl, ifT (dec_int.trans (by decide)) ?_⟩
      refine ⟨_, rfl, _, rfl, _, rfl, ?_⟩
      rcases R with ⟨rfl, R⟩ | ⟨D, j, rfl, W, R⟩
      · exact R _ _ fun v H' s1 => q H' s1
      · exact R _ _ fun H' s1 => told_word W fun a => ⟨_, rfl, D, j, rfl, rfl, rfl, W, fun H2 s2 => q H2 (s1.trans s2)⟩
    · refine ⟨_, rfl, rfl, _, rfl, ifF (dec_int.trans (by decide)) ?_⟩
      refine ⟨_, rfl, rfl, _, rfl, ifF (dec_int.trans (by decide)) ?_⟩
      refine ⟨_, rfl, rfl, _, rfl, ifT (dec_int.trans (by decide)) ?_⟩
      refine ⟨_, rfl, _, rfl, _, rfl, _, rfl, ?_⟩
      rcases R with ⟨rfl, R⟩ | ⟨D, j, rfl, W, R⟩
      · exact R _ _ fun v H' s1 => q H' s1
      · exact R _ _ fun H' s1 => told_word W fun a => ⟨_, rfl, D, j, rfl, rfl, rfl, W, fun H2 s2 => q H2 (s1.trans s2)⟩
    · refine ⟨_, rfl, rfl, _, rfl, ifF (dec_int.trans (by decide)) ?_⟩
      refine ⟨_, rfl, rfl, _, rfl, ifF (dec_int.trans (by decide)) ?_⟩
      refine ⟨_, rfl, rfl, _, rfl, ifF (dec_int.trans (by decide)) ?_⟩
      refine ⟨_, rfl, rfl, _, rfl, ifT (dec_int.trans (by decide)) ?_⟩
      refine ⟨_, rfl, _, rfl, _, rfl, _, rfl, _, rfl, ?_⟩
      rcases R with ⟨rfl, R⟩ | ⟨D, j, rfl, W, R⟩
      · exact R _ _ fun v H' s1 => q H' s1
      · exact R _ _ fun H' s1 => told_word W fun a => ⟨_, rfl, D, j, rfl, rfl, rfl, W, fun H2 s2 => q H2 (s1.trans s2)⟩
    · refine ⟨_, rfl, rfl, _, rfl, ifF (dec_int.trans (by decide)) ?_⟩
      refine ⟨_, rfl, rfl, _, rfl, ifF (dec_int.trans (by decide)) ?_⟩
      refine ⟨_, rfl, rfl, _, rfl, ifF (dec_int.trans (by decide)) ?_⟩
      refine ⟨_, rfl, rfl, _, rfl, ifF (dec_int.trans (by decide)) ?_⟩
      refine ⟨_, rfl, _, rfl, ?_⟩
      rcases R with ⟨rfl, R⟩ | ⟨D, j, rfl, W, R⟩
      · exact R _ _ fun v H' s1 => q H' s1
      · exact R _ _ fun H' s1 => told_word W fun a => ⟨_, rfl, D, j, rfl, rfl, rfl, W, fun H2 s2 => q H2 (s1.trans s2)⟩
end
end Cw
namespace Cw
open PySem L2
abbrev sNs : Stmt := top 48
theorem all_nil {α : Type} {p : α → Prop} : ∀ x ∈ ([] : List α), p x := fun _ h => nomatch h
theorem all_cons {α : Type} {p : α → Prop} {a : α} {l : List α} (h : p a) (t : ∀ x ∈ l, p x) : ∀ x ∈ a :: l, p x := fun x hx => by
  rcases List.mem_cons.mp hx with rfl | hx
  · exact h
  · exact t x hx
theorem all_app {α : Type} {p : α → Prop} {l r : List α} (h : ∀ x ∈ l, p x) (t : ∀ x ∈ r, p x) : ∀ x ∈ l ++ r, p x := fun x hx => by
  rcases List.mem_append.mp hx with hx | hx
  · exact h x hx
  · exact t x hx
def spNs (K : PySem.W.Frag) : Sp := fun vs H Q _ => ∃ (t : Addr) (l m g : Int), vs = [.ref t] ∧ H t = some (.tup [.int l, .int m, .int g]) ∧ SetOk l m g ∧ ∀ (H' : Hp) (q : Addr) (xs : List V), Same H H' → H q = none → H' q = some (.lst xs) → (∀ x ∈ xs, BadS K H' x) → xs.length ≤ 100 → Q (.ref q) H'
theorem badS_lst {K : PySem.W.Frag} {H : Hp} {p : Addr} {xs : List V} (k : H p = some (.lst xs)) : BadS K H (.ref p) := .no ⟨.lst k, fun a ys e h => by
  cases e
  rw [k] at h
  cases h⟩
theorem badS_dct {K : PySem.W.Frag} {H : Hp} {p : Addr} {xs : List (Key × V)} (k : H p = some (.dK xs)) : BadS K H (.ref p) := .no ⟨.dct k, fun a ys e h => by
  cases e
  rw [k] at h
  cases h⟩
theorem badS_at {K : PySem.W.Frag} {H : Hp} {x : V} (t : Thg K H x) (n : ∀ a, x ≠ .ref a) : BadS K H x := .no ⟨t, fun a ys e => absurd e (n a)⟩
theorem badS_ord {K : PySem.W.Frag} {H : Hp} {p : Addr} {l m g : Int} (k : H p = some (.tup [.int l, .int m, .int g])) (n : l < 1 ∨ m < l ∨ g < m) : BadS K H (.ref p) := .ord k fun S => by
  have := S.l1
  have := S.lm
  have := S.mg
  omega
section
variable {P : Program} {w : World} {K : PySem.W.Frag} {mg : Str → Option Value} {base : Heap}
abbrev NNs : List Str := ["three", "least", "normal", "greatest", "found"]
theorem scNs : FnScope NNs ["three"] (defScope sNs) := ⟨rfl, rfl, rfl, by decide +kernel, rfl, by decide +kernel, by decide +kernel⟩
theorem ok_ns {f : Addr} {fd : FuncData} (F : Fun K "_law_no_settings" "_law_no_settings" sNs f fd) (T : Bl mg) :
    FnOk P w K mg base CX0 1 f fd ["three"] (spNs K) := by
  refine F.ok scNs (fun vs H Q E h => ?_) (fun cdv A outer s H vs Q E hr h => ?_)
  · obtain ⟨t, l, m, g, rfl, _⟩ := h
    rfl
  · obtain ⟨t, l, m, g, rfl, ht, S, q⟩ := h
    refine ⟨_, (pss_cons (ps_asg (pv 0) (pg_tup rfl (pgs_cons (pg_name (i := 1) scNs.nd rfl (Or.inl rfl)) (pgs_cons (pg_name (i := 2) scNs.nd rfl (Or.inl rfl)) (pgs_cons (pg_name (i := 3) scNs.nd rfl (Or.inl rfl)) pgs_nil)))))
        (pss_cons (ps_set (i := 4) scNs.nd rfl (Or.inl rfl) (pe_lst (pa_cons pe_non (pa_cons pe_int (pa_cons pe_bl (pa_cons pe_str (pa_cons pe_str (pa_cons (pe_lst pa_nil) (pa_cons pe_dnewK (pa_cons (pe_tup pa_nil) (pa_cons (pe_callTy call_list_of (by rfl) T.list (by decide +kernel) (pa_cons (pv 0) pa_nil)) (pa_cons (pe_slice sl_tup (pv 0) po_none (po_some pe_int)) (pa_cons (pe_op op_catT (pv 0) (pe_tup (pa_cons (pv 3) pa_nil))) (pa_cons (pe_tup (pa_cons (pv 0) pa_nil)) pa_nil))))))))))))))
        (pss_cons (ps_set (i := 4) scNs.nd rfl (Or.inl rfl) (pe_op op_cat (pv 4) (pe_lst (pa_cons (pe_tup (pa_cons pe_int (pa_cons (pv 2) (pa_cons (pv 3) pa_nil)))) (pa_cons (pe_tup (pa_cons (pe_un un_neg pe_int) (pa_cons (pv 2) (pa_cons (pv 3) pa_nil)))) (pa_cons (pe_tup (pa_cons (pe_op op_add (pv 2) pe_int) (pa_cons (pv 2) (pa_cons (pe_op op_add (pv 3) pe_int) pa_nil)))) pa_nil))))))
        (pss_cons (ps_set (i := 4) scNs.nd rfl (Or.inl rfl) (pe_op op_cat (pv 4) (pe_lst (pa_cons (pe_tup (pa_cons (pv 1) (pa_cons (pe_op op_add (pv 3) pe_int) (pa_cons (pv 3) pa_nil)))) (pa_cons (pe_tup (pa_cons (pv 1) (pa_cons (pv 2) (pa_cons (pe_op op_sub (pv 2) pe_int) pa_nil)))) (pa_cons (pe_tup (pa_cons pe_bl (pa_cons (pv 2) (pa_cons (pv 3) pa_nil)))) pa_nil))))))
        (pss_cons (ps_set (i := 4) scNs.nd rfl (Or.inl rfl) (pe_op op_cat (pv 4) (pe_lst (pa_cons (pe_tup (pa_cons pe_non (pa_cons (pv 2) (pa_cons (pv 3) pa_nil)))) (pa_cons (pe_tup (pa_cons (pv 1) (pa_cons pe_non (pa_cons (pv 3) pa_nil)))) (pa_cons (pe_tup (pa_cons (pv 1) (pa_cons (pv 2) (pa_cons pe_non pa_nil)))) pa_nil))))))
        (pss_one (ps_ret (pe_op op_cat (pv 4) (pe_lst (pa_cons (pe_tup (pa_cons pe_str (pa_cons (pv 2) (pa_cons (pv 3) pa_nil)))) (pa_cons (pe_tup (pa_cons (pv 1) (pa_cons (pv 2) (pa_cons (pe_tup (pa_cons (pv 3) pa_nil)) pa_nil)))) (pa_cons (pe_tup (pa_cons pe_int (pa_cons pe_bl (pa_cons (pv 3) pa_nil)))) (pa_cons (pe_tup (pa_cons pe_int (pa_cons pe_int (pa_cons pe_bl pa_nil)))) pa_nil))))))))))))), ?_⟩
    have s0 := Same.refl H
    have hl1 := S.l1
    have hlm := S.lm
    have hmg := S.mg
    refine ⟨_, rfl, t, _, rfl, SqT.of ht, rfl, _, _, rfl, _, _, rfl, _, _, rfl, rfl, ?_⟩
    try dsimp only [L2.start, List.set, List.map, List.append, List.replicate, List.length]
    refine ⟨(Nat.zero_le _), fun Np1 hNp1 => ?_⟩
    have sNp1 := same_new (o := (.lst [])) (Same.refl H) hNp1
    have ht := sNp1 _ _ ht
    have s0 := s0.trans sNp1
    have kNp1 : upd H Np1 (.lst []) Np1 = some (.lst []) := upd_same
    generalize upd H Np1 (.lst []) = N1 at sNp1 ht s0 kNp1 ⊢
    refine fun Np2 hNp2 => ?_
    have sNp2 := same_new (o := (.dK [])) (Same.refl N1) hNp2
    have ht := sNp2 _ _ ht
    have s0 := s0.trans sNp2
    have kNp2 : upd N1 Np2 (.dK []) Np2 = some (.dK []) := upd_same
    generalize upd N1 Np2 (.dK []) = N2 at sNp2 ht s0 kNp2 ⊢
    refine ⟨(Nat.zero_le _), fun Np3 hNp3 => ?_⟩
    have sNp3 := same_new (o := (.tup [])) (Same.refl N2) hNp3
    have ht := sNp3 _ _ ht
    have s0 := s0.trans sNp3
    have kNp3 : upd N2 Np3 (.tup []) Np3 = some (.tup []) := upd_same
    generalize upd N2 Np3 (.tup []) = N3 at sNp3 ht s0 kNp3 ⊢
    refine ⟨_, rfl, _, _, rfl, .inr (SqT.of ht), fun Np4 hNp4 => ?_⟩
    have sNp4 := same_new (o := (.lst [.int l, .int m, .int g])) (Same.refl N3) hNp4
    have ht := sNp4 _ _ ht
    have s0 := s0.trans sNp4
    have kNp4 : upd N3 Np4 (.lst [.int l, .int m, .int g]) Np4 = some (.lst [.int l, .int m, .int g]) := upd_same
    generalize upd N3 Np4 (.lst [.int l, .int m, .int g]) = N4 at sNp4 ht s0 kNp4 ⊢
    refine ⟨_, rfl, _, rfl, _, _, rfl, SqT.of ht, (by show ¬ (0 = 0 ∧ 2 = 3); decide), fun Np5 hNp5 => ?_⟩
    rw [show cutV [.int l, .int m, .int g] none (some 2) = [.int l, .int m] from rfl]
    have sNp5 := same_new (o := (.tup [.int l, .int m])) (Same.refl N4) hNp5
    have ht := sNp5 _ _ ht
    have s0 := s0.trans sNp5
    have kNp5 : upd N4 Np5 (.tup [.int l, .int m]) Np5 = some (.tup [.int l, .int m]) := upd_same
    generalize upd N4 Np5 (.tup [.int l, .int m]) = N5 at sNp5 ht s0 kNp5 ⊢
    refine ⟨_, rfl, _, rfl, (small1000 (by show (0 : Nat) ≤ 1000; decide)), fun Np6 hNp6 => ?_⟩
    have sNp6 := same_new (o := (.tup [.int g])) (Same.refl N5) hNp6
    have ht := sNp6 _ _ ht
    have s0 := s0.trans sNp6
    have kNp6 : upd N5 Np6 (.tup [.int g]) Np6 = some (.tup [.int g]) := upd_same
    generalize upd N5 Np6 (.tup [.int g]) = N6 at sNp6 ht s0 kNp6 ⊢
    refine ⟨_, _, _, _, rfl, rfl, SqT.of ht, SqT.of kNp6, (fun z => nomatch z), (small1000 (by show (3 : Nat) ≤ 1000; decide)), (fun z => nomatch z), fun _ => ?_⟩
    refine fun Np7 hNp7 => ?_
    have sNp7 := same_new (o := (.tup ([.int l, .int m, .int g] ++ [.int g]))) (Same.refl N6) hNp7
    have ht := sNp7 _ _ ht
    have s0 := s0.trans sNp7
    have kNp7 : upd N6 Np7 (.tup ([.int l, .int m, .int g] ++ [.int g])) Np7 = some (.tup ([.int l, .int m, .int g] ++ [.int g])) := upd_same
    generalize upd N6 Np7 (.tup ([.int l, .int m, .int g] ++ [.int g])) = N7 at sNp7 ht s0 kNp7 ⊢
    refine ⟨_, rfl, (small1000 (by show (0 : Nat) ≤ 1000; decide)), fun Np8 hNp8 => ?_⟩
    have sNp8 := same_new (o := (.tup [.ref t])) (Same.refl N7) hNp8
    have ht := sNp8 _ _ ht
    have s0 := s0.trans sNp8
    have kNp8 : upd N7 Np8 (.tup [.ref t]) Np8 = some (.tup [.ref t]) := upd_same
    generalize upd N7 Np8 (.tup [.ref t]) = N8 at sNp8 ht s0 kNp8 ⊢
    refine ⟨(small1000 (by show (11 : Nat) ≤ 1000; decide)), fun Np9 hNp9 => ?_⟩
    have sNp9 := same_new (o := (.lst [.non, .int 0, .bl true, .str "", .str "2-4-5", .ref Np1, .ref Np2, .ref Np3, .ref Np4, .ref Np5, .ref Np7, .ref Np8])) (Same.refl N8) hNp9
    have ht := sNp9 _ _ ht
    have s0 := s0.trans sNp9
    have kNp9 : upd N8 Np9 (.lst [.non, .int 0, .bl true, .str "", .str "2-4-5", .ref Np1, .ref Np2, .ref Np3, .ref Np4, .ref Np5, .ref Np7, .ref Np8]) Np9 = some (.lst [.non, .int 0, .bl true, .str "", .str "2-4-5", .ref Np1, .ref Np2, .ref Np3, .ref Np4, .ref Np5, .ref Np7, .ref Np8]) := upd_same
    generalize upd N8 Np9 (.lst [.non, .int 0, .bl true, .str "", .str "2-4-5", .ref Np1, .ref Np2, .ref Np3, .ref Np4, .ref Np5, .ref Np7, .ref Np8]) = N9 at sNp9 ht s0 kNp9 ⊢
    try dsimp only [L2.start, List.set, List.map, List.append, List.replicate, List.length]
    refine ⟨_, rfl, _, rfl, _, rfl, (small1000 (by show (2 : Nat) ≤ 1000; decide)), fun Np10 hNp10 => ?_⟩
    have sNp10 := same_new (o := (.tup [.int 0, .int m, .int g])) (Same.refl N9) hNp10
    have ht := sNp10 _ _ ht
    have s0 := s0.trans sNp10
    have kNp10 : upd N9 Np10 (.tup [.int 0, .int m, .int g]) Np10 = some (.tup [.int 0, .int m, .int g]) := upd_same
    generalize upd N9 Np10 (.tup [.int 0, .int m, .int g]) = N10 at sNp10 ht s0 kNp10 ⊢
    refine ⟨_, rfl, _, rfl, _, rfl, (small1000 (by show (2 : Nat) ≤ 1000; decide)), fun Np11 hNp11 => ?_⟩
    have sNp11 := same_new (o := (.tup [.int (-1), .int m, .int g])) (Same.refl N10) hNp11
    have ht := sNp11 _ _ ht
    have s0 := s0.trans sNp11
    have kNp11 : upd N10 Np11 (.tup [.int (-1), .int m, .int g]) Np11 = some (.tup [.int (-1), .int m, .int g]) := upd_same
    generalize upd N10 Np11 (.tup [.int (-1), .int m, .int g]) = N11 at sNp11 ht s0 kNp11 ⊢
    refine ⟨_, rfl, _, _, rfl, rfl, _, rfl, _, rfl, _, _, rfl, rfl, (small1000 (by show (2 : Nat) ≤ 1000; decide)), fun Np12 hNp12 => ?_⟩
    have sNp12 := same_new (o := (.tup [.int (m + 1), .int m, .int (g + 1)])) (Same.refl N11) hNp12
    have ht := sNp12 _ _ ht
    have s0 := s0.trans sNp12
    have kNp12 : upd N11 Np12 (.tup [.int (m + 1), .int m, .int (g + 1)]) Np12 = some (.tup [.int (m + 1), .int m, .int (g + 1)]) := upd_same
    generalize upd N11 Np12 (.tup [.int (m + 1), .int m, .int (g + 1)]) = N12 at sNp12 ht s0 kNp12 ⊢
    refine ⟨(small1000 (by show (2 : Nat) ≤ 1000; decide)), fun Np13 hNp13 => ?_⟩
    have sNp13 := same_new (o := (.lst [.ref Np10, .ref Np11, .ref Np12])) (Same.refl N12) hNp13
    have ht := sNp13 _ _ ht
    have s0 := s0.trans sNp13
    have kNp13 : upd N12 Np13 (.lst [.ref Np10, .ref Np11, .ref Np12]) Np13 = some (.lst [.ref Np10, .ref Np11, .ref Np12]) := upd_same
    generalize upd N12 Np13 (.lst [.ref Np10, .ref Np11, .ref Np12]) = N13 at sNp13 ht s0 kNp13 ⊢
    refine ⟨_, _, _, _, rfl, rfl, (sNp13 _ _ (sNp12 _ _ (sNp11 _ _ (sNp10 _ _ kNp9)))), kNp13, (small1000 (by show (14 : Nat) ≤ 1000; decide)), fun Np14 hNp14 => ?_⟩
    have sNp14 := same_new (o := (.lst ([.non, .int 0, .bl true, .str "", .str "2-4-5", .ref Np1, .ref Np2, .ref Np3, .ref Np4, .ref Np5, .ref Np7, .ref Np8] ++ [.ref Np10, .ref Np11, .ref Np12]))) (Same.refl N13) hNp14
    have ht := sNp14 _ _ ht
    have s0 := s0.trans sNp14
    have kNp14 : upd N13 Np14 (.lst ([.non, .int 0, .bl true, .str "", .str "2-4-5", .ref Np1, .ref Np2, .ref Np3, .ref Np4, .ref Np5, .ref Np7, .ref Np8] ++ [.ref Np10, .ref Np11, .ref Np12])) Np14 = some (.lst ([.non, .int 0, .bl true, .str "", .str "2-4-5", .ref Np1, .ref Np2, .ref Np3, .ref Np4, .ref Np5, .ref Np7, .ref Np8] ++ [.ref Np10, .ref Np11, .ref Np12])) := upd_same
    generalize upd N13 Np14 (.lst ([.non, .int 0, .bl true, .str "", .str "2-4-5", .ref Np1, .ref Np2, .ref Np3, .ref Np4, .ref Np5, .ref Np7, .ref Np8] ++ [.ref Np10, .ref Np11, .ref Np12])) = N14 at sNp14 ht s0 kNp14 ⊢
    try dsimp only [L2.start, List.set, List.map, List.append, List.replicate, List.length]
    refine ⟨_, rfl, _, rfl, _, rfl, _, _, rfl, rfl, _, rfl, (small1000 (by show (2 : Nat) ≤ 1000; decide)), fun Np15 hNp15 => ?_⟩
    have sNp15 := same_new (o := (.tup [.int l, .int (g + 1), .int g])) (Same.refl N14) hNp15
    have ht := sNp15 _ _ ht
    have s0 := s0.trans sNp15
    have kNp15 : upd N14 Np15 (.tup [.int l, .int (g + 1), .int g]) Np15 = some (.tup [.int l, .int (g + 1), .int g]) := upd_same
    generalize upd N14 Np15 (.tup [.int l, .int (g + 1), .int g]) = N15 at sNp15 ht s0 kNp15 ⊢
    refine ⟨_, rfl, _, rfl, _, rfl, _, _, rfl, rfl, (small1000 (by show (2 : Nat) ≤ 1000; decide)), fun Np16 hNp16 => ?_⟩
    have sNp16 := same_new (o := (.tup [.int l, .int m, .int (m - 1)])) (Same.refl N15) hNp16
    have ht := sNp16 _ _ ht
    have s0 := s0.trans sNp16
    have kNp16 : upd N15 Np16 (.tup [.int l, .int m, .int (m - 1)]) Np16 = some (.tup [.int l, .int m, .int (m - 1)]) := upd_same
    generalize upd N15 Np16 (.tup [.int l, .int m, .int (m - 1)]) = N16 at sNp16 ht s0 kNp16 ⊢
    refine ⟨_, rfl, _, rfl, (small1000 (by show (2 : Nat) ≤ 1000; decide)), fun Np17 hNp17 => ?_⟩
    have sNp17 := same_new (o := (.tup [.bl true, .int m, .int g])) (Same.refl N16) hNp17
    have ht := sNp17 _ _ ht
    have s0 := s0.trans sNp17
    have kNp17 : upd N16 Np17 (.tup [.bl true, .int m, .int g]) Np17 = some (.tup [.bl true, .int m, .int g]) := upd_same
    generalize upd N16 Np17 (.tup [.bl true, .int m, .int g]) = N17 at sNp17 ht s0 kNp17 ⊢
    refine ⟨(small1000 (by show (2 : Nat) ≤ 1000; decide)), fun Np18 hNp18 => ?_⟩
    have sNp18 := same_new (o := (.lst [.ref Np15, .ref Np16, .ref Np17])) (Same.refl N17) hNp18
    have ht := sNp18 _ _ ht
    have s0 := s0.trans sNp18
    have kNp18 : upd N17 Np18 (.lst [.ref Np15, .ref Np16, .ref Np17]) Np18 = some (.lst [.ref Np15, .ref Np16, .ref Np17]) := upd_same
    generalize upd N17 Np18 (.lst [.ref Np15, .ref Np16, .ref Np17]) = N18 at sNp18 ht s0 kNp18 ⊢
    refine ⟨_, _, _, _, rfl, rfl, (sNp18 _ _ (sNp17 _ _ (sNp16 _ _ (sNp15 _ _ kNp14)))), kNp18, (small1000 (by show (17 : Nat) ≤ 1000; decide)), fun Np19 hNp19 => ?_⟩
    have sNp19 := same_new (o := (.lst (([.non, .int 0, .bl true, .str "", .str "2-4-5", .ref Np1, .ref Np2, .ref Np3, .ref Np4, .ref Np5, .ref Np7, .ref Np8] ++ [.ref Np10, .ref Np11, .ref Np12]) ++ [.ref Np15, .ref Np16, .ref Np17]))) (Same.refl N18) hNp19
    have ht := sNp19 _ _ ht
    have s0 := s0.trans sNp19
    have kNp19 : upd N18 Np19 (.lst (([.non, .int 0, .bl true, .str "", .str "2-4-5", .ref Np1, .ref Np2, .ref Np3, .ref Np4, .ref Np5, .ref Np7, .ref Np8] ++ [.ref Np10, .ref Np11, .ref Np12]) ++ [.ref Np15, .ref Np16, .ref Np17])) Np19 = some (.lst (([.non, .int 0, .bl true, .str "", .str "2-4-5", .ref Np1, .ref Np2, .ref Np3, .ref Np4, .ref Np5, .ref Np7, .ref Np8] ++ [.ref Np10, .ref Np11, .ref Np12]) ++ [.ref Np15, .ref Np16, .ref Np17])) := upd_same
    generalize upd N18 Np19 (.lst (([.non, .int 0, .bl true, .str "", .str "2-4-5", .ref Np1, .ref Np2, .ref Np3, .ref Np4, .ref Np5, .ref Np7, .ref Np8] ++ [.ref Np10, .ref Np11, .ref Np12]) ++ [.ref Np15, .ref Np16, .ref Np17])) = N19 at sNp19 ht s0 kNp19 ⊢
    try dsimp only [L2.start, List.set, List.map, List.append, List.replicate, List.length]
    refine ⟨_, rfl, _, rfl, _, rfl, (small1000 (by show (2 : Nat) ≤ 1000; decide)), fun Np20 hNp20 => ?_⟩
    have sNp20 := same_new (o := (.tup [.non, .int m, .int g])) (Same.refl N19) hNp20
    have ht := sNp20 _ _ ht
    have s0 := s0.trans sNp20
    have kNp20 : upd N19 Np20 (.tup [.non, .int m, .int g]) Np20 = some (.tup [.non, .int m, .int g]) := upd_same
    generalize upd N19 Np20 (.tup [.non, .int m, .int g]) = N20 at sNp20 ht s0 kNp20 ⊢
    refine ⟨_, rfl, _, rfl, (small1000 (by show (2 : Nat) ≤ 1000; decide)), fun Np21 hNp21 => ?_⟩
    have sNp21 := same_new (o := (.tup [.int l, .non, .int g])) (Same.refl N20) hNp21
    have ht := sNp21 _ _ ht
    have s0 := s0.trans sNp21
    have kNp21 : upd N20 Np21 (.tup [.int l, .non, .int g]) Np21 = some (.tup [.int l, .non, .int g]) := upd_same
    generalize upd N20 Np21 (.tup [.int l, .non, .int g]) = N21 at sNp21 ht s0 kNp21 ⊢
    refine ⟨_, rfl, _, rfl, (small1000 (by show (2 : Nat) ≤ 1000; decide)), fun Np22 hNp22 => ?_⟩
    have sNp22 := same_new (o := (.tup [.int l, .int m, .non])) (Same.refl N21) hNp22
    have ht := sNp22 _ _ ht
    have s0 := s0.trans sNp22
    have kNp22 : upd N21 Np22 (.tup [.int l, .int m, .non]) Np22 = some (.tup [.int l, .int m, .non]) := upd_same
    generalize upd N21 Np22 (.tup [.int l, .int m, .non]) = N22 at sNp22 ht s0 kNp22 ⊢
    refine ⟨(small1000 (by show (2 : Nat) ≤ 1000; decide)), fun Np23 hNp23 => ?_⟩
    have sNp23 := same_new (o := (.lst [.ref Np20, .ref Np21, .ref Np22])) (Same.refl N22) hNp23
    have ht := sNp23 _ _ ht
    have s0 := s0.trans sNp23
    have kNp23 : upd N22 Np23 (.lst [.ref Np20, .ref Np21, .ref Np22]) Np23 = some (.lst [.ref Np20, .ref Np21, .ref Np22]) := upd_same
    generalize upd N22 Np23 (.lst [.ref Np20, .ref Np21, .ref Np22]) = N23 at sNp23 ht s0 kNp23 ⊢
    refine ⟨_, _, _, _, rfl, rfl, (sNp23 _ _ (sNp22 _ _ (sNp21 _ _ (sNp20 _ _ kNp19)))), kNp23, (small1000 (by show (20 : Nat) ≤ 1000; decide)), fun Np24 hNp24 => ?_⟩
    have sNp24 := same_new (o := (.lst ((([.non, .int 0, .bl true, .str "", .str "2-4-5", .ref Np1, .ref Np2, .ref Np3, .ref Np4, .ref Np5, .ref Np7, .ref Np8] ++ [.ref Np10, .ref Np11, .ref Np12]) ++ [.ref Np15, .ref Np16, .ref Np17]) ++ [.ref Np20, .ref Np21, .ref Np22]))) (Same.refl N23) hNp24
    have ht := sNp24 _ _ ht
    have s0 := s0.trans sNp24
    have kNp24 : upd N23 Np24 (.lst ((([.non, .int 0, .bl true, .str "", .str "2-4-5", .ref Np1, .ref Np2, .ref Np3, .ref Np4, .ref Np5, .ref Np7, .ref Np8] ++ [.ref Np10, .ref Np11, .ref Np12]) ++ [.ref Np15, .ref Np16, .ref Np17]) ++ [.ref Np20, .ref Np21, .ref Np22])) Np24 = some (.lst ((([.non, .int 0, .bl true, .str "", .str "2-4-5", .ref Np1, .ref Np2, .ref Np3, .ref Np4, .ref Np5, .ref Np7, .ref Np8] ++ [.ref Np10, .ref Np11, .ref Np12]) ++ [.ref Np15, .ref Np16, .ref Np17]) ++ [.ref Np20, .ref Np21, .ref Np22])) := upd_same
    generalize upd N23 Np24 (.lst ((([.non, .int 0, .bl true, .str "", .str "2-4-5", .ref Np1, .ref Np2, .ref Np3, .ref Np4, .ref Np5, .ref Np7, .ref Np8] ++ [.ref Np10, .ref Np11, .ref Np12]) ++ [.ref Np15, .ref Np16, .ref Np17]) ++ [.ref Np20, .ref Np21, .ref Np22])) = N24 at sNp24 ht s0 kNp24 ⊢
    try dsimp only [L2.start, List.set, List.map, List.append, List.replicate, List.length]
    refine ⟨_, rfl, _, rfl, _, rfl, (small1000 (by show (2 : Nat) ≤ 1000; decide)), fun Np25 hNp25 => ?_⟩
    have sNp25 := same_new (o := (.tup [.str "1", .int m, .int g])) (Same.refl N24) hNp25
    have ht := sNp25 _ _ ht
    have s0 := s0.trans sNp25
    have kNp25 : upd N24 Np25 (.tup [.str "1", .int m, .int g]) Np25 = some (.tup [.str "1", .int m, .int g]) := upd_same
    generalize upd N24 Np25 (.tup [.str "1", .int m, .int g]) = N25 at sNp25 ht s0 kNp25 ⊢
    refine ⟨_, rfl, _, rfl, _, rfl, (small1000 (by show (0 : Nat) ≤ 1000; decide)), fun Np26 hNp26 => ?_⟩
    have sNp26 := same_new (o := (.tup [.int g])) (Same.refl N25) hNp26
    have ht := sNp26 _ _ ht
    have s0 := s0.trans sNp26
    have kNp26 : upd N25 Np26 (.tup [.int g]) Np26 = some (.tup [.int g]) := upd_same
    generalize upd N25 Np26 (.tup [.int g]) = N26 at sNp26 ht s0 kNp26 ⊢
    refine ⟨(small1000 (by show (2 : Nat) ≤ 1000; decide)), fun Np27 hNp27 => ?_⟩
    have sNp27 := same_new (o := (.tup [.int l, .int m, .ref Np26])) (Same.refl N26) hNp27
    have ht := sNp27 _ _ ht
    have s0 := s0.trans sNp27
    have kNp27 : upd N26 Np27 (.tup [.int l, .int m, .ref Np26]) Np27 = some (.tup [.int l, .int m, .ref Np26]) := upd_same
    generalize upd N26 Np27 (.tup [.int l, .int m, .ref Np26]) = N27 at sNp27 ht s0 kNp27 ⊢
    refine ⟨_, rfl, (small1000 (by show (2 : Nat) ≤ 1000; decide)), fun Np28 hNp28 => ?_⟩
    have sNp28 := same_new (o := (.tup [.int 1, .bl true, .int g])) (Same.refl N27) hNp28
    have ht := sNp28 _ _ ht
    have s0 := s0.trans sNp28
    have kNp28 : upd N27 Np28 (.tup [.int 1, .bl true, .int g]) Np28 = some (.tup [.int 1, .bl true, .int g]) := upd_same
    generalize upd N27 Np28 (.tup [.int 1, .bl true, .int g]) = N28 at sNp28 ht s0 kNp28 ⊢
    refine ⟨(small1000 (by show (2 : Nat) ≤ 1000; decide)), fun Np29 hNp29 => ?_⟩
    have sNp29 := same_new (o := (.tup [.int 1, .int 1, .bl true])) (Same.refl N28) hNp29
    have ht := sNp29 _ _ ht
    have s0 := s0.trans sNp29
    have kNp29 : upd N28 Np29 (.tup [.int 1, .int 1, .bl true]) Np29 = some (.tup [.int 1, .int 1, .bl true]) := upd_same
    generalize upd N28 Np29 (.tup [.int 1, .int 1, .bl true]) = N29 at sNp29 ht s0 kNp29 ⊢
    refine ⟨(small1000 (by show (3 : Nat) ≤ 1000; decide)), fun Np30 hNp30 => ?_⟩
    have sNp30 := same_new (o := (.lst [.ref Np25, .ref Np27, .ref Np28, .ref Np29])) (Same.refl N29) hNp30
    have ht := sNp30 _ _ ht
    have s0 := s0.trans sNp30
    have kNp30 : upd N29 Np30 (.lst [.ref Np25, .ref Np27, .ref Np28, .ref Np29]) Np30 = some (.lst [.ref Np25, .ref Np27, .ref Np28, .ref Np29]) := upd_same
    generalize upd N29 Np30 (.lst [.ref Np25, .ref Np27, .ref Np28, .ref Np29]) = N30 at sNp30 ht s0 kNp30 ⊢
    refine ⟨_, _, _, _, rfl, rfl, (sNp30 _ _ (sNp29 _ _ (sNp28 _ _ (sNp27 _ _ (sNp26 _ _ (sNp25 _ _ kNp24)))))), kNp30, (small1000 (by show (24 : Nat) ≤ 1000; decide)), fun Np31 hNp31 => ?_⟩
    have s0p := s0
    have sNp31 := same_new (o := (.lst (((([.non, .int 0, .bl true, .str "", .str "2-4-5", .ref Np1, .ref Np2, .ref Np3, .ref Np4, .ref Np5, .ref Np7, .ref Np8] ++ [.ref Np10, .ref Np11, .ref Np12]) ++ [.ref Np15, .ref Np16, .ref Np17]) ++ [.ref Np20, .ref Np21, .ref Np22]) ++ [.ref Np25, .ref Np27, .ref Np28, .ref Np29]))) (Same.refl N30) hNp31
    have ht := sNp31 _ _ ht
    have s0 := s0.trans sNp31
    have kNp31 : upd N30 Np31 (.lst (((([.non, .int 0, .bl true, .str "", .str "2-4-5", .ref Np1, .ref Np2, .ref Np3, .ref Np4, .ref Np5, .ref Np7, .ref Np8] ++ [.ref Np10, .ref Np11, .ref Np12]) ++ [.ref Np15, .ref Np16, .ref Np17]) ++ [.ref Np20, .ref Np21, .ref Np22]) ++ [.ref Np25, .ref Np27, .ref Np28, .ref Np29])) Np31 = some (.lst (((([.non, .int 0, .bl true, .str "", .str "2-4-5", .ref Np1, .ref Np2, .ref Np3, .ref Np4, .ref Np5, .ref Np7, .ref Np8] ++ [.ref Np10, .ref Np11, .ref Np12]) ++ [.ref Np15, .ref Np16, .ref Np17]) ++ [.ref Np20, .ref Np21, .ref Np22]) ++ [.ref Np25, .ref Np27, .ref Np28, .ref Np29])) := upd_same
    generalize upd N30 Np31 (.lst (((([.non, .int 0, .bl true, .str "", .str "2-4-5", .ref Np1, .ref Np2, .ref Np3, .ref Np4, .ref Np5, .ref Np7, .ref Np8] ++ [.ref Np10, .ref Np11, .ref Np12]) ++ [.ref Np15, .ref Np16, .ref Np17]) ++ [.ref Np20, .ref Np21, .ref Np22]) ++ [.ref Np25, .ref Np27, .ref Np28, .ref Np29])) = N31 at sNp31 ht s0 kNp31 ⊢
    have TNp31 := Same.refl N31
    have TNp30 := sNp31.trans TNp31
    have TNp29 := sNp30.trans TNp30
    have TNp28 := sNp29.trans TNp29
    have TNp27 := sNp28.trans TNp28
    have TNp26 := sNp27.trans TNp27
    have TNp25 := sNp26.trans TNp26
    have TNp24 := sNp25.trans TNp25
    have TNp23 := sNp24.trans TNp24
    have TNp22 := sNp23.trans TNp23
    have TNp21 := sNp22.trans TNp22
    have TNp20 := sNp21.trans TNp21
    have TNp19 := sNp20.trans TNp20
    have TNp18 := sNp19.trans TNp19
    have TNp17 := sNp18.trans TNp18
    have TNp16 := sNp17.trans TNp17
    have TNp15 := sNp16.trans TNp16
    have TNp14 := sNp15.trans TNp15
    have TNp13 := sNp14.trans TNp14
    have TNp12 := sNp13.trans TNp13
    have TNp11 := sNp12.trans TNp12
    have TNp10 := sNp11.trans TNp11
    have TNp9 := sNp10.trans TNp10
    have TNp8 := sNp9.trans TNp9
    have TNp7 := sNp8.trans TNp8
    have TNp6 := sNp7.trans TNp7
    have TNp5 := sNp6.trans TNp6
    have TNp4 := sNp5.trans TNp5
    have TNp3 := sNp4.trans TNp4
    have TNp2 := sNp3.trans TNp3
    have TNp1 := sNp2.trans TNp2
    refine q N31 Np31 _ s0 (Same.free (H' := N30) (s0p) hNp31) kNp31 ?_ (by show 25 ≤ 100; decide)
    exact (all_app (all_app (all_app (all_app (all_cons (badS_at .non (fun _ z => nomatch z)) (all_cons (badS_at (.int _) (fun _ z => nomatch z)) (all_cons (badS_at (.bl _) (fun _ z => nomatch z)) (all_cons (badS_at (.str _) (fun _ z => nomatch z)) (all_cons (badS_at (.str _) (fun _ z => nomatch z)) (all_cons ((badS_lst kNp1).same TNp1) (all_cons ((badS_dct kNp2).same TNp2) (all_cons ((BadS.len kNp3 (by show 0 ≠ 3; decide)).same TNp3) (all_cons ((badS_lst kNp4).same TNp4) (all_cons ((BadS.len kNp5 (by show 2 ≠ 3; decide)).same TNp5) (all_cons ((BadS.len kNp7 (by show 4 ≠ 3; decide)).same TNp7) (all_cons ((BadS.len kNp8 (by show 1 ≠ 3; decide)).same TNp8) all_nil)))))))))))) (all_cons ((badS_ord kNp10 (by omega)).same TNp10) (all_cons ((badS_ord kNp11 (by omega)).same TNp11) (all_cons ((badS_ord kNp12 (by omega)).same TNp12) all_nil)))) (all_cons ((badS_ord kNp15 (by omega)).same TNp15) (all_cons ((badS_ord kNp16 (by omega)).same TNp16) (all_cons ((BadS.odd kNp17 (.bl _) (.int _) (.int _) rfl).same TNp17) all_nil)))) (all_cons ((BadS.odd kNp20 .non (.int _) (.int _) rfl).same TNp20) (all_cons ((BadS.odd kNp21 (.int _) .non (.int _) rfl).same TNp21) (all_cons ((BadS.odd kNp22 (.int _) (.int _) .non rfl).same TNp22) all_nil)))) (all_cons ((BadS.odd kNp25 (.str _) (.int _) (.int _) rfl).same TNp25) (all_cons ((BadS.odd kNp27 (.int _) (.int _) ((Thg.tup kNp26).same (sNp27)) rfl).same TNp27) (all_cons ((BadS.odd kNp28 (.int _) (.bl _) (.int _) rfl).same TNp28) (all_cons ((BadS.odd kNp29 (.int _) (.int _) (.bl _) rfl).same TNp29) all_nil)))))
end
end Cw
namespace Cw
open PySem L2
abbrev sSr : Stmt := top 49
theorem pick3 {x y w v : Int} (v0 : 0 ≤ v) (v1 : v < 3) : ∃ z, (z = x ∨ z = y ∨ z = w) ∧ atI [V.int x, V.int y, V.int w] v = some (.int z) := by
  by_cases e0 : v = 0
  · exact ⟨x, .inl rfl, at_of2 (j := 0) e0 rfl⟩
  · by_cases e1 : v = 1
    · exact ⟨y, .inr (.inl rfl), at_of2 (j := 1) e1 rfl⟩
    · exact ⟨w, .inr (.inr rfl), at_of2 (j := 2) (by omega) rfl⟩
theorem pick2 {x y v : Int} (v0 : 0 ≤ v) (v1 : v < 2) : ∃ z, (z = x ∨ z = y) ∧ atI [V.int x, V.int y] v = some (.int z) := by
  by_cases e0 : v = 0
  · exact ⟨x, .inl rfl, at_of2 (j := 0) e0 rfl⟩
  · exact ⟨y, .inr rfl, at_of2 (j := 1) (by omega) rfl⟩
theorem dp_strs {K : PySem.W.Frag} {H : Hp} : ∀ ws : List Str, DpAll K H (ws.map V.str) (ws.map PyData.str)
  | [] => .nil
  | x :: ws => .cons (.str x) (dp_strs ws)
theorem dp_strL {K : PySem.W.Frag} {H : Hp} {p : Addr} {ws : List Str} (h : H p = some (.lst (ws.map V.str))) : Dp K H (.ref p) (.list (ws.map PyData.str)) := .lst (SqL.of h) (dp_strs ws)
theorem Thg.but {K : PySem.W.Frag} {H H' : Hp} {j : Addr} {k k' : Nat} {x : V} (h : Thg K H x) (J : JarAt H j k) (J' : JarAt H' j k') (B : But H H' j) : Thg K H' x := by
  obtain ⟨_, _, _, e0, _⟩ := J
  obtain ⟨_, _, _, e1, _⟩ := J'
  have ne : ∀ {a : Addr} {o : HO}, H a = some o → (∀ xs, o ≠ .lst xs) → a ≠ j := fun ea no z => by
    subst z
    rw [e0] at ea
    cases ea
    exact no _ rfl
  cases h with
  | non => exact .non
  | bl b => exact .bl b
  | int i => exact .int i
  | str s => exact .str s
  | @lst a xs e =>
    by_cases c : a = j
    · subst c
      exact .lst e1
    · exact .lst (B _ _ e c)
  | tup e => exact .tup (B _ _ e (ne e fun _ z => nomatch z))
  | dct e => exact .dct (B _ _ e (ne e fun _ z => nomatch z))
  | ins e i b l t m => exact .ins (B _ _ e (ne e fun _ z => nomatch z)) i b l t m
theorem BadS.but {K : PySem.W.Frag} {H H' : Hp} {j : Addr} {k k' : Nat} {x : V} (h : BadS K H x) (J : JarAt H j k) (J' : JarAt H' j k') (B : But H H' j) : BadS K H' x := by
  have J0 := J
  have J1 := J'
  obtain ⟨_, _, _, e0, _⟩ := J
  obtain ⟨_, _, _, e1, _⟩ := J'
  have ne : ∀ {a : Addr} {o : HO}, H a = some o → (∀ xs, o ≠ .lst xs) → a ≠ j := fun ea no z => by
    subst z
    rw [e0] at ea
    cases ea
    exact no _ rfl
  cases h with
  | no n =>
    obtain ⟨t, n⟩ := n
    refine .no ⟨t.but J0 J1 B, fun a xs e h => ?_⟩
    cases t with
    | lst e2 =>
      cases e
      by_cases c : a = j
      · subst c
        rw [e1] at h
        cases h
      · rw [B _ _ e2 c] at h
        cases h
    | tup e2 =>
      cases e
      exact n _ _ rfl e2
    | dct e2 =>
      cases e
      rw [B _ _ e2 (ne e2 fun _ z => nomatch z)] at h
      cases h
    | ins e2 =>
      cases e
      rw [B _ _ e2 (ne e2 fun _ z => nomatch z)] at h
      cases h
    | _ => cases e
  | len e n => exact .len (B _ _ e (ne e fun _ z => nomatch z)) n
  | odd e tx ty tz n => exact .odd (B _ _ e (ne e fun _ z => nomatch z)) (tx.but J0 J1 B) (ty.but J0 J1 B) (tz.but J0 J1 B) n
  | ord e n => exact .ord (B _ _ e (ne e fun _ z => nomatch z)) n
theorem told_badS {K : PySem.W.Frag} {D0 D1 D2 D3 O0 O1 O2 CE C : Addr} {H : Hp} {r : Addr} {x : V} {n : Int} {ms ss : List Int} (row : RowAt C H r n ms ss) (n1 : 1 ≤ n) (nb : n < 10 ^ 60) (B : BadS K H x) (W : WordAt K D0 D1 D2 D3 [.ref O0, .ref O1, .ref O2] CE D0 0) {way : Int} (w0 : 0 ≤ way) (w1 : way < 4) (p z u : Int) :
    ToldAt K D0 D1 D2 D3 O0 O1 O2 CE C D0 D1 D3 D2 H way (.ref r) x (.int p) (.int z) (.int u) (some 0) := by
  have fin : ∀ {sp : Sp} {vs : List V}, (∀ (Q : VK) (E : XK), (∀ H', Same H H' → E (.ref D0) none H') → sp vs H Q E) → Res K D0 D1 D2 D3 [.ref O0, .ref O1, .ref O2] CE sp vs H (some 0) := fun h => .inr ⟨D0, 0, rfl, W, h⟩
  have c : way = 0 ∨ way = 1 ∨ way = 2 ∨ way = 3 := by omega
  rcases c with rfl | rfl | rfl | rfl
  · exact .inl ⟨rfl, fin fun Q E h => .inr ⟨r, x, p, n, ms, ss, rfl, row, n1, nb, .inl ⟨B, h⟩⟩⟩
  · exact .inr (.inl ⟨rfl, fin fun Q E h => .inr ⟨r, x, p, n, ms, ss, rfl, row, n1, nb, .inl ⟨B, h⟩⟩⟩)
  · exact .inr (.inr (.inl ⟨rfl, fin fun Q E h => .inr ⟨r, x, p, z, n, ms, ss, rfl, row, n1, nb, .inl ⟨B, h⟩⟩⟩))
  · exact .inr (.inr (.inr (.inl ⟨rfl, fin fun Q E h => .inr ⟨r, x, p, z, u, n, ms, ss, rfl, row, n1, nb, .inl ⟨B, h⟩⟩⟩)))
def spSr (K : PySem.W.Frag) (C : Addr) : Sp := fun vs H Q _ => ∃ (j r t : Addr) (k : Nat) (n l m g : Int) (ms ss : List Int), vs = [.ref j, .ref r, .ref t] ∧ RowOff C H j r n ms ss ∧ 1 ≤ n ∧ n ≤ 1000000 ∧ H t = some (.tup [.int l, .int m, .int g]) ∧ SetOk l m g ∧ JarAt H j (k + 401) ∧ ∀ H', JarAt H' j k → But H H' j → Q (.bl true) H'
section
variable {P : Program} {w : World} {K : PySem.W.Frag} {mg : Str → Option Value} {base : Heap}
abbrev NSr : List Str := ["jar", "made", "three", "far", "bad", "told", "way"]
theorem scSr : FnScope NSr ["jar", "made", "three"] (defScope sSr) := ⟨rfl, rfl, rfl, by decide +kernel, rfl, by decide +kernel, by decide +kernel⟩
theorem ok_sr {f C fD fN fT D0 D1 D2 D3 O0 O1 O2 CE pL fGL pM fGM pS fGS : Addr} {fd fdD fdN fdT dL dM dS : FuncData} (F : Fun K "_law_settings_right" "_law_settings_right" sSr f fd) (T : Bl mg) (R : Cl K mg C) (Gs : Gets P w K mg base C pL fGL pM fGM pS fGS dL dM dS) (W : WordAt K D0 D1 D2 D3 [.ref O0, .ref O1, .ref O2] CE D0 0)
    (gD : mg "_law_dip" = some (.ref fD)) (kD : PySem.W.keepIn K (.ref fD) = true) (bD : Binds K fdD ["jar", "many"] []) (GD : FnOk P w K mg base CX0 1 fD fdD ["jar", "many"] spDip)
    (gN : mg "_law_no_settings" = some (.ref fN)) (kN : PySem.W.keepIn K (.ref fN) = true) (bN : Binds K fdN ["three"] []) (GN : FnOk P w K mg base CX0 1 fN fdN ["three"] (spNs K))
    (gT : mg "_law_told" = some (.ref fT)) (kT : PySem.W.keepIn K (.ref fT) = true) (bT : Binds K fdT ["way", "made", "three", "one", "two", "last"] []) (GT : FnOk P w K mg base CX0 6 fT fdT ["way", "made", "three", "one", "two", "last"] (spTo K D0 D1 D2 D3 O0 O1 O2 CE C D0 D1 D3 D2)) :
    FnOk P w K mg base CX0 8 f fd ["jar", "made", "three"] (spSr K C) := by
  refine F.ok scSr (fun vs H Q E h => ?_) (fun cdv A outer s H vs Q E hr h => ?_)
  · obtain ⟨j, r, t, k, n, l, m, g, ms, ss, rfl, _⟩ := h
    rfl
  · obtain ⟨j, r, t, k, n, l, m, g, ms, ss, rfl, row, n1, nb, ht, S, J, q⟩ := h
    refine ⟨_, (pss_cons (ps_set (i := 3) scSr.nd rfl (Or.inr rfl) (pe_op op_add (pe_op op_add (pe_prop (pv 1) R.cl Gs.hL Gs.GL (hr.mono (by decide)) Gs.bL .nil pass0 rfl) pe_int) (pe_call GD (hr.mono (by decide)) rfl gD kD bD .nil pass0 (pa_cons (pv 0) (pa_cons (pe_op op_pow pe_int pe_int) pa_nil)))))
        (pss_cons (ps_for PassesOwn.never rfl (pi_list (pe_call GN (hr.mono (by decide)) rfl gN kN bN .nil pass0 (pa_cons (pv 2) pa_nil))) (pg_name (i := 4) scSr.nd rfl (Or.inr rfl))
        (pss_cons (ps_setLc (i := 5) (own := [("way", 6)]) (g := (gName 6)) (tt := tYes) rfl scSr.nd rfl rfl (sw_true rfl rfl rfl (by decide +kernel)) (pi_range1 (by rfl) T.range (pa_cons pe_int pa_nil)) (blkOk_by (own := [("way", 6)]) (N := NSr) (sc := defScope sSr) (by decide +kernel)) (fun _ _ _ _ _ => (pg_name (i := 6) scSr.nd rfl (Or.inl rfl))) (fun _ _ _ _ _ => pts_nil) (fun _ _ _ _ _ => (pe_call GT (hr.mono (by decide)) rfl gT kT bT .nil pass0 (pa_cons (pv 6) (pa_cons (pv 1) (pa_cons (pv 4) (pa_cons (pe_ix (r := rIxL K) ix_list (pe_lst (pa_cons pe_int (pa_cons (pv 3) (pa_cons (pe_un un_neg pe_int) pa_nil)))) (pe_call GD (hr.mono (by decide)) rfl gD kD bD .nil pass0 (pa_cons (pv 0) (pa_cons pe_int pa_nil))) (fun _ _ => rfl)) (pa_cons (pe_un un_neg pe_int) (pa_cons (pe_un un_neg pe_int) pa_nil)))))))))
        (pss_one (ps_if (pt_cmpR (op_neD hr.units) (pv 5) (pe_op op_rep (pe_lst (pa_cons pe_str pa_nil)) pe_int) (nomark _)) (pss_one (ps_ret pe_bl)) pss_nil))))
        (pss_one (ps_ret pe_bl)))), ?_⟩
    obtain ⟨dx, l1, l2, ho, hm, hs, nm, ns⟩ := id row
    have lt : ∀ x : Int, x ≤ 10 ^ 28 → x < 2 ^ 120 := fun x h => Int.lt_of_le_of_lt h (by decide)
    refine ⟨_, rfl, r, dx, _, rfl, ho, r, n, ms, ss, rfl, row.at, _, _, rfl, rfl, ?_⟩
    refine ⟨_, rfl, _, _, rfl, rfl, ⟨by decide, by decide, by decide⟩, j, k + 400, _, rfl, J, by decide +kernel, by decide +kernel, fun v H1 v0 v1 J1 B1 => ⟨_, _, rfl, rfl, ?_⟩⟩
    dsimp -proj only
    generalize n + 1 + v = far
    have row1 := row.but J B1
    have ht1 := B1 _ _ ht (J.no ht fun _ _ _ z => nomatch z)
    try dsimp only [L2.start, List.set, List.map, List.append, List.replicate, List.length]
    refine ⟨_, rfl, t, l, m, g, rfl, ht1, S, fun H2 q0 xs s2 nq hq hB hl => ?_⟩
    have J2 := J1.same s2
    have row2 := row1.but J1 (But.of s2)
    have qj : q0 ≠ j := (J1.ne nq).symm
    refine ⟨q0, rfl, ⟨_, SqL.of hq⟩, for_list (xs := xs) (fun i σ H' => JarAt H' j (k + 4 * (xs.length - i)) ∧ But H2 H' j ∧ ∃ u v w, σ = [some (.ref j), some (.ref r), some (.ref t), some (.int far), u, v, w])
      ⟨J2.mono (by omega), But.refl _ _, none, none, none, rfl⟩ (fun i σ H' _ z => SqL.of (z.2.1 _ _ hq qj)) ?_ ?_⟩
    · rintro i x σ H' hx ⟨J3, B3, u, v', w', rfl⟩
      have il : i < xs.length := (List.getElem?_eq_some_iff.mp hx).1
      have BS := (hB x (List.mem_of_getElem? hx)).but J2 J3 B3
      have row3 := row2.but J2 B3
      refine ⟨_, rfl, by decide, by decide, fun D hD => ?_⟩
      have Dj : D ≠ j := (J3.ne hD).symm
      refine lc_range (lo := 0) (n := 4) (fun i' H4 => JarAt H4 j (k + 4 * (xs.length - (i + 1)) + (4 - i')) ∧ But H' H4 j ∧ H4 D = some (.lst (List.replicate i' (.str "settings")))) ⟨(J3.put Dj.symm).mono (by omega), (But.refl H' j).new hD, upd_same⟩ ?_ ?_
      · rintro i' H4 hi ⟨J4, B4, e4⟩
        have J4 : JarAt H4 j (k + 4 * (xs.length - (i + 1)) + (4 - (i' + 1)) + 1) := J4.mono (by omega)
        refine ⟨rfl, ?_⟩
        unfold tYes
        refine iteT ?_
        refine ⟨_, rfl, _, rfl, _, rfl, _, rfl, _, rfl, small1000 (by show (2 : Nat) ≤ 1000; decide), fun p hp => ?_⟩
        have Jp := J4.put (p := p) (J4.ne hp) (o := .lst [.int 0, .int far, .int (-1)])
        have e5 : upd H4 p (.lst [.int 0, .int far, .int (-1)]) p = some (.lst [.int 0, .int far, .int (-1)]) := upd_same
        have B5 : But H4 (upd H4 p (.lst [.int 0, .int far, .int (-1)])) j := (But.refl H4 j).new hp
        have D5 : upd H4 p (.lst [.int 0, .int far, .int (-1)]) D = some (.lst (List.replicate i' (.str "settings"))) := by
          rw [upd_ne (ne_of_none e4 hp)]
          exact e4
        have pj : p ≠ j := (J4.ne hp).symm
        refine ⟨_, rfl, j, _, 3, rfl, Jp, by decide, by decide, fun v G1 v0 v1 J6 B6 => ?_⟩
        obtain ⟨z, _, hz⟩ := pick3 (x := 0) (y := far) (w := -1) v0 v1
        have B46 := (B4.trans B5).trans B6
        have row4 := row3.but J3 B46
        have BS4 := BS.but J3 J6 B46
        have D6 := B6 _ _ D5 Dj
        refine ⟨p, _, v, _, rfl, rfl, SqL.of (B6 _ _ e5 pj), hz, _, rfl, _, rfl, _, _, _, _, _, _, _, rfl, told_badS row4.at n1 (by omega) BS4 W (by omega) (by omega) z (-1) (-1), fun H6 s6 => ?_⟩
        refine ⟨_, s6 _ _ D6, by rw [List.length_replicate]; exact small1000 (by omega), (J6.same s6).put Dj.symm, (B46.trans (But.of s6)).put hD, ?_⟩
        rw [upd_same, List.replicate_succ']
        rfl
      · rintro H4 ⟨J4, B4, e4⟩
        refine ⟨_, rfl, small1000 (by show (0 : Nat) ≤ 1000; decide), fun r1 hr1 => ⟨_, _, _, rfl, rfl, upd_same, by decide, by decide, by decide +kernel, fun r2 hr2 => ?_⟩⟩
        have e4' := upd_keep (x := .lst [.str "settings"]) e4 hr1
        have e4'' := upd_keep (x := .lst (List.replicate (Int.toNat 4) [V.str "settings"]).flatten) e4' hr2
        refine ⟨_, _, dp_strL (ws := List.replicate 4 "settings") e4'', dp_strL (ws := List.replicate 4 "settings") upd_same, by decide +kernel, by decide +kernel, _, rfl, ?_⟩
        refine ifF (by decide +kernel) ?_
        exact ⟨((J4.put (J4.ne hr1)).put ((J4.put (J4.ne hr1)).ne hr2)).mono (by omega), (B3.trans ((B4.new hr1).new hr2)), _, _, _, rfl⟩
    · rintro σ H' ⟨J3, B3, u, v', w', rfl⟩
      exact q _ (J3.mono (by omega)) ((B1.trans (But.of s2)).trans B3)
end
end Cw
namespace Cw
open PySem L2
abbrev sPr : Stmt := top 50
theorem PlsOk.one {n p : Int} {r : List Int} (h : PlsOk n (p :: r)) : 0 ≤ p ∧ p ≤ n := h 0 (Nat.succ_pos _)
theorem PlsOk.two {n p z : Int} {r : List Int} (h : PlsOk n (p :: z :: r)) : p ≤ z ∧ z ≤ n := h 1 (by simp)
theorem PlsOk.three {n p z u : Int} {r : List Int} (h : PlsOk n (p :: z :: u :: r)) : z ≤ u ∧ u ≤ n := h 2 (by simp)
/-- places that are wrong for a way -/
def BadP (n way p z u : Int) : Prop := (way = 0 ∧ ¬ (0 ≤ p ∧ p ≤ n - 1)) ∨ (1 ≤ way ∧ way ≤ 3 ∧ ¬ (0 ≤ p ∧ p ≤ n)) ∨ (2 ≤ way ∧ way ≤ 3 ∧ ¬ (p ≤ z ∧ z ≤ n)) ∨ (way = 3 ∧ ¬ (z ≤ u ∧ u ≤ n))
def FineP (n way p z u : Int) : Prop := 0 ≤ p ∧ ((way = 0 ∧ p < n) ∨ (way = 1 ∧ p ≤ n) ∨ (way = 2 ∧ p ≤ z ∧ z ≤ n) ∨ (way = 3 ∧ p ≤ z ∧ z ≤ u ∧ u ≤ n))
theorem told_badP {K : PySem.W.Frag} {D0 D1 D2 D3 O0 O1 O2 CE C : Addr} {H : Hp} {r t : Addr} {n l m g : Int} {ms ss : List Int} (row : RowAt C H r n ms ss) (n1 : 1 ≤ n) (nb : n < 10 ^ 60) (ht : H t = some (.tup [.int l, .int m, .int g])) (S : SetOk l m g) (W : WordAt K D0 D1 D2 D3 [.ref O0, .ref O1, .ref O2] CE D1 1) {way p z u : Int} (h : BadP n way p z u) :
    ToldAt K D0 D1 D2 D3 O0 O1 O2 CE C D0 D1 D3 D2 H way (.ref r) (.ref t) (.int p) (.int z) (.int u) (some 1) := by
  have fin : ∀ {sp : Sp} {vs : List V}, (∀ (Q : VK) (E : XK), (∀ H', Same H H' → E (.ref D1) none H') → sp vs H Q E) → Res K D0 D1 D2 D3 [.ref O0, .ref O1, .ref O2] CE sp vs H (some 1) := fun h => .inr ⟨D1, 1, rfl, W, h⟩
  have c : way = 0 ∨ way = 1 ∨ way = 2 ∨ way = 3 := by
    unfold BadP at h
    omega
  have bw : ∀ {ok : Prop} {E : XK}, ¬ ok → (∀ H', Same H H' → E (.ref D1) none H') → BadW K D0 D1 D3 H (.ref t) n ok E := fun no h => .inr ⟨t, l, m, g, rfl, ht, S, .inl ⟨no, h⟩⟩
  rcases c with rfl | rfl | rfl | rfl
  · refine .inl ⟨rfl, fin fun Q E e => .inr ⟨r, _, p, n, ms, ss, rfl, row, n1, nb, bw (fun o => ?_) e⟩⟩
    unfold BadP at h
    omega
  · refine .inr (.inl ⟨rfl, fin fun Q E e => .inr ⟨r, _, p, n, ms, ss, rfl, row, n1, nb, bw (fun o => ?_) e⟩⟩)
    have := o.one
    unfold BadP at h
    omega
  · refine .inr (.inr (.inl ⟨rfl, fin fun Q E e => .inr ⟨r, _, p, z, n, ms, ss, rfl, row, n1, nb, bw (fun o => ?_) e⟩⟩))
    have := o.one
    have := o.two
    unfold BadP at h
    omega
  · refine .inr (.inr (.inr (.inl ⟨rfl, fin fun Q E e => .inr ⟨r, _, p, z, u, n, ms, ss, rfl, row, n1, nb, bw (fun o => ?_) e⟩⟩)))
    have := o.one
    have := o.two
    have := o.three
    unfold BadP at h
    omega
theorem told_fineP {K : PySem.W.Frag} {D0 D1 D2 D3 O0 O1 O2 CE C : Addr} {H : Hp} {r t : Addr} {n l m g : Int} {ms ss : List Int} (R : RwS C H r t n l m g ms ss) {way p z u : Int} (h : FineP n way p z u) :
    ToldAt K D0 D1 D2 D3 O0 O1 O2 CE C D0 D1 D3 D2 H way (.ref r) (.ref t) (.int p) (.int z) (.int u) none := by
  obtain ⟨p0, h⟩ := h
  rcases h with ⟨rfl, h⟩ | ⟨rfl, h⟩ | ⟨rfl, h1, h2⟩ | ⟨rfl, h1, h2, h3⟩
  · exact .inl ⟨rfl, .inl ⟨rfl, fun Q E e => .inl ⟨r, t, n, l, m, g, p, ms, ss, rfl, R, p0, h, fun H' s => e _ _ s⟩⟩⟩
  · exact .inr (.inl ⟨rfl, .inl ⟨rfl, fun Q E e => .inl ⟨r, t, n, l, m, g, p, ms, ss, rfl, R, p0, h, fun q H' k s _ _ _ => e _ _ s⟩⟩⟩)
  · exact .inr (.inr (.inl ⟨rfl, .inl ⟨rfl, fun Q E e => .inl ⟨r, t, n, l, m, g, p, z, ms, ss, rfl, R, p0, h1, h2, fun H' k s _ => e _ _ s⟩⟩⟩))
  · exact .inr (.inr (.inr (.inl ⟨rfl, .inl ⟨rfl, fun Q E e => .inl ⟨r, t, n, l, m, g, p, z, u, ms, ss, rfl, R, p0, h1, h2, h3, fun H' k s _ => e _ _ s⟩⟩⟩)))
theorem But.free {H H1 : Hp} {b p : Addr} (x : But H H1 b) (n : p ≠ b) (h : H1 p = none) : H p = none := by
  cases e : H p with
  | none => rfl
  | some o =>
    rw [x _ _ e n] at h
    cases h
theorem rep_app {α : Type} {x : α} {a b : Nat} : List.replicate a x ++ List.replicate b x = List.replicate (a + b) x := List.replicate_append_replicate
theorem rep_cat {α : Type} {x : α} : ∀ {c : Nat}, (List.replicate c [x]).flatten = List.replicate c x
  | 0 => rfl
  | c + 1 => by
    rw [List.replicate_succ, List.flatten_cons, rep_cat, List.replicate_succ]
    rfl
def spPr (C : Addr) : Sp := fun vs H Q _ => ∃ (j r t : Addr) (k : Nat) (n l m g : Int) (ms ss : List Int), vs = [.ref j, .ref r, .ref t] ∧ RowOff C H j r n ms ss ∧ Good n ms ss ∧ n ≤ 1000000 ∧ n ≤ 200 * l ∧ H t = some (.tup [.int l, .int m, .int g]) ∧ SetOk l m g ∧ JarAt H j (k + 17) ∧ ∀ H', JarAt H' j k → But H H' j → Q (.bl true) H'
section
variable {P : Program} {w : World} {K : PySem.W.Frag} {mg : Str → Option Value} {base : Heap}
abbrev NPr : List Str := ["jar", "made", "three", "length", "far", "wrong", "bad", "good", "way"]
theorem scPr : FnScope NPr ["jar", "made", "three"] (defScope sPr) := ⟨rfl, rfl, rfl, by decide +kernel, rfl, by decide +kernel, by decide +kernel⟩
theorem ok_pr {f C fD fT D0 D1 D2 D3 O0 O1 O2 CE pL fGL pM fGM pS fGS : Addr} {fd fdD fdT dL dM dS : FuncData} (F : Fun K "_law_places_right" "_law_places_right" sPr f fd) (T : Bl mg) (R : Cl K mg C) (Gs : Gets P w K mg base C pL fGL pM fGM pS fGS dL dM dS) (W0 : WordAt K D0 D1 D2 D3 [.ref O0, .ref O1, .ref O2] CE D1 1)
    (gD : mg "_law_dip" = some (.ref fD)) (kD : PySem.W.keepIn K (.ref fD) = true) (bD : Binds K fdD ["jar", "many"] []) (GD : FnOk P w K mg base CX0 1 fD fdD ["jar", "many"] spDip)
    (gT : mg "_law_told" = some (.ref fT)) (kT : PySem.W.keepIn K (.ref fT) = true) (bT : Binds K fdT ["way", "made", "three", "one", "two", "last"] []) (GT : FnOk P w K mg base CX0 6 fT fdT ["way", "made", "three", "one", "two", "last"] (spTo K D0 D1 D2 D3 O0 O1 O2 CE C D0 D1 D3 D2)) :
    FnOk P w K mg base CX0 8 f fd ["jar", "made", "three"] (spPr C) := by
  refine F.ok scPr (fun vs H Q E h => ?_) (fun cdv A outer s H vs Q E hr h => ?_)
  · obtain ⟨j, r, t, k, n, l, m, g, ms, ss, rfl, _⟩ := h
    rfl
  · obtain ⟨j, r, t, k, n, l, m, g, ms, ss, rfl, row, G, nb, big, ht, S, J, q⟩ := h
    refine ⟨_, (pss_cons (ps_asg (pe_tup (pa_cons (pe_prop (pv 1) R.cl Gs.hL Gs.GL (hr.mono (by decide)) Gs.bL .nil pass0 rfl) (pa_cons (pe_op op_add (pe_op op_add (pe_prop (pv 1) R.cl Gs.hL Gs.GL (hr.mono (by decide)) Gs.bL .nil pass0 rfl) pe_int) (pe_call GD (hr.mono (by decide)) rfl gD kD bD .nil pass0 (pa_cons (pv 0) (pa_cons (pe_op op_pow pe_int pe_int) pa_nil)))) pa_nil))) (pg_tup rfl (pgs_cons (pg_name (i := 3) scPr.nd rfl (Or.inr rfl)) (pgs_cons (pg_name (i := 4) scPr.nd rfl (Or.inl rfl)) pgs_nil))))
        (pss_cons (ps_set (i := 5) scPr.nd rfl (Or.inl rfl) (pe_lst (pa_cons (pe_call GT (hr.mono (by decide)) rfl gT kT bT .nil pass0 (pa_cons pe_int (pa_cons (pv 1) (pa_cons (pv 2) (pa_cons (pv 3) (pa_cons pe_int (pa_cons pe_int pa_nil))))))) pa_nil)))
        (pss_cons (ps_for PassesOwn.never rfl (pi_tup (pe_tup (pa_cons (pe_un un_neg pe_int) (pa_cons (pv 4) (pa_cons (pe_op op_add (pv 3) pe_int) (pa_cons (pe_op op_sub pe_int (pv 4)) pa_nil)))))) (pg_name (i := 6) scPr.nd rfl (Or.inr rfl))
        (pss_cons (ps_set (i := 5) scPr.nd rfl (Or.inl rfl) (pe_op op_cat (pv 5) (pe_lc (own := [("way", 8)]) (g := (gName 8)) (tt := tYes) rfl scPr.nd (pi_range1 (by rfl) T.range (pa_cons pe_int pa_nil)) (blkOk_by (own := [("way", 8)]) (N := NPr) (sc := defScope sPr) (by decide +kernel)) (fun _ _ _ _ _ => (pg_name (i := 8) scPr.nd rfl (Or.inl rfl))) (fun _ _ _ _ _ => pts_nil) (fun _ _ _ _ _ => (pe_call GT (hr.mono (by decide)) rfl gT kT bT .nil pass0 (pa_cons (pv 8) (pa_cons (pv 1) (pa_cons (pv 2) (pa_cons (pv 6) (pa_cons (pe_ix (r := rIxL K) ix_list (pe_lst (pa_cons pe_int (pa_cons (pv 3) pa_nil))) (pe_call GD (hr.mono (by decide)) rfl gD kD bD .nil pass0 (pa_cons (pv 0) (pa_cons pe_int pa_nil))) (fun _ _ => rfl)) (pa_cons (pv 3) pa_nil)))))))))))
        (pss_cons (ps_set (i := 5) scPr.nd rfl (Or.inl rfl) (pe_op op_cat (pv 5) (pe_lst (pa_cons (pe_call GT (hr.mono (by decide)) rfl gT kT bT .nil pass0 (pa_cons pe_int (pa_cons (pv 1) (pa_cons (pv 2) (pa_cons pe_int (pa_cons (pv 6) (pa_cons pe_int pa_nil))))))) (pa_cons (pe_call GT (hr.mono (by decide)) rfl gT kT bT .nil pass0 (pa_cons pe_int (pa_cons (pv 1) (pa_cons (pv 2) (pa_cons pe_int (pa_cons (pv 6) (pa_cons (pv 3) pa_nil))))))) pa_nil)))))
        (pss_one (ps_expr (pe_bm PySem.F.plainAttrs_list PySem.F.slot_list_append PySem.F.type_list_append mt_append (pv 5) (pa_cons (pe_call GT (hr.mono (by decide)) rfl gT kT bT .nil pass0 (pa_cons pe_int (pa_cons (pv 1) (pa_cons (pv 2) (pa_cons pe_int (pa_cons pe_int (pa_cons (pv 6) pa_nil))))))) pa_nil)))))))
        (pss_cons (ps_set (i := 5) scPr.nd rfl (Or.inl rfl) (pe_op op_cat (pv 5) (pe_lst (pa_cons (pe_call GT (hr.mono (by decide)) rfl gT kT bT .nil pass0 (pa_cons pe_int (pa_cons (pv 1) (pa_cons (pv 2) (pa_cons (pv 3) (pa_cons (pe_op op_sub (pv 3) pe_int) (pa_cons pe_int pa_nil))))))) (pa_cons (pe_call GT (hr.mono (by decide)) rfl gT kT bT .nil pass0 (pa_cons pe_int (pa_cons (pv 1) (pa_cons (pv 2) (pa_cons pe_int (pa_cons pe_int (pa_cons (pv 3) pa_nil))))))) pa_nil)))))
        (pss_cons (ps_expr (pe_bm PySem.F.plainAttrs_list PySem.F.slot_list_append PySem.F.type_list_append mt_append (pv 5) (pa_cons (pe_call GT (hr.mono (by decide)) rfl gT kT bT .nil pass0 (pa_cons pe_int (pa_cons (pv 1) (pa_cons (pv 2) (pa_cons pe_int (pa_cons (pv 3) (pa_cons (pe_op op_sub (pv 3) pe_int) pa_nil))))))) pa_nil)))
        (pss_cons (ps_set (i := 7) scPr.nd rfl (Or.inl rfl) (pe_lst (pa_cons (pe_call GT (hr.mono (by decide)) rfl gT kT bT .nil pass0 (pa_cons pe_int (pa_cons (pv 1) (pa_cons (pv 2) (pa_cons (pe_op op_sub (pv 3) pe_int) (pa_cons pe_int (pa_cons pe_int pa_nil))))))) (pa_cons (pe_call GT (hr.mono (by decide)) rfl gT kT bT .nil pass0 (pa_cons pe_int (pa_cons (pv 1) (pa_cons (pv 2) (pa_cons (pv 3) (pa_cons pe_int (pa_cons pe_int pa_nil))))))) pa_nil))))
        (pss_cons (ps_set (i := 7) scPr.nd rfl (Or.inl rfl) (pe_op op_cat (pv 7) (pe_lst (pa_cons (pe_call GT (hr.mono (by decide)) rfl gT kT bT .nil pass0 (pa_cons pe_int (pa_cons (pv 1) (pa_cons (pv 2) (pa_cons pe_int (pa_cons (pv 3) (pa_cons pe_int pa_nil))))))) (pa_cons (pe_call GT (hr.mono (by decide)) rfl gT kT bT .nil pass0 (pa_cons pe_int (pa_cons (pv 1) (pa_cons (pv 2) (pa_cons pe_int (pa_cons pe_int (pa_cons pe_int pa_nil))))))) pa_nil)))))
        (pss_cons (ps_expr (pe_bm PySem.F.plainAttrs_list PySem.F.slot_list_append PySem.F.type_list_append mt_append (pv 7) (pa_cons (pe_call GT (hr.mono (by decide)) rfl gT kT bT .nil pass0 (pa_cons pe_int (pa_cons (pv 1) (pa_cons (pv 2) (pa_cons (pv 3) (pa_cons (pv 3) (pa_cons (pv 3) pa_nil))))))) pa_nil)))
        (pss_one (ps_ret (pe_and (pe_cmpR (op_eqD hr.units) (pv 5) (pe_op op_rep (pe_lst (pa_cons pe_str pa_nil)) (pe_callB call_len_seq (by rfl) T.len PySem.boot_len (pa_cons (pv 5) pa_nil))) (nomark _)) (pe_one (pe_cmpR (op_eqD hr.units) (pv 7) (pe_op op_rep (pe_lst (pa_cons pe_str pa_nil)) pe_int) (nomark _)))))))))))))), ?_⟩
    have n1 : 1 ≤ n := G.pos
    obtain ⟨dx, l1, l2, ho, hm, hs, nm, ns⟩ := id row
    have hl : ∀ {H' : Hp}, RowOff C H' j r n ms ss → ∃ dx l1 l2, H' r = some (.ins C dx (flds n l1 l2)) := fun ⟨dx, l1, l2, ho, _⟩ => ⟨dx, l1, l2, ho⟩
    refine ⟨_, rfl, r, dx, _, rfl, ho, r, n, ms, ss, rfl, row.at, ?_⟩
    refine ⟨_, rfl, r, dx, _, rfl, ho, r, n, ms, ss, rfl, row.at, _, _, rfl, rfl, ?_⟩
    refine ⟨_, rfl, _, _, rfl, rfl, ⟨by decide, by decide, by decide⟩, j, k + 16, _, rfl, J, by decide +kernel, by decide +kernel, fun v H1 v0 v1 J1 B0 => ⟨_, _, rfl, rfl, ?_⟩⟩
    dsimp -proj only
    have row := row.but J B0
    have ht := B0 _ _ ht (J.no ht fun _ _ _ z => nomatch z)
    have J := J1
    rw [show (10 : Int) ^ Int.toNat 28 = 10000000000000000000000000000 by decide +kernel] at v1
    have far1 : n + 1 ≤ n + 1 + v ∧ n + 1 + v ≤ 20000000000000000000000000000 := by omega
    generalize n + 1 + v = far at far1 ⊢
    try dsimp only [L2.start, List.set, List.map, List.append, List.replicate, List.length]
    refine ⟨(small1000 (by show (1 : Nat) ≤ 1000; decide)), fun Pp1 hPp1 => ?_⟩
    have sPp1 := same_new (o := (.tup [.int n, .int far])) (Same.refl H1) hPp1
    have nPp1 : Pp1 ≠ j := (J.ne hPp1).symm
    have row := row.but J (But.of sPp1)
    have ht := sPp1 _ _ ht
    have B0 := B0.trans (But.of sPp1)
    have J := J.same sPp1
    have kPp1 : upd H1 Pp1 (.tup [.int n, .int far]) Pp1 = some (.tup [.int n, .int far]) := upd_same
    generalize upd H1 Pp1 (.tup [.int n, .int far]) = P1 at sPp1 row ht B0 J kPp1 ⊢
    refine ⟨Pp1, _, rfl, SqT.of kPp1, rfl, _, _, rfl, _, _, rfl, rfl, ?_⟩
    try dsimp only [L2.start, List.set, List.map, List.append, List.replicate, List.length]
    refine ⟨_, rfl, _, rfl, _, rfl, _, _, _, _, _, _, _, rfl, told_badP row.at n1 (by omega) ht S W0 (by unfold BadP; omega), fun P2 sP2 => ?_⟩
    have row := row.but J (But.of sP2)
    have ht := sP2 _ _ ht
    have B0 := B0.trans (But.of sP2)
    have J := J.same sP2
    refine ⟨(small1000 (by show (0 : Nat) ≤ 1000; decide)), fun Pp3 hPp3 => ?_⟩
    have sPp3 := same_new (o := (.lst [V.str (wo (some 1))])) (Same.refl P2) hPp3
    have nPp3 : Pp3 ≠ j := (J.ne hPp3).symm
    have row := row.but J (But.of sPp3)
    have ht := sPp3 _ _ ht
    have B0 := B0.trans (But.of sPp3)
    have J := J.same sPp3
    have kPp3 : upd P2 Pp3 (.lst [V.str (wo (some 1))]) Pp3 = some (.lst [V.str (wo (some 1))]) := upd_same
    generalize upd P2 Pp3 (.lst [V.str (wo (some 1))]) = P3 at sPp3 row ht B0 J kPp3 ⊢
    try dsimp only [L2.start, List.set, List.map, List.append, List.replicate, List.length]
    refine ⟨_, rfl, _, rfl, _, rfl, _, _, rfl, rfl, _, rfl, _, _, rfl, rfl, (small1000 (by show (3 : Nat) ≤ 1000; decide)), fun Pp4 hPp4 => ?_⟩
    have sPp4 := same_new (o := (.tup [.int (-1), .int far, .int (n + 1), .int (0 - far)])) (Same.refl P3) hPp4
    have nPp4 : Pp4 ≠ j := (J.ne hPp4).symm
    have row := row.but J (But.of sPp4)
    have ht := sPp4 _ _ ht
    have kPp3 := sPp4 _ _ kPp3
    have B0 := B0.trans (But.of sPp4)
    have J := J.same sPp4
    have kPp4 : upd P3 Pp4 (.tup [.int (-1), .int far, .int (n + 1), .int (0 - far)]) Pp4 = some (.tup [.int (-1), .int far, .int (n + 1), .int (0 - far)]) := upd_same
    generalize upd P3 Pp4 (.tup [.int (-1), .int far, .int (n + 1), .int (0 - far)]) = P4 at sPp4 row ht kPp3 B0 J kPp4 ⊢
    have kW : P4 Pp3 = some (.lst (List.replicate 1 (V.str (wo (some 1))))) := kPp3
    refine ⟨Pp4, rfl, ⟨_, SqT.of kPp4⟩, for_tup (xs := [.int (-1), .int far, .int (n + 1), .int (0 - far)]) (fun i σ H' => JarAt H' j (k + 4 * (4 - i)) ∧ But P4 H' j ∧ ∃ (W : Addr) (u v w : Option V), W ≠ j ∧ H' W = some (.lst (List.replicate (1 + 7 * i) (V.str (wo (some 1))))) ∧ σ = [some (.ref j), some (.ref r), some (.ref t), some (.int n), some (.int far), some (.ref W), u, v, w]) ⟨J.mono (by omega), But.refl _ _, Pp3, none, none, none, nPp3, kW, rfl⟩ (fun i σ H' _ z => SqT.of (z.2.1 _ _ kPp4 nPp4)) ?_ ?_⟩
    · rintro i x σ H2 hx ⟨J2, B2, W, u, v', w', nW, kW, rfl⟩
      have il : i < 4 := (List.getElem?_eq_some_iff.mp hx).1
      have kb : ∃ b : Int, x = .int b ∧ (b < 0 ∨ n < b) := by
        match i, hx with
        | 0, hx => exact ⟨_, (Option.some.inj hx).symm, .inl (by decide)⟩
        | 1, hx => exact ⟨_, (Option.some.inj hx).symm, .inr (by omega)⟩
        | 2, hx => exact ⟨_, (Option.some.inj hx).symm, .inr (by omega)⟩
        | 3, hx => exact ⟨_, (Option.some.inj hx).symm, .inl (by omega)⟩
        | n + 4, hx => cases hx
      obtain ⟨b, rfl, hb⟩ := kb
      have row2 := row.but J B2
      have ht2 := B2 _ _ ht (J.no ht fun _ _ _ z => nomatch z)
      refine ⟨_, rfl, _, rfl, by decide, by decide, fun D hD => ?_⟩
      have Dj : D ≠ j := (J2.ne hD).symm
      refine lc_range (lo := 0) (n := 4) (fun i' H4 => JarAt H4 j (k + 4 * (4 - (i + 1)) + (4 - i')) ∧ But H2 H4 j ∧ H4 D = some (.lst (List.replicate i' (V.str (wo (some 1)))))) ⟨(J2.put Dj.symm).mono (by omega), (But.refl H2 j).new hD, upd_same⟩ ?_ ?_
      · rintro i' H4 hi ⟨J4, B4, e4⟩
        have J4 : JarAt H4 j (k + 4 * (4 - (i + 1)) + (4 - (i' + 1)) + 1) := J4.mono (by omega)
        refine ⟨rfl, ?_⟩
        unfold tYes
        refine iteT ?_
        refine ⟨_, rfl, _, rfl, _, rfl, _, rfl, _, rfl, small1000 (by show (1 : Nat) ≤ 1000; decide), fun p hp => ?_⟩
        have Jp := J4.put (p := p) (J4.ne hp) (o := .lst [.int 0, .int n])
        have e5 : upd H4 p (.lst [.int 0, .int n]) p = some (.lst [.int 0, .int n]) := upd_same
        have B5 : But H4 (upd H4 p (.lst [.int 0, .int n])) j := (But.refl H4 j).new hp
        have D5 := upd_keep (x := .lst [.int 0, .int n]) e4 hp
        have pj : p ≠ j := (J4.ne hp).symm
        refine ⟨_, rfl, j, _, 2, rfl, Jp, by decide, by decide, fun v G1 v0 v1 J6 B6 => ?_⟩
        obtain ⟨z, _, hz⟩ := pick2 (x := 0) (y := n) v0 v1
        have B46 := (B4.trans B5).trans B6
        have row4 := row2.but J2 B46
        have ht4 := B46 _ _ ht2 (J2.no ht2 fun _ _ _ z => nomatch z)
        have D6 := B6 _ _ D5 Dj
        refine ⟨p, _, v, _, rfl, rfl, SqL.of (B6 _ _ e5 pj), hz, _, rfl, _, _, _, _, _, _, _, rfl, told_badP row4.at n1 (by omega) ht4 S W0 (way := 0 + (i' : Int)) (p := b) (z := z) (u := n) (by unfold BadP; omega), fun H6 s6 => ?_⟩
        refine ⟨_, s6 _ _ D6, by rw [List.length_replicate]; exact small1000 (by omega), (J6.same s6).put Dj.symm, (B46.trans (But.of s6)).put hD, ?_⟩
        rw [upd_same, List.replicate_succ']
      rintro H4 ⟨J4, B4, e4⟩
      have row4 := row2.but J2 B4
      have ht4 := B4 _ _ ht2 (J2.no ht2 fun _ _ _ z => nomatch z)
      have kW4 := B4 _ _ kW nW
      refine ⟨_, _, _, _, rfl, rfl, kW4, e4, (by rw [List.length_replicate, List.length_replicate]; exact Nat.le_of_lt (small1000 (by omega))), fun Lp1 hLp1 => ?_⟩
      rw [rep_app]
      have sLp1 := same_new (o := (.lst (List.replicate (1 + 7 * i + 4) (V.str (wo (some 1)))))) (Same.refl H4) hLp1
      have nLp1 : Lp1 ≠ j := (J4.ne hLp1).symm
      have row4 := row4.but J4 (But.of sLp1)
      have ht4 := sLp1 _ _ ht4
      have kW4 := sLp1 _ _ kW4
      have e4 := sLp1 _ _ e4
      have B4 := B4.trans (But.of sLp1)
      have J4 := J4.same sLp1
      have kLp1 : upd H4 Lp1 (.lst (List.replicate (1 + 7 * i + 4) (V.str (wo (some 1))))) Lp1 = some (.lst (List.replicate (1 + 7 * i + 4) (V.str (wo (some 1))))) := upd_same
      generalize upd H4 Lp1 (.lst (List.replicate (1 + 7 * i + 4) (V.str (wo (some 1))))) = L1 at sLp1 row4 ht4 kW4 e4 B4 J4 kLp1 ⊢
      try dsimp only [L2.start, List.set, List.map, List.append, List.replicate, List.length]
      refine ⟨_, rfl, _, rfl, _, rfl, _, rfl, _, _, _, _, _, _, _, rfl, told_badP row4.at n1 (by omega) ht4 S W0 (by unfold BadP; omega), fun L2 sL2 => ?_⟩
      have row4 := row4.but J4 (But.of sL2)
      have ht4 := sL2 _ _ ht4
      have kLp1 := sL2 _ _ kLp1
      have B4 := B4.trans (But.of sL2)
      have J4 := J4.same sL2
      refine ⟨_, rfl, _, rfl, _, rfl, _, rfl, _, _, _, _, _, _, _, rfl, told_badP row4.at n1 (by omega) ht4 S W0 (by unfold BadP; omega), fun L3 sL3 => ?_⟩
      have row4 := row4.but J4 (But.of sL3)
      have ht4 := sL3 _ _ ht4
      have kLp1 := sL3 _ _ kLp1
      have B4 := B4.trans (But.of sL3)
      have J4 := J4.same sL3
      refine ⟨(small1000 (by show (1 : Nat) ≤ 1000; decide)), fun Lp4 hLp4 => ?_⟩
      have sLp4 := same_new (o := (.lst [V.str (wo (some 1)), V.str (wo (some 1))])) (Same.refl L3) hLp4
      have nLp4 : Lp4 ≠ j := (J4.ne hLp4).symm
      have row4 := row4.but J4 (But.of sLp4)
      have ht4 := sLp4 _ _ ht4
      have kLp1 := sLp4 _ _ kLp1
      have B4 := B4.trans (But.of sLp4)
      have J4 := J4.same sLp4
      have kLp4 : upd L3 Lp4 (.lst [V.str (wo (some 1)), V.str (wo (some 1))]) Lp4 = some (.lst [V.str (wo (some 1)), V.str (wo (some 1))]) := upd_same
      generalize upd L3 Lp4 (.lst [V.str (wo (some 1)), V.str (wo (some 1))]) = L4 at sLp4 row4 ht4 kLp1 B4 J4 kLp4 ⊢
      have kLp4 : L4 Lp4 = some (.lst (List.replicate (2) (V.str (wo (some 1))))) := kLp4
      have Bw := B4
      refine ⟨_, _, _, _, rfl, rfl, kLp1, kLp4, (by rw [List.length_replicate, List.length_replicate]; exact Nat.le_of_lt (small1000 (by omega))), fun Lp5 hLp5 => ?_⟩
      rw [rep_app]
      have sLp5 := same_new (o := (.lst (List.replicate (1 + 7 * i + 4 + 2) (V.str (wo (some 1)))))) (Same.refl L4) hLp5
      have nLp5 : Lp5 ≠ j := (J4.ne hLp5).symm
      have row4 := row4.but J4 (But.of sLp5)
      have ht4 := sLp5 _ _ ht4
      have kLp1 := sLp5 _ _ kLp1
      have kLp4 := sLp5 _ _ kLp4
      have B4 := B4.trans (But.of sLp5)
      have J4 := J4.same sLp5
      have kLp5 : upd L4 Lp5 (.lst (List.replicate (1 + 7 * i + 4 + 2) (V.str (wo (some 1))))) Lp5 = some (.lst (List.replicate (1 + 7 * i + 4 + 2) (V.str (wo (some 1))))) := upd_same
      generalize upd L4 Lp5 (.lst (List.replicate (1 + 7 * i + 4 + 2) (V.str (wo (some 1))))) = L5 at sLp5 row4 ht4 kLp1 kLp4 B4 J4 kLp5 ⊢
      try dsimp only [L2.start, List.set, List.map, List.append, List.replicate, List.length]
      refine ⟨_, rfl, .inl ⟨rfl, _, SqL.of kLp5⟩, _, rfl, _, rfl, _, rfl, _, _, _, _, _, _, _, rfl, told_badP row4.at n1 (by omega) ht4 S W0 (by unfold BadP; omega), fun L6 sL6 => ?_⟩
      have row4 := row4.but J4 (But.of sL6)
      have ht4 := sL6 _ _ ht4
      have kLp5 := sL6 _ _ kLp5
      have B4 := B4.trans (But.of sL6)
      have J4 := J4.same sL6
      have e7 : List.replicate (1 + 7 * i + 4 + 2) (V.str (wo (some 1))) ++ [V.str (wo (some 1))] = List.replicate (1 + 7 * (i + 1)) (V.str (wo (some 1))) := by
        rw [← List.replicate_succ']
        congr 1
      refine ⟨_, _, _, rfl, rfl, kLp5, by rw [List.length_replicate]; exact small1000 (by omega), ?_⟩
      exact ⟨(J4.put nLp5.symm).mono (by omega), B2.trans (B4.put (Bw.free nLp5 hLp5)), Lp5, _, _, _, nLp5, by rw [upd_same]; exact congrArg (fun z => some (HO.lst z)) e7, rfl⟩
    · rintro σ H2 ⟨J2, B2, W, u, v', w', nW, kW, rfl⟩
      have row2 := row.but J B2
      have ht2 := B2 _ _ ht (J.no ht fun _ _ _ z => nomatch z)
      have kW : H2 W = some (.lst (List.replicate 29 (V.str (wo (some 1))))) := kW
      have Bt := But.refl H2 j
      have rowb := row2
      have htb := ht2
      have Jb := J2
      refine ⟨_, rfl, _, rfl, _, rfl, _, rfl, _, rfl, _, _, rfl, rfl, _, _, _, _, _, _, _, rfl, told_badP row2.at n1 (by omega) ht2 S W0 (by unfold BadP; omega), fun M1 sM1 => ?_⟩
      have row2 := row2.but J2 (But.of sM1)
      have ht2 := sM1 _ _ ht2
      have kW := sM1 _ _ kW
      have Bt := Bt.trans (But.of sM1)
      have J2 := J2.same sM1
      refine ⟨_, rfl, _, rfl, _, rfl, _, _, _, _, _, _, _, rfl, told_badP row2.at n1 (by omega) ht2 S W0 (by unfold BadP; omega), fun M2 sM2 => ?_⟩
      have row2 := row2.but J2 (But.of sM2)
      have ht2 := sM2 _ _ ht2
      have kW := sM2 _ _ kW
      have Bt := Bt.trans (But.of sM2)
      have J2 := J2.same sM2
      refine ⟨(small1000 (by show (1 : Nat) ≤ 1000; decide)), fun Mp3 hMp3 => ?_⟩
      have sMp3 := same_new (o := (.lst [V.str (wo (some 1)), V.str (wo (some 1))])) (Same.refl M2) hMp3
      have nMp3 : Mp3 ≠ j := (J2.ne hMp3).symm
      have row2 := row2.but J2 (But.of sMp3)
      have ht2 := sMp3 _ _ ht2
      have kW := sMp3 _ _ kW
      have Bt := Bt.trans (But.of sMp3)
      have J2 := J2.same sMp3
      have kMp3 : upd M2 Mp3 (.lst [V.str (wo (some 1)), V.str (wo (some 1))]) Mp3 = some (.lst [V.str (wo (some 1)), V.str (wo (some 1))]) := upd_same
      generalize upd M2 Mp3 (.lst [V.str (wo (some 1)), V.str (wo (some 1))]) = M3 at sMp3 row2 ht2 kW Bt J2 kMp3 ⊢
      have kMp3 : M3 Mp3 = some (.lst (List.replicate (2) (V.str (wo (some 1))))) := kMp3
      have Bw := Bt
      refine ⟨_, _, _, _, rfl, rfl, kW, kMp3, (by rw [List.length_replicate, List.length_replicate]; exact Nat.le_of_lt (small1000 (by decide))), fun Mp4 hMp4 => ?_⟩
      rw [rep_app]
      have sMp4 := same_new (o := (.lst (List.replicate (29 + 2) (V.str (wo (some 1)))))) (Same.refl M3) hMp4
      have nMp4 : Mp4 ≠ j := (J2.ne hMp4).symm
      have row2 := row2.but J2 (But.of sMp4)
      have ht2 := sMp4 _ _ ht2
      have kW := sMp4 _ _ kW
      have kMp3 := sMp4 _ _ kMp3
      have Bt := Bt.trans (But.of sMp4)
      have J2 := J2.same sMp4
      have kMp4 : upd M3 Mp4 (.lst (List.replicate (29 + 2) (V.str (wo (some 1))))) Mp4 = some (.lst (List.replicate (29 + 2) (V.str (wo (some 1))))) := upd_same
      generalize upd M3 Mp4 (.lst (List.replicate (29 + 2) (V.str (wo (some 1))))) = M4 at sMp4 row2 ht2 kW kMp3 Bt J2 kMp4 ⊢
      try dsimp only [L2.start, List.set, List.map, List.append, List.replicate, List.length]
      refine ⟨_, rfl, .inl ⟨rfl, _, SqL.of kMp4⟩, _, rfl, _, rfl, _, rfl, _, rfl, _, _, rfl, rfl, _, _, _, _, _, _, _, rfl, told_badP row2.at n1 (by omega) ht2 S W0 (by unfold BadP; omega), fun M5 sM5 => ?_⟩
      have row2 := row2.but J2 (But.of sM5)
      have ht2 := sM5 _ _ ht2
      have kMp4 := sM5 _ _ kMp4
      have Bt := Bt.trans (But.of sM5)
      have J2 := J2.same sM5
      refine ⟨_, _, _, rfl, rfl, kMp4, by rw [List.length_replicate]; exact small1000 (by decide), ?_⟩
      have kMp4' : upd M5 Mp4 (.lst (List.replicate (29 + 2) (V.str (wo (some 1))) ++ [V.str (wo (some 1))])) Mp4 = some (.lst (List.replicate (29 + 2 + 1) (V.str (wo (some 1))))) := by rw [upd_same, ← List.replicate_succ']
      have Bt : But H2 (upd M5 Mp4 (.lst (List.replicate (29 + 2) (V.str (wo (some 1))) ++ [V.str (wo (some 1))]))) j := Bt.put (Bw.free nMp4 hMp4)
      have J2 := J2.put (o := (.lst (List.replicate (29 + 2) (V.str (wo (some 1))) ++ [V.str (wo (some 1))]))) nMp4.symm
      have row2 := rowb.but Jb Bt
      have ht2 := Bt _ _ htb (Jb.no htb fun _ _ _ z => nomatch z)
      generalize upd M5 Mp4 (.lst (List.replicate (29 + 2) (V.str (wo (some 1))) ++ [V.str (wo (some 1))])) = H8 at kMp4' Bt J2 row2 ht2  ⊢
      try dsimp only [L2.start, List.set, List.map, List.append, List.replicate, List.length]
      refine ⟨_, rfl, _, rfl, _, rfl, _, _, rfl, rfl, _, _, _, _, _, _, _, rfl, told_fineP ⟨row2.at, ht2, G, S, big⟩ (by unfold FineP; omega), fun M6 sM6 => ?_⟩
      have row2 := row2.but J2 (But.of sM6)
      have ht2 := sM6 _ _ ht2
      have kMp4' := sM6 _ _ kMp4'
      have Bt := Bt.trans (But.of sM6)
      have J2 := J2.same sM6
      refine ⟨_, rfl, _, rfl, _, rfl, _, _, _, _, _, _, _, rfl, told_fineP ⟨row2.at, ht2, G, S, big⟩ (by unfold FineP; omega), fun M7 sM7 => ?_⟩
      have row2 := row2.but J2 (But.of sM7)
      have ht2 := sM7 _ _ ht2
      have kMp4' := sM7 _ _ kMp4'
      have Bt := Bt.trans (But.of sM7)
      have J2 := J2.same sM7
      refine ⟨(small1000 (by show (1 : Nat) ≤ 1000; decide)), fun Mp8 hMp8 => ?_⟩
      have sMp8 := same_new (o := (.lst [V.str (wo none), V.str (wo none)])) (Same.refl M7) hMp8
      have nMp8 : Mp8 ≠ j := (J2.ne hMp8).symm
      have row2 := row2.but J2 (But.of sMp8)
      have ht2 := sMp8 _ _ ht2
      have kMp4' := sMp8 _ _ kMp4'
      have Bt := Bt.trans (But.of sMp8)
      have J2 := J2.same sMp8
      have kMp8 : upd M7 Mp8 (.lst [V.str (wo none), V.str (wo none)]) Mp8 = some (.lst [V.str (wo none), V.str (wo none)]) := upd_same
      generalize upd M7 Mp8 (.lst [V.str (wo none), V.str (wo none)]) = M8 at sMp8 row2 ht2 kMp4' Bt J2 kMp8 ⊢
      have kMp8 : M8 Mp8 = some (.lst (List.replicate (2) (V.str (wo none)))) := kMp8
      try dsimp only [L2.start, List.set, List.map, List.append, List.replicate, List.length]
      refine ⟨_, rfl, _, rfl, _, rfl, _, rfl, _, _, _, _, _, _, _, rfl, told_fineP ⟨row2.at, ht2, G, S, big⟩ (by unfold FineP; omega), fun M9 sM9 => ?_⟩
      have row2 := row2.but J2 (But.of sM9)
      have ht2 := sM9 _ _ ht2
      have kMp4' := sM9 _ _ kMp4'
      have kMp8 := sM9 _ _ kMp8
      have Bt := Bt.trans (But.of sM9)
      have J2 := J2.same sM9
      refine ⟨_, rfl, _, rfl, _, _, _, _, _, _, _, rfl, told_fineP ⟨row2.at, ht2, G, S, big⟩ (by unfold FineP; omega), fun M10 sM10 => ?_⟩
      have row2 := row2.but J2 (But.of sM10)
      have ht2 := sM10 _ _ ht2
      have kMp4' := sM10 _ _ kMp4'
      have kMp8 := sM10 _ _ kMp8
      have Bt := Bt.trans (But.of sM10)
      have J2 := J2.same sM10
      refine ⟨(small1000 (by show (1 : Nat) ≤ 1000; decide)), fun Mp11 hMp11 => ?_⟩
      have sMp11 := same_new (o := (.lst [V.str (wo none), V.str (wo none)])) (Same.refl M10) hMp11
      have nMp11 : Mp11 ≠ j := (J2.ne hMp11).symm
      have row2 := row2.but J2 (But.of sMp11)
      have ht2 := sMp11 _ _ ht2
      have kMp4' := sMp11 _ _ kMp4'
      have kMp8 := sMp11 _ _ kMp8
      have Bt := Bt.trans (But.of sMp11)
      have J2 := J2.same sMp11
      have kMp11 : upd M10 Mp11 (.lst [V.str (wo none), V.str (wo none)]) Mp11 = some (.lst [V.str (wo none), V.str (wo none)]) := upd_same
      generalize upd M10 Mp11 (.lst [V.str (wo none), V.str (wo none)]) = M11 at sMp11 row2 ht2 kMp4' kMp8 Bt J2 kMp11 ⊢
      have kMp11 : M11 Mp11 = some (.lst (List.replicate (2) (V.str (wo none)))) := kMp11
      have Bw := Bt
      refine ⟨_, _, _, _, rfl, rfl, kMp8, kMp11, (small1000 (by show (3 : Nat) ≤ 1000; decide)), fun Mp12 hMp12 => ?_⟩
      rw [rep_app]
      have sMp12 := same_new (o := (.lst (List.replicate (2 + 2) (V.str (wo none))))) (Same.refl M11) hMp12
      have nMp12 : Mp12 ≠ j := (J2.ne hMp12).symm
      have row2 := row2.but J2 (But.of sMp12)
      have ht2 := sMp12 _ _ ht2
      have kMp4' := sMp12 _ _ kMp4'
      have kMp8 := sMp12 _ _ kMp8
      have kMp11 := sMp12 _ _ kMp11
      have Bt := Bt.trans (But.of sMp12)
      have J2 := J2.same sMp12
      have kMp12 : upd M11 Mp12 (.lst (List.replicate (2 + 2) (V.str (wo none)))) Mp12 = some (.lst (List.replicate (2 + 2) (V.str (wo none)))) := upd_same
      generalize upd M11 Mp12 (.lst (List.replicate (2 + 2) (V.str (wo none)))) = M12 at sMp12 row2 ht2 kMp4' kMp8 kMp11 Bt J2 kMp12 ⊢
      try dsimp only [L2.start, List.set, List.map, List.append, List.replicate, List.length]
      refine ⟨_, rfl, .inl ⟨rfl, _, SqL.of kMp12⟩, _, rfl, _, rfl, _, rfl, _, rfl, _, rfl, _, _, _, _, _, _, _, rfl, told_fineP ⟨row2.at, ht2, G, S, big⟩ (by unfold FineP; omega), fun M13 sM13 => ?_⟩
      have row2 := row2.but J2 (But.of sM13)
      have ht2 := sM13 _ _ ht2
      have kMp4' := sM13 _ _ kMp4'
      have kMp12 := sM13 _ _ kMp12
      have Bt := Bt.trans (But.of sM13)
      have J2 := J2.same sM13
      have wne : Mp4 ≠ Mp12 := fun z => by
        rw [z, kMp12] at kMp4'
        have := congrArg (fun x : Option HO => match x with | some (.lst l) => l.length | _ => 0) kMp4'
        simp at this
      refine ⟨_, _, _, rfl, rfl, kMp12, by rw [List.length_replicate]; exact small1000 (by decide), ?_⟩
      have kMp12' : upd M13 Mp12 (.lst (List.replicate (2 + 2) (V.str (wo none)) ++ [V.str (wo none)])) Mp12 = some (.lst (List.replicate (2 + 2 + 1) (V.str (wo none)))) := by rw [upd_same, ← List.replicate_succ']
      have kMp4' : upd M13 Mp12 (.lst (List.replicate (2 + 2) (V.str (wo none)) ++ [V.str (wo none)])) Mp4 = _ := (upd_ne (fun z => wne z)).trans kMp4'
      have Bt : But H2 (upd M13 Mp12 (.lst (List.replicate (2 + 2) (V.str (wo none)) ++ [V.str (wo none)]))) j := Bt.put (Bw.free nMp12 hMp12)
      have J2 := J2.put (o := (.lst (List.replicate (2 + 2) (V.str (wo none)) ++ [V.str (wo none)]))) nMp12.symm
      have row2 := rowb.but Jb Bt
      have ht2 := Bt _ _ htb (Jb.no htb fun _ _ _ z => nomatch z)
      generalize upd M13 Mp12 (.lst (List.replicate (2 + 2) (V.str (wo none)) ++ [V.str (wo none)])) = H9 at kMp12' Bt J2 row2 ht2 kMp4' ⊢
      try dsimp only [L2.start, List.set, List.map, List.append, List.replicate, List.length]
      refine ⟨_, rfl, (small1000 (by show (0 : Nat) ≤ 1000; decide)), fun Mp14 hMp14 => ?_⟩
      have sMp14 := same_new (o := (.lst [.str "place"])) (Same.refl H9) hMp14
      have nMp14 : Mp14 ≠ j := (J2.ne hMp14).symm
      have row2 := row2.but J2 (But.of sMp14)
      have ht2 := sMp14 _ _ ht2
      have kMp4' := sMp14 _ _ kMp4'
      have kMp12' := sMp14 _ _ kMp12'
      have Bt := Bt.trans (But.of sMp14)
      have J2 := J2.same sMp14
      have kMp14 : upd H9 Mp14 (.lst [.str "place"]) Mp14 = some (.lst [.str "place"]) := upd_same
      generalize upd H9 Mp14 (.lst [.str "place"]) = M14 at sMp14 row2 ht2 kMp4' kMp12' Bt J2 kMp14 ⊢
      refine ⟨_, rfl, Mp4, _, rfl, .inl (SqL.of kMp4'), ?_⟩
      rw [List.length_replicate]
      refine ⟨_, _, _, rfl, rfl, kMp14, by decide, by decide, by decide +kernel, fun Mp15 hMp15 => ?_⟩
      have sMp15 := same_new (o := (.lst (List.replicate (Int.toNat ((29 + 2 + 1 : Nat) : Int)) [V.str "place"]).flatten)) (Same.refl M14) hMp15
      have nMp15 : Mp15 ≠ j := (J2.ne hMp15).symm
      have row2 := row2.but J2 (But.of sMp15)
      have ht2 := sMp15 _ _ ht2
      have kMp4' := sMp15 _ _ kMp4'
      have kMp12' := sMp15 _ _ kMp12'
      have Bt := Bt.trans (But.of sMp15)
      have J2 := J2.same sMp15
      have kMp15 : upd M14 Mp15 (.lst (List.replicate (Int.toNat ((29 + 2 + 1 : Nat) : Int)) [V.str "place"]).flatten) Mp15 = some (.lst (List.replicate (Int.toNat ((29 + 2 + 1 : Nat) : Int)) [V.str "place"]).flatten) := upd_same
      generalize upd M14 Mp15 (.lst (List.replicate (Int.toNat ((29 + 2 + 1 : Nat) : Int)) [V.str "place"]).flatten) = M15 at sMp15 row2 ht2 kMp4' kMp12' Bt J2 kMp15 ⊢
      have e1 : Dp K M15 (.ref Mp4) (.list ((List.replicate 32 ("place" : Str)).map PyData.str)) := dp_strL (ws := List.replicate 32 "place") kMp4'
      have e2 : Dp K M15 (.ref Mp15) (.list ((List.replicate 32 ("place" : Str)).map PyData.str)) := dp_strL (ws := List.replicate 32 "place") kMp15
      refine ⟨_, _, e1, e2, by decide +kernel, by decide +kernel, _, rfl, ?_⟩
      refine ifT (by decide +kernel) ?_
      refine ⟨_, rfl, (small1000 (by show (0 : Nat) ≤ 1000; decide)), fun Mp16 hMp16 => ?_⟩
      have sMp16 := same_new (o := (.lst [.str "fine"])) (Same.refl M15) hMp16
      have nMp16 : Mp16 ≠ j := (J2.ne hMp16).symm
      have row2 := row2.but J2 (But.of sMp16)
      have ht2 := sMp16 _ _ ht2
      have kMp4' := sMp16 _ _ kMp4'
      have kMp12' := sMp16 _ _ kMp12'
      have Bt := Bt.trans (But.of sMp16)
      have J2 := J2.same sMp16
      have kMp16 : upd M15 Mp16 (.lst [.str "fine"]) Mp16 = some (.lst [.str "fine"]) := upd_same
      generalize upd M15 Mp16 (.lst [.str "fine"]) = M16 at sMp16 row2 ht2 kMp4' kMp12' Bt J2 kMp16 ⊢
      refine ⟨_, _, _, rfl, rfl, kMp16, by decide, by decide, by decide +kernel, fun Mp17 hMp17 => ?_⟩
      have sMp17 := same_new (o := (.lst (List.replicate (Int.toNat 5) [V.str "fine"]).flatten)) (Same.refl M16) hMp17
      have nMp17 : Mp17 ≠ j := (J2.ne hMp17).symm
      have row2 := row2.but J2 (But.of sMp17)
      have ht2 := sMp17 _ _ ht2
      have kMp4' := sMp17 _ _ kMp4'
      have kMp12' := sMp17 _ _ kMp12'
      have Bt := Bt.trans (But.of sMp17)
      have J2 := J2.same sMp17
      have kMp17 : upd M16 Mp17 (.lst (List.replicate (Int.toNat 5) [V.str "fine"]).flatten) Mp17 = some (.lst (List.replicate (Int.toNat 5) [V.str "fine"]).flatten) := upd_same
      generalize upd M16 Mp17 (.lst (List.replicate (Int.toNat 5) [V.str "fine"]).flatten) = M17 at sMp17 row2 ht2 kMp4' kMp12' Bt J2 kMp17 ⊢
      have e1 : Dp K M17 (.ref Mp12) (.list ((List.replicate 5 ("fine" : Str)).map PyData.str)) := dp_strL (ws := List.replicate 5 "fine") kMp12'
      have e2 : Dp K M17 (.ref Mp17) (.list ((List.replicate 5 ("fine" : Str)).map PyData.str)) := dp_strL (ws := List.replicate 5 "fine") kMp17
      refine ⟨_, _, e1, e2, by decide +kernel, by decide +kernel, ?_⟩
      rw [show PyData.eqv (.list ((List.replicate 5 ("fine" : Str)).map PyData.str)) (.list ((List.replicate 5 ("fine" : Str)).map PyData.str)) = true by decide +kernel]
      exact q _ (J2.mono (by omega)) ((B0.trans B2).trans Bt)
end
end Cw
namespace Cw
open PySem L2
abbrev sCr : Stmt := top 51
theorem nasc_mem {n : Int} {xs : List V} {x : V} (h : x ∈ xs) (b : plOk 0 n x = false) : ¬ AscOk 0 n xs := fun ⟨ns, e, r, _⟩ => by
  subst e
  have := List.all_eq_true.mp (all_map_ints r) x h
  rw [b] at this
  cases this
theorem nasc_two {n : Int} {xs ys : List V} {a b : Int} (h : ¬ a < b) (ha : .int a ∈ xs) (hb : .int b ∈ ys) : ¬ AscOk 0 n (xs ++ ys) := fun ⟨ns, e, r, asc⟩ => by
  have e2 := congrArg (List.map fun v => match v with | V.int z => z | _ => 0) e
  rw [List.map_append, List.map_map] at e2
  have id : (List.map ((fun v => match v with | V.int z => z | _ => (0 : Int)) ∘ V.int) ns) = ns := List.map_id' ns
  rw [id] at e2
  rw [Asc, ← e2, List.pairwise_append] at asc
  exact h (asc.2.2 a (List.mem_map.mpr ⟨_, ha, rfl⟩) b (List.mem_map.mpr ⟨_, hb, rfl⟩))
/-- things that are no cuts, none the jar -/
def AllC (K : PySem.W.Frag) (H : Hp) (n : Int) (j : Addr) (xs : List V) : Prop := ∀ x ∈ xs, BadC K H n x ∧ x ≠ .ref j
theorem NoL.same {K : PySem.W.Frag} {H H' : Hp} {x : V} (h : NoL K H x) (s : Same H H') : NoL K H' x := by
  obtain ⟨t, n⟩ := h
  refine ⟨t.same s, fun a xs e h2 => ?_⟩
  cases t with
  | lst e2 =>
    cases e
    exact n _ _ rfl e2
  | tup e2 =>
    cases e
    rw [s _ _ e2] at h2
    cases h2
  | dct e2 =>
    cases e
    rw [s _ _ e2] at h2
    cases h2
  | ins e2 =>
    cases e
    rw [s _ _ e2] at h2
    cases h2
  | _ => cases e
theorem NoL.but {K : PySem.W.Frag} {H H' : Hp} {x : V} {j : Addr} {k k' : Nat} (h : NoL K H x) (J : JarAt H j k) (J' : JarAt H' j k') (B : But H H' j) : NoL K H' x := by
  obtain ⟨t, n⟩ := h
  refine ⟨t.but J J' B, fun a xs e h2 => ?_⟩
  cases t with
  | lst e2 =>
    cases e
    exact n _ _ rfl e2
  | tup e2 =>
    cases e
    rw [B _ _ e2 (J.no e2 fun _ _ _ z => nomatch z)] at h2
    cases h2
  | dct e2 =>
    cases e
    rw [B _ _ e2 (J.no e2 fun _ _ _ z => nomatch z)] at h2
    cases h2
  | ins e2 =>
    cases e
    rw [B _ _ e2 (J.no e2 fun _ _ _ z => nomatch z)] at h2
    cases h2
  | _ => cases e
theorem AllC.same {K : PySem.W.Frag} {H H' : Hp} {n : Int} {j : Addr} {xs : List V} (h : AllC K H n j xs) (s : Same H H') : AllC K H' n j xs := fun x hx => by
  obtain ⟨b, ne⟩ := h x hx
  refine ⟨?_, ne⟩
  cases b with
  | no b => exact .no (b.same s)
  | asc e l t b => exact .asc (s _ _ e) l (fun y hy => (t y hy).same s) b
  | last e l b => exact .last (s _ _ e) l b
theorem AllC.but {K : PySem.W.Frag} {H H' : Hp} {n : Int} {j : Addr} {k k' : Nat} {xs : List V} (h : AllC K H n j xs) (J : JarAt H j k) (B : But H H' j) (J' : JarAt H' j k') : AllC K H' n j xs := fun x hx => by
  obtain ⟨b, ne⟩ := h x hx
  refine ⟨?_, ne⟩
  cases b with
  | no b => exact .no (b.but J J' B)
  | asc e l t b => exact .asc (B _ _ e fun z => ne (by rw [z])) l (fun y hy => (t y hy).but J J' B) b
  | last e l b => exact .last (B _ _ e fun z => ne (by rw [z])) l b
theorem AllC.nil {K : PySem.W.Frag} {H : Hp} {n : Int} {j : Addr} : AllC K H n j [] := fun _ h => nomatch h
theorem AllC.cons {K : PySem.W.Frag} {H : Hp} {n : Int} {j : Addr} {x : V} {xs : List V} (a : AllC K H n j [x]) (b : AllC K H n j xs) : AllC K H n j (x :: xs) := fun y hy => by
  rcases List.mem_cons.mp hy with rfl | hy
  · exact a _ List.mem_cons_self
  · exact b _ hy
theorem AllC.app {K : PySem.W.Frag} {H : Hp} {n : Int} {j : Addr} {xs ys : List V} (a : AllC K H n j xs) (b : AllC K H n j ys) : AllC K H n j (xs ++ ys) := fun y hy => by
  rcases List.mem_append.mp hy with hy | hy
  · exact a _ hy
  · exact b _ hy
theorem AllC.at {K : PySem.W.Frag} {H : Hp} {n : Int} {j : Addr} {x : V} (t : Thg K H x) (z : ∀ a, x ≠ .ref a) : AllC K H n j [x] := fun y hy => by
  rw [List.mem_singleton.mp hy]
  exact ⟨.no ⟨t, fun a _ e => absurd e (z a)⟩, z j⟩
theorem AllC.tup {K : PySem.W.Frag} {H : Hp} {n : Int} {j p : Addr} {xs : List V} (e : H p = some (.tup xs)) (ne : p ≠ j) : AllC K H n j [.ref p] := fun y hy => by
  rw [List.mem_singleton.mp hy]
  refine ⟨.no ⟨.tup e, fun a ys e1 e2 => ?_⟩, fun z => ne (V.ref.inj z)⟩
  cases e1
  rw [e] at e2
  cases e2
theorem AllC.dct {K : PySem.W.Frag} {H : Hp} {n : Int} {j p : Addr} {xs : List (Key × V)} (e : H p = some (.dK xs)) (ne : p ≠ j) : AllC K H n j [.ref p] := fun y hy => by
  rw [List.mem_singleton.mp hy]
  refine ⟨.no ⟨.dct e, fun a ys e1 e2 => ?_⟩, fun z => ne (V.ref.inj z)⟩
  cases e1
  rw [e] at e2
  cases e2
theorem AllC.last {K : PySem.W.Frag} {H : Hp} {n : Int} {j p : Addr} {ns : List Int} (e : IL H p ns) (ne : p ≠ j) (l : ns.length ≤ 1000) (h : ∀ x ∈ ns, x < n) : AllC K H n j [.ref p] := fun y hy => by
  rw [List.mem_singleton.mp hy]
  refine ⟨.last e l fun z => ?_, fun z => ne (V.ref.inj z)⟩
  have := h n (List.mem_of_getLast? z)
  omega
theorem AllC.asc {K : PySem.W.Frag} {H : Hp} {n : Int} {j p : Addr} {xs : List V} (e : H p = some (.lst xs)) (ne : p ≠ j) (l : xs.length ≤ 1000) (t : ∀ y ∈ xs, Thg K H y) (h : ¬ AscOk 0 n xs) : AllC K H n j [.ref p] := fun y hy => by
  rw [List.mem_singleton.mp hy]
  exact ⟨.asc e l t h, fun z => ne (V.ref.inj z)⟩
theorem thg_ints {K : PySem.W.Frag} {H : Hp} (ns : List Int) : ∀ y ∈ ns.map V.int, Thg K H y := fun y hy => by
  obtain ⟨z, _, rfl⟩ := List.mem_map.mp hy
  exact .int z
theorem thg_app {K : PySem.W.Frag} {H : Hp} {xs ys : List V} (a : ∀ y ∈ xs, Thg K H y) (b : ∀ y ∈ ys, Thg K H y) : ∀ y ∈ xs ++ ys, Thg K H y := fun y hy => by
  rcases List.mem_append.mp hy with h | h
  · exact a y h
  · exact b y h
theorem thg_one {K : PySem.W.Frag} {H : Hp} {x : V} (a : Thg K H x) : ∀ y ∈ [x], Thg K H y := fun y hy => by
  rw [List.mem_singleton.mp hy]
  exact a
theorem thg_cons {K : PySem.W.Frag} {H : Hp} {x : V} {xs : List V} (a : Thg K H x) (b : ∀ y ∈ xs, Thg K H y) : ∀ y ∈ x :: xs, Thg K H y := fun y hy => by
  rcases List.mem_cons.mp hy with rfl | h
  · exact a
  · exact b y h
theorem cut_toI {ns : List Int} {k : Int} (h0 : 0 ≤ k) (h : k ≤ ns.length) : cutV (ns.map V.int) none (some k) = (ns.take k.toNat).map V.int := by
  have e : HT.sIx (ns.map V.int).length (ns.map V.int).length (some k) = k.toNat := by
    show (if k < 0 then (k + _).toNat else min k.toNat (ns.map V.int).length) = _
    rw [if_neg (by omega), List.length_map]
    omega
  unfold cutV
  rw [e, HT.sIx_none, List.drop_zero, List.map_take]
  rfl
theorem cut_fromI {ns : List Int} {k : Int} (h0 : 0 ≤ k) (h : k ≤ ns.length) : cutV (ns.map V.int) (some k) none = (ns.drop k.toNat).map V.int := by
  have e : HT.sIx (ns.map V.int).length 0 (some k) = k.toNat := by
    show (if k < 0 then (k + _).toNat else min k.toNat (ns.map V.int).length) = _
    rw [if_neg (by omega), List.length_map]
    omega
  unfold cutV
  rw [e, HT.sIx_none, ← List.map_drop, List.take_of_length_le]
  rw [List.length_map, List.length_drop, List.length_map]
  exact Nat.le_refl _
theorem rest_ofC {C R : Addr → Hp → Prop} {G : Prop} (a : (∀ x H, C x H → R x H) → G) (b : ∀ x H, C x H → R x H) : G := a b
theorem pl_hi {n z : Int} (h : n < z) : plOk 0 n (.int z) = false := by
  show (decide (0 ≤ z) && decide (z ≤ n)) = false
  rw [decide_eq_false (by omega : ¬ z ≤ n), Bool.and_false]
theorem told_badC {K : PySem.W.Frag} {D0 D1 D2 D3 O0 O1 O2 CE C : Addr} {H : Hp} {r : Addr} {x y z u : V} {n : Int} {ms ss : List Int} (row : RowAt C H r n ms ss) (B : BadC K H n x) (W : WordAt K D0 D1 D2 D3 [.ref O0, .ref O1, .ref O2] CE D2 2) : ToldAt K D0 D1 D2 D3 O0 O1 O2 CE C D0 D1 D3 D2 H 4 (.ref r) x y z u (some 2) :=
  .inr (.inr (.inr (.inr ⟨rfl, .inr ⟨D2, 2, rfl, W, fun Q E h => .inr ⟨r, x, n, ms, ss, rfl, row, B, h⟩⟩⟩)))
/-- what is known of the cuts that were drawn -/
structure SmO (n : Int) (sm : List Int) : Prop where
  n1 : 1 ≤ n
  nb : n ≤ 40
  len : sm.length ≤ 40
  asc : Asc sm
  rng : ∀ x ∈ sm, 0 ≤ x ∧ x < n
def spCr (C : Addr) : Sp := fun vs H Q _ => ∃ (j r : Addr) (k : Nat) (n : Int) (ms ss : List Int), vs = [.ref j, .ref r] ∧ RowOff C H j r n ms ss ∧ 1 ≤ n ∧ n ≤ 40 ∧ JarAt H j (k + 41) ∧ ∀ H', JarAt H' j k → But H H' j → Q (.bl true) H'
section
variable {P : Program} {w : World} {K : PySem.W.Frag} {mg : Str → Option Value} {base : Heap}
abbrev NCr : List Str := ["jar", "made", "length", "some", "full", "bad", "spot", "odd", "one"]
theorem scCr : FnScope NCr ["jar", "made"] (defScope sCr) := ⟨rfl, rfl, rfl, by decide +kernel, rfl, by decide +kernel, by decide +kernel⟩
theorem ok_cr {f C fD fT D0 D1 D2 D3 O0 O1 O2 CE pL fGL pM fGM pS fGS : Addr} {fd fdD fdT dL dM dS : FuncData} (F : Fun K "_law_cuts_right" "_law_cuts_right" sCr f fd) (T : Bl mg) (hST : mg "str" = none) (R : Cl K mg C) (Gs : Gets P w K mg base C pL fGL pM fGM pS fGS dL dM dS) (W : WordAt K D0 D1 D2 D3 [.ref O0, .ref O1, .ref O2] CE D2 2)
    (gD : mg "_law_dip" = some (.ref fD)) (kD : PySem.W.keepIn K (.ref fD) = true) (bD : Binds K fdD ["jar", "many"] []) (GD : FnOk P w K mg base CX0 1 fD fdD ["jar", "many"] spDip)
    (gT : mg "_law_told" = some (.ref fT)) (kT : PySem.W.keepIn K (.ref fT) = true) (bT : Binds K fdT ["way", "made", "three", "one", "two", "last"] []) (GT : FnOk P w K mg base CX0 6 fT fdT ["way", "made", "three", "one", "two", "last"] (spTo K D0 D1 D2 D3 O0 O1 O2 CE C D0 D1 D3 D2)) :
    FnOk P w K mg base CX0 8 f fd ["jar", "made"] (spCr C) := by
  refine F.ok scCr (fun vs H Q E h => ?_) (fun cdv A outer s H vs Q E hr h => ?_)
  · obtain ⟨j, r, k, n, ms, ss, rfl, _⟩ := h
    rfl
  · obtain ⟨j, r, k, n, ms, ss, rfl, row, n1, nb, J, q⟩ := h
    refine ⟨_, (pss_cons (ps_par (i := 2) (j := 3) rfl scCr.nd rfl rfl (by decide) rfl rfl (pa_cons (pe_prop (pv 1) R.cl Gs.hL Gs.GL (hr.mono (by decide)) Gs.bL .nil pass0 rfl) (pa_cons (pe_lc (own := [("spot", 6)]) (g := (gName 6)) rfl scCr.nd (pi_range1 (by rfl) T.range (pa_cons (pe_prop (pv 1) R.cl Gs.hL Gs.GL (hr.mono (by decide)) Gs.bL .nil pass0 rfl) pa_nil)) (blkOk_by (own := [("spot", 6)]) (N := NCr) (sc := defScope sCr) (by decide +kernel)) (fun _ _ _ _ _ => (pg_name (i := 6) scCr.nd rfl (Or.inl rfl))) (fun _ _ _ _ _ => (pts_one (pt_cmpR op_eq (pe_call GD (hr.mono (by decide)) rfl gD kD bD .nil pass0 (pa_cons (pv 0) (pa_cons pe_int pa_nil))) pe_int (nomark _)))) (fun _ _ _ _ _ => (pv 6))) pa_nil)) (by rfl))
        (pss_cons (ps_set (i := 4) scCr.nd rfl (Or.inr rfl) (pe_op op_cat (pv 3) (pe_lst (pa_cons (pe_prop (pv 1) R.cl Gs.hL Gs.GL (hr.mono (by decide)) Gs.bL .nil pass0 rfl) pa_nil))))
        (pss_cons (ps_set (i := 5) scCr.nd rfl (Or.inl rfl) (pe_lst (pa_cons pe_non (pa_cons pe_int (pa_cons pe_bl (pa_cons pe_str (pa_cons (pe_tup pa_nil) (pa_cons pe_dnewK (pa_cons (pe_lst pa_nil) (pa_cons (pe_callTy call_tuple_of (by rfl) T.tuple (by decide +kernel) (pa_cons (pv 4) pa_nil)) (pa_cons (pv 3) (pa_cons (pe_op op_cat (pv 4) (pe_lst (pa_cons (pv 2) pa_nil))) (pa_cons (pe_op op_cat (pv 4) (pe_lst (pa_cons (pe_op op_add (pv 2) pe_int) pa_nil))) pa_nil)))))))))))))
        (pss_cons (ps_set (i := 5) scCr.nd rfl (Or.inl rfl) (pe_op op_cat (pv 5) (pe_lst (pa_cons (pe_op op_cat (pe_revL (pv 4)) (pe_lst (pa_cons (pv 2) pa_nil))) (pa_cons (pe_op op_cat (pe_lst (pa_cons (pe_un un_neg pe_int) pa_nil)) (pv 4)) (pa_cons (pe_op op_cat (pe_lst (pa_cons pe_non pa_nil)) (pv 4)) (pa_cons (pe_lst (pa_cons pe_bl (pa_cons (pe_op op_add (pv 2) pe_int) pa_nil))) (pa_cons (pe_op op_cat (pv 3) (pe_lst (pa_cons (pe_callTy call_str_int (by rfl) hST (by decide +kernel) (pa_cons (pv 2) pa_nil)) pa_nil))) pa_nil))))))))
        (pss_cons (ps_set (i := 5) scCr.nd rfl (Or.inl rfl) (pe_op op_cat (pv 5) (pe_lst (pa_cons (pe_lst (pa_cons (pv 4) pa_nil)) (pa_cons (pe_op op_cat (pe_lst (pa_cons pe_int (pa_cons pe_int pa_nil))) (pv 4)) (pa_cons (pe_op op_cat (pe_lst (pa_cons pe_bl pa_nil)) (pv 4)) pa_nil))))))
        (pss_cons (ps_if (pt_cmpR op_gt (pe_callB call_len_seq (by rfl) T.len PySem.boot_len (pa_cons (pv 3) pa_nil)) pe_int (nomark _)) (pss_one (ps_set (i := 5) scCr.nd rfl (Or.inl rfl) (pe_op op_cat (pv 5) (pe_lst (pa_cons (pe_op op_cat (pe_revL (pv 3)) (pe_lst (pa_cons (pv 2) pa_nil))) (pa_cons (pe_op op_cat (pe_op op_cat (pe_slice sl_list (pv 3) (po_some pe_int) po_none) (pe_slice sl_list (pv 3) po_none (po_some pe_int))) (pe_lst (pa_cons (pv 2) pa_nil))) pa_nil)))))) pss_nil)
        (pss_cons (ps_set (i := 6) scCr.nd rfl (Or.inr rfl) (pe_call GD (hr.mono (by decide)) rfl gD kD bD .nil pass0 (pa_cons (pv 0) (pa_cons (pe_op op_add (pe_callB call_len_seq (by rfl) T.len PySem.boot_len (pa_cons (pv 4) pa_nil)) pe_int) pa_nil))))
        (pss_cons (ps_set (i := 5) scCr.nd rfl (Or.inl rfl) (pe_op op_cat (pv 5) (pe_lc (own := [("odd", 7)]) (g := (gName 7)) (tt := tYes) rfl scCr.nd (pi_tup (pe_tup (pa_cons pe_non (pa_cons pe_str (pa_cons (pe_tup (pa_cons pe_int pa_nil)) (pa_cons (pe_lst (pa_cons pe_int pa_nil)) (pa_cons (pv 2) (pa_cons (pe_un un_neg pe_int) pa_nil)))))))) (blkOk_by (own := [("odd", 7)]) (N := NCr) (sc := defScope sCr) (by decide +kernel)) (fun _ _ _ _ _ => (pg_name (i := 7) scCr.nd rfl (Or.inl rfl))) (fun _ _ _ _ _ => pts_nil) (fun _ _ _ _ _ => (pe_op op_cat (pe_op op_cat (pe_slice (show SlR _ (rSlL K) from sl_list) (pv 4) po_none (po_some (pv 6))) (pe_lst (pa_cons (pv 7) pa_nil))) (pe_slice (show SlR _ (rSlL K) from sl_list) (pv 4) (po_some (pv 6)) po_none))))))
        (pss_one (ps_ret (pe_cmpR (op_eqD hr.units) (pe_lc (own := [("one", 8)]) (g := (gName 8)) rfl scCr.nd (pi_list (pv 5)) (blkOk_by (own := [("one", 8)]) (N := NCr) (sc := defScope sCr) (by decide +kernel)) (fun _ _ _ _ _ => (pg_name (i := 8) scCr.nd rfl (Or.inl rfl))) (fun _ _ _ _ _ => (pts_one (pt_cmpR op_ne (pe_call GT (hr.mono (by decide)) rfl gT kT bT .nil pass0 (pa_cons pe_int (pa_cons (pv 1) (pa_cons (pv 8) (pa_cons pe_int (pa_cons pe_int (pa_cons pe_int pa_nil))))))) pe_str (nomark _)))) (fun _ _ _ _ _ => (pv 8))) (pe_lst pa_nil) (nomark _)))))))))))), ?_⟩
    have hl : ∀ {H' : Hp}, RowOff C H' j r n ms ss → ∃ dx l1 l2, H' r = some (.ins C dx (flds n l1 l2)) := fun ⟨dx, l1, l2, ho, _⟩ => ⟨dx, l1, l2, ho⟩
    obtain ⟨dx, l1, l2, ho⟩ := hl row
    refine ⟨_, rfl, r, dx, _, rfl, ho, r, n, ms, ss, rfl, row.at, ?_⟩
    refine ⟨_, rfl, r, dx, _, rfl, ho, r, n, ms, ss, rfl, row.at, _, rfl, by omega, by omega, fun D hD => ?_⟩
    have nD : D ≠ j := (J.ne hD).symm
    refine lc_range (lo := 0) (n := Int.toNat _) (fun i H' => ∃ xs : List Int, JarAt H' j (k + 1 + (40 - i)) ∧ But H H' j ∧ IL H' D xs ∧ Asc xs ∧ (∀ x ∈ xs, 0 ≤ x ∧ x < i) ∧ xs.length ≤ i) ⟨[], (J.put nD.symm).mono (by omega), (But.refl H j).new hD, upd_same, .nil, fun _ h => (nomatch h), Nat.le_refl _⟩ ?_ ?_
    · rintro i H6 hi ⟨xs, J6, B6, hE, asc, bd, few⟩
      refine ⟨rfl, _, rfl, j, (k + 1 + (40 - (i + 1))), 2, rfl, J6.mono (by omega), by decide, by decide, fun v H7 v0 v3 J7 B7 => ⟨rfl, _, rfl, ?_⟩⟩
      have hE7 := B7 _ _ hE nD
      by_cases c : v = 0
      · refine ifT (dec_int.trans (decide_eq_true c)) ?_
        refine ⟨_, rfl, _, hE7, by rw [List.length_map]; exact small1000 (by omega), xs ++ [0 + (i : Int)], J7.put nD.symm, (B6.trans B7).put hD, ?_, asc_snoc asc fun x hx => ?_, fun x hx => ?_, by rw [List.length_append]; show xs.length + 1 ≤ i + 1; omega⟩
        · show upd _ _ _ D = _
          rw [upd_same, ints_app]
        · have := (bd x hx).2
          omega
        · rcases List.mem_append.mp hx with hx | hx
          · have := bd x hx
            omega
          · rw [List.mem_singleton.mp hx]
            omega
      · refine ifF (dec_int.trans (decide_eq_false c)) ?_
        exact ⟨xs, J7, B6.trans B7, hE7, asc, fun x hx => by have := bd x hx; omega, by omega⟩
    rintro H1 ⟨sm, J1, B0, kS, asc, bd, few⟩
    have SM : SmO n sm := ⟨n1, nb, by omega, asc, fun x hx => by have := bd x hx; omega⟩
    have row := row.but J B0
    have J : JarAt H1 j (k + 1) := J1.mono (by omega)
    have lsm := SM.len
    obtain ⟨dx, l1, l2, ho⟩ := hl row
    refine ⟨_, _, rfl, ?_⟩
    try dsimp only [L2.start, List.set, List.map, List.append, List.replicate, List.length]
    refine ⟨_, rfl, _, rfl, r, dx, _, rfl, ho, r, n, ms, ss, rfl, row.at, (small1000 (by show (0 : Nat) ≤ 1000; decide)), fun Cp1 hCp1 => ?_⟩
    have sCp1 := same_new (o := (.lst [.int n])) (Same.refl H1) hCp1
    have nCp1 : Cp1 ≠ j := (J.ne hCp1).symm
    have row := row.but J (But.of sCp1)
    have ho := sCp1 _ _ ho
    have kS := sCp1 _ _ kS
    have B0 := B0.trans (But.of sCp1)
    have J := J.same sCp1
    have kCp1 : upd H1 Cp1 (.lst [.int n]) Cp1 = some (.lst [.int n]) := upd_same
    generalize upd H1 Cp1 (.lst [.int n]) = C1 at sCp1 row ho kS B0 J kCp1 ⊢
    refine ⟨_, _, _, _, rfl, rfl, kS, kCp1, (by simp only [List.length_map, List.length_append, List.length_reverse, List.length_cons, List.length_nil, List.length_take, List.length_drop]; exact Nat.le_of_lt (small1000 (by omega))), fun Cp2 hCp2 => ?_⟩
    have sCp2 := same_new (o := (.lst (sm.map V.int ++ [.int n]))) (Same.refl C1) hCp2
    have nCp2 : Cp2 ≠ j := (J.ne hCp2).symm
    have row := row.but J (But.of sCp2)
    have ho := sCp2 _ _ ho
    have kS := sCp2 _ _ kS
    have kCp1 := sCp2 _ _ kCp1
    have B0 := B0.trans (But.of sCp2)
    have J := J.same sCp2
    have kCp2 : upd C1 Cp2 (.lst (sm.map V.int ++ [.int n])) Cp2 = some (.lst (sm.map V.int ++ [.int n])) := upd_same
    generalize upd C1 Cp2 (.lst (sm.map V.int ++ [.int n])) = C2 at sCp2 row ho kS kCp1 B0 J kCp2 ⊢
    have kF : IL C2 Cp2 (sm ++ [n]) := by
      show _ = some (HO.lst ((sm ++ [n]).map V.int))
      rw [List.map_append]
      exact kCp2
    try dsimp only [L2.start, List.set, List.map, List.append, List.replicate, List.length]
    have b0_2 : AllC K C2 n j [.non] := .at (.non) (fun _ z => nomatch z)
    have b1_2 : AllC K C2 n j [.int 0] := .at (.int _) (fun _ z => nomatch z)
    have b2_2 : AllC K C2 n j [.bl true] := .at (.bl _) (fun _ z => nomatch z)
    have b3_2 : AllC K C2 n j [.str ""] := .at (.str _) (fun _ z => nomatch z)
    refine ⟨(Nat.zero_le _), fun Cp3 hCp3 => ?_⟩
    have sCp3 := same_new (o := (.tup [])) (Same.refl C2) hCp3
    have nCp3 : Cp3 ≠ j := (J.ne hCp3).symm
    have row := row.but J (But.of sCp3)
    have ho := sCp3 _ _ ho
    have b0_2 := b0_2.same sCp3
    have b1_2 := b1_2.same sCp3
    have b2_2 := b2_2.same sCp3
    have b3_2 := b3_2.same sCp3
    have kS := sCp3 _ _ kS
    have kF := sCp3 _ _ kF
    have B0 := B0.trans (But.of sCp3)
    have J := J.same sCp3
    have kCp3 : upd C2 Cp3 (.tup []) Cp3 = some (.tup []) := upd_same
    generalize upd C2 Cp3 (.tup []) = C3 at sCp3 row ho b0_2 b1_2 b2_2 b3_2 kS kF B0 J kCp3 ⊢
    have b4_3 : AllC K C3 n j [.ref Cp3] := .tup kCp3 nCp3
    refine fun Cp4 hCp4 => ?_
    have sCp4 := same_new (o := (.dK [])) (Same.refl C3) hCp4
    have nCp4 : Cp4 ≠ j := (J.ne hCp4).symm
    have row := row.but J (But.of sCp4)
    have ho := sCp4 _ _ ho
    have b0_2 := b0_2.same sCp4
    have b1_2 := b1_2.same sCp4
    have b2_2 := b2_2.same sCp4
    have b3_2 := b3_2.same sCp4
    have b4_3 := b4_3.same sCp4
    have kS := sCp4 _ _ kS
    have kF := sCp4 _ _ kF
    have B0 := B0.trans (But.of sCp4)
    have J := J.same sCp4
    have kCp4 : upd C3 Cp4 (.dK []) Cp4 = some (.dK []) := upd_same
    generalize upd C3 Cp4 (.dK []) = C4 at sCp4 row ho b0_2 b1_2 b2_2 b3_2 b4_3 kS kF B0 J kCp4 ⊢
    have b5_4 : AllC K C4 n j [.ref Cp4] := .dct kCp4 nCp4
    refine ⟨(Nat.zero_le _), fun Cp5 hCp5 => ?_⟩
    have sCp5 := same_new (o := (.lst [])) (Same.refl C4) hCp5
    have nCp5 : Cp5 ≠ j := (J.ne hCp5).symm
    have row := row.but J (But.of sCp5)
    have ho := sCp5 _ _ ho
    have b0_2 := b0_2.same sCp5
    have b1_2 := b1_2.same sCp5
    have b2_2 := b2_2.same sCp5
    have b3_2 := b3_2.same sCp5
    have b4_3 := b4_3.same sCp5
    have b5_4 := b5_4.same sCp5
    have kS := sCp5 _ _ kS
    have kF := sCp5 _ _ kF
    have B0 := B0.trans (But.of sCp5)
    have J := J.same sCp5
    have kCp5 : upd C4 Cp5 (.lst []) Cp5 = some (.lst []) := upd_same
    generalize upd C4 Cp5 (.lst []) = C5 at sCp5 row ho b0_2 b1_2 b2_2 b3_2 b4_3 b5_4 kS kF B0 J kCp5 ⊢
    have b6_5 : AllC K C5 n j [.ref Cp5] := .last (ns := []) kCp5 nCp5 (by decide) (fun _ h => nomatch h)
    refine ⟨_, rfl, Cp2, _, rfl, .inl ⟨SqL.of kF, ?_⟩⟩
    refine fun Cp6 hCp6 => ?_
    have sCp6 := same_new (o := (.tup ((sm ++ [n]).map V.int))) (Same.refl C5) hCp6
    have nCp6 : Cp6 ≠ j := (J.ne hCp6).symm
    have row := row.but J (But.of sCp6)
    have ho := sCp6 _ _ ho
    have b0_2 := b0_2.same sCp6
    have b1_2 := b1_2.same sCp6
    have b2_2 := b2_2.same sCp6
    have b3_2 := b3_2.same sCp6
    have b4_3 := b4_3.same sCp6
    have b5_4 := b5_4.same sCp6
    have b6_5 := b6_5.same sCp6
    have kS := sCp6 _ _ kS
    have kF := sCp6 _ _ kF
    have B0 := B0.trans (But.of sCp6)
    have J := J.same sCp6
    have kCp6 : upd C5 Cp6 (.tup ((sm ++ [n]).map V.int)) Cp6 = some (.tup ((sm ++ [n]).map V.int)) := upd_same
    generalize upd C5 Cp6 (.tup ((sm ++ [n]).map V.int)) = C6 at sCp6 row ho b0_2 b1_2 b2_2 b3_2 b4_3 b5_4 b6_5 kS kF B0 J kCp6 ⊢
    have b7_6 : AllC K C6 n j [.ref Cp6] := .tup kCp6 nCp6
    have b8_6 : AllC K C6 n j [.ref D] := .last kS nD (by omega) (fun x hx => (SM.rng x hx).2)
    refine ⟨_, rfl, _, rfl, _, rfl, (small1000 (by show (0 : Nat) ≤ 1000; decide)), fun Cp7 hCp7 => ?_⟩
    have sCp7 := same_new (o := (.lst [.int n])) (Same.refl C6) hCp7
    have nCp7 : Cp7 ≠ j := (J.ne hCp7).symm
    have row := row.but J (But.of sCp7)
    have ho := sCp7 _ _ ho
    have b0_2 := b0_2.same sCp7
    have b1_2 := b1_2.same sCp7
    have b2_2 := b2_2.same sCp7
    have b3_2 := b3_2.same sCp7
    have b4_3 := b4_3.same sCp7
    have b5_4 := b5_4.same sCp7
    have b6_5 := b6_5.same sCp7
    have b7_6 := b7_6.same sCp7
    have b8_6 := b8_6.same sCp7
    have kS := sCp7 _ _ kS
    have kF := sCp7 _ _ kF
    have B0 := B0.trans (But.of sCp7)
    have J := J.same sCp7
    have kCp7 : upd C6 Cp7 (.lst [.int n]) Cp7 = some (.lst [.int n]) := upd_same
    generalize upd C6 Cp7 (.lst [.int n]) = C7 at sCp7 row ho b0_2 b1_2 b2_2 b3_2 b4_3 b5_4 b6_5 b7_6 b8_6 kS kF B0 J kCp7 ⊢
    refine ⟨_, _, _, _, rfl, rfl, kF, kCp7, (by simp only [List.length_map, List.length_append, List.length_reverse, List.length_cons, List.length_nil, List.length_take, List.length_drop]; exact Nat.le_of_lt (small1000 (by omega))), fun Cp8 hCp8 => ?_⟩
    have sCp8 := same_new (o := (.lst ((sm ++ [n]).map V.int ++ [.int n]))) (Same.refl C7) hCp8
    have nCp8 : Cp8 ≠ j := (J.ne hCp8).symm
    have row := row.but J (But.of sCp8)
    have ho := sCp8 _ _ ho
    have b0_2 := b0_2.same sCp8
    have b1_2 := b1_2.same sCp8
    have b2_2 := b2_2.same sCp8
    have b3_2 := b3_2.same sCp8
    have b4_3 := b4_3.same sCp8
    have b5_4 := b5_4.same sCp8
    have b6_5 := b6_5.same sCp8
    have b7_6 := b7_6.same sCp8
    have b8_6 := b8_6.same sCp8
    have kS := sCp8 _ _ kS
    have kF := sCp8 _ _ kF
    have kCp7 := sCp8 _ _ kCp7
    have B0 := B0.trans (But.of sCp8)
    have J := J.same sCp8
    have kCp8 : upd C7 Cp8 (.lst ((sm ++ [n]).map V.int ++ [.int n])) Cp8 = some (.lst ((sm ++ [n]).map V.int ++ [.int n])) := upd_same
    generalize upd C7 Cp8 (.lst ((sm ++ [n]).map V.int ++ [.int n])) = C8 at sCp8 row ho b0_2 b1_2 b2_2 b3_2 b4_3 b5_4 b6_5 b7_6 b8_6 kS kF kCp7 B0 J kCp8 ⊢
    have b9_8 : AllC K C8 n j [.ref Cp8] := .asc kCp8 nCp8 (by simp only [List.length_map, List.length_append, List.length_reverse, List.length_cons, List.length_nil, List.length_take, List.length_drop]; omega) (thg_app (thg_ints _) (thg_one (.int n))) (nasc_two (a := n) (b := n) (by omega) (List.mem_map.mpr ⟨n, List.mem_append_right _ List.mem_cons_self, rfl⟩) List.mem_cons_self)
    refine ⟨_, rfl, _, rfl, _, _, rfl, rfl, (small1000 (by show (0 : Nat) ≤ 1000; decide)), fun Cp9 hCp9 => ?_⟩
    have sCp9 := same_new (o := (.lst [.int (n + 1)])) (Same.refl C8) hCp9
    have nCp9 : Cp9 ≠ j := (J.ne hCp9).symm
    have row := row.but J (But.of sCp9)
    have ho := sCp9 _ _ ho
    have b0_2 := b0_2.same sCp9
    have b1_2 := b1_2.same sCp9
    have b2_2 := b2_2.same sCp9
    have b3_2 := b3_2.same sCp9
    have b4_3 := b4_3.same sCp9
    have b5_4 := b5_4.same sCp9
    have b6_5 := b6_5.same sCp9
    have b7_6 := b7_6.same sCp9
    have b8_6 := b8_6.same sCp9
    have b9_8 := b9_8.same sCp9
    have kS := sCp9 _ _ kS
    have kF := sCp9 _ _ kF
    have B0 := B0.trans (But.of sCp9)
    have J := J.same sCp9
    have kCp9 : upd C8 Cp9 (.lst [.int (n + 1)]) Cp9 = some (.lst [.int (n + 1)]) := upd_same
    generalize upd C8 Cp9 (.lst [.int (n + 1)]) = C9 at sCp9 row ho b0_2 b1_2 b2_2 b3_2 b4_3 b5_4 b6_5 b7_6 b8_6 b9_8 kS kF B0 J kCp9 ⊢
    refine ⟨_, _, _, _, rfl, rfl, kF, kCp9, (by simp only [List.length_map, List.length_append, List.length_reverse, List.length_cons, List.length_nil, List.length_take, List.length_drop]; exact Nat.le_of_lt (small1000 (by omega))), fun Cp10 hCp10 => ?_⟩
    have sCp10 := same_new (o := (.lst ((sm ++ [n]).map V.int ++ [.int (n + 1)]))) (Same.refl C9) hCp10
    have nCp10 : Cp10 ≠ j := (J.ne hCp10).symm
    have row := row.but J (But.of sCp10)
    have ho := sCp10 _ _ ho
    have b0_2 := b0_2.same sCp10
    have b1_2 := b1_2.same sCp10
    have b2_2 := b2_2.same sCp10
    have b3_2 := b3_2.same sCp10
    have b4_3 := b4_3.same sCp10
    have b5_4 := b5_4.same sCp10
    have b6_5 := b6_5.same sCp10
    have b7_6 := b7_6.same sCp10
    have b8_6 := b8_6.same sCp10
    have b9_8 := b9_8.same sCp10
    have kS := sCp10 _ _ kS
    have kF := sCp10 _ _ kF
    have kCp9 := sCp10 _ _ kCp9
    have B0 := B0.trans (But.of sCp10)
    have J := J.same sCp10
    have kCp10 : upd C9 Cp10 (.lst ((sm ++ [n]).map V.int ++ [.int (n + 1)])) Cp10 = some (.lst ((sm ++ [n]).map V.int ++ [.int (n + 1)])) := upd_same
    generalize upd C9 Cp10 (.lst ((sm ++ [n]).map V.int ++ [.int (n + 1)])) = C10 at sCp10 row ho b0_2 b1_2 b2_2 b3_2 b4_3 b5_4 b6_5 b7_6 b8_6 b9_8 kS kF kCp9 B0 J kCp10 ⊢
    have b10_10 : AllC K C10 n j [.ref Cp10] := .asc kCp10 nCp10 (by simp only [List.length_map, List.length_append, List.length_reverse, List.length_cons, List.length_nil, List.length_take, List.length_drop]; omega) (thg_app (thg_ints _) (thg_one (.int (n + 1)))) (nasc_mem (x := .int (n + 1)) (List.mem_append_right _ List.mem_cons_self) (pl_hi (by omega)))
    refine ⟨(small1000 (by show (10 : Nat) ≤ 1000; decide)), fun Cp11 hCp11 => ?_⟩
    have sCp11 := same_new (o := (.lst [.non, .int 0, .bl true, .str "", .ref Cp3, .ref Cp4, .ref Cp5, .ref Cp6, .ref D, .ref Cp8, .ref Cp10])) (Same.refl C10) hCp11
    have nCp11 : Cp11 ≠ j := (J.ne hCp11).symm
    have row := row.but J (But.of sCp11)
    have ho := sCp11 _ _ ho
    have b0_2 := b0_2.same sCp11
    have b1_2 := b1_2.same sCp11
    have b2_2 := b2_2.same sCp11
    have b3_2 := b3_2.same sCp11
    have b4_3 := b4_3.same sCp11
    have b5_4 := b5_4.same sCp11
    have b6_5 := b6_5.same sCp11
    have b7_6 := b7_6.same sCp11
    have b8_6 := b8_6.same sCp11
    have b9_8 := b9_8.same sCp11
    have b10_10 := b10_10.same sCp11
    have kS := sCp11 _ _ kS
    have kF := sCp11 _ _ kF
    have B0 := B0.trans (But.of sCp11)
    have J := J.same sCp11
    have kCp11 : upd C10 Cp11 (.lst [.non, .int 0, .bl true, .str "", .ref Cp3, .ref Cp4, .ref Cp5, .ref Cp6, .ref D, .ref Cp8, .ref Cp10]) Cp11 = some (.lst [.non, .int 0, .bl true, .str "", .ref Cp3, .ref Cp4, .ref Cp5, .ref Cp6, .ref D, .ref Cp8, .ref Cp10]) := upd_same
    generalize upd C10 Cp11 (.lst [.non, .int 0, .bl true, .str "", .ref Cp3, .ref Cp4, .ref Cp5, .ref Cp6, .ref D, .ref Cp8, .ref Cp10]) = C11 at sCp11 row ho b0_2 b1_2 b2_2 b3_2 b4_3 b5_4 b6_5 b7_6 b8_6 b9_8 b10_10 kS kF B0 J kCp11 ⊢
    have BCp11 : AllC K C11 n j [.non, .int 0, .bl true, .str "", .ref Cp3, .ref Cp4, .ref Cp5, .ref Cp6, .ref D, .ref Cp8, .ref Cp10] := (b0_2.cons (b1_2.cons (b2_2.cons (b3_2.cons (b4_3.cons (b5_4.cons (b6_5.cons (b7_6.cons (b8_6.cons (b9_8.cons (b10_10.cons AllC.nil)))))))))))
    obtain ⟨xs1, kCp11, BCp11, lCp11⟩ : ∃ xs : List V, C11 Cp11 = some (.lst xs) ∧ AllC K C11 n j xs ∧ xs.length = 11 := ⟨_, kCp11, BCp11, rfl⟩
    try dsimp only [L2.start, List.set, List.map, List.append, List.replicate, List.length]
    refine ⟨_, rfl, _, rfl, Cp2, _, rfl, SqL.of kF, fun Cp12 hCp12 => ?_⟩
    have sCp12 := same_new (o := (.lst ((sm ++ [n]).map V.int).reverse)) (Same.refl C11) hCp12
    have nCp12 : Cp12 ≠ j := (J.ne hCp12).symm
    have row := row.but J (But.of sCp12)
    have ho := sCp12 _ _ ho
    have BCp11 := BCp11.same sCp12
    have kS := sCp12 _ _ kS
    have kF := sCp12 _ _ kF
    have kCp11 := sCp12 _ _ kCp11
    have B0 := B0.trans (But.of sCp12)
    have J := J.same sCp12
    have kCp12 : upd C11 Cp12 (.lst ((sm ++ [n]).map V.int).reverse) Cp12 = some (.lst ((sm ++ [n]).map V.int).reverse) := upd_same
    generalize upd C11 Cp12 (.lst ((sm ++ [n]).map V.int).reverse) = C12 at sCp12 row ho BCp11 kS kF kCp11 B0 J kCp12 ⊢
    refine ⟨_, rfl, (small1000 (by show (0 : Nat) ≤ 1000; decide)), fun Cp13 hCp13 => ?_⟩
    have sCp13 := same_new (o := (.lst [.int n])) (Same.refl C12) hCp13
    have nCp13 : Cp13 ≠ j := (J.ne hCp13).symm
    have row := row.but J (But.of sCp13)
    have ho := sCp13 _ _ ho
    have BCp11 := BCp11.same sCp13
    have kS := sCp13 _ _ kS
    have kF := sCp13 _ _ kF
    have kCp11 := sCp13 _ _ kCp11
    have kCp12 := sCp13 _ _ kCp12
    have B0 := B0.trans (But.of sCp13)
    have J := J.same sCp13
    have kCp13 : upd C12 Cp13 (.lst [.int n]) Cp13 = some (.lst [.int n]) := upd_same
    generalize upd C12 Cp13 (.lst [.int n]) = C13 at sCp13 row ho BCp11 kS kF kCp11 kCp12 B0 J kCp13 ⊢
    refine ⟨_, _, _, _, rfl, rfl, kCp12, kCp13, (by simp only [List.length_map, List.length_append, List.length_reverse, List.length_cons, List.length_nil, List.length_take, List.length_drop]; exact Nat.le_of_lt (small1000 (by omega))), fun Cp14 hCp14 => ?_⟩
    have sCp14 := same_new (o := (.lst (((sm ++ [n]).map V.int).reverse ++ [.int n]))) (Same.refl C13) hCp14
    have nCp14 : Cp14 ≠ j := (J.ne hCp14).symm
    have row := row.but J (But.of sCp14)
    have ho := sCp14 _ _ ho
    have BCp11 := BCp11.same sCp14
    have kS := sCp14 _ _ kS
    have kF := sCp14 _ _ kF
    have kCp11 := sCp14 _ _ kCp11
    have kCp12 := sCp14 _ _ kCp12
    have kCp13 := sCp14 _ _ kCp13
    have B0 := B0.trans (But.of sCp14)
    have J := J.same sCp14
    have kCp14 : upd C13 Cp14 (.lst (((sm ++ [n]).map V.int).reverse ++ [.int n])) Cp14 = some (.lst (((sm ++ [n]).map V.int).reverse ++ [.int n])) := upd_same
    generalize upd C13 Cp14 (.lst (((sm ++ [n]).map V.int).reverse ++ [.int n])) = C14 at sCp14 row ho BCp11 kS kF kCp11 kCp12 kCp13 B0 J kCp14 ⊢
    have b0_14 : AllC K C14 n j [.ref Cp14] := .asc kCp14 nCp14 (by simp only [List.length_map, List.length_append, List.length_reverse, List.length_cons, List.length_nil, List.length_take, List.length_drop]; omega) (thg_app (fun y hy => thg_ints _ y (List.mem_reverse.mp hy)) (thg_one (.int n))) (nasc_two (a := n) (b := n) (by omega) (List.mem_reverse.mpr (List.mem_map.mpr ⟨n, List.mem_append_right _ List.mem_cons_self, rfl⟩)) List.mem_cons_self)
    refine ⟨_, rfl, (small1000 (by show (0 : Nat) ≤ 1000; decide)), fun Cp15 hCp15 => ?_⟩
    have sCp15 := same_new (o := (.lst [.int (-1)])) (Same.refl C14) hCp15
    have nCp15 : Cp15 ≠ j := (J.ne hCp15).symm
    have row := row.but J (But.of sCp15)
    have ho := sCp15 _ _ ho
    have BCp11 := BCp11.same sCp15
    have b0_14 := b0_14.same sCp15
    have kS := sCp15 _ _ kS
    have kF := sCp15 _ _ kF
    have kCp11 := sCp15 _ _ kCp11
    have B0 := B0.trans (But.of sCp15)
    have J := J.same sCp15
    have kCp15 : upd C14 Cp15 (.lst [.int (-1)]) Cp15 = some (.lst [.int (-1)]) := upd_same
    generalize upd C14 Cp15 (.lst [.int (-1)]) = C15 at sCp15 row ho BCp11 b0_14 kS kF kCp11 B0 J kCp15 ⊢
    refine ⟨_, rfl, _, _, _, _, rfl, rfl, kCp15, kF, (by simp only [List.length_map, List.length_append, List.length_reverse, List.length_cons, List.length_nil, List.length_take, List.length_drop]; exact Nat.le_of_lt (small1000 (by omega))), fun Cp16 hCp16 => ?_⟩
    have sCp16 := same_new (o := (.lst ([.int (-1)] ++ (sm ++ [n]).map V.int))) (Same.refl C15) hCp16
    have nCp16 : Cp16 ≠ j := (J.ne hCp16).symm
    have row := row.but J (But.of sCp16)
    have ho := sCp16 _ _ ho
    have BCp11 := BCp11.same sCp16
    have b0_14 := b0_14.same sCp16
    have kS := sCp16 _ _ kS
    have kF := sCp16 _ _ kF
    have kCp11 := sCp16 _ _ kCp11
    have kCp15 := sCp16 _ _ kCp15
    have B0 := B0.trans (But.of sCp16)
    have J := J.same sCp16
    have kCp16 : upd C15 Cp16 (.lst ([.int (-1)] ++ (sm ++ [n]).map V.int)) Cp16 = some (.lst ([.int (-1)] ++ (sm ++ [n]).map V.int)) := upd_same
    generalize upd C15 Cp16 (.lst ([.int (-1)] ++ (sm ++ [n]).map V.int)) = C16 at sCp16 row ho BCp11 b0_14 kS kF kCp11 kCp15 B0 J kCp16 ⊢
    have b1_16 : AllC K C16 n j [.ref Cp16] := .asc kCp16 nCp16 (by simp only [List.length_map, List.length_append, List.length_reverse, List.length_cons, List.length_nil, List.length_take, List.length_drop]; omega) (thg_app (thg_one (.int (-1))) (thg_ints _)) (nasc_mem (x := .int (-1)) (List.mem_append_left _ List.mem_cons_self) rfl)
    refine ⟨(small1000 (by show (0 : Nat) ≤ 1000; decide)), fun Cp17 hCp17 => ?_⟩
    have sCp17 := same_new (o := (.lst [.non])) (Same.refl C16) hCp17
    have nCp17 : Cp17 ≠ j := (J.ne hCp17).symm
    have row := row.but J (But.of sCp17)
    have ho := sCp17 _ _ ho
    have BCp11 := BCp11.same sCp17
    have b0_14 := b0_14.same sCp17
    have b1_16 := b1_16.same sCp17
    have kS := sCp17 _ _ kS
    have kF := sCp17 _ _ kF
    have kCp11 := sCp17 _ _ kCp11
    have B0 := B0.trans (But.of sCp17)
    have J := J.same sCp17
    have kCp17 : upd C16 Cp17 (.lst [.non]) Cp17 = some (.lst [.non]) := upd_same
    generalize upd C16 Cp17 (.lst [.non]) = C17 at sCp17 row ho BCp11 b0_14 b1_16 kS kF kCp11 B0 J kCp17 ⊢
    refine ⟨_, rfl, _, _, _, _, rfl, rfl, kCp17, kF, (by simp only [List.length_map, List.length_append, List.length_reverse, List.length_cons, List.length_nil, List.length_take, List.length_drop]; exact Nat.le_of_lt (small1000 (by omega))), fun Cp18 hCp18 => ?_⟩
    have sCp18 := same_new (o := (.lst ([.non] ++ (sm ++ [n]).map V.int))) (Same.refl C17) hCp18
    have nCp18 : Cp18 ≠ j := (J.ne hCp18).symm
    have row := row.but J (But.of sCp18)
    have ho := sCp18 _ _ ho
    have BCp11 := BCp11.same sCp18
    have b0_14 := b0_14.same sCp18
    have b1_16 := b1_16.same sCp18
    have kS := sCp18 _ _ kS
    have kF := sCp18 _ _ kF
    have kCp11 := sCp18 _ _ kCp11
    have kCp17 := sCp18 _ _ kCp17
    have B0 := B0.trans (But.of sCp18)
    have J := J.same sCp18
    have kCp18 : upd C17 Cp18 (.lst ([.non] ++ (sm ++ [n]).map V.int)) Cp18 = some (.lst ([.non] ++ (sm ++ [n]).map V.int)) := upd_same
    generalize upd C17 Cp18 (.lst ([.non] ++ (sm ++ [n]).map V.int)) = C18 at sCp18 row ho BCp11 b0_14 b1_16 kS kF kCp11 kCp17 B0 J kCp18 ⊢
    have b2_18 : AllC K C18 n j [.ref Cp18] := .asc kCp18 nCp18 (by simp only [List.length_map, List.length_append, List.length_reverse, List.length_cons, List.length_nil, List.length_take, List.length_drop]; omega) (thg_app (thg_one .non) (thg_ints _)) (nasc_mem (x := .non) (List.mem_append_left _ List.mem_cons_self) rfl)
    refine ⟨_, rfl, _, _, rfl, rfl, (small1000 (by show (1 : Nat) ≤ 1000; decide)), fun Cp19 hCp19 => ?_⟩
    have sCp19 := same_new (o := (.lst [.bl true, .int (n + 1)])) (Same.refl C18) hCp19
    have nCp19 : Cp19 ≠ j := (J.ne hCp19).symm
    have row := row.but J (But.of sCp19)
    have ho := sCp19 _ _ ho
    have BCp11 := BCp11.same sCp19
    have b0_14 := b0_14.same sCp19
    have b1_16 := b1_16.same sCp19
    have b2_18 := b2_18.same sCp19
    have kS := sCp19 _ _ kS
    have kF := sCp19 _ _ kF
    have kCp11 := sCp19 _ _ kCp11
    have B0 := B0.trans (But.of sCp19)
    have J := J.same sCp19
    have kCp19 : upd C18 Cp19 (.lst [.bl true, .int (n + 1)]) Cp19 = some (.lst [.bl true, .int (n + 1)]) := upd_same
    generalize upd C18 Cp19 (.lst [.bl true, .int (n + 1)]) = C19 at sCp19 row ho BCp11 b0_14 b1_16 b2_18 kS kF kCp11 B0 J kCp19 ⊢
    have b3_19 : AllC K C19 n j [.ref Cp19] := .asc kCp19 nCp19 (by show 2 ≤ 1000; decide) (thg_cons (.bl true) (thg_one (.int (n + 1)))) (nasc_mem (x := .bl true) List.mem_cons_self rfl)
    refine ⟨_, rfl, _, rfl, _, rfl, log_small (by omega) (by omega), (small1000 (by show (0 : Nat) ≤ 1000; decide)), fun Cp20 hCp20 => ?_⟩
    have sCp20 := same_new (o := (.lst [.str (toString n)])) (Same.refl C19) hCp20
    have nCp20 : Cp20 ≠ j := (J.ne hCp20).symm
    have row := row.but J (But.of sCp20)
    have ho := sCp20 _ _ ho
    have BCp11 := BCp11.same sCp20
    have b0_14 := b0_14.same sCp20
    have b1_16 := b1_16.same sCp20
    have b2_18 := b2_18.same sCp20
    have b3_19 := b3_19.same sCp20
    have kS := sCp20 _ _ kS
    have kF := sCp20 _ _ kF
    have kCp11 := sCp20 _ _ kCp11
    have B0 := B0.trans (But.of sCp20)
    have J := J.same sCp20
    have kCp20 : upd C19 Cp20 (.lst [.str (toString n)]) Cp20 = some (.lst [.str (toString n)]) := upd_same
    generalize upd C19 Cp20 (.lst [.str (toString n)]) = C20 at sCp20 row ho BCp11 b0_14 b1_16 b2_18 b3_19 kS kF kCp11 B0 J kCp20 ⊢
    refine ⟨_, _, _, _, rfl, rfl, kS, kCp20, (by simp only [List.length_map, List.length_append, List.length_reverse, List.length_cons, List.length_nil, List.length_take, List.length_drop]; exact Nat.le_of_lt (small1000 (by omega))), fun Cp21 hCp21 => ?_⟩
    have sCp21 := same_new (o := (.lst (sm.map V.int ++ [.str (toString n)]))) (Same.refl C20) hCp21
    have nCp21 : Cp21 ≠ j := (J.ne hCp21).symm
    have row := row.but J (But.of sCp21)
    have ho := sCp21 _ _ ho
    have BCp11 := BCp11.same sCp21
    have b0_14 := b0_14.same sCp21
    have b1_16 := b1_16.same sCp21
    have b2_18 := b2_18.same sCp21
    have b3_19 := b3_19.same sCp21
    have kS := sCp21 _ _ kS
    have kF := sCp21 _ _ kF
    have kCp11 := sCp21 _ _ kCp11
    have kCp20 := sCp21 _ _ kCp20
    have B0 := B0.trans (But.of sCp21)
    have J := J.same sCp21
    have kCp21 : upd C20 Cp21 (.lst (sm.map V.int ++ [.str (toString n)])) Cp21 = some (.lst (sm.map V.int ++ [.str (toString n)])) := upd_same
    generalize upd C20 Cp21 (.lst (sm.map V.int ++ [.str (toString n)])) = C21 at sCp21 row ho BCp11 b0_14 b1_16 b2_18 b3_19 kS kF kCp11 kCp20 B0 J kCp21 ⊢
    have b4_21 : AllC K C21 n j [.ref Cp21] := .asc kCp21 nCp21 (by simp only [List.length_map, List.length_append, List.length_reverse, List.length_cons, List.length_nil, List.length_take, List.length_drop]; omega) (thg_app (thg_ints _) (thg_one (.str _))) (nasc_mem (x := .str (toString n)) (List.mem_append_right _ List.mem_cons_self) rfl)
    refine ⟨(small1000 (by show (4 : Nat) ≤ 1000; decide)), fun Cp22 hCp22 => ?_⟩
    have sCp22 := same_new (o := (.lst [.ref Cp14, .ref Cp16, .ref Cp18, .ref Cp19, .ref Cp21])) (Same.refl C21) hCp22
    have nCp22 : Cp22 ≠ j := (J.ne hCp22).symm
    have row := row.but J (But.of sCp22)
    have ho := sCp22 _ _ ho
    have BCp11 := BCp11.same sCp22
    have b0_14 := b0_14.same sCp22
    have b1_16 := b1_16.same sCp22
    have b2_18 := b2_18.same sCp22
    have b3_19 := b3_19.same sCp22
    have b4_21 := b4_21.same sCp22
    have kS := sCp22 _ _ kS
    have kF := sCp22 _ _ kF
    have kCp11 := sCp22 _ _ kCp11
    have B0 := B0.trans (But.of sCp22)
    have J := J.same sCp22
    have kCp22 : upd C21 Cp22 (.lst [.ref Cp14, .ref Cp16, .ref Cp18, .ref Cp19, .ref Cp21]) Cp22 = some (.lst [.ref Cp14, .ref Cp16, .ref Cp18, .ref Cp19, .ref Cp21]) := upd_same
    generalize upd C21 Cp22 (.lst [.ref Cp14, .ref Cp16, .ref Cp18, .ref Cp19, .ref Cp21]) = C22 at sCp22 row ho BCp11 b0_14 b1_16 b2_18 b3_19 b4_21 kS kF kCp11 B0 J kCp22 ⊢
    have BCp22 : AllC K C22 n j [.ref Cp14, .ref Cp16, .ref Cp18, .ref Cp19, .ref Cp21] := (b0_14.cons (b1_16.cons (b2_18.cons (b3_19.cons (b4_21.cons AllC.nil)))))
    obtain ⟨xs2, kCp22, BCp22, lCp22⟩ : ∃ xs : List V, C22 Cp22 = some (.lst xs) ∧ AllC K C22 n j xs ∧ xs.length = 5 := ⟨_, kCp22, BCp22, rfl⟩
    refine ⟨_, _, _, _, rfl, rfl, kCp11, kCp22, (by rw [lCp11, lCp22]; exact Nat.le_of_lt (small1000 (by decide))), fun Cp23 hCp23 => ?_⟩
    have sCp23 := same_new (o := (.lst (xs1 ++ xs2))) (Same.refl C22) hCp23
    have nCp23 : Cp23 ≠ j := (J.ne hCp23).symm
    have row := row.but J (But.of sCp23)
    have ho := sCp23 _ _ ho
    have BCp11 := BCp11.same sCp23
    have BCp22 := BCp22.same sCp23
    have kS := sCp23 _ _ kS
    have kF := sCp23 _ _ kF
    have kCp11 := sCp23 _ _ kCp11
    have kCp22 := sCp23 _ _ kCp22
    have B0 := B0.trans (But.of sCp23)
    have J := J.same sCp23
    have kCp23 : upd C22 Cp23 (.lst (xs1 ++ xs2)) Cp23 = some (.lst (xs1 ++ xs2)) := upd_same
    generalize upd C22 Cp23 (.lst (xs1 ++ xs2)) = C23 at sCp23 row ho BCp11 BCp22 kS kF kCp11 kCp22 B0 J kCp23 ⊢
    obtain ⟨xs3, kCp23, BCp23, lCp23⟩ : ∃ xs : List V, C23 Cp23 = some (.lst xs) ∧ AllC K C23 n j xs ∧ xs.length = 16 := ⟨_, kCp23, BCp11.app BCp22, by rw [List.length_append, lCp11, lCp22]⟩
    try dsimp only [L2.start, List.set, List.map, List.append, List.replicate, List.length]
    refine ⟨_, rfl, _, rfl, (small1000 (by show (0 : Nat) ≤ 1000; decide)), fun Cp24 hCp24 => ?_⟩
    have sCp24 := same_new (o := (.lst [.ref Cp2])) (Same.refl C23) hCp24
    have nCp24 : Cp24 ≠ j := (J.ne hCp24).symm
    have row := row.but J (But.of sCp24)
    have ho := sCp24 _ _ ho
    have BCp23 := BCp23.same sCp24
    have kS := sCp24 _ _ kS
    have kF := sCp24 _ _ kF
    have kCp23 := sCp24 _ _ kCp23
    have B0 := B0.trans (But.of sCp24)
    have J := J.same sCp24
    have kCp24 : upd C23 Cp24 (.lst [.ref Cp2]) Cp24 = some (.lst [.ref Cp2]) := upd_same
    generalize upd C23 Cp24 (.lst [.ref Cp2]) = C24 at sCp24 row ho BCp23 kS kF kCp23 B0 J kCp24 ⊢
    have b0_24 : AllC K C24 n j [.ref Cp24] := .asc kCp24 nCp24 (by show 1 ≤ 1000; decide) (thg_one (.lst kF)) (nasc_mem (x := .ref Cp2) List.mem_cons_self rfl)
    refine ⟨(small1000 (by show (1 : Nat) ≤ 1000; decide)), fun Cp25 hCp25 => ?_⟩
    have sCp25 := same_new (o := (.lst [.int 0, .int 0])) (Same.refl C24) hCp25
    have nCp25 : Cp25 ≠ j := (J.ne hCp25).symm
    have row := row.but J (But.of sCp25)
    have ho := sCp25 _ _ ho
    have BCp23 := BCp23.same sCp25
    have b0_24 := b0_24.same sCp25
    have kS := sCp25 _ _ kS
    have kF := sCp25 _ _ kF
    have kCp23 := sCp25 _ _ kCp23
    have B0 := B0.trans (But.of sCp25)
    have J := J.same sCp25
    have kCp25 : upd C24 Cp25 (.lst [.int 0, .int 0]) Cp25 = some (.lst [.int 0, .int 0]) := upd_same
    generalize upd C24 Cp25 (.lst [.int 0, .int 0]) = C25 at sCp25 row ho BCp23 b0_24 kS kF kCp23 B0 J kCp25 ⊢
    refine ⟨_, rfl, _, _, _, _, rfl, rfl, kCp25, kF, (by simp only [List.length_map, List.length_append, List.length_reverse, List.length_cons, List.length_nil, List.length_take, List.length_drop]; exact Nat.le_of_lt (small1000 (by omega))), fun Cp26 hCp26 => ?_⟩
    have sCp26 := same_new (o := (.lst ([.int 0, .int 0] ++ (sm ++ [n]).map V.int))) (Same.refl C25) hCp26
    have nCp26 : Cp26 ≠ j := (J.ne hCp26).symm
    have row := row.but J (But.of sCp26)
    have ho := sCp26 _ _ ho
    have BCp23 := BCp23.same sCp26
    have b0_24 := b0_24.same sCp26
    have kS := sCp26 _ _ kS
    have kF := sCp26 _ _ kF
    have kCp23 := sCp26 _ _ kCp23
    have kCp25 := sCp26 _ _ kCp25
    have B0 := B0.trans (But.of sCp26)
    have J := J.same sCp26
    have kCp26 : upd C25 Cp26 (.lst ([.int 0, .int 0] ++ (sm ++ [n]).map V.int)) Cp26 = some (.lst ([.int 0, .int 0] ++ (sm ++ [n]).map V.int)) := upd_same
    generalize upd C25 Cp26 (.lst ([.int 0, .int 0] ++ (sm ++ [n]).map V.int)) = C26 at sCp26 row ho BCp23 b0_24 kS kF kCp23 kCp25 B0 J kCp26 ⊢
    have b1_26 : AllC K C26 n j [.ref Cp26] := .asc kCp26 nCp26 (by simp only [List.length_map, List.length_append, List.length_reverse, List.length_cons, List.length_nil, List.length_take, List.length_drop]; omega) (thg_app (thg_cons (.int 0) (thg_one (.int 0))) (thg_ints _)) (nasc_two (xs := [.int 0]) (ys := [.int 0] ++ (sm ++ [n]).map V.int) (a := 0) (b := 0) (by omega) List.mem_cons_self (List.mem_append_left _ List.mem_cons_self))
    refine ⟨(small1000 (by show (0 : Nat) ≤ 1000; decide)), fun Cp27 hCp27 => ?_⟩
    have sCp27 := same_new (o := (.lst [.bl false])) (Same.refl C26) hCp27
    have nCp27 : Cp27 ≠ j := (J.ne hCp27).symm
    have row := row.but J (But.of sCp27)
    have ho := sCp27 _ _ ho
    have BCp23 := BCp23.same sCp27
    have b0_24 := b0_24.same sCp27
    have b1_26 := b1_26.same sCp27
    have kS := sCp27 _ _ kS
    have kF := sCp27 _ _ kF
    have kCp23 := sCp27 _ _ kCp23
    have B0 := B0.trans (But.of sCp27)
    have J := J.same sCp27
    have kCp27 : upd C26 Cp27 (.lst [.bl false]) Cp27 = some (.lst [.bl false]) := upd_same
    generalize upd C26 Cp27 (.lst [.bl false]) = C27 at sCp27 row ho BCp23 b0_24 b1_26 kS kF kCp23 B0 J kCp27 ⊢
    refine ⟨_, rfl, _, _, _, _, rfl, rfl, kCp27, kF, (by simp only [List.length_map, List.length_append, List.length_reverse, List.length_cons, List.length_nil, List.length_take, List.length_drop]; exact Nat.le_of_lt (small1000 (by omega))), fun Cp28 hCp28 => ?_⟩
    have sCp28 := same_new (o := (.lst ([.bl false] ++ (sm ++ [n]).map V.int))) (Same.refl C27) hCp28
    have nCp28 : Cp28 ≠ j := (J.ne hCp28).symm
    have row := row.but J (But.of sCp28)
    have ho := sCp28 _ _ ho
    have BCp23 := BCp23.same sCp28
    have b0_24 := b0_24.same sCp28
    have b1_26 := b1_26.same sCp28
    have kS := sCp28 _ _ kS
    have kF := sCp28 _ _ kF
    have kCp23 := sCp28 _ _ kCp23
    have kCp27 := sCp28 _ _ kCp27
    have B0 := B0.trans (But.of sCp28)
    have J := J.same sCp28
    have kCp28 : upd C27 Cp28 (.lst ([.bl false] ++ (sm ++ [n]).map V.int)) Cp28 = some (.lst ([.bl false] ++ (sm ++ [n]).map V.int)) := upd_same
    generalize upd C27 Cp28 (.lst ([.bl false] ++ (sm ++ [n]).map V.int)) = C28 at sCp28 row ho BCp23 b0_24 b1_26 kS kF kCp23 kCp27 B0 J kCp28 ⊢
    have b2_28 : AllC K C28 n j [.ref Cp28] := .asc kCp28 nCp28 (by simp only [List.length_map, List.length_append, List.length_reverse, List.length_cons, List.length_nil, List.length_take, List.length_drop]; omega) (thg_app (thg_one (.bl false)) (thg_ints _)) (nasc_mem (x := .bl false) (List.mem_append_left _ List.mem_cons_self) rfl)
    refine ⟨(small1000 (by show (2 : Nat) ≤ 1000; decide)), fun Cp29 hCp29 => ?_⟩
    have sCp29 := same_new (o := (.lst [.ref Cp24, .ref Cp26, .ref Cp28])) (Same.refl C28) hCp29
    have nCp29 : Cp29 ≠ j := (J.ne hCp29).symm
    have row := row.but J (But.of sCp29)
    have ho := sCp29 _ _ ho
    have BCp23 := BCp23.same sCp29
    have b0_24 := b0_24.same sCp29
    have b1_26 := b1_26.same sCp29
    have b2_28 := b2_28.same sCp29
    have kS := sCp29 _ _ kS
    have kF := sCp29 _ _ kF
    have kCp23 := sCp29 _ _ kCp23
    have B0 := B0.trans (But.of sCp29)
    have J := J.same sCp29
    have kCp29 : upd C28 Cp29 (.lst [.ref Cp24, .ref Cp26, .ref Cp28]) Cp29 = some (.lst [.ref Cp24, .ref Cp26, .ref Cp28]) := upd_same
    generalize upd C28 Cp29 (.lst [.ref Cp24, .ref Cp26, .ref Cp28]) = C29 at sCp29 row ho BCp23 b0_24 b1_26 b2_28 kS kF kCp23 B0 J kCp29 ⊢
    have BCp29 : AllC K C29 n j [.ref Cp24, .ref Cp26, .ref Cp28] := (b0_24.cons (b1_26.cons (b2_28.cons AllC.nil)))
    obtain ⟨xs4, kCp29, BCp29, lCp29⟩ : ∃ xs : List V, C29 Cp29 = some (.lst xs) ∧ AllC K C29 n j xs ∧ xs.length = 3 := ⟨_, kCp29, BCp29, rfl⟩
    refine ⟨_, _, _, _, rfl, rfl, kCp23, kCp29, (by rw [lCp23, lCp29]; exact Nat.le_of_lt (small1000 (by decide))), fun Cp30 hCp30 => ?_⟩
    have sCp30 := same_new (o := (.lst (xs3 ++ xs4))) (Same.refl C29) hCp30
    have nCp30 : Cp30 ≠ j := (J.ne hCp30).symm
    have row := row.but J (But.of sCp30)
    have ho := sCp30 _ _ ho
    have BCp23 := BCp23.same sCp30
    have BCp29 := BCp29.same sCp30
    have kS := sCp30 _ _ kS
    have kF := sCp30 _ _ kF
    have kCp23 := sCp30 _ _ kCp23
    have kCp29 := sCp30 _ _ kCp29
    have B0 := B0.trans (But.of sCp30)
    have J := J.same sCp30
    have kCp30 : upd C29 Cp30 (.lst (xs3 ++ xs4)) Cp30 = some (.lst (xs3 ++ xs4)) := upd_same
    generalize upd C29 Cp30 (.lst (xs3 ++ xs4)) = C30 at sCp30 row ho BCp23 BCp29 kS kF kCp23 kCp29 B0 J kCp30 ⊢
    obtain ⟨xs5, kCp30, BCp30, lCp30⟩ : ∃ xs : List V, C30 Cp30 = some (.lst xs) ∧ AllC K C30 n j xs ∧ xs.length = 19 := ⟨_, kCp30, BCp23.app BCp29, by rw [List.length_append, lCp23, lCp29]⟩
    try dsimp only [L2.start, List.set, List.map, List.append, List.replicate, List.length]
    apply rest_ofC (C := fun z H' => ∃ xs : List V, H' z = some (.lst xs) ∧ AllC K H' n j xs ∧ xs.length ≤ 30 ∧ z ≠ j ∧ JarAt H' j (k + 1) ∧ But C30 H' j)
    · intro rest
      refine ⟨_, rfl, D, _, rfl, .inl (SqL.of kS), _, _, rfl, rfl, _, rfl, ?_⟩
      by_cases c : 1 < sm.length
      · refine ifT (decide_eq_true (by rw [List.length_map]; omega)) ?_
        obtain ⟨a, b, tl, esm⟩ : ∃ a b tl, sm = a :: b :: tl := by
          match sm, c with
          | a :: b :: tl, _ => exact ⟨a, b, tl, rfl⟩
          | [], c => exact absurd c (by decide)
          | [_], c => exact absurd c (by show ¬ 1 < 1; decide)
        have hab : a < b := by
          have := SM.asc
          rw [esm] at this
          exact (List.pairwise_cons.mp this).1 b List.mem_cons_self
        have Bx := But.refl C30 j
        refine ⟨_, rfl, _, rfl, D, _, rfl, SqL.of kS, fun Cp31 hCp31 => ?_⟩
        have sCp31 := same_new (o := (.lst (sm.map V.int).reverse)) (Same.refl C30) hCp31
        have nCp31 : Cp31 ≠ j := (J.ne hCp31).symm
        have row := row.but J (But.of sCp31)
        have ho := sCp31 _ _ ho
        have BCp30 := BCp30.same sCp31
        have kS := sCp31 _ _ kS
        have kF := sCp31 _ _ kF
        have kCp30 := sCp31 _ _ kCp30
        have Bx := Bx.trans (But.of sCp31)
        have J := J.same sCp31
        have kCp31 : upd C30 Cp31 (.lst (sm.map V.int).reverse) Cp31 = some (.lst (sm.map V.int).reverse) := upd_same
        generalize upd C30 Cp31 (.lst (sm.map V.int).reverse) = C31 at sCp31 row ho BCp30 kS kF kCp30 Bx J kCp31 ⊢
        refine ⟨_, rfl, (small1000 (by show (0 : Nat) ≤ 1000; decide)), fun Cp32 hCp32 => ?_⟩
        have sCp32 := same_new (o := (.lst [.int n])) (Same.refl C31) hCp32
        have nCp32 : Cp32 ≠ j := (J.ne hCp32).symm
        have row := row.but J (But.of sCp32)
        have ho := sCp32 _ _ ho
        have BCp30 := BCp30.same sCp32
        have kS := sCp32 _ _ kS
        have kF := sCp32 _ _ kF
        have kCp30 := sCp32 _ _ kCp30
        have kCp31 := sCp32 _ _ kCp31
        have Bx := Bx.trans (But.of sCp32)
        have J := J.same sCp32
        have kCp32 : upd C31 Cp32 (.lst [.int n]) Cp32 = some (.lst [.int n]) := upd_same
        generalize upd C31 Cp32 (.lst [.int n]) = C32 at sCp32 row ho BCp30 kS kF kCp30 kCp31 Bx J kCp32 ⊢
        refine ⟨_, _, _, _, rfl, rfl, kCp31, kCp32, (by simp only [List.length_map, List.length_append, List.length_reverse, List.length_cons, List.length_nil, List.length_take, List.length_drop]; exact Nat.le_of_lt (small1000 (by omega))), fun Cp33 hCp33 => ?_⟩
        have sCp33 := same_new (o := (.lst ((sm.map V.int).reverse ++ [.int n]))) (Same.refl C32) hCp33
        have nCp33 : Cp33 ≠ j := (J.ne hCp33).symm
        have row := row.but J (But.of sCp33)
        have ho := sCp33 _ _ ho
        have BCp30 := BCp30.same sCp33
        have kS := sCp33 _ _ kS
        have kF := sCp33 _ _ kF
        have kCp30 := sCp33 _ _ kCp30
        have kCp31 := sCp33 _ _ kCp31
        have kCp32 := sCp33 _ _ kCp32
        have Bx := Bx.trans (But.of sCp33)
        have J := J.same sCp33
        have kCp33 : upd C32 Cp33 (.lst ((sm.map V.int).reverse ++ [.int n])) Cp33 = some (.lst ((sm.map V.int).reverse ++ [.int n])) := upd_same
        generalize upd C32 Cp33 (.lst ((sm.map V.int).reverse ++ [.int n])) = C33 at sCp33 row ho BCp30 kS kF kCp30 kCp31 kCp32 Bx J kCp33 ⊢
        have b0_33 : AllC K C33 n j [.ref Cp33] := .asc kCp33 nCp33 (by simp only [List.length_map, List.length_append, List.length_reverse, List.length_cons, List.length_nil, List.length_take, List.length_drop]; omega) (thg_app (fun y hy => thg_ints _ y (List.mem_reverse.mp hy)) (thg_one (.int n))) (by rw [esm, List.map_cons, List.reverse_cons, List.append_assoc]; exact nasc_two (a := b) (b := a) (by omega) (List.mem_reverse.mpr List.mem_cons_self) (List.mem_append_left _ List.mem_cons_self))
        refine ⟨_, rfl, 1, rfl, D, _, rfl, SqL.of kS, fun Cp34 hCp34 => ?_⟩
        rw [cut_fromI (by decide) (by omega)]
        have sCp34 := same_new (o := (.lst ((sm.drop (Int.toNat 1)).map V.int))) (Same.refl C33) hCp34
        have nCp34 : Cp34 ≠ j := (J.ne hCp34).symm
        have row := row.but J (But.of sCp34)
        have ho := sCp34 _ _ ho
        have BCp30 := BCp30.same sCp34
        have b0_33 := b0_33.same sCp34
        have kS := sCp34 _ _ kS
        have kF := sCp34 _ _ kF
        have kCp30 := sCp34 _ _ kCp30
        have Bx := Bx.trans (But.of sCp34)
        have J := J.same sCp34
        have kCp34 : upd C33 Cp34 (.lst ((sm.drop (Int.toNat 1)).map V.int)) Cp34 = some (.lst ((sm.drop (Int.toNat 1)).map V.int)) := upd_same
        generalize upd C33 Cp34 (.lst ((sm.drop (Int.toNat 1)).map V.int)) = C34 at sCp34 row ho BCp30 b0_33 kS kF kCp30 Bx J kCp34 ⊢
        refine ⟨_, rfl, 1, rfl, D, _, rfl, SqL.of kS, fun Cp35 hCp35 => ?_⟩
        rw [cut_toI (by decide) (by omega)]
        have sCp35 := same_new (o := (.lst ((sm.take (Int.toNat 1)).map V.int))) (Same.refl C34) hCp35
        have nCp35 : Cp35 ≠ j := (J.ne hCp35).symm
        have row := row.but J (But.of sCp35)
        have ho := sCp35 _ _ ho
        have BCp30 := BCp30.same sCp35
        have b0_33 := b0_33.same sCp35
        have kS := sCp35 _ _ kS
        have kF := sCp35 _ _ kF
        have kCp30 := sCp35 _ _ kCp30
        have kCp34 := sCp35 _ _ kCp34
        have Bx := Bx.trans (But.of sCp35)
        have J := J.same sCp35
        have kCp35 : upd C34 Cp35 (.lst ((sm.take (Int.toNat 1)).map V.int)) Cp35 = some (.lst ((sm.take (Int.toNat 1)).map V.int)) := upd_same
        generalize upd C34 Cp35 (.lst ((sm.take (Int.toNat 1)).map V.int)) = C35 at sCp35 row ho BCp30 b0_33 kS kF kCp30 kCp34 Bx J kCp35 ⊢
        refine ⟨_, _, _, _, rfl, rfl, kCp34, kCp35, (by simp only [List.length_map, List.length_append, List.length_reverse, List.length_cons, List.length_nil, List.length_take, List.length_drop]; exact Nat.le_of_lt (small1000 (by omega))), fun Cp36 hCp36 => ?_⟩
        have sCp36 := same_new (o := (.lst ((sm.drop (Int.toNat 1)).map V.int ++ (sm.take (Int.toNat 1)).map V.int))) (Same.refl C35) hCp36
        have nCp36 : Cp36 ≠ j := (J.ne hCp36).symm
        have row := row.but J (But.of sCp36)
        have ho := sCp36 _ _ ho
        have BCp30 := BCp30.same sCp36
        have b0_33 := b0_33.same sCp36
        have kS := sCp36 _ _ kS
        have kF := sCp36 _ _ kF
        have kCp30 := sCp36 _ _ kCp30
        have kCp34 := sCp36 _ _ kCp34
        have kCp35 := sCp36 _ _ kCp35
        have Bx := Bx.trans (But.of sCp36)
        have J := J.same sCp36
        have kCp36 : upd C35 Cp36 (.lst ((sm.drop (Int.toNat 1)).map V.int ++ (sm.take (Int.toNat 1)).map V.int)) Cp36 = some (.lst ((sm.drop (Int.toNat 1)).map V.int ++ (sm.take (Int.toNat 1)).map V.int)) := upd_same
        generalize upd C35 Cp36 (.lst ((sm.drop (Int.toNat 1)).map V.int ++ (sm.take (Int.toNat 1)).map V.int)) = C36 at sCp36 row ho BCp30 b0_33 kS kF kCp30 kCp34 kCp35 Bx J kCp36 ⊢
        refine ⟨_, rfl, (small1000 (by show (0 : Nat) ≤ 1000; decide)), fun Cp37 hCp37 => ?_⟩
        have sCp37 := same_new (o := (.lst [.int n])) (Same.refl C36) hCp37
        have nCp37 : Cp37 ≠ j := (J.ne hCp37).symm
        have row := row.but J (But.of sCp37)
        have ho := sCp37 _ _ ho
        have BCp30 := BCp30.same sCp37
        have b0_33 := b0_33.same sCp37
        have kS := sCp37 _ _ kS
        have kF := sCp37 _ _ kF
        have kCp30 := sCp37 _ _ kCp30
        have kCp36 := sCp37 _ _ kCp36
        have Bx := Bx.trans (But.of sCp37)
        have J := J.same sCp37
        have kCp37 : upd C36 Cp37 (.lst [.int n]) Cp37 = some (.lst [.int n]) := upd_same
        generalize upd C36 Cp37 (.lst [.int n]) = C37 at sCp37 row ho BCp30 b0_33 kS kF kCp30 kCp36 Bx J kCp37 ⊢
        refine ⟨_, _, _, _, rfl, rfl, kCp36, kCp37, (by simp only [List.length_map, List.length_append, List.length_reverse, List.length_cons, List.length_nil, List.length_take, List.length_drop]; exact Nat.le_of_lt (small1000 (by omega))), fun Cp38 hCp38 => ?_⟩
        have sCp38 := same_new (o := (.lst (((sm.drop (Int.toNat 1)).map V.int ++ (sm.take (Int.toNat 1)).map V.int) ++ [.int n]))) (Same.refl C37) hCp38
        have nCp38 : Cp38 ≠ j := (J.ne hCp38).symm
        have row := row.but J (But.of sCp38)
        have ho := sCp38 _ _ ho
        have BCp30 := BCp30.same sCp38
        have b0_33 := b0_33.same sCp38
        have kS := sCp38 _ _ kS
        have kF := sCp38 _ _ kF
        have kCp30 := sCp38 _ _ kCp30
        have kCp36 := sCp38 _ _ kCp36
        have kCp37 := sCp38 _ _ kCp37
        have Bx := Bx.trans (But.of sCp38)
        have J := J.same sCp38
        have kCp38 : upd C37 Cp38 (.lst (((sm.drop (Int.toNat 1)).map V.int ++ (sm.take (Int.toNat 1)).map V.int) ++ [.int n])) Cp38 = some (.lst (((sm.drop (Int.toNat 1)).map V.int ++ (sm.take (Int.toNat 1)).map V.int) ++ [.int n])) := upd_same
        generalize upd C37 Cp38 (.lst (((sm.drop (Int.toNat 1)).map V.int ++ (sm.take (Int.toNat 1)).map V.int) ++ [.int n])) = C38 at sCp38 row ho BCp30 b0_33 kS kF kCp30 kCp36 kCp37 Bx J kCp38 ⊢
        have b1_38 : AllC K C38 n j [.ref Cp38] := .asc kCp38 nCp38 (by simp only [List.length_map, List.length_append, List.length_reverse, List.length_cons, List.length_nil, List.length_take, List.length_drop]; omega) (thg_app (thg_app (thg_ints _) (thg_ints _)) (thg_one (.int n))) (by rw [esm, List.append_assoc]; exact nasc_two (a := b) (b := a) (by omega) List.mem_cons_self (List.mem_append_left _ List.mem_cons_self))
        refine ⟨(small1000 (by show (1 : Nat) ≤ 1000; decide)), fun Cp39 hCp39 => ?_⟩
        have sCp39 := same_new (o := (.lst [.ref Cp33, .ref Cp38])) (Same.refl C38) hCp39
        have nCp39 : Cp39 ≠ j := (J.ne hCp39).symm
        have row := row.but J (But.of sCp39)
        have ho := sCp39 _ _ ho
        have BCp30 := BCp30.same sCp39
        have b0_33 := b0_33.same sCp39
        have b1_38 := b1_38.same sCp39
        have kS := sCp39 _ _ kS
        have kF := sCp39 _ _ kF
        have kCp30 := sCp39 _ _ kCp30
        have Bx := Bx.trans (But.of sCp39)
        have J := J.same sCp39
        have kCp39 : upd C38 Cp39 (.lst [.ref Cp33, .ref Cp38]) Cp39 = some (.lst [.ref Cp33, .ref Cp38]) := upd_same
        generalize upd C38 Cp39 (.lst [.ref Cp33, .ref Cp38]) = C39 at sCp39 row ho BCp30 b0_33 b1_38 kS kF kCp30 Bx J kCp39 ⊢
        have BCp39 : AllC K C39 n j [.ref Cp33, .ref Cp38] := (b0_33.cons (b1_38.cons AllC.nil))
        obtain ⟨xs6, kCp39, BCp39, lCp39⟩ : ∃ xs : List V, C39 Cp39 = some (.lst xs) ∧ AllC K C39 n j xs ∧ xs.length = 2 := ⟨_, kCp39, BCp39, rfl⟩
        refine ⟨_, _, _, _, rfl, rfl, kCp30, kCp39, (by rw [lCp30, lCp39]; exact Nat.le_of_lt (small1000 (by decide))), fun Cp40 hCp40 => ?_⟩
        have sCp40 := same_new (o := (.lst (xs5 ++ xs6))) (Same.refl C39) hCp40
        have nCp40 : Cp40 ≠ j := (J.ne hCp40).symm
        have row := row.but J (But.of sCp40)
        have ho := sCp40 _ _ ho
        have BCp30 := BCp30.same sCp40
        have BCp39 := BCp39.same sCp40
        have kS := sCp40 _ _ kS
        have kF := sCp40 _ _ kF
        have kCp30 := sCp40 _ _ kCp30
        have kCp39 := sCp40 _ _ kCp39
        have Bx := Bx.trans (But.of sCp40)
        have J := J.same sCp40
        have kCp40 : upd C39 Cp40 (.lst (xs5 ++ xs6)) Cp40 = some (.lst (xs5 ++ xs6)) := upd_same
        generalize upd C39 Cp40 (.lst (xs5 ++ xs6)) = C40 at sCp40 row ho BCp30 BCp39 kS kF kCp30 kCp39 Bx J kCp40 ⊢
        obtain ⟨xs7, kCp40, BCp40, lCp40⟩ : ∃ xs : List V, C40 Cp40 = some (.lst xs) ∧ AllC K C40 n j xs ∧ xs.length = 21 := ⟨_, kCp40, BCp30.app BCp39, by rw [List.length_append, lCp30, lCp39]⟩
        try dsimp only [L2.start, List.set, List.map, List.append, List.replicate, List.length]
        exact rest Cp40 C40 ⟨xs7, kCp40, BCp40, by omega, nCp40, J, Bx⟩
      · refine ifF (decide_eq_false (by rw [List.length_map]; omega)) ?_
        exact rest Cp30 C30 ⟨xs5, kCp30, BCp30, by omega, nCp30, J, But.refl _ j⟩
    rintro z H9 ⟨xs, kz, Bz, lz, nz, J9, B9⟩
    have row := row.but J B9
    have kF := B9 _ _ kF nCp2
    have B0 := B0.trans B9
    have J := J9
    have lF : (sm ++ [n]).length = sm.length + 1 := by rw [List.length_append]; rfl
    try dsimp only [L2.start, List.set, List.map, List.append, List.replicate, List.length]
    refine ⟨_, rfl, _, rfl, Cp2, _, rfl, .inl (SqL.of kF), _, _, rfl, rfl, j, k, _, rfl, J, by omega, Int.lt_of_le_of_lt (b := 100) (by rw [List.length_map, lF]; omega) (by decide), fun Cv41 C41 Cv410 Cv411 JC41 BC41 => ?_⟩
    have row := row.but J BC41
    have Bz := Bz.but J BC41 JC41
    have kF := BC41 _ _ kF nCp2
    have kz := BC41 _ _ kz nz
    have B0 := B0.trans BC41
    have J := JC41
    have v1 : Cv41 ≤ (sm ++ [n]).length := by rw [List.length_map] at Cv411; omega
    have v0 : 0 ≤ Cv41 := Cv410
    generalize Cv41 = v at v0 v1 ⊢
    try dsimp only [L2.start, List.set, List.map, List.append, List.replicate, List.length]
    refine ⟨_, rfl, (small1000 (by show (0 : Nat) ≤ 1000; decide)), fun Cp42 hCp42 => ?_⟩
    have sCp42 := same_new (o := (.tup [.int 1])) (Same.refl C41) hCp42
    have nCp42 : Cp42 ≠ j := (J.ne hCp42).symm
    have row := row.but J (But.of sCp42)
    have Bz := Bz.same sCp42
    have kF := sCp42 _ _ kF
    have kz := sCp42 _ _ kz
    have B0 := B0.trans (But.of sCp42)
    have J := J.same sCp42
    have kCp42 : upd C41 Cp42 (.tup [.int 1]) Cp42 = some (.tup [.int 1]) := upd_same
    generalize upd C41 Cp42 (.tup [.int 1]) = C42 at sCp42 row Bz kF kz B0 J kCp42 ⊢
    refine ⟨(small1000 (by show (0 : Nat) ≤ 1000; decide)), fun Cp43 hCp43 => ?_⟩
    have sCp43 := same_new (o := (.lst [.int 0])) (Same.refl C42) hCp43
    have nCp43 : Cp43 ≠ j := (J.ne hCp43).symm
    have row := row.but J (But.of sCp43)
    have Bz := Bz.same sCp43
    have kF := sCp43 _ _ kF
    have kz := sCp43 _ _ kz
    have kCp42 := sCp43 _ _ kCp42
    have B0 := B0.trans (But.of sCp43)
    have J := J.same sCp43
    have kCp43 : upd C42 Cp43 (.lst [.int 0]) Cp43 = some (.lst [.int 0]) := upd_same
    generalize upd C42 Cp43 (.lst [.int 0]) = C43 at sCp43 row Bz kF kz kCp42 B0 J kCp43 ⊢
    refine ⟨_, rfl, _, rfl, (small1000 (by show (5 : Nat) ≤ 1000; decide)), fun Cp44 hCp44 => ?_⟩
    have sCp44 := same_new (o := (.tup [.non, .str "1", .ref Cp42, .ref Cp43, .int n, .int (-1)])) (Same.refl C43) hCp44
    have nCp44 : Cp44 ≠ j := (J.ne hCp44).symm
    have row := row.but J (But.of sCp44)
    have Bz := Bz.same sCp44
    have kF := sCp44 _ _ kF
    have kz := sCp44 _ _ kz
    have kCp42 := sCp44 _ _ kCp42
    have kCp43 := sCp44 _ _ kCp43
    have B0 := B0.trans (But.of sCp44)
    have J := J.same sCp44
    have kCp44 : upd C43 Cp44 (.tup [.non, .str "1", .ref Cp42, .ref Cp43, .int n, .int (-1)]) Cp44 = some (.tup [.non, .str "1", .ref Cp42, .ref Cp43, .int n, .int (-1)]) := upd_same
    generalize upd C43 Cp44 (.tup [.non, .str "1", .ref Cp42, .ref Cp43, .int n, .int (-1)]) = C44 at sCp44 row Bz kF kz kCp42 kCp43 B0 J kCp44 ⊢
    refine ⟨Cp44, rfl, ⟨_, SqT.of kCp44⟩, fun E1 hE => ?_⟩
    have nE : E1 ≠ j := (J.ne hE).symm
    have sE : ∀ {H1 H2 : Hp}, Same C44 H1 → But H1 H2 E1 → Same C44 H2 := fun s B a o e => B a o (s a o e) (ne_of_none e hE)
    refine lc_tup (K := K) (a := Cp44) (xs := [.non, .str "1", .ref Cp42, .ref Cp43, .int n, .int (-1)]) (fun i H' => ∃ ys : List V, Same C44 H' ∧ H' E1 = some (.lst ys) ∧ (∀ H'', But H' H'' E1 → AllC K H'' n j ys) ∧ ys.length = i) ⟨[], same_new (Same.refl _) hE, upd_same, fun _ _ => .nil, rfl⟩ (fun i H' _ ⟨_, z, _⟩ => SqT.of (z _ _ kCp44)) ?_ ?_
    · rintro i x Hi hx ⟨ys, sI, eE, PE, lE⟩
      have i6 : i < 6 := (List.getElem?_eq_some_iff.mp hx).1
      have kx : Thg K C44 x ∧ (plOk 0 n x = false ∨ x = .int n) := by
        match i, hx with
        | 0, hx => cases hx; exact ⟨.non, .inl rfl⟩
        | 1, hx => cases hx; exact ⟨.str _, .inl rfl⟩
        | 2, hx => cases hx; exact ⟨.tup kCp42, .inl rfl⟩
        | 3, hx => cases hx; exact ⟨.lst kCp43, .inl rfl⟩
        | 4, hx => cases hx; exact ⟨.int n, .inr rfl⟩
        | 5, hx => cases hx; exact ⟨.int _, .inl rfl⟩
        | n + 6, hx => cases hx
      obtain ⟨tx, px⟩ := kx
      refine ⟨rfl, ?_⟩
      unfold tYes
      refine iteT ?_
      have kF := sI _ _ kF
      have J := J.same sI
      have Bi := But.refl Hi j
      have sJ := Same.refl Hi
      refine ⟨_, rfl, _, rfl, v, rfl, Cp2, _, rfl, SqL.of kF, fun Cp45 hCp45 => ?_⟩
      rw [cut_toI v0 v1]
      have sCp45 := same_new (o := (.lst (((sm ++ [n]).take v.toNat).map V.int))) (Same.refl Hi) hCp45
      have nCp45 : Cp45 ≠ j := (J.ne hCp45).symm
      have kF := sCp45 _ _ kF
      have Bi := Bi.trans (But.of sCp45)
      have J := J.same sCp45
      have kCp45 : upd Hi Cp45 (.lst (((sm ++ [n]).take v.toNat).map V.int)) Cp45 = some (.lst (((sm ++ [n]).take v.toNat).map V.int)) := upd_same
      generalize upd Hi Cp45 (.lst (((sm ++ [n]).take v.toNat).map V.int)) = C45 at sCp45 kF Bi J kCp45 ⊢
      have sJ := sJ.trans sCp45
      refine ⟨_, rfl, (small1000 (by show (0 : Nat) ≤ 1000; decide)), fun Cp46 hCp46 => ?_⟩
      have sCp46 := same_new (o := (.lst [x])) (Same.refl C45) hCp46
      have nCp46 : Cp46 ≠ j := (J.ne hCp46).symm
      have kF := sCp46 _ _ kF
      have kCp45 := sCp46 _ _ kCp45
      have Bi := Bi.trans (But.of sCp46)
      have J := J.same sCp46
      have kCp46 : upd C45 Cp46 (.lst [x]) Cp46 = some (.lst [x]) := upd_same
      generalize upd C45 Cp46 (.lst [x]) = C46 at sCp46 kF kCp45 Bi J kCp46 ⊢
      have sJ := sJ.trans sCp46
      refine ⟨_, _, _, _, rfl, rfl, kCp45, kCp46, (by simp only [List.length_map, List.length_append, List.length_cons, List.length_nil, List.length_take, List.length_drop]; exact Nat.le_of_lt (small1000 (by omega))), fun Cp47 hCp47 => ?_⟩
      have sCp47 := same_new (o := (.lst (((sm ++ [n]).take v.toNat).map V.int ++ [x]))) (Same.refl C46) hCp47
      have nCp47 : Cp47 ≠ j := (J.ne hCp47).symm
      have kF := sCp47 _ _ kF
      have kCp45 := sCp47 _ _ kCp45
      have kCp46 := sCp47 _ _ kCp46
      have Bi := Bi.trans (But.of sCp47)
      have J := J.same sCp47
      have kCp47 : upd C46 Cp47 (.lst (((sm ++ [n]).take v.toNat).map V.int ++ [x])) Cp47 = some (.lst (((sm ++ [n]).take v.toNat).map V.int ++ [x])) := upd_same
      generalize upd C46 Cp47 (.lst (((sm ++ [n]).take v.toNat).map V.int ++ [x])) = C47 at sCp47 kF kCp45 kCp46 Bi J kCp47 ⊢
      have sJ := sJ.trans sCp47
      refine ⟨_, rfl, _, rfl, v, rfl, Cp2, _, rfl, SqL.of kF, fun Cp48 hCp48 => ?_⟩
      rw [cut_fromI v0 v1]
      have sCp48 := same_new (o := (.lst (((sm ++ [n]).drop v.toNat).map V.int))) (Same.refl C47) hCp48
      have nCp48 : Cp48 ≠ j := (J.ne hCp48).symm
      have kF := sCp48 _ _ kF
      have kCp47 := sCp48 _ _ kCp47
      have Bi := Bi.trans (But.of sCp48)
      have J := J.same sCp48
      have kCp48 : upd C47 Cp48 (.lst (((sm ++ [n]).drop v.toNat).map V.int)) Cp48 = some (.lst (((sm ++ [n]).drop v.toNat).map V.int)) := upd_same
      generalize upd C47 Cp48 (.lst (((sm ++ [n]).drop v.toNat).map V.int)) = C48 at sCp48 kF kCp47 Bi J kCp48 ⊢
      have sJ := sJ.trans sCp48
      refine ⟨_, _, _, _, rfl, rfl, kCp47, kCp48, (by simp only [List.length_map, List.length_append, List.length_cons, List.length_nil, List.length_take, List.length_drop]; exact Nat.le_of_lt (small1000 (by omega))), fun Cp49 hCp49 => ?_⟩
      have sCp49 := same_new (o := (.lst ((((sm ++ [n]).take v.toNat).map V.int ++ [x]) ++ ((sm ++ [n]).drop v.toNat).map V.int))) (Same.refl C48) hCp49
      have nCp49 : Cp49 ≠ j := (J.ne hCp49).symm
      have kF := sCp49 _ _ kF
      have kCp47 := sCp49 _ _ kCp47
      have kCp48 := sCp49 _ _ kCp48
      have Bi := Bi.trans (But.of sCp49)
      have J := J.same sCp49
      have kCp49 : upd C48 Cp49 (.lst ((((sm ++ [n]).take v.toNat).map V.int ++ [x]) ++ ((sm ++ [n]).drop v.toNat).map V.int)) Cp49 = some (.lst ((((sm ++ [n]).take v.toNat).map V.int ++ [x]) ++ ((sm ++ [n]).drop v.toNat).map V.int)) := upd_same
      generalize upd C48 Cp49 (.lst ((((sm ++ [n]).take v.toNat).map V.int ++ [x]) ++ ((sm ++ [n]).drop v.toNat).map V.int)) = C49 at sCp49 kF kCp47 kCp48 Bi J kCp49 ⊢
      have sJ0 := sJ
      have sJ := sJ.trans sCp49
      have nEp : Cp49 ≠ E1 := fun z => by
        have := sJ0 _ _ eE
        rw [← z, hCp49] at this
        cases this
      have bad : ¬ AscOk 0 n ((((sm ++ [n]).take v.toNat).map V.int ++ [x]) ++ ((sm ++ [n]).drop v.toNat).map V.int) := by
        rcases px with px | rfl
        · exact nasc_mem (List.mem_append_left _ (List.mem_append_right _ List.mem_cons_self)) px
        · by_cases c : v.toNat ≤ sm.length
          · refine nasc_two (a := n) (b := n) (by omega) (List.mem_append_right _ List.mem_cons_self) (List.mem_map.mpr ⟨n, ?_, rfl⟩)
            rw [List.drop_append_of_le_length c]
            exact List.mem_append_right _ List.mem_cons_self
          · rw [List.append_assoc]
            refine nasc_two (a := n) (b := n) (by omega) (List.mem_map.mpr ⟨n, ?_, rfl⟩) (List.mem_append_left _ List.mem_cons_self)
            rw [List.take_of_length_le (by omega)]
            exact List.mem_append_right _ List.mem_cons_self
      have lim : ((((sm ++ [n]).take v.toNat).map V.int ++ [x]) ++ ((sm ++ [n]).drop v.toNat).map V.int).length ≤ 1000 := by
        simp only [List.length_map, List.length_append, List.length_cons, List.length_nil, List.length_take, List.length_drop]
        omega
      have sT : Same C44 C49 := sI.trans sJ
      refine ⟨_, sJ _ _ eE, by rw [lE]; exact small1000 (by omega), ys ++ [.ref Cp49], same_put sT hE, upd_same, fun H'' B'' => ?_, by rw [List.length_append, lE]; rfl⟩
      have Bc : But C49 H'' E1 := fun a o e ne => B'' a o (by rw [upd_ne ne]; exact e) ne
      refine (PE H'' ((But.of sJ).trans Bc)).app (.asc (Bc _ _ kCp49 nEp) nCp49 lim (thg_app (thg_app (thg_ints _) (thg_one (tx.same (sE sT Bc)))) (thg_ints _)) bad)
    rintro H5 ⟨ys, s5, k5, P5, l5⟩
    have A5 := P5 H5 (But.refl _ _)
    have row := row.but J (But.of s5)
    have Bz := Bz.same s5
    have kF := s5 _ _ kF
    have kz := s5 _ _ kz
    have kCp42 := s5 _ _ kCp42
    have kCp43 := s5 _ _ kCp43
    have kCp44 := s5 _ _ kCp44
    have B0 := B0.trans (But.of s5)
    have J := J.same s5
    have B0 : But H H5 j := B0
    refine ⟨_, _, _, _, rfl, rfl, kz, k5, (by rw [l5]; exact Nat.le_of_lt (small1000 (by show xs.length + 6 ≤ 1000; omega))), fun Cp50 hCp50 => ?_⟩
    have sCp50 := same_new (o := (.lst (xs ++ ys))) (Same.refl H5) hCp50
    have nCp50 : Cp50 ≠ j := (J.ne hCp50).symm
    have row := row.but J (But.of sCp50)
    have Bz := Bz.same sCp50
    have A5 := A5.same sCp50
    have kz := sCp50 _ _ kz
    have k5 := sCp50 _ _ k5
    have B0 := B0.trans (But.of sCp50)
    have J := J.same sCp50
    have kCp50 : upd H5 Cp50 (.lst (xs ++ ys)) Cp50 = some (.lst (xs ++ ys)) := upd_same
    generalize upd H5 Cp50 (.lst (xs ++ ys)) = C50 at sCp50 row Bz A5 kz k5 B0 J kCp50 ⊢
    have AZ := Bz.app A5
    have lZ : (xs ++ ys).length ≤ 100 := by rw [List.length_append, l5]; show xs.length + 6 ≤ 100; omega
    generalize xs ++ ys = zs at kCp50 AZ lZ
    try dsimp only [L2.start, List.set, List.map, List.append, List.replicate, List.length]
    refine ⟨_, rfl, Cp50, rfl, ⟨_, SqL.of kCp50⟩, fun G1 hG => ?_⟩
    refine lc_list (K := K) (a := Cp50) (xs := zs) (fun i H' => Same C50 H' ∧ H' G1 = some (.lst [])) ⟨same_new (Same.refl _) hG, upd_same⟩ (fun i H' _ z => SqL.of (z.1 _ _ kCp50)) ?_ ?_
    · rintro i x Hi hx ⟨sI, eG⟩
      obtain ⟨BC, _⟩ := AZ.same sI x (List.mem_of_getElem? hx)
      have row := row.but J (But.of sI)
      refine ⟨rfl, ?_⟩
      refine ⟨_, rfl, _, rfl, _, _, _, _, _, _, _, rfl, told_badC row.at BC W, fun H6 s6 => ⟨rfl, _, rfl, ?_⟩⟩
      exact ifF (by decide +kernel) ⟨sI.trans s6, s6 _ _ eG⟩
    rintro H6 ⟨s6, eG⟩
    refine ⟨(Nat.zero_le _), fun p9 hp9 => ?_⟩
    refine ⟨_, _, dp_strL (ws := []) (upd_keep eG hp9), dp_strL (ws := []) upd_same, by decide +kernel, by decide +kernel, ?_⟩
    rw [show PyData.eqv (.list (([] : List Str).map PyData.str)) (.list (([] : List Str).map PyData.str)) = true by decide +kernel]
    exact q _ ((J.same s6).put (fun z => by rw [z] at J; exact ((J.same s6).ne hp9) rfl)) ((B0.trans (But.of s6)).new hp9)
end
end Cw
namespace Cw
open PySem L2
abbrev sL : Stmt := top 52
def spLaw (K : PySem.W.Frag) : Sp := fun vs H Q _ => ∃ (a : Addr) (ns : List Int), vs = [.ref a] ∧ SqL K H a (ns.map V.int) ∧ ns.length ≤ 63 ∧ ∀ H', Q (.bl true) H'
/-- the script, which is not the jar -/
def Scr (K : PySem.W.Frag) (H : Hp) (a : Addr) (xs : List V) (p : Addr) : Prop := (a ≠ p ∧ (H a = some (.lst xs) ∨ ∃ o, H a = some (.frz o (.lst xs)))) ∨ ∀ H' : Hp, SqL K H' a xs
theorem Scr.of {K : PySem.W.Frag} {H : Hp} {a p : Addr} {xs : List V} (h : SqL K H a xs) (n : H p = none) : Scr K H a xs p := by
  rcases h with h | h
  · refine .inl ⟨fun e => ?_, h⟩
    subst e
    rcases h with h | ⟨o, h⟩ <;> rw [n] at h <;> cases h
  · exact .inr fun H' => .inr h
theorem Scr.sq {K : PySem.W.Frag} {H : Hp} {a p : Addr} {xs : List V} (h : Scr K H a xs p) : SqL K H a xs := by
  rcases h with ⟨_, h⟩ | h
  · exact .inl h
  · exact h H
theorem Scr.but {K : PySem.W.Frag} {H H' : Hp} {a p : Addr} {xs : List V} (h : Scr K H a xs p) (e : But H H' p) : Scr K H' a xs p := by
  rcases h with ⟨n, h | ⟨o, h⟩⟩ | h
  · exact .inl ⟨n, .inl (e _ _ h n)⟩
  · exact .inl ⟨n, .inr ⟨o, e _ _ h n⟩⟩
  · exact .inr h
theorem PlsOk.mk1 {n p : Int} (a : 0 ≤ p ∧ p ≤ n) : PlsOk n [p] := fun i hi => by
  match i, hi with
  | 0, _ => exact a
  | i + 1, h => exact absurd h (by simp)
theorem PlsOk.mk2 {n p z : Int} (a : 0 ≤ p ∧ p ≤ n) (b : p ≤ z ∧ z ≤ n) : PlsOk n [p, z] := fun i hi => by
  match i, hi with
  | 0, _ => exact a
  | 1, _ => exact b
  | i + 2, h => exact absurd h (by simp)
theorem PlsOk.mk3 {n p z u : Int} (a : 0 ≤ p ∧ p ≤ n) (b : p ≤ z ∧ z ≤ n) (c : z ≤ u ∧ u ≤ n) : PlsOk n [p, z, u] := fun i hi => by
  match i, hi with
  | 0, _ => exact a
  | 1, _ => exact b
  | 2, _ => exact c
  | i + 3, h => exact absurd h (by simp)
theorem told_large {K : PySem.W.Frag} {D0 D1 D2 D3 O0 O1 O2 CE C : Addr} {H : Hp} {r t : Addr} {n l m g : Int} {ms ss : List Int} (row : RowAt C H r n ms ss) (n1 : 1 ≤ n) (nb : n < 10 ^ 60) (ht : H t = some (.tup [.int l, .int m, .int g])) (S : SetOk l m g) (big : 200 * l < n) (W : WordAt K D0 D1 D2 D3 [.ref O0, .ref O1, .ref O2] CE D3 3) {way p z u : Int} (h : FineP n way p z u) :
    ToldAt K D0 D1 D2 D3 O0 O1 O2 CE C D0 D1 D3 D2 H way (.ref r) (.ref t) (.int p) (.int z) (.int u) (some 3) := by
  have fin : ∀ {sp : Sp} {vs : List V}, (∀ (Q : VK) (E : XK), (∀ H', Same H H' → E (.ref D3) none H') → sp vs H Q E) → Res K D0 D1 D2 D3 [.ref O0, .ref O1, .ref O2] CE sp vs H (some 3) := fun h => .inr ⟨D3, 3, rfl, W, h⟩
  have bw : ∀ {ok : Prop} {E : XK}, ok → (∀ H', Same H H' → E (.ref D3) none H') → BadW K D0 D1 D3 H (.ref t) n ok E := fun o h => .inr ⟨t, l, m, g, rfl, ht, S, .inr ⟨o, big, h⟩⟩
  obtain ⟨p0, h⟩ := h
  rcases h with ⟨rfl, h⟩ | ⟨rfl, h⟩ | ⟨rfl, h1, h2⟩ | ⟨rfl, h1, h2, h3⟩
  · exact .inl ⟨rfl, fin fun Q E e => .inr ⟨r, _, p, n, ms, ss, rfl, row, n1, nb, bw (by omega) e⟩⟩
  · exact .inr (.inl ⟨rfl, fin fun Q E e => .inr ⟨r, _, p, n, ms, ss, rfl, row, n1, nb, bw (.mk1 (by omega)) e⟩⟩)
  · exact .inr (.inr (.inl ⟨rfl, fin fun Q E e => .inr ⟨r, _, p, z, n, ms, ss, rfl, row, n1, nb, bw (.mk2 (by omega) (by omega)) e⟩⟩))
  · exact .inr (.inr (.inr (.inl ⟨rfl, fin fun Q E e => .inr ⟨r, _, p, z, u, n, ms, ss, rfl, row, n1, nb, bw (.mk3 (by omega) (by omega) (by omega)) e⟩⟩)))
theorem good_nil {n : Int} (h : 1 ≤ n) : Good n [] [] := ⟨h, Nat.zero_le _, fun _ h => (nomatch h), .nil, .nil, fun _ h => (nomatch h)⟩
section
variable {P : Program} {w : World} {K : PySem.W.Frag} {mg : Str → Option Value} {base : Heap}
abbrev NL : List Str := ["script", "k", "jar", "raw", "made", "three", "least", "normal", "long", "told", "way"]
theorem scL : FnScope NL ["script"] (defScope sL) := ⟨rfl, rfl, rfl, by decide +kernel, rfl, by decide +kernel, by decide +kernel⟩
theorem ok_law {f C fJ fS fH fA fB fE fD fT fI D0 D1 D2 D3 O0 O1 O2 CE : Addr} {fd fdJ fdS fdH fdA fdB fdE fdD fdT fdI : FuncData} (F : Fun K "law" "law" sL f fd) (T : Bl mg) (R : Cl K mg C) (M : Mk K C fI) (bI : Binds K fdI NI []) (GI : FnOk P w K mg base CX0 5 fI fdI NI (spInit C)) (W1 : WordAt K D0 D1 D2 D3 [.ref O0, .ref O1, .ref O2] CE D1 1) (W3 : WordAt K D0 D1 D2 D3 [.ref O0, .ref O1, .ref O2] CE D3 3)
    (gJ : mg "_law_jar" = some (.ref fJ)) (kJ : PySem.W.keepIn K (.ref fJ) = true) (bJ : Binds K fdJ ["script", "k"] []) (GJ : FnOk P w K mg base CX0 1 fJ fdJ ["script", "k"] (spJar K))
    (gS : mg "_law_small" = some (.ref fS)) (kS : PySem.W.keepIn K (.ref fS) = true) (bS : Binds K fdS ["jar", "most"] []) (GS : FnOk P w K mg base CX0 3 fS fdS ["jar", "most"] spSmall)
    (gH : mg "_law_heap" = some (.ref fH)) (kH : PySem.W.keepIn K (.ref fH) = true) (bH : Binds K fdH ["raw"] []) (GH : FnOk P w K mg base CX0 7 fH fdH ["raw"] (spHeap C))
    (gA : mg "_law_settings_right" = some (.ref fA)) (kA : PySem.W.keepIn K (.ref fA) = true) (bA : Binds K fdA ["jar", "made", "three"] []) (GA : FnOk P w K mg base CX0 8 fA fdA ["jar", "made", "three"] (spSr K C))
    (gB : mg "_law_places_right" = some (.ref fB)) (kB : PySem.W.keepIn K (.ref fB) = true) (bB : Binds K fdB ["jar", "made", "three"] []) (GB : FnOk P w K mg base CX0 8 fB fdB ["jar", "made", "three"] (spPr C))
    (gE : mg "_law_cuts_right" = some (.ref fE)) (kE : PySem.W.keepIn K (.ref fE) = true) (bE : Binds K fdE ["jar", "made"] []) (GE : FnOk P w K mg base CX0 8 fE fdE ["jar", "made"] (spCr C))
    (gD : mg "_law_dip" = some (.ref fD)) (kD : PySem.W.keepIn K (.ref fD) = true) (bD : Binds K fdD ["jar", "many"] []) (GD : FnOk P w K mg base CX0 1 fD fdD ["jar", "many"] spDip)
    (gT : mg "_law_told" = some (.ref fT)) (kT : PySem.W.keepIn K (.ref fT) = true) (bT : Binds K fdT ["way", "made", "three", "one", "two", "last"] []) (GT : FnOk P w K mg base CX0 6 fT fdT ["way", "made", "three", "one", "two", "last"] (spTo K D0 D1 D2 D3 O0 O1 O2 CE C D0 D1 D3 D2)) :
    FnOk P w K mg base CX0 10 f fd ["script"] (spLaw K) := by
  refine F.ok scL (fun vs H Q E h => ?_) (fun cdv A outer s H vs Q E hr h => ?_)
  · obtain ⟨a, ns, rfl, _⟩ := h
    rfl
  · obtain ⟨a, ns, rfl, hS, hl, q⟩ := h
    refine ⟨_, (pss_cons (ps_for PassesOwn.never rfl (pi_range1 (by rfl) T.range (pa_cons (pe_callB (call_max2 rfl) (by rfl) T.max (by decide +kernel) (pa_cons pe_int (pa_cons (pe_callB (call_min2 rfl) (by rfl) T.min (by decide +kernel) (pa_cons pe_int (pa_cons (pe_callB call_len_seq (by rfl) T.len PySem.boot_len (pa_cons (pv 0) pa_nil)) pa_nil))) pa_nil))) pa_nil)) (pg_name (i := 1) scL.nd rfl (Or.inl rfl))
        (pss_cons (ps_set (i := 2) scL.nd rfl (Or.inl rfl) (pe_call GJ (hr.mono (by decide)) rfl gJ kJ bJ .nil pass0 (pa_cons (pv 0) (pa_cons (pv 1) pa_nil))))
        (pss_cons (ps_set (i := 3) scL.nd rfl (Or.inl rfl) (pe_call GS (hr.mono (by decide)) rfl gS kS bS .nil pass0 (pa_cons (pv 2) (pa_cons pe_int pa_nil))))
        (pss_cons (ps_asg (pe_tup (pa_cons (pe_call GH (hr.mono (by decide)) rfl gH kH bH .nil pass0 (pa_cons (pv 3) pa_nil)) (pa_cons (pe_ix (r := rIxT K) ix_tup (pv 3) pe_int (fun _ _ => rfl)) pa_nil))) (pg_tup rfl (pgs_cons (pg_name (i := 4) scL.nd rfl (Or.inl rfl)) (pgs_cons (pg_name (i := 5) scL.nd rfl (Or.inr rfl)) pgs_nil))))
        (pss_cons (ps_if (PW.pt (pw_or (pt_not (pt_val (pe_call GA (hr.mono (by decide)) rfl gA kA bA .nil pass0 (pa_cons (pv 2) (pa_cons (pv 4) (pa_cons (pv 5) pa_nil)))))) (pw_or1 (pt_not (pt_val (pe_call GB (hr.mono (by decide)) rfl gB kB bB .nil pass0 (pa_cons (pv 2) (pa_cons (pv 4) (pa_cons (pv 5) pa_nil))))))))) (pss_one (ps_ret pe_bl)) pss_nil)
        (pss_cons (ps_set (i := 6) scL.nd rfl (Or.inr rfl) (pe_op op_add pe_int (pe_call GD (hr.mono (by decide)) rfl gD kD bD .nil pass0 (pa_cons (pv 2) (pa_cons (pe_op op_pow pe_int pe_int) pa_nil)))))
        (pss_cons (ps_set (i := 7) scL.nd rfl (Or.inl rfl) (pe_op op_add (pe_op op_add (pv 6) pe_int) (pe_call GD (hr.mono (by decide)) rfl gD kD bD .nil pass0 (pa_cons (pv 2) (pa_cons (pv 6) pa_nil)))))
        (pss_cons (ps_asg (pe_tup (pa_cons (pe_make M GI (hr.mono (by decide)) rfl R.mgR bI .nil pass0 (pa_cons (pe_op op_add (pe_op op_mul pe_int (pv 6)) pe_int) (pa_cons (pe_lst pa_nil) (pa_cons (pe_lst pa_nil) pa_nil)))) (pa_cons (pe_tup (pa_cons (pv 6) (pa_cons (pv 7) (pa_cons (pe_op op_add (pe_op op_add (pv 7) pe_int) (pe_call GD (hr.mono (by decide)) rfl gD kD bD .nil pass0 (pa_cons (pv 2) (pa_cons (pv 6) pa_nil)))) pa_nil)))) pa_nil))) (pg_tup rfl (pgs_cons (pg_name (i := 8) scL.nd rfl (Or.inr rfl)) (pgs_cons (pg_name (i := 5) scL.nd rfl (Or.inr rfl)) pgs_nil))))
        (pss_cons (ps_setLc (i := 9) (own := [("way", 10)]) (g := (gName 10)) (tt := tYes) rfl scL.nd rfl rfl (sw_true rfl rfl rfl (by decide +kernel)) (pi_range1 (by rfl) T.range (pa_cons pe_int pa_nil)) (blkOk_by (own := [("way", 10)]) (N := NL) (sc := defScope sL) (by decide +kernel)) (fun _ _ _ _ _ => (pg_name (i := 10) scL.nd rfl (Or.inl rfl))) (fun _ _ _ _ _ => pts_nil) (fun _ _ _ _ _ => (pe_call GT (hr.mono (by decide)) rfl gT kT bT .nil pass0 (pa_cons (pv 10) (pa_cons (pv 8) (pa_cons (pv 5) (pa_cons (pe_un un_neg pe_int) (pa_cons pe_int (pa_cons pe_int pa_nil)))))))))
        (pss_cons (ps_set (i := 9) scL.nd rfl (Or.inl rfl) (pe_op op_cat (pv 9) (pe_lst (pa_cons (pe_call GT (hr.mono (by decide)) rfl gT kT bT .nil pass0 (pa_cons pe_int (pa_cons (pv 8) (pa_cons (pv 5) (pa_cons pe_int (pa_cons pe_int (pa_cons pe_int pa_nil))))))) (pa_cons (pe_call GT (hr.mono (by decide)) rfl gT kT bT .nil pass0 (pa_cons pe_int (pa_cons (pv 8) (pa_cons (pv 5) (pa_cons pe_int (pa_cons pe_int (pa_cons pe_int pa_nil))))))) pa_nil)))))
        (pss_cons (ps_if (pt_cmpR (op_neD hr.units) (pv 9) (pe_op op_rep (pe_lst (pa_cons pe_str pa_nil)) pe_int) (nomark _)) (pss_one (ps_ret pe_bl)) pss_nil)
        (pss_cons (ps_setLc (i := 9) (own := [("way", 10)]) (g := (gName 10)) (tt := tYes) rfl scL.nd rfl rfl (sw_true rfl rfl rfl (by decide +kernel)) (pi_range1 (by rfl) T.range (pa_cons pe_int pa_nil)) (blkOk_by (own := [("way", 10)]) (N := NL) (sc := defScope sL) (by decide +kernel)) (fun _ _ _ _ _ => (pg_name (i := 10) scL.nd rfl (Or.inl rfl))) (fun _ _ _ _ _ => pts_nil) (fun _ _ _ _ _ => (pe_call GT (hr.mono (by decide)) rfl gT kT bT .nil pass0 (pa_cons (pv 10) (pa_cons (pv 8) (pa_cons (pv 5) (pa_cons pe_int (pa_cons pe_int (pa_cons pe_int pa_nil)))))))))
        (pss_cons (ps_set (i := 9) scL.nd rfl (Or.inl rfl) (pe_op op_cat (pv 9) (pe_lc (own := [("way", 10)]) (g := (gName 10)) (tt := tYes) rfl scL.nd (pi_range1 (by rfl) T.range (pa_cons pe_int pa_nil)) (blkOk_by (own := [("way", 10)]) (N := NL) (sc := defScope sL) (by decide +kernel)) (fun _ _ _ _ _ => (pg_name (i := 10) scL.nd rfl (Or.inl rfl))) (fun _ _ _ _ _ => pts_nil) (fun _ _ _ _ _ => (pe_call GT (hr.mono (by decide)) rfl gT kT bT .nil pass0 (pa_cons (pv 10) (pa_cons (pe_make M GI (hr.mono (by decide)) rfl R.mgR bI .nil pass0 (pa_cons (pe_op op_mul pe_int (pv 6)) (pa_cons (pe_lst pa_nil) (pa_cons (pe_lst pa_nil) pa_nil)))) (pa_cons (pv 5) (pa_cons pe_int (pa_cons pe_int (pa_cons pe_int pa_nil)))))))))))
        (pss_one (ps_if (PW.pt (pw_or (pt_cmpR (op_neD hr.units) (pv 9) (pe_op op_cat (pe_op op_rep (pe_lst (pa_cons pe_str pa_nil)) pe_int) (pe_op op_rep (pe_lst (pa_cons pe_str pa_nil)) pe_int)) (nomark _)) (pw_or1 (pt_not (pt_val (pe_call GE (hr.mono (by decide)) rfl gE kE bE .nil pass0 (pa_cons (pv 2) (pa_cons (pv 4) pa_nil)))))))) (pss_one (ps_ret pe_bl)) pss_nil)))))))))))))))
        (pss_one (ps_ret (pe_cmpR op_eq (pe_call GT (hr.mono (by decide)) rfl gT kT bT .nil pass0 (pa_cons pe_int (pa_cons (pe_make M GI (hr.mono (by decide)) rfl R.mgR bI .nil pass0 (pa_cons (pe_op op_pow pe_int pe_int) (pa_cons (pe_lst pa_nil) (pa_cons (pe_lst pa_nil) pa_nil)))) (pa_cons (pe_lst (pa_cons (pe_op op_pow pe_int pe_int) pa_nil)) (pa_cons pe_int (pa_cons pe_int (pa_cons pe_int pa_nil))))))) pe_str (nomark _))))), ?_⟩
    refine ⟨_, rfl, a, _, rfl, .inl hS, _, _, rfl, _, _, rfl, _, rfl, ?_, ?_, for_range (lo := 0) (n := Int.toNat _) (fun _ σ H' => ∃ v1 v2 v3 v4 v5 v6 v7 v8 v9 v10, σ = [some (.ref a), v1, v2, v3, v4, v5, v6, v7, v8, v9, v10] ∧ SqL K H' a (ns.map V.int)) ⟨_, _, _, _, _, _, _, _, _, _, rfl, hS⟩ ?_ ?_⟩
    · rw [List.length_map]
      split <;> split <;> omega
    · rw [List.length_map]
      split <;> split <;> omega
    · rintro i σ H1 hi ⟨v1, v2, v3, v4, v5, v6, v7, v8, v9, v10, rfl, s1⟩
      have hil : i ≤ ns.length := by
        rw [List.length_map] at hi
        split at hi <;> split at hi <;> omega
      refine ⟨_, rfl, _, rfl, a, ns, i, by rw [Int.zero_add]; rfl, s1, hil, hl, fun j H2 s2 np J2 => ?_⟩
      have sc := (Scr.of s1 np).but (But.of s2)
      try dsimp only [L2.start, List.set, List.map, List.append, List.replicate, List.length]
      refine ⟨_, rfl, j, 4940, 12, rfl, by decide, by decide, J2, fun r1 H3 n l m g prs n10 G f39 hR S big gb J B3 => ?_⟩
      have sc := sc.but B3
      have GG := G.good
      have n1 := G.pos
      obtain ⟨lp, ta, ts, hp, hlp, hpr, hta⟩ := id hR
      try dsimp only [L2.start, List.set, List.map, List.append, List.replicate, List.length]
      refine ⟨_, rfl, r1, n, prs, rfl, hR.raw, G, fun ro H4 s4 row => ?_⟩
      have row := row.off J
      have J := J.same s4
      have ht := s4 _ _ hta
      have hp := s4 _ _ hp
      have sc := sc.but (But.of s4)
      refine ⟨_, rfl, r1, _, 2, _, rfl, rfl, SqT.of hp, at_of2 (j := 2) rfl rfl, small1000 (by show (1 : Nat) ≤ 1000; decide), ?_⟩
      refine fun Zp1 hZp1 => ?_
      have sZp1 := same_new (o := (.tup [.ref ro, .ref ta])) (Same.refl H4) hZp1
      have nZp1 : Zp1 ≠ j := (J.ne hZp1).symm
      have row := row.but J (But.of sZp1)
      have ht := sZp1 _ _ ht
      have J := J.same sZp1
      have sc := sc.but (But.of sZp1)
      have kZp1 : upd H4 Zp1 (.tup [.ref ro, .ref ta]) Zp1 = some (.tup [.ref ro, .ref ta]) := upd_same
      generalize upd H4 Zp1 (.tup [.ref ro, .ref ta]) = Z1 at sZp1 row ht J sc kZp1 ⊢
      refine ⟨Zp1, _, rfl, SqT.of kZp1, rfl, _, _, rfl, _, _, rfl, rfl, ?_⟩
      try dsimp only [L2.start, List.set, List.map, List.append, List.replicate, List.length]
      refine ⟨_, rfl, _, rfl, _, rfl, j, ro, ta, 4539, n, l, m, g, _, _, rfl, row, n1, by omega, ht, S, J, fun H5 J5 B5 => ⟨_, rfl, ifF rfl ?_⟩⟩
      have row := row.but J B5
      have ht := B5 _ _ ht (J.no ht fun _ _ _ z => nomatch z)
      have sc := sc.but B5
      have J := J5
      refine ⟨_, rfl, _, rfl, _, rfl, j, ro, ta, 4522, n, l, m, g, _, _, rfl, row, GG, by omega, big, ht, S, J, fun H6 J6 B6 => ⟨_, rfl, ifF rfl ?_⟩⟩
      have row := row.but J B6
      have ht := B6 _ _ ht (J.no ht fun _ _ _ z => nomatch z)
      have sc := sc.but B6
      have J := J6
      try dsimp only [L2.start, List.set, List.map, List.append, List.replicate, List.length]
      refine ⟨_, rfl, _, _, rfl, rfl, ⟨by decide, by decide, by decide⟩, j, 4521, _, rfl, J, by decide +kernel, by decide +kernel, fun w1 H7 w10 w11 J7 B7 => ⟨_, _, rfl, rfl, ?_⟩⟩
      have row := row.but J B7
      have ht := B7 _ _ ht (J.no ht fun _ _ _ z => nomatch z)
      have sc := sc.but B7
      have J := J7
      rw [show (10 : Int) ^ Int.toNat 20 = 100000000000000000000 by decide +kernel] at w11
      have le1 : 1 ≤ 1 + w1 ∧ 1 + w1 ≤ 100000000000000000000 := by omega
      dsimp -proj only
      generalize 1 + w1 = le at le1 ⊢
      try dsimp only [L2.start, List.set, List.map, List.append, List.replicate, List.length]
      have lt120 : le < 2 ^ 120 := Int.lt_of_le_of_lt le1.2 (by decide)
      refine ⟨_, rfl, _, _, rfl, rfl, _, rfl, _, rfl, j, 4520, _, rfl, J, by omega, lt120, fun w2 H8 w20 w21 J8 B8 => ⟨_, _, rfl, rfl, ?_⟩⟩
      have row := row.but J B8
      have ht := B8 _ _ ht (J.no ht fun _ _ _ z => nomatch z)
      have sc := sc.but B8
      have J := J8
      have nr1 : le + 1 ≤ le + 1 + w2 := by omega
      dsimp -proj only
      generalize le + 1 + w2 = nr at nr1 ⊢
      try dsimp only [L2.start, List.set, List.map, List.append, List.replicate, List.length]
      refine ⟨_, rfl, _, _, rfl, rfl, .inl ⟨by decide, by decide⟩, _, _, rfl, rfl, (Nat.zero_le _), fun Zp2 hZp2 => ?_⟩
      have sZp2 := same_new (o := (.lst [])) (Same.refl H8) hZp2
      have nZp2 : Zp2 ≠ j := (J.ne hZp2).symm
      have row := row.but J (But.of sZp2)
      have J := J.same sZp2
      have sc := sc.but (But.of sZp2)
      have kZp2 : upd H8 Zp2 (.lst []) Zp2 = some (.lst []) := upd_same
      generalize upd H8 Zp2 (.lst []) = Z2 at sZp2 row J sc kZp2 ⊢
      refine ⟨(Nat.zero_le _), fun Zp3 hZp3 => ?_⟩
      have sZp3 := same_new (o := (.lst [])) (Same.refl Z2) hZp3
      have nZp3 : Zp3 ≠ j := (J.ne hZp3).symm
      have row := row.but J (But.of sZp3)
      have kZp2 := sZp3 _ _ kZp2
      have J := J.same sZp3
      have sc := sc.but (But.of sZp3)
      have kZp3 : upd Z2 Zp3 (.lst []) Zp3 = some (.lst []) := upd_same
      generalize upd Z2 Zp3 (.lst []) = Z3 at sZp3 row kZp2 J sc kZp3 ⊢
      refine fun z4 dz4 nz4 ndz4 nez4 => ?_
      have s9z4 : Same Z3 (upd (upd Z3 dz4 (.own z4)) z4 (.ins C dz4 [])) := same_new (same_new (Same.refl Z3) ndz4) (by rw [upd_ne (Ne.symm nez4)]; exact nz4)
      refine ⟨z4, dz4, Zp2, Zp3, (200 * le + 1), [], [], rfl, upd_same, s9z4 _ _ kZp2, s9z4 _ _ kZp3, good_nil (by omega), fun Y4 rnz4 kpz4 => ⟨rfl, ?_⟩⟩
      have sNz4 : Same Z3 Y4 := same_ins (Same.refl Z3) nz4 ndz4 kpz4
      have rowL := (rnz4.mono fun c o e => ⟨o, s9z4 _ _ e⟩).off J
      have row := row.but J (But.of sNz4)
      have J := J.same sNz4
      have sc := sc.but (But.of sNz4)
      refine ⟨_, rfl, _, rfl, _, rfl, _, _, rfl, rfl, _, rfl, _, rfl, j, 4519, _, rfl, J, by omega, lt120, fun w3 H9 w30 w31 J9 B9 => ⟨_, _, rfl, rfl, small1000 (by show (2 : Nat) ≤ 1000; decide), ?_⟩⟩
      have rowL := rowL.but J B9
      have row := row.but J B9
      have sc := sc.but B9
      have J := J9
      have S3 : SetOk le nr (nr + 1 + w3) := ⟨by omega, by omega, by omega⟩
      dsimp -proj only
      generalize nr + 1 + w3 = gr at S3 ⊢
      refine fun Zp5 hZp5 => ?_
      have sZp5 := same_new (o := (.tup [.int le, .int nr, .int gr])) (Same.refl H9) hZp5
      have nZp5 : Zp5 ≠ j := (J.ne hZp5).symm
      have row := row.but J (But.of sZp5)
      have rowL := rowL.but J (But.of sZp5)
      have J := J.same sZp5
      have sc := sc.but (But.of sZp5)
      have kZp5 : upd H9 Zp5 (.tup [.int le, .int nr, .int gr]) Zp5 = some (.tup [.int le, .int nr, .int gr]) := upd_same
      generalize upd H9 Zp5 (.tup [.int le, .int nr, .int gr]) = Z5 at sZp5 row rowL J sc kZp5 ⊢
      have h3 := kZp5
      refine ⟨small1000 (by show (1 : Nat) ≤ 1000; decide), fun Zp6 hZp6 => ?_⟩
      have sZp6 := same_new (o := (.tup [.ref z4, .ref Zp5])) (Same.refl Z5) hZp6
      have nZp6 : Zp6 ≠ j := (J.ne hZp6).symm
      have row := row.but J (But.of sZp6)
      have rowL := rowL.but J (But.of sZp6)
      have h3 := sZp6 _ _ h3
      have J := J.same sZp6
      have sc := sc.but (But.of sZp6)
      have kZp6 : upd Z5 Zp6 (.tup [.ref z4, .ref Zp5]) Zp6 = some (.tup [.ref z4, .ref Zp5]) := upd_same
      generalize upd Z5 Zp6 (.tup [.ref z4, .ref Zp5]) = Z6 at sZp6 row rowL h3 J sc kZp6 ⊢
      refine ⟨Zp6, _, rfl, SqT.of kZp6, rfl, _, _, rfl, _, _, rfl, rfl, ?_⟩
      try dsimp only [L2.start, List.set, List.map, List.append, List.replicate, List.length]
      have nL : (1 : Int) ≤ 200 * le + 1 ∧ 200 * le + 1 < 10 ^ 60 := by omega
      refine ⟨_, rfl, by decide, by decide, fun T1 hT1 => ?_⟩
      have nT1 : T1 ≠ j := (J.ne hT1).symm
      refine lc_range (lo := 0) (n := 4) (fun i' H' => Same Z6 H' ∧ H' T1 = some (.lst (List.replicate i' (V.str (wo (some 1)))))) ⟨same_new (Same.refl _) hT1, upd_same⟩ ?_ ?_
      · rintro i' Hi hi' ⟨sI, eI⟩
        refine ⟨rfl, ?_⟩
        unfold tYes
        refine iteT ?_
        have row := row.but J (But.of sI)
        have rowL := rowL.but J (But.of sI)
        have h3 := sI _ _ h3
        have J := J.same sI
        have sc := sc.but (But.of sI)
        refine ⟨_, rfl, _, rfl, _, rfl, _, rfl, _, _, _, _, _, _, _, rfl, told_badP (way := 0 + (i' : Int)) (p := -1) (z := 0) (u := 0) rowL.at nL.1 nL.2 h3 S3 W1 (by unfold BadP; omega), fun Z7 sZ7 => ?_⟩
        have row := row.but J (But.of sZ7)
        have rowL := rowL.but J (But.of sZ7)
        have h3 := sZ7 _ _ h3
        have J := J.same sZ7
        have sc := sc.but (But.of sZ7)
        refine ⟨_, sZ7 _ _ eI, by rw [List.length_replicate]; exact small1000 (by omega), same_put (sI.trans sZ7) hT1, by rw [upd_same, List.replicate_succ']⟩
      rintro U1 ⟨sU1, kT1⟩
      have row := row.but J (But.of sU1)
      have rowL := rowL.but J (But.of sU1)
      have h3 := sU1 _ _ h3
      have J := J.same sU1
      have sc := sc.but (But.of sU1)
      try dsimp only [L2.start, List.set, List.map, List.append, List.replicate, List.length]
      refine ⟨_, rfl, _, rfl, _, rfl, _, _, _, _, _, _, _, rfl, told_badP (way := 2) (p := 5) (z := 4) (u := 0) rowL.at nL.1 nL.2 h3 S3 W1 (by unfold BadP; omega), fun Z8 sZ8 => ?_⟩
      have row := row.but J (But.of sZ8)
      have rowL := rowL.but J (But.of sZ8)
      have h3 := sZ8 _ _ h3
      have kT1 := sZ8 _ _ kT1
      have J := J.same sZ8
      have sc := sc.but (But.of sZ8)
      refine ⟨_, rfl, _, rfl, _, _, _, _, _, _, _, rfl, told_badP (way := 3) (p := 0) (z := 5) (u := 4) rowL.at nL.1 nL.2 h3 S3 W1 (by unfold BadP; omega), fun Z9 sZ9 => ?_⟩
      have row := row.but J (But.of sZ9)
      have rowL := rowL.but J (But.of sZ9)
      have h3 := sZ9 _ _ h3
      have kT1 := sZ9 _ _ kT1
      have J := J.same sZ9
      have sc := sc.but (But.of sZ9)
      refine ⟨(small1000 (by show (1 : Nat) ≤ 1000; decide)), fun Zp10 hZp10 => ?_⟩
      have sZp10 := same_new (o := (.lst [V.str (wo (some 1)), V.str (wo (some 1))])) (Same.refl Z9) hZp10
      have nZp10 : Zp10 ≠ j := (J.ne hZp10).symm
      have row := row.but J (But.of sZp10)
      have rowL := rowL.but J (But.of sZp10)
      have h3 := sZp10 _ _ h3
      have kT1 := sZp10 _ _ kT1
      have J := J.same sZp10
      have sc := sc.but (But.of sZp10)
      have kZp10 : upd Z9 Zp10 (.lst [V.str (wo (some 1)), V.str (wo (some 1))]) Zp10 = some (.lst [V.str (wo (some 1)), V.str (wo (some 1))]) := upd_same
      generalize upd Z9 Zp10 (.lst [V.str (wo (some 1)), V.str (wo (some 1))]) = Z10 at sZp10 row rowL h3 kT1 J sc kZp10 ⊢
      have kZp10 : Z10 Zp10 = some (.lst (List.replicate (2) (V.str (wo (some 1))))) := kZp10
      refine ⟨_, _, _, _, rfl, rfl, kT1, kZp10, (small1000 (by show (5 : Nat) ≤ 1000; decide)), fun Zp11 hZp11 => ?_⟩
      rw [rep_app]
      have sZp11 := same_new (o := (.lst (List.replicate (4 + 2) (V.str (wo (some 1)))))) (Same.refl Z10) hZp11
      have nZp11 : Zp11 ≠ j := (J.ne hZp11).symm
      have row := row.but J (But.of sZp11)
      have rowL := rowL.but J (But.of sZp11)
      have h3 := sZp11 _ _ h3
      have kT1 := sZp11 _ _ kT1
      have kZp10 := sZp11 _ _ kZp10
      have J := J.same sZp11
      have sc := sc.but (But.of sZp11)
      have kZp11 : upd Z10 Zp11 (.lst (List.replicate (4 + 2) (V.str (wo (some 1))))) Zp11 = some (.lst (List.replicate (4 + 2) (V.str (wo (some 1))))) := upd_same
      generalize upd Z10 Zp11 (.lst (List.replicate (4 + 2) (V.str (wo (some 1))))) = Z11 at sZp11 row rowL h3 kT1 kZp10 J sc kZp11 ⊢
      try dsimp only [L2.start, List.set, List.map, List.append, List.replicate, List.length]
      refine ⟨_, rfl, (small1000 (by show (0 : Nat) ≤ 1000; decide)), fun Zp12 hZp12 => ?_⟩
      have sZp12 := same_new (o := (.lst [.str "place"])) (Same.refl Z11) hZp12
      have nZp12 : Zp12 ≠ j := (J.ne hZp12).symm
      have row := row.but J (But.of sZp12)
      have rowL := rowL.but J (But.of sZp12)
      have h3 := sZp12 _ _ h3
      have kZp11 := sZp12 _ _ kZp11
      have J := J.same sZp12
      have sc := sc.but (But.of sZp12)
      have kZp12 : upd Z11 Zp12 (.lst [.str "place"]) Zp12 = some (.lst [.str "place"]) := upd_same
      generalize upd Z11 Zp12 (.lst [.str "place"]) = Z12 at sZp12 row rowL h3 kZp11 J sc kZp12 ⊢
      refine ⟨_, _, _, rfl, rfl, kZp12, by decide, by decide, by decide +kernel, fun Zp13 hZp13 => ?_⟩
      have sZp13 := same_new (o := (.lst (List.replicate (Int.toNat 6) [V.str "place"]).flatten)) (Same.refl Z12) hZp13
      have nZp13 : Zp13 ≠ j := (J.ne hZp13).symm
      have row := row.but J (But.of sZp13)
      have rowL := rowL.but J (But.of sZp13)
      have h3 := sZp13 _ _ h3
      have kZp11 := sZp13 _ _ kZp11
      have kZp12 := sZp13 _ _ kZp12
      have J := J.same sZp13
      have sc := sc.but (But.of sZp13)
      have kZp13 : upd Z12 Zp13 (.lst (List.replicate (Int.toNat 6) [V.str "place"]).flatten) Zp13 = some (.lst (List.replicate (Int.toNat 6) [V.str "place"]).flatten) := upd_same
      generalize upd Z12 Zp13 (.lst (List.replicate (Int.toNat 6) [V.str "place"]).flatten) = Z13 at sZp13 row rowL h3 kZp11 kZp12 J sc kZp13 ⊢
      refine ⟨_, _, dp_strL (ws := List.replicate 6 "place") kZp11, dp_strL (ws := List.replicate 6 "place") kZp13, by decide +kernel, by decide +kernel, _, rfl, ?_⟩
      refine ifF (by decide +kernel) ?_
      try dsimp only [L2.start, List.set, List.map, List.append, List.replicate, List.length]
      refine ⟨_, rfl, by decide, by decide, fun T2 hT2 => ?_⟩
      have nT2 : T2 ≠ j := (J.ne hT2).symm
      refine lc_range (lo := 0) (n := 4) (fun i' H' => Same Z13 H' ∧ H' T2 = some (.lst (List.replicate i' (V.str (wo (some 3)))))) ⟨same_new (Same.refl _) hT2, upd_same⟩ ?_ ?_
      · rintro i' Hi hi' ⟨sI, eI⟩
        refine ⟨rfl, ?_⟩
        unfold tYes
        refine iteT ?_
        have row := row.but J (But.of sI)
        have rowL := rowL.but J (But.of sI)
        have h3 := sI _ _ h3
        have J := J.same sI
        have sc := sc.but (But.of sI)
        refine ⟨_, rfl, _, rfl, _, rfl, _, _, _, _, _, _, _, rfl, told_large (way := 0 + (i' : Int)) (p := 0) (z := 0) (u := 0) rowL.at nL.1 nL.2 h3 S3 (by omega) W3 (by unfold FineP; omega), fun Z14 sZ14 => ?_⟩
        have row := row.but J (But.of sZ14)
        have rowL := rowL.but J (But.of sZ14)
        have h3 := sZ14 _ _ h3
        have J := J.same sZ14
        have sc := sc.but (But.of sZ14)
        refine ⟨_, sZ14 _ _ eI, by rw [List.length_replicate]; exact small1000 (by omega), same_put (sI.trans sZ14) hT2, by rw [upd_same, List.replicate_succ']⟩
      rintro U2 ⟨sU2, kT2⟩
      have row := row.but J (But.of sU2)
      have rowL := rowL.but J (But.of sU2)
      have h3 := sU2 _ _ h3
      have J := J.same sU2
      have sc := sc.but (But.of sU2)
      try dsimp only [L2.start, List.set, List.map, List.append, List.replicate, List.length]
      refine ⟨_, rfl, _, rfl, by decide, by decide, fun T3 hT3 => ?_⟩
      have nT3 : T3 ≠ j := (J.ne hT3).symm
      refine lc_range (lo := 0) (n := 4) (fun i' H' => Same U2 H' ∧ H' T3 = some (.lst (List.replicate i' (V.str (wo none))))) ⟨same_new (Same.refl _) hT3, upd_same⟩ ?_ ?_
      · rintro i' Hi hi' ⟨sI, eI⟩
        refine ⟨rfl, ?_⟩
        unfold tYes
        refine iteT ?_
        have row := row.but J (But.of sI)
        have rowL := rowL.but J (But.of sI)
        have h3 := sI _ _ h3
        have kT2 := sI _ _ kT2
        have J := J.same sI
        have sc := sc.but (But.of sI)
        have sJ := Same.refl Hi
        refine ⟨_, rfl, ?_⟩
        refine ⟨_, rfl, _, _, rfl, rfl, .inl ⟨by decide, by decide⟩, (Nat.zero_le _), fun Zp15 hZp15 => ?_⟩
        have sZp15 := same_new (o := (.lst [])) (Same.refl Hi) hZp15
        have nZp15 : Zp15 ≠ j := (J.ne hZp15).symm
        have row := row.but J (But.of sZp15)
        have rowL := rowL.but J (But.of sZp15)
        have h3 := sZp15 _ _ h3
        have kT2 := sZp15 _ _ kT2
        have J := J.same sZp15
        have sc := sc.but (But.of sZp15)
        have sJ := sJ.trans sZp15
        have kZp15 : upd Hi Zp15 (.lst []) Zp15 = some (.lst []) := upd_same
        generalize upd Hi Zp15 (.lst []) = Z15 at sZp15 row rowL h3 kT2 J sc sJ kZp15 ⊢
        refine ⟨(Nat.zero_le _), fun Zp16 hZp16 => ?_⟩
        have sZp16 := same_new (o := (.lst [])) (Same.refl Z15) hZp16
        have nZp16 : Zp16 ≠ j := (J.ne hZp16).symm
        have row := row.but J (But.of sZp16)
        have rowL := rowL.but J (But.of sZp16)
        have h3 := sZp16 _ _ h3
        have kT2 := sZp16 _ _ kT2
        have kZp15 := sZp16 _ _ kZp15
        have J := J.same sZp16
        have sc := sc.but (But.of sZp16)
        have sJ := sJ.trans sZp16
        have kZp16 : upd Z15 Zp16 (.lst []) Zp16 = some (.lst []) := upd_same
        generalize upd Z15 Zp16 (.lst []) = Z16 at sZp16 row rowL h3 kT2 kZp15 J sc sJ kZp16 ⊢
        refine fun z17 dz17 nz17 ndz17 nez17 => ?_
        have s9z17 : Same Z16 (upd (upd Z16 dz17 (.own z17)) z17 (.ins C dz17 [])) := same_new (same_new (Same.refl Z16) ndz17) (by rw [upd_ne (Ne.symm nez17)]; exact nz17)
        refine ⟨z17, dz17, Zp15, Zp16, (200 * le), [], [], rfl, upd_same, s9z17 _ _ kZp15, s9z17 _ _ kZp16, good_nil (by omega), fun Y17 rnz17 kpz17 => ⟨rfl, ?_⟩⟩
        have sNz17 : Same Z16 Y17 := same_ins (Same.refl Z16) nz17 ndz17 kpz17
        have rowF := (rnz17.mono fun c o e => ⟨o, s9z17 _ _ e⟩).off J
        have row := row.but J (But.of sNz17)
        have rowL := rowL.but J (But.of sNz17)
        have h3 := sNz17 _ _ h3
        have kT2 := sNz17 _ _ kT2
        have J := J.same sNz17
        have sc := sc.but (But.of sNz17)
        have sJ := sJ.trans sNz17
        refine ⟨_, rfl, _, _, _, _, _, _, _, rfl, told_fineP (way := 0 + (i' : Int)) (p := 0) (z := 0) (u := 0) ⟨rowF.at, h3, good_nil (by omega), S3, Int.le_refl _⟩ (by unfold FineP; omega), fun Z18 sZ18 => ?_⟩
        have row := row.but J (But.of sZ18)
        have rowL := rowL.but J (But.of sZ18)
        have rowF := rowF.but J (But.of sZ18)
        have h3 := sZ18 _ _ h3
        have kT2 := sZ18 _ _ kT2
        have J := J.same sZ18
        have sc := sc.but (But.of sZ18)
        have sJ := sJ.trans sZ18
        refine ⟨_, sJ _ _ eI, by rw [List.length_replicate]; exact small1000 (by omega), same_put (sI.trans sJ) hT3, by rw [upd_same, List.replicate_succ']⟩
      rintro U3 ⟨sU3, kT3⟩
      have row := row.but J (But.of sU3)
      have rowL := rowL.but J (But.of sU3)
      have h3 := sU3 _ _ h3
      have kT2 := sU3 _ _ kT2
      have J := J.same sU3
      have sc := sc.but (But.of sU3)
      refine ⟨_, _, _, _, rfl, rfl, kT2, kT3, (small1000 (by show (7 : Nat) ≤ 1000; decide)), fun Zp19 hZp19 => ?_⟩
      have sZp19 := same_new (o := (.lst (List.replicate 4 (V.str (wo (some 3))) ++ List.replicate 4 (V.str (wo none))))) (Same.refl U3) hZp19
      have nZp19 : Zp19 ≠ j := (J.ne hZp19).symm
      have row := row.but J (But.of sZp19)
      have rowL := rowL.but J (But.of sZp19)
      have h3 := sZp19 _ _ h3
      have kT2 := sZp19 _ _ kT2
      have kT3 := sZp19 _ _ kT3
      have J := J.same sZp19
      have sc := sc.but (But.of sZp19)
      have kZp19 : upd U3 Zp19 (.lst (List.replicate 4 (V.str (wo (some 3))) ++ List.replicate 4 (V.str (wo none)))) Zp19 = some (.lst (List.replicate 4 (V.str (wo (some 3))) ++ List.replicate 4 (V.str (wo none)))) := upd_same
      generalize upd U3 Zp19 (.lst (List.replicate 4 (V.str (wo (some 3))) ++ List.replicate 4 (V.str (wo none)))) = Z19 at sZp19 row rowL h3 kT2 kT3 J sc kZp19 ⊢
      try dsimp only [L2.start, List.set, List.map, List.append, List.replicate, List.length]
      refine ⟨_, rfl, (small1000 (by show (0 : Nat) ≤ 1000; decide)), fun Zp20 hZp20 => ?_⟩
      have sZp20 := same_new (o := (.lst [.str "large"])) (Same.refl Z19) hZp20
      have nZp20 : Zp20 ≠ j := (J.ne hZp20).symm
      have row := row.but J (But.of sZp20)
      have rowL := rowL.but J (But.of sZp20)
      have h3 := sZp20 _ _ h3
      have kZp19 := sZp20 _ _ kZp19
      have J := J.same sZp20
      have sc := sc.but (But.of sZp20)
      have kZp20 : upd Z19 Zp20 (.lst [.str "large"]) Zp20 = some (.lst [.str "large"]) := upd_same
      generalize upd Z19 Zp20 (.lst [.str "large"]) = Z20 at sZp20 row rowL h3 kZp19 J sc kZp20 ⊢
      refine ⟨_, _, _, rfl, rfl, kZp20, by decide, by decide, by decide +kernel, fun Zp21 hZp21 => ?_⟩
      have sZp21 := same_new (o := (.lst (List.replicate (Int.toNat 4) [V.str "large"]).flatten)) (Same.refl Z20) hZp21
      have nZp21 : Zp21 ≠ j := (J.ne hZp21).symm
      have row := row.but J (But.of sZp21)
      have rowL := rowL.but J (But.of sZp21)
      have h3 := sZp21 _ _ h3
      have kZp19 := sZp21 _ _ kZp19
      have kZp20 := sZp21 _ _ kZp20
      have J := J.same sZp21
      have sc := sc.but (But.of sZp21)
      have kZp21 : upd Z20 Zp21 (.lst (List.replicate (Int.toNat 4) [V.str "large"]).flatten) Zp21 = some (.lst (List.replicate (Int.toNat 4) [V.str "large"]).flatten) := upd_same
      generalize upd Z20 Zp21 (.lst (List.replicate (Int.toNat 4) [V.str "large"]).flatten) = Z21 at sZp21 row rowL h3 kZp19 kZp20 J sc kZp21 ⊢
      refine ⟨(small1000 (by show (0 : Nat) ≤ 1000; decide)), fun Zp22 hZp22 => ?_⟩
      have sZp22 := same_new (o := (.lst [.str "fine"])) (Same.refl Z21) hZp22
      have nZp22 : Zp22 ≠ j := (J.ne hZp22).symm
      have row := row.but J (But.of sZp22)
      have rowL := rowL.but J (But.of sZp22)
      have h3 := sZp22 _ _ h3
      have kZp19 := sZp22 _ _ kZp19
      have kZp21 := sZp22 _ _ kZp21
      have J := J.same sZp22
      have sc := sc.but (But.of sZp22)
      have kZp22 : upd Z21 Zp22 (.lst [.str "fine"]) Zp22 = some (.lst [.str "fine"]) := upd_same
      generalize upd Z21 Zp22 (.lst [.str "fine"]) = Z22 at sZp22 row rowL h3 kZp19 kZp21 J sc kZp22 ⊢
      refine ⟨_, _, _, rfl, rfl, kZp22, by decide, by decide, by decide +kernel, fun Zp23 hZp23 => ?_⟩
      have sZp23 := same_new (o := (.lst (List.replicate (Int.toNat 4) [V.str "fine"]).flatten)) (Same.refl Z22) hZp23
      have nZp23 : Zp23 ≠ j := (J.ne hZp23).symm
      have row := row.but J (But.of sZp23)
      have rowL := rowL.but J (But.of sZp23)
      have h3 := sZp23 _ _ h3
      have kZp19 := sZp23 _ _ kZp19
      have kZp21 := sZp23 _ _ kZp21
      have kZp22 := sZp23 _ _ kZp22
      have J := J.same sZp23
      have sc := sc.but (But.of sZp23)
      have kZp23 : upd Z22 Zp23 (.lst (List.replicate (Int.toNat 4) [V.str "fine"]).flatten) Zp23 = some (.lst (List.replicate (Int.toNat 4) [V.str "fine"]).flatten) := upd_same
      generalize upd Z22 Zp23 (.lst (List.replicate (Int.toNat 4) [V.str "fine"]).flatten) = Z23 at sZp23 row rowL h3 kZp19 kZp21 kZp22 J sc kZp23 ⊢
      refine ⟨_, _, _, _, rfl, rfl, kZp21, kZp23, by decide +kernel, fun Zp24 hZp24 => ?_⟩
      have sZp24 := same_new (o := (.lst ((List.replicate (Int.toNat 4) [V.str "large"]).flatten ++ (List.replicate (Int.toNat 4) [V.str "fine"]).flatten))) (Same.refl Z23) hZp24
      have nZp24 : Zp24 ≠ j := (J.ne hZp24).symm
      have row := row.but J (But.of sZp24)
      have rowL := rowL.but J (But.of sZp24)
      have h3 := sZp24 _ _ h3
      have kZp19 := sZp24 _ _ kZp19
      have kZp21 := sZp24 _ _ kZp21
      have kZp23 := sZp24 _ _ kZp23
      have J := J.same sZp24
      have sc := sc.but (But.of sZp24)
      have kZp24 : upd Z23 Zp24 (.lst ((List.replicate (Int.toNat 4) [V.str "large"]).flatten ++ (List.replicate (Int.toNat 4) [V.str "fine"]).flatten)) Zp24 = some (.lst ((List.replicate (Int.toNat 4) [V.str "large"]).flatten ++ (List.replicate (Int.toNat 4) [V.str "fine"]).flatten)) := upd_same
      generalize upd Z23 Zp24 (.lst ((List.replicate (Int.toNat 4) [V.str "large"]).flatten ++ (List.replicate (Int.toNat 4) [V.str "fine"]).flatten)) = Z24 at sZp24 row rowL h3 kZp19 kZp21 kZp23 J sc kZp24 ⊢
      refine ⟨_, _, dp_strL (ws := List.replicate 4 ("large" : Str) ++ List.replicate 4 ("fine" : Str)) kZp19, dp_strL (ws := List.replicate 4 ("large" : Str) ++ List.replicate 4 ("fine" : Str)) kZp24, by decide +kernel, by decide +kernel, _, rfl, ?_⟩
      refine ifF (by decide +kernel) ?_
      refine ⟨_, rfl, _, rfl, j, ro, 4470, n, _, _, rfl, row, n1, by omega, J.mono (by decide), fun HE JE BE => ⟨_, rfl, ifF rfl ?_⟩⟩
      exact ⟨_, _, _, _, _, _, _, _, _, _, rfl, (sc.but BE).sq⟩
    · rintro σ H1 ⟨v1, v2, v3, v4, v5, v6, v7, v8, v9, v10, rfl, s1⟩
      refine ⟨_, _, rfl, rfl, ⟨by decide, by decide, by decide⟩, ?_⟩
      have N1 : (1 : Int) ≤ 10 ^ Int.toNat 29 := by decide +kernel
      refine ⟨Nat.zero_le _, fun pA hA => ?_⟩
      have sA := same_new (o := .lst []) (Same.refl H1) hA
      have kA : upd H1 pA (.lst []) pA = some (.lst []) := upd_same
      generalize upd H1 pA (.lst []) = F1 at sA kA ⊢
      refine ⟨Nat.zero_le _, fun pB hB => ?_⟩
      have sB := same_new (o := .lst []) (Same.refl F1) hB
      have kA := sB _ _ kA
      have kB : upd F1 pB (.lst []) pB = some (.lst []) := upd_same
      generalize upd F1 pB (.lst []) = F2 at sB kA kB ⊢
      refine fun z dz nz nd ne => ?_
      have s9 : Same F2 (upd (upd F2 dz (.own z)) z (.ins C dz [])) := same_new (same_new (Same.refl F2) nd) (by rw [upd_ne (Ne.symm ne)]; exact nz)
      refine ⟨z, dz, pA, pB, _, [], [], rfl, upd_same, s9 _ _ kA, s9 _ _ kB, good_nil N1, fun F3 rn kp => ⟨rfl, ?_⟩⟩
      have rowF := (rn.mono fun c o e => ⟨o, s9 _ _ e⟩).at
      refine ⟨_, _, rfl, rfl, ⟨by decide, by decide, by decide⟩, small1000 (by show (0 : Nat) ≤ 1000; decide), fun pC hC => ?_⟩
      have sC := same_new (o := .lst [.int (10 ^ Int.toNat 29)]) (Same.refl F3) hC
      have rowF := rowF.same sC
      have CO : CutsOk (10 ^ Int.toNat 29) [10 ^ Int.toNat 29] 0 := ⟨rfl, by decide, List.pairwise_singleton _ _, fun x hx => by rw [List.mem_singleton.mp hx]; exact ⟨by decide +kernel, Int.le_refl _⟩, rfl⟩
      refine ⟨_, _, _, _, _, _, _, rfl, .inr (.inr (.inr (.inr ⟨rfl, .inl ⟨rfl, fun Q E e => .inl ⟨z, pC, _, [], [], [10 ^ Int.toNat 29], 0, rfl, rowF, good_nil N1, upd_same, CO, fun H' L N G x y z s lo hi => ⟨fun _ => e _ _ s, fun _ p hp => e _ _ (same_new s hp)⟩⟩⟩⟩))), fun F5 s5 => ⟨rfl, ?_⟩⟩
      rw [show decide (V.str (wo none) = V.str "fine") = true by decide +kernel]
      exact q _
end
end Cw
namespace Cw
open PySem L2
/-! ## what the top has written -/
theorem all_mk {l : PySem.W.OpenLaw} {w : World} {K : PySem.W.Frag} {h : Heap} {mg : Str → Option Value} {fa : Addr} (X : K.In h) (G : h.Ns mainGlobals mg) (hfa : mg "law" = some (.ref fa))
    {C fx0 fx1 fx2 fx3 fx4 fx5 fx6 fx7 fx8 fx9 fx10 fx11 fx12 fx13 fx14 fx15 pL fx16 pM fx17 pS fx18 fx19 fx20 fx21 fx22 fx23 fx24 fx25 fx26 fx27 fx28 fx29 fx30 fx31 fx32 fx33 fx34 fx35 fx36 fx37 fx38 fLW ECutError EInvalidChange EInvalidCuts EInvalidNumber EInvalidPlace EInvalidRow EInvalidSettings ETooLarge : Addr} {t_MOST_MARKS t_MOST_PIECES : Tok} {restpL restpM restpS : List Value}
    {ocx0 kVx0 dcx0 pmx0 cdx0 ctx0 : Value} {odx0 anx0 : Option Addr} {slx0 : Array (Option Value)}
    {ocx1 kVx1 dcx1 pmx1 cdx1 ctx1 : Value} {odx1 anx1 : Option Addr} {slx1 : Array (Option Value)}
    {ocx2 kVx2 dcx2 pmx2 cdx2 ctx2 : Value} {odx2 anx2 : Option Addr} {slx2 : Array (Option Value)}
    {ocx3 kVx3 dcx3 pmx3 cdx3 ctx3 : Value} {odx3 anx3 : Option Addr} {slx3 : Array (Option Value)}
    {ocx4 kVx4 dcx4 pmx4 cdx4 ctx4 : Value} {odx4 anx4 : Option Addr} {slx4 : Array (Option Value)}
    {ocx5 kVx5 dcx5 pmx5 cdx5 ctx5 : Value} {odx5 anx5 : Option Addr} {slx5 : Array (Option Value)}
    {ocx6 kVx6 dcx6 pmx6 cdx6 ctx6 : Value} {odx6 anx6 : Option Addr} {slx6 : Array (Option Value)}
    {ocx7 kVx7 dcx7 pmx7 cdx7 ctx7 : Value} {odx7 anx7 : Option Addr} {slx7 : Array (Option Value)}
    {ocx8 kVx8 dcx8 pmx8 cdx8 ctx8 : Value} {odx8 anx8 : Option Addr} {slx8 : Array (Option Value)}
    {ocx9 kVx9 dcx9 pmx9 cdx9 ctx9 : Value} {odx9 anx9 : Option Addr} {slx9 : Array (Option Value)}
    {ocx10 kVx10 dcx10 pmx10 cdx10 ctx10 : Value} {odx10 anx10 : Option Addr} {slx10 : Array (Option Value)}
    {ocx11 kVx11 dcx11 pmx11 cdx11 ctx11 : Value} {odx11 anx11 : Option Addr} {slx11 : Array (Option Value)}
    {ocx12 kVx12 dcx12 pmx12 cdx12 ctx12 : Value} {odx12 anx12 : Option Addr} {slx12 : Array (Option Value)}
    {ocx13 kVx13 dcx13 pmx13 cdx13 ctx13 : Value} {odx13 anx13 : Option Addr} {slx13 : Array (Option Value)}
    {ocx14 kVx14 dcx14 pmx14 cdx14 ctx14 : Value} {odx14 anx14 : Option Addr} {slx14 : Array (Option Value)}
    {ocx15 kVx15 dcx15 pmx15 cdx15 ctx15 : Value} {odx15 anx15 : Option Addr} {slx15 : Array (Option Value)}
    {ocx16 kVx16 dcx16 pmx16 cdx16 ctx16 : Value} {odx16 anx16 : Option Addr} {slx16 : Array (Option Value)}
    {ocx17 kVx17 dcx17 pmx17 cdx17 ctx17 : Value} {odx17 anx17 : Option Addr} {slx17 : Array (Option Value)}
    {ocx18 kVx18 dcx18 pmx18 cdx18 ctx18 : Value} {odx18 anx18 : Option Addr} {slx18 : Array (Option Value)}
    {ocx19 kVx19 dcx19 pmx19 cdx19 ctx19 : Value} {odx19 anx19 : Option Addr} {slx19 : Array (Option Value)}
    {ocx20 kVx20 dcx20 pmx20 cdx20 ctx20 : Value} {odx20 anx20 : Option Addr} {slx20 : Array (Option Value)}
    {ocx21 kVx21 dcx21 pmx21 cdx21 ctx21 : Value} {odx21 anx21 : Option Addr} {slx21 : Array (Option Value)}
    {ocx22 kVx22 dcx22 pmx22 cdx22 ctx22 : Value} {odx22 anx22 : Option Addr} {slx22 : Array (Option Value)}
    {ocx23 kVx23 dcx23 pmx23 cdx23 ctx23 : Value} {odx23 anx23 : Option Addr} {slx23 : Array (Option Value)}
    {ocx24 kVx24 dcx24 pmx24 cdx24 ctx24 : Value} {odx24 anx24 : Option Addr} {slx24 : Array (Option Value)}
    {ocx25 kVx25 dcx25 pmx25 cdx25 ctx25 : Value} {odx25 anx25 : Option Addr} {slx25 : Array (Option Value)}
    {ocx26 kVx26 dcx26 pmx26 cdx26 ctx26 : Value} {odx26 anx26 : Option Addr} {slx26 : Array (Option Value)}
    {ocx27 kVx27 dcx27 pmx27 cdx27 ctx27 : Value} {odx27 anx27 : Option Addr} {slx27 : Array (Option Value)}
    {ocx28 kVx28 dcx28 pmx28 cdx28 ctx28 : Value} {odx28 anx28 : Option Addr} {slx28 : Array (Option Value)}
    {ocx29 kVx29 dcx29 pmx29 cdx29 ctx29 : Value} {odx29 anx29 : Option Addr} {slx29 : Array (Option Value)}
    {ocx30 kVx30 dcx30 pmx30 cdx30 ctx30 : Value} {odx30 anx30 : Option Addr} {slx30 : Array (Option Value)}
    {ocx31 kVx31 dcx31 pmx31 cdx31 ctx31 : Value} {odx31 anx31 : Option Addr} {slx31 : Array (Option Value)}
    {ocx32 kVx32 dcx32 pmx32 cdx32 ctx32 : Value} {odx32 anx32 : Option Addr} {slx32 : Array (Option Value)}
    {ocx33 kVx33 dcx33 pmx33 cdx33 ctx33 : Value} {odx33 anx33 : Option Addr} {slx33 : Array (Option Value)}
    {ocx34 kVx34 dcx34 pmx34 cdx34 ctx34 : Value} {odx34 anx34 : Option Addr} {slx34 : Array (Option Value)}
    {ocx35 kVx35 dcx35 pmx35 cdx35 ctx35 : Value} {odx35 anx35 : Option Addr} {slx35 : Array (Option Value)}
    {ocx36 kVx36 dcx36 pmx36 cdx36 ctx36 : Value} {odx36 anx36 : Option Addr} {slx36 : Array (Option Value)}
    {ocx37 kVx37 dcx37 pmx37 cdx37 ctx37 : Value} {odx37 anx37 : Option Addr} {slx37 : Array (Option Value)}
    {ocx38 kVx38 dcx38 pmx38 cdx38 ctx38 : Value} {odx38 anx38 : Option Addr} {slx38 : Array (Option Value)}
    {ocLW kVLW dcLW pmLW cdLW ctLW : Value} {odLW anLW : Option Addr} {slLW : Array (Option Value)}
    (aC : PySem.W.nsIn K mainGlobals "Row" = some (some (.ref C)))
    (a_MOST_MARKS : PySem.W.nsIn K mainGlobals "MOST_MARKS" = some (some (.int 400 t_MOST_MARKS)))
    (a_MOST_PIECES : PySem.W.nsIn K mainGlobals "MOST_PIECES" = some (some (.int 200 t_MOST_PIECES)))
    (n_int : PySem.W.nsIn K mainGlobals "int" = some none)
    (n_bool : PySem.W.nsIn K mainGlobals "bool" = some none)
    (n_list : PySem.W.nsIn K mainGlobals "list" = some none)
    (n_tuple : PySem.W.nsIn K mainGlobals "tuple" = some none)
    (n_range : PySem.W.nsIn K mainGlobals "range" = some none)
    (n_len : PySem.W.nsIn K mainGlobals "len" = some none)
    (n_abs : PySem.W.nsIn K mainGlobals "abs" = some none)
    (n_all : PySem.W.nsIn K mainGlobals "all" = some none)
    (n_isinstance : PySem.W.nsIn K mainGlobals "isinstance" = some none)
    (n_zip : PySem.W.nsIn K mainGlobals "zip" = some none)
    (n_max : PySem.W.nsIn K mainGlobals "max" = some none)
    (n_min : PySem.W.nsIn K mainGlobals "min" = some none)
    (n_set : PySem.W.nsIn K mainGlobals "set" = some none)
    (n_sorted : PySem.W.nsIn K mainGlobals "sorted" = some none)
    (n_dict : PySem.W.nsIn K mainGlobals "dict" = some none)
    (n_ValueError : PySem.W.nsIn K mainGlobals "ValueError" = some none)
    (n_str : PySem.W.nsIn K mainGlobals "str" = some none)
    (ax0 : PySem.W.nsIn K mainGlobals "is_integer" = some (some (.ref fx0)))
    (lx0 : K.lookup fx0 = some ⟨ocx0, odx0, .func (PySem.W.fnOf "is_integer" "is_integer" (defArgs sIsInt) (defBody sIsInt) (defScope sIsInt) .none kVx0 dcx0 pmx0 anx0 cdx0 ctx0), slx0⟩)
    (cox0 : PySem.W.codeIn K cdx0 "is_integer" = true)
    (kx0 : PySem.W.keepIn K (.ref fx0) = true)
    (ax1 : PySem.W.nsIn K mainGlobals "are_places" = some (some (.ref fx1)))
    (lx1 : K.lookup fx1 = some ⟨ocx1, odx1, .func (PySem.W.fnOf "are_places" "are_places" (defArgs sPlaces) (defBody sPlaces) (defScope sPlaces) .none kVx1 dcx1 pmx1 anx1 cdx1 ctx1), slx1⟩)
    (cox1 : PySem.W.codeIn K cdx1 "are_places" = true)
    (kx1 : PySem.W.keepIn K (.ref fx1) = true)
    (ax2 : PySem.W.nsIn K mainGlobals "are_ascending" = some (some (.ref fx2)))
    (lx2 : K.lookup fx2 = some ⟨ocx2, odx2, .func (PySem.W.fnOf "are_ascending" "are_ascending" (defArgs sAsc) (defBody sAsc) (defScope sAsc) .none kVx2 dcx2 pmx2 anx2 cdx2 ctx2), slx2⟩)
    (cox2 : PySem.W.codeIn K cdx2 "are_ascending" = true)
    (kx2 : PySem.W.keepIn K (.ref fx2) = true)
    (ax3 : PySem.W.nsIn K mainGlobals "are_marks" = some (some (.ref fx3)))
    (lx3 : K.lookup fx3 = some ⟨ocx3, odx3, .func (PySem.W.fnOf "are_marks" "are_marks" (defArgs sMarks) (defBody sMarks) (defScope sMarks) .none kVx3 dcx3 pmx3 anx3 cdx3 ctx3), slx3⟩)
    (cox3 : PySem.W.codeIn K cdx3 "are_marks" = true)
    (kx3 : PySem.W.keepIn K (.ref fx3) = true)
    (ax4 : PySem.W.nsIn K mainGlobals "are_some_of" = some (some (.ref fx4)))
    (lx4 : K.lookup fx4 = some ⟨ocx4, odx4, .func (PySem.W.fnOf "are_some_of" "are_some_of" (defArgs sSome) (defBody sSome) (defScope sSome) .none kVx4 dcx4 pmx4 anx4 cdx4 ctx4), slx4⟩)
    (cox4 : PySem.W.codeIn K cdx4 "are_some_of" = true)
    (kx4 : PySem.W.keepIn K (.ref fx4) = true)
    (ax5 : PySem.W.findIn K (.ref C) "__init__" = some (some (.ref fx5)))
    (ix5 : PySem.W.isFn K (.ref fx5) = true)
    (lx5 : K.lookup fx5 = some ⟨ocx5, odx5, .func (PySem.W.fnOf "__init__" "Row.__init__" (defArgs sInit) (defBody sInit) (defScope sInit) .none kVx5 dcx5 pmx5 anx5 cdx5 ctx5), slx5⟩)
    (cox5 : PySem.W.codeIn K cdx5 "Row.__init__" = true)
    (kx5 : PySem.W.keepIn K (.ref fx5) = true)
    (ax6 : PySem.W.nsIn K mainGlobals "_law_jar" = some (some (.ref fx6)))
    (lx6 : K.lookup fx6 = some ⟨ocx6, odx6, .func (PySem.W.fnOf "_law_jar" "_law_jar" (defArgs sJar) (defBody sJar) (defScope sJar) .none kVx6 dcx6 pmx6 anx6 cdx6 ctx6), slx6⟩)
    (cox6 : PySem.W.codeIn K cdx6 "_law_jar" = true)
    (kx6 : PySem.W.keepIn K (.ref fx6) = true)
    (ax7 : PySem.W.nsIn K mainGlobals "_law_dip" = some (some (.ref fx7)))
    (lx7 : K.lookup fx7 = some ⟨ocx7, odx7, .func (PySem.W.fnOf "_law_dip" "_law_dip" (defArgs sDip) (defBody sDip) (defScope sDip) .none kVx7 dcx7 pmx7 anx7 cdx7 ctx7), slx7⟩)
    (cox7 : PySem.W.codeIn K cdx7 "_law_dip" = true)
    (kx7 : PySem.W.keepIn K (.ref fx7) = true)
    (ax8 : PySem.W.nsIn K mainGlobals "_law_three" = some (some (.ref fx8)))
    (lx8 : K.lookup fx8 = some ⟨ocx8, odx8, .func (PySem.W.fnOf "_law_three" "_law_three" (defArgs sThree) (defBody sThree) (defScope sThree) .none kVx8 dcx8 pmx8 anx8 cdx8 ctx8), slx8⟩)
    (cox8 : PySem.W.codeIn K cdx8 "_law_three" = true)
    (kx8 : PySem.W.keepIn K (.ref fx8) = true)
    (ax9 : PySem.W.nsIn K mainGlobals "_law_small" = some (some (.ref fx9)))
    (lx9 : K.lookup fx9 = some ⟨ocx9, odx9, .func (PySem.W.fnOf "_law_small" "_law_small" (defArgs sSmall) (defBody sSmall) (defScope sSmall) .none kVx9 dcx9 pmx9 anx9 cdx9 ctx9), slx9⟩)
    (cox9 : PySem.W.codeIn K cdx9 "_law_small" = true)
    (kx9 : PySem.W.keepIn K (.ref fx9) = true)
    (ax10 : PySem.W.nsIn K mainGlobals "_law_heap" = some (some (.ref fx10)))
    (lx10 : K.lookup fx10 = some ⟨ocx10, odx10, .func (PySem.W.fnOf "_law_heap" "_law_heap" (defArgs sHeap) (defBody sHeap) (defScope sHeap) .none kVx10 dcx10 pmx10 anx10 cdx10 ctx10), slx10⟩)
    (cox10 : PySem.W.codeIn K cdx10 "_law_heap" = true)
    (kx10 : PySem.W.keepIn K (.ref fx10) = true)
    (ax11 : PySem.W.nsIn K mainGlobals "_law_no_settings" = some (some (.ref fx11)))
    (lx11 : K.lookup fx11 = some ⟨ocx11, odx11, .func (PySem.W.fnOf "_law_no_settings" "_law_no_settings" (defArgs sNs) (defBody sNs) (defScope sNs) .none kVx11 dcx11 pmx11 anx11 cdx11 ctx11), slx11⟩)
    (cox11 : PySem.W.codeIn K cdx11 "_law_no_settings" = true)
    (kx11 : PySem.W.keepIn K (.ref fx11) = true)
    (ax12 : PySem.W.nsIn K mainGlobals "check_settings" = some (some (.ref fx12)))
    (lx12 : K.lookup fx12 = some ⟨ocx12, odx12, .func (PySem.W.fnOf "check_settings" "check_settings" (defArgs sCSet) (defBody sCSet) (defScope sCSet) .none kVx12 dcx12 pmx12 anx12 cdx12 ctx12), slx12⟩)
    (cox12 : PySem.W.codeIn K cdx12 "check_settings" = true)
    (kx12 : PySem.W.keepIn K (.ref fx12) = true)
    (ax13 : PySem.W.nsIn K mainGlobals "check_place" = some (some (.ref fx13)))
    (lx13 : K.lookup fx13 = some ⟨ocx13, odx13, .func (PySem.W.fnOf "check_place" "check_place" (defArgs sCPl) (defBody sCPl) (defScope sCPl) .none kVx13 dcx13 pmx13 anx13 cdx13 ctx13), slx13⟩)
    (cox13 : PySem.W.codeIn K cdx13 "check_place" = true)
    (kx13 : PySem.W.keepIn K (.ref fx13) = true)
    (ax14 : PySem.W.nsIn K mainGlobals "check_length" = some (some (.ref fx14)))
    (lx14 : K.lookup fx14 = some ⟨ocx14, odx14, .func (PySem.W.fnOf "check_length" "check_length" (defArgs sCLen) (defBody sCLen) (defScope sCLen) .none kVx14 dcx14 pmx14 anx14 cdx14 ctx14), slx14⟩)
    (cox14 : PySem.W.codeIn K cdx14 "check_length" = true)
    (kx14 : PySem.W.keepIn K (.ref fx14) = true)
    (apL : PySem.W.findIn K (.ref C) "length" = some (some (.ref pL)))
    (gpL : PySem.W.specialIn K (.ref pL) "__get__" = some (some (.builtin "property.__get__")))
    (tpL : PySem.W.takesIn K (.ref pL) = some true)
    (rpL : PySem.W.recIn K pL "property" = some (.ref fx15 :: restpL))
    (lx15 : K.lookup fx15 = some ⟨ocx15, odx15, .func (PySem.W.fnOf "length" "Row.length" (defArgs sGetL) (defBody sGetL) (defScope sGetL) .none kVx15 dcx15 pmx15 anx15 cdx15 ctx15), slx15⟩)
    (cox15 : PySem.W.codeIn K cdx15 "Row.length" = true)
    (kx15 : PySem.W.keepIn K (.ref fx15) = true)
    (apM : PySem.W.findIn K (.ref C) "marks" = some (some (.ref pM)))
    (gpM : PySem.W.specialIn K (.ref pM) "__get__" = some (some (.builtin "property.__get__")))
    (tpM : PySem.W.takesIn K (.ref pM) = some true)
    (rpM : PySem.W.recIn K pM "property" = some (.ref fx16 :: restpM))
    (lx16 : K.lookup fx16 = some ⟨ocx16, odx16, .func (PySem.W.fnOf "marks" "Row.marks" (defArgs sGetM) (defBody sGetM) (defScope sGetM) .none kVx16 dcx16 pmx16 anx16 cdx16 ctx16), slx16⟩)
    (cox16 : PySem.W.codeIn K cdx16 "Row.marks" = true)
    (kx16 : PySem.W.keepIn K (.ref fx16) = true)
    (apS : PySem.W.findIn K (.ref C) "strict" = some (some (.ref pS)))
    (gpS : PySem.W.specialIn K (.ref pS) "__get__" = some (some (.builtin "property.__get__")))
    (tpS : PySem.W.takesIn K (.ref pS) = some true)
    (rpS : PySem.W.recIn K pS "property" = some (.ref fx17 :: restpS))
    (lx17 : K.lookup fx17 = some ⟨ocx17, odx17, .func (PySem.W.fnOf "strict" "Row.strict" (defArgs sGetS) (defBody sGetS) (defScope sGetS) .none kVx17 dcx17 pmx17 anx17 cdx17 ctx17), slx17⟩)
    (cox17 : PySem.W.codeIn K cdx17 "Row.strict" = true)
    (kx17 : PySem.W.keepIn K (.ref fx17) = true)
    (ax18 : PySem.W.nsIn K mainGlobals "check_size" = some (some (.ref fx18)))
    (lx18 : K.lookup fx18 = some ⟨ocx18, odx18, .func (PySem.W.fnOf "check_size" "check_size" (defArgs sCSz) (defBody sCSz) (defScope sCSz) .none kVx18 dcx18 pmx18 anx18 cdx18 ctx18), slx18⟩)
    (cox18 : PySem.W.codeIn K cdx18 "check_size" = true)
    (kx18 : PySem.W.keepIn K (.ref fx18) = true)
    (ax19 : PySem.W.nsIn K mainGlobals "count_before" = some (some (.ref fx19)))
    (lx19 : K.lookup fx19 = some ⟨ocx19, odx19, .func (PySem.W.fnOf "count_before" "count_before" (defArgs sCB) (defBody sCB) (defScope sCB) .none kVx19 dcx19 pmx19 anx19 cdx19 ctx19), slx19⟩)
    (cox19 : PySem.W.codeIn K cdx19 "count_before" = true)
    (kx19 : PySem.W.keepIn K (.ref fx19) = true)
    (ax20 : PySem.W.nsIn K mainGlobals "first_mark" = some (some (.ref fx20)))
    (lx20 : K.lookup fx20 = some ⟨ocx20, odx20, .func (PySem.W.fnOf "first_mark" "first_mark" (defArgs sFM) (defBody sFM) (defScope sFM) .none kVx20 dcx20 pmx20 anx20 cdx20 ctx20), slx20⟩)
    (cox20 : PySem.W.codeIn K cdx20 "first_mark" = true)
    (kx20 : PySem.W.keepIn K (.ref fx20) = true)
    (ax21 : PySem.W.nsIn K mainGlobals "step" = some (some (.ref fx21)))
    (lx21 : K.lookup fx21 = some ⟨ocx21, odx21, .func (PySem.W.fnOf "step" "step" (defArgs sStep) (defBody sStep) (defScope sStep) .none kVx21 dcx21 pmx21 anx21 cdx21 ctx21), slx21⟩)
    (cox21 : PySem.W.codeIn K cdx21 "step" = true)
    (kx21 : PySem.W.keepIn K (.ref fx21) = true)
    (ax22 : PySem.W.nsIn K mainGlobals "next_cut" = some (some (.ref fx22)))
    (lx22 : K.lookup fx22 = some ⟨ocx22, odx22, .func (PySem.W.fnOf "next_cut" "next_cut" (defArgs sNext) (defBody sNext) (defScope sNext) .none kVx22 dcx22 pmx22 anx22 cdx22 ctx22), slx22⟩)
    (cox22 : PySem.W.codeIn K cdx22 "next_cut" = true)
    (kx22 : PySem.W.keepIn K (.ref fx22) = true)
    (ax23 : PySem.W.nsIn K mainGlobals "check_walk" = some (some (.ref fx23)))
    (lx23 : K.lookup fx23 = some ⟨ocx23, odx23, .func (PySem.W.fnOf "check_walk" "check_walk" (defArgs sCWk) (defBody sCWk) (defScope sCWk) .none kVx23 dcx23 pmx23 anx23 cdx23 ctx23), slx23⟩)
    (cox23 : PySem.W.codeIn K cdx23 "check_walk" = true)
    (kx23 : PySem.W.keepIn K (.ref fx23) = true)
    (ax24 : PySem.W.nsIn K mainGlobals "cuts_from" = some (some (.ref fx24)))
    (lx24 : K.lookup fx24 = some ⟨ocx24, odx24, .func (PySem.W.fnOf "cuts_from" "cuts_from" (defArgs sCuts) (defBody sCuts) (defScope sCuts) .none kVx24 dcx24 pmx24 anx24 cdx24 ctx24), slx24⟩)
    (cox24 : PySem.W.codeIn K cdx24 "cuts_from" = true)
    (kx24 : PySem.W.keepIn K (.ref fx24) = true)
    (ax25 : PySem.W.nsIn K mainGlobals "walk" = some (some (.ref fx25)))
    (lx25 : K.lookup fx25 = some ⟨ocx25, odx25, .func (PySem.W.fnOf "walk" "walk" (defArgs sWalk) (defBody sWalk) (defScope sWalk) .none kVx25 dcx25 pmx25 anx25 cdx25 ctx25), slx25⟩)
    (cox25 : PySem.W.codeIn K cdx25 "walk" = true)
    (kx25 : PySem.W.keepIn K (.ref fx25) = true)
    (ax26 : PySem.W.nsIn K mainGlobals "first_from" = some (some (.ref fx26)))
    (lx26 : K.lookup fx26 = some ⟨ocx26, odx26, .func (PySem.W.fnOf "first_from" "first_from" (defArgs sFF) (defBody sFF) (defScope sFF) .none kVx26 dcx26 pmx26 anx26 cdx26 ctx26), slx26⟩)
    (cox26 : PySem.W.codeIn K cdx26 "first_from" = true)
    (kx26 : PySem.W.keepIn K (.ref fx26) = true)
    (ax27 : PySem.W.nsIn K mainGlobals "cuts_within" = some (some (.ref fx27)))
    (lx27 : K.lookup fx27 = some ⟨ocx27, odx27, .func (PySem.W.fnOf "cuts_within" "cuts_within" (defArgs sWithin) (defBody sWithin) (defScope sWithin) .none kVx27 dcx27 pmx27 anx27 cdx27 ctx27), slx27⟩)
    (cox27 : PySem.W.codeIn K cdx27 "cuts_within" = true)
    (kx27 : PySem.W.keepIn K (.ref fx27) = true)
    (ax28 : PySem.W.nsIn K mainGlobals "plain_marks" = some (some (.ref fx28)))
    (lx28 : K.lookup fx28 = some ⟨ocx28, odx28, .func (PySem.W.fnOf "plain_marks" "plain_marks" (defArgs sPm) (defBody sPm) (defScope sPm) .none kVx28 dcx28 pmx28 anx28 cdx28 ctx28), slx28⟩)
    (cox28 : PySem.W.codeIn K cdx28 "plain_marks" = true)
    (kx28 : PySem.W.keepIn K (.ref fx28) = true)
    (ax29 : PySem.W.nsIn K mainGlobals "last_within" = some (some (.ref fx29)))
    (lx29 : K.lookup fx29 = some ⟨ocx29, odx29, .func (PySem.W.fnOf "last_within" "last_within" (defArgs sLw) (defBody sLw) (defScope sLw) .none kVx29 dcx29 pmx29 anx29 cdx29 ctx29), slx29⟩)
    (cox29 : PySem.W.codeIn K cdx29 "last_within" = true)
    (kx29 : PySem.W.keepIn K (.ref fx29) = true)
    (ax30 : PySem.W.nsIn K mainGlobals "low_bounds" = some (some (.ref fx30)))
    (lx30 : K.lookup fx30 = some ⟨ocx30, odx30, .func (PySem.W.fnOf "low_bounds" "low_bounds" (defArgs sLb) (defBody sLb) (defScope sLb) .none kVx30 dcx30 pmx30 anx30 cdx30 ctx30), slx30⟩)
    (cox30 : PySem.W.codeIn K cdx30 "low_bounds" = true)
    (kx30 : PySem.W.keepIn K (.ref fx30) = true)
    (ax31 : PySem.W.nsIn K mainGlobals "top_bounds" = some (some (.ref fx31)))
    (lx31 : K.lookup fx31 = some ⟨ocx31, odx31, .func (PySem.W.fnOf "top_bounds" "top_bounds" (defArgs sTb) (defBody sTb) (defScope sTb) .none kVx31 dcx31 pmx31 anx31 cdx31 ctx31), slx31⟩)
    (cox31 : PySem.W.codeIn K cdx31 "top_bounds" = true)
    (kx31 : PySem.W.keepIn K (.ref fx31) = true)
    (ax32 : PySem.W.nsIn K mainGlobals "some_settings" = some (some (.ref fx32)))
    (lx32 : K.lookup fx32 = some ⟨ocx32, odx32, .func (PySem.W.fnOf "some_settings" "some_settings" (defArgs sSos) (defBody sSos) (defScope sSos) .none kVx32 dcx32 pmx32 anx32 cdx32 ctx32), slx32⟩)
    (cox32 : PySem.W.codeIn K cdx32 "some_settings" = true)
    (kx32 : PySem.W.keepIn K (.ref fx32) = true)
    (ax33 : PySem.W.nsIn K mainGlobals "settings_for" = some (some (.ref fx33)))
    (lx33 : K.lookup fx33 = some ⟨ocx33, odx33, .func (PySem.W.fnOf "settings_for" "settings_for" (defArgs sSf) (defBody sSf) (defScope sSf) .none kVx33 dcx33 pmx33 anx33 cdx33 ctx33), slx33⟩)
    (cox33 : PySem.W.codeIn K cdx33 "settings_for" = true)
    (kx33 : PySem.W.keepIn K (.ref fx33) = true)
    (ax34 : PySem.W.nsIn K mainGlobals "_law_word" = some (some (.ref fx34)))
    (lx34 : K.lookup fx34 = some ⟨ocx34, odx34, .func (PySem.W.fnOf "_law_word" "_law_word" (defArgs sWd) (defBody sWd) (defScope sWd) .none kVx34 dcx34 pmx34 anx34 cdx34 ctx34), slx34⟩)
    (cox34 : PySem.W.codeIn K cdx34 "_law_word" = true)
    (kx34 : PySem.W.keepIn K (.ref fx34) = true)
    (ax35 : PySem.W.nsIn K mainGlobals "_law_told" = some (some (.ref fx35)))
    (lx35 : K.lookup fx35 = some ⟨ocx35, odx35, .func (PySem.W.fnOf "_law_told" "_law_told" (defArgs sTo) (defBody sTo) (defScope sTo) .none kVx35 dcx35 pmx35 anx35 cdx35 ctx35), slx35⟩)
    (cox35 : PySem.W.codeIn K cdx35 "_law_told" = true)
    (kx35 : PySem.W.keepIn K (.ref fx35) = true)
    (ax36 : PySem.W.nsIn K mainGlobals "_law_settings_right" = some (some (.ref fx36)))
    (lx36 : K.lookup fx36 = some ⟨ocx36, odx36, .func (PySem.W.fnOf "_law_settings_right" "_law_settings_right" (defArgs sSr) (defBody sSr) (defScope sSr) .none kVx36 dcx36 pmx36 anx36 cdx36 ctx36), slx36⟩)
    (cox36 : PySem.W.codeIn K cdx36 "_law_settings_right" = true)
    (kx36 : PySem.W.keepIn K (.ref fx36) = true)
    (ax37 : PySem.W.nsIn K mainGlobals "_law_places_right" = some (some (.ref fx37)))
    (lx37 : K.lookup fx37 = some ⟨ocx37, odx37, .func (PySem.W.fnOf "_law_places_right" "_law_places_right" (defArgs sPr) (defBody sPr) (defScope sPr) .none kVx37 dcx37 pmx37 anx37 cdx37 ctx37), slx37⟩)
    (cox37 : PySem.W.codeIn K cdx37 "_law_places_right" = true)
    (kx37 : PySem.W.keepIn K (.ref fx37) = true)
    (ax38 : PySem.W.nsIn K mainGlobals "_law_cuts_right" = some (some (.ref fx38)))
    (lx38 : K.lookup fx38 = some ⟨ocx38, odx38, .func (PySem.W.fnOf "_law_cuts_right" "_law_cuts_right" (defArgs sCr) (defBody sCr) (defScope sCr) .none kVx38 dcx38 pmx38 anx38 cdx38 ctx38), slx38⟩)
    (cox38 : PySem.W.codeIn K cdx38 "_law_cuts_right" = true)
    (kx38 : PySem.W.keepIn K (.ref fx38) = true)
    (aLW : PySem.W.nsIn K mainGlobals "law" = some (some (.ref fLW)))
    (lLW : K.lookup fLW = some ⟨ocLW, odLW, .func (PySem.W.fnOf "law" "law" (defArgs sL) (defBody sL) (defScope sL) .none kVLW dcLW pmLW anLW cdLW ctLW), slLW⟩)
    (coLW : PySem.W.codeIn K cdLW "law" = true)
    (kLW : PySem.W.keepIn K (.ref fLW) = true)
    (pg : PySem.W.plainGet K C Str.empty = true)
    (hd : PySem.W.hasDictIn K C = true)
    (po : PySem.W.plainOver K C = true)
    (sa : PySem.W.findIn K (.ref C) "__setattr__" = some (some (.builtin "object.__setattr__")))
    (mk : PySem.W.makesIn K C = true)
    (kc : PySem.W.keepIn K (.ref C) = true)
    (nL : PySem.W.findIn K (.ref C) "_length" = some none)
    (nM : PySem.W.findIn K (.ref C) "_marks" = some none)
    (nS : PySem.W.findIn K (.ref C) "_strict" = some none)
    (kt : PySem.W.kitOne K (.ref C) (.ref C) = some true)
    (aECutError : PySem.W.nsIn K mainGlobals "CutError" = some (some (.ref ECutError)))
    (xECutError : PySem.W.excIn K ECutError [.type "ValueError", .type "Exception", .type "BaseException", .type "object"] "ValueError.__new__" = true)
    (kpECutError : PySem.W.keepIn K (.ref ECutError) = true)
    (bsECutError : PySem.W.subIn K (.ref ECutError) (.type "BaseException") = some true)
    (tyECutError : PySem.W.typeIn K (.ref ECutError) = some (.type "type"))
    (aEInvalidChange : PySem.W.nsIn K mainGlobals "InvalidChange" = some (some (.ref EInvalidChange)))
    (aEInvalidCuts : PySem.W.nsIn K mainGlobals "InvalidCuts" = some (some (.ref EInvalidCuts)))
    (xEInvalidCuts : PySem.W.excIn K EInvalidCuts [.type "ValueError", .type "Exception", .type "BaseException", .type "object"] "ValueError.__new__" = true)
    (kpEInvalidCuts : PySem.W.keepIn K (.ref EInvalidCuts) = true)
    (bsEInvalidCuts : PySem.W.subIn K (.ref EInvalidCuts) (.type "BaseException") = some true)
    (tyEInvalidCuts : PySem.W.typeIn K (.ref EInvalidCuts) = some (.type "type"))
    (aEInvalidNumber : PySem.W.nsIn K mainGlobals "InvalidNumber" = some (some (.ref EInvalidNumber)))
    (aEInvalidPlace : PySem.W.nsIn K mainGlobals "InvalidPlace" = some (some (.ref EInvalidPlace)))
    (xEInvalidPlace : PySem.W.excIn K EInvalidPlace [.type "ValueError", .type "Exception", .type "BaseException", .type "object"] "ValueError.__new__" = true)
    (kpEInvalidPlace : PySem.W.keepIn K (.ref EInvalidPlace) = true)
    (bsEInvalidPlace : PySem.W.subIn K (.ref EInvalidPlace) (.type "BaseException") = some true)
    (tyEInvalidPlace : PySem.W.typeIn K (.ref EInvalidPlace) = some (.type "type"))
    (aEInvalidRow : PySem.W.nsIn K mainGlobals "InvalidRow" = some (some (.ref EInvalidRow)))
    (aEInvalidSettings : PySem.W.nsIn K mainGlobals "InvalidSettings" = some (some (.ref EInvalidSettings)))
    (xEInvalidSettings : PySem.W.excIn K EInvalidSettings [.type "ValueError", .type "Exception", .type "BaseException", .type "object"] "ValueError.__new__" = true)
    (kpEInvalidSettings : PySem.W.keepIn K (.ref EInvalidSettings) = true)
    (bsEInvalidSettings : PySem.W.subIn K (.ref EInvalidSettings) (.type "BaseException") = some true)
    (tyEInvalidSettings : PySem.W.typeIn K (.ref EInvalidSettings) = some (.type "type"))
    (aETooLarge : PySem.W.nsIn K mainGlobals "TooLarge" = some (some (.ref ETooLarge)))
    (xETooLarge : PySem.W.excIn K ETooLarge [.type "ValueError", .type "Exception", .type "BaseException", .type "object"] "ValueError.__new__" = true)
    (kpETooLarge : PySem.W.keepIn K (.ref ETooLarge) = true)
    (bsETooLarge : PySem.W.subIn K (.ref ETooLarge) (.type "BaseException") = some true)
    (tyETooLarge : PySem.W.typeIn K (.ref ETooLarge) = some (.type "type"))
    (wxc0 : ExcC K EInvalidSettings)
    (wk0_0 : PySem.W.kitOne K (.ref EInvalidSettings) (.ref EInvalidSettings) = some true)
    (wk0_1 : PySem.W.kitOne K (.ref EInvalidSettings) (.ref EInvalidPlace) = some false)
    (wk0_2 : PySem.W.kitOne K (.ref EInvalidSettings) (.ref EInvalidCuts) = some false)
    (wk0_3 : PySem.W.kitOne K (.ref EInvalidSettings) (.ref ETooLarge) = some false)
    (wo0_0 : PySem.W.kitOne K (.ref EInvalidSettings) (.ref EInvalidNumber) = some false)
    (wo0_1 : PySem.W.kitOne K (.ref EInvalidSettings) (.ref EInvalidChange) = some false)
    (wo0_2 : PySem.W.kitOne K (.ref EInvalidSettings) (.ref EInvalidRow) = some false)
    (wv0 : PySem.W.kitOne K (.ref EInvalidSettings) (.type "ValueError") = some true)
    (we0 : PySem.W.exmOne K (.ref EInvalidSettings) (.ref ECutError) = some true)
    (wxc1 : ExcC K EInvalidPlace)
    (wk1_0 : PySem.W.kitOne K (.ref EInvalidPlace) (.ref EInvalidSettings) = some false)
    (wk1_1 : PySem.W.kitOne K (.ref EInvalidPlace) (.ref EInvalidPlace) = some true)
    (wk1_2 : PySem.W.kitOne K (.ref EInvalidPlace) (.ref EInvalidCuts) = some false)
    (wk1_3 : PySem.W.kitOne K (.ref EInvalidPlace) (.ref ETooLarge) = some false)
    (wo1_0 : PySem.W.kitOne K (.ref EInvalidPlace) (.ref EInvalidNumber) = some false)
    (wo1_1 : PySem.W.kitOne K (.ref EInvalidPlace) (.ref EInvalidChange) = some false)
    (wo1_2 : PySem.W.kitOne K (.ref EInvalidPlace) (.ref EInvalidRow) = some false)
    (wv1 : PySem.W.kitOne K (.ref EInvalidPlace) (.type "ValueError") = some true)
    (we1 : PySem.W.exmOne K (.ref EInvalidPlace) (.ref ECutError) = some true)
    (wxc2 : ExcC K EInvalidCuts)
    (wk2_0 : PySem.W.kitOne K (.ref EInvalidCuts) (.ref EInvalidSettings) = some false)
    (wk2_1 : PySem.W.kitOne K (.ref EInvalidCuts) (.ref EInvalidPlace) = some false)
    (wk2_2 : PySem.W.kitOne K (.ref EInvalidCuts) (.ref EInvalidCuts) = some true)
    (wk2_3 : PySem.W.kitOne K (.ref EInvalidCuts) (.ref ETooLarge) = some false)
    (wo2_0 : PySem.W.kitOne K (.ref EInvalidCuts) (.ref EInvalidNumber) = some false)
    (wo2_1 : PySem.W.kitOne K (.ref EInvalidCuts) (.ref EInvalidChange) = some false)
    (wo2_2 : PySem.W.kitOne K (.ref EInvalidCuts) (.ref EInvalidRow) = some false)
    (wv2 : PySem.W.kitOne K (.ref EInvalidCuts) (.type "ValueError") = some true)
    (we2 : PySem.W.exmOne K (.ref EInvalidCuts) (.ref ECutError) = some true)
    (wxc3 : ExcC K ETooLarge)
    (wk3_0 : PySem.W.kitOne K (.ref ETooLarge) (.ref EInvalidSettings) = some false)
    (wk3_1 : PySem.W.kitOne K (.ref ETooLarge) (.ref EInvalidPlace) = some false)
    (wk3_2 : PySem.W.kitOne K (.ref ETooLarge) (.ref EInvalidCuts) = some false)
    (wk3_3 : PySem.W.kitOne K (.ref ETooLarge) (.ref ETooLarge) = some true)
    (wo3_0 : PySem.W.kitOne K (.ref ETooLarge) (.ref EInvalidNumber) = some false)
    (wo3_1 : PySem.W.kitOne K (.ref ETooLarge) (.ref EInvalidChange) = some false)
    (wo3_2 : PySem.W.kitOne K (.ref ETooLarge) (.ref EInvalidRow) = some false)
    (wv3 : PySem.W.kitOne K (.ref ETooLarge) (.type "ValueError") = some true)
    (we3 : PySem.W.exmOne K (.ref ETooLarge) (.ref ECutError) = some true)
    : ∃ fd : FuncData, (∀ (s : Shared) (v : Value), BindsTo s fd ⟨[v], []⟩ [("script", v)]) ∧ ∀ base : Heap, K.In base → base.Ns mainGlobals mg → FnG l.prog w K mg base 10 fa fd ["script"] (spLaw K) := by
  have e := hfa.symm.trans (PySem.W.mg_of X G aLW)
  cases e
  have T : Bl mg := ⟨PySem.W.mg_none_of X G n_int, PySem.W.mg_none_of X G n_bool, PySem.W.mg_none_of X G n_list, PySem.W.mg_none_of X G n_tuple, PySem.W.mg_none_of X G n_range, PySem.W.mg_none_of X G n_len, PySem.W.mg_none_of X G n_abs, PySem.W.mg_none_of X G n_all, PySem.W.mg_none_of X G n_isinstance, PySem.W.mg_none_of X G n_zip, PySem.W.mg_none_of X G n_max, PySem.W.mg_none_of X G n_min, PySem.W.mg_none_of X G n_set, PySem.W.mg_none_of X G n_sorted, PySem.W.mg_none_of X G n_dict⟩
  have R : Cl K mg C := ⟨⟨pg, hd, po, sa⟩, nL, nM, nS, PySem.W.mg_of X G aC, kt⟩
  have M : Mk K C fx5 := ⟨mk, ax5, ix5, kc⟩
  have HCutError : ErrC K mg ECutError "CutError" := ⟨PySem.W.mg_of X G aECutError, xECutError, kpECutError, bsECutError, tyECutError⟩
  have HInvalidCuts : ErrC K mg EInvalidCuts "InvalidCuts" := ⟨PySem.W.mg_of X G aEInvalidCuts, xEInvalidCuts, kpEInvalidCuts, bsEInvalidCuts, tyEInvalidCuts⟩
  have HInvalidPlace : ErrC K mg EInvalidPlace "InvalidPlace" := ⟨PySem.W.mg_of X G aEInvalidPlace, xEInvalidPlace, kpEInvalidPlace, bsEInvalidPlace, tyEInvalidPlace⟩
  have HInvalidSettings : ErrC K mg EInvalidSettings "InvalidSettings" := ⟨PySem.W.mg_of X G aEInvalidSettings, xEInvalidSettings, kpEInvalidSettings, bsEInvalidSettings, tyEInvalidSettings⟩
  have HTooLarge : ErrC K mg ETooLarge "TooLarge" := ⟨PySem.W.mg_of X G aETooLarge, xETooLarge, kpETooLarge, bsETooLarge, tyETooLarge⟩
  have WA0 : WordAt K EInvalidSettings EInvalidPlace EInvalidCuts ETooLarge [.ref EInvalidNumber, .ref EInvalidChange, .ref EInvalidRow] ECutError EInvalidSettings 0 := ⟨by decide, wxc0, wk0_0, wk0_1, wk0_2, wk0_3, (fun o ho => by
    simp only [List.mem_cons, List.not_mem_nil, or_false] at ho
    rcases ho with rfl | rfl | rfl
    · exact wo0_0
    · exact wo0_1
    · exact wo0_2), wv0, we0⟩
  have WA1 : WordAt K EInvalidSettings EInvalidPlace EInvalidCuts ETooLarge [.ref EInvalidNumber, .ref EInvalidChange, .ref EInvalidRow] ECutError EInvalidPlace 1 := ⟨by decide, wxc1, wk1_0, wk1_1, wk1_2, wk1_3, (fun o ho => by
    simp only [List.mem_cons, List.not_mem_nil, or_false] at ho
    rcases ho with rfl | rfl | rfl
    · exact wo1_0
    · exact wo1_1
    · exact wo1_2), wv1, we1⟩
  have WA2 : WordAt K EInvalidSettings EInvalidPlace EInvalidCuts ETooLarge [.ref EInvalidNumber, .ref EInvalidChange, .ref EInvalidRow] ECutError EInvalidCuts 2 := ⟨by decide, wxc2, wk2_0, wk2_1, wk2_2, wk2_3, (fun o ho => by
    simp only [List.mem_cons, List.not_mem_nil, or_false] at ho
    rcases ho with rfl | rfl | rfl
    · exact wo2_0
    · exact wo2_1
    · exact wo2_2), wv2, we2⟩
  have WA3 : WordAt K EInvalidSettings EInvalidPlace EInvalidCuts ETooLarge [.ref EInvalidNumber, .ref EInvalidChange, .ref EInvalidRow] ECutError ETooLarge 3 := ⟨by decide, wxc3, wk3_0, wk3_1, wk3_2, wk3_3, (fun o ho => by
    simp only [List.mem_cons, List.not_mem_nil, or_false] at ho
    rcases ho with rfl | rfl | rfl
    · exact wo3_0
    · exact wo3_1
    · exact wo3_2), wv3, we3⟩
  have Fx0 := fun_mk (st := sIsInt) lx0 cox0 kx0
  have bx0 := Fx0.binds (ps := ["thing"]) fun _ _ _ _ _ _ us hl => match us, hl with | [_], _ => rfl
  have gx0 := PySem.W.mg_of X G ax0
  have Fx1 := fun_mk (st := sPlaces) lx1 cox1 kx1
  have bx1 := Fx1.binds (ps := ["thing", "low", "high"]) fun _ _ _ _ _ _ us hl => match us, hl with | [_, _, _], _ => rfl
  have gx1 := PySem.W.mg_of X G ax1
  have Fx2 := fun_mk (st := sAsc) lx2 cox2 kx2
  have bx2 := Fx2.binds (ps := ["thing", "low", "high"]) fun _ _ _ _ _ _ us hl => match us, hl with | [_, _, _], _ => rfl
  have gx2 := PySem.W.mg_of X G ax2
  have Fx3 := fun_mk (st := sMarks) lx3 cox3 kx3
  have bx3 := Fx3.binds (ps := ["thing", "high"]) fun _ _ _ _ _ _ us hl => match us, hl with | [_, _], _ => rfl
  have gx3 := PySem.W.mg_of X G ax3
  have Fx4 := fun_mk (st := sSome) lx4 cox4 kx4
  have bx4 := Fx4.binds (ps := ["thing", "marks"]) fun _ _ _ _ _ _ us hl => match us, hl with | [_, _], _ => rfl
  have gx4 := PySem.W.mg_of X G ax4
  have Fx5 := fun_mk (st := sInit) lx5 cox5 kx5
  have bx5 := Fx5.binds (ps := ["self", "length", "marks", "strict"]) fun _ _ _ _ _ _ us hl => match us, hl with | [_, _, _, _], _ => rfl
  have Fx6 := fun_mk (st := sJar) lx6 cox6 kx6
  have bx6 := Fx6.binds (ps := ["script", "k"]) fun _ _ _ _ _ _ us hl => match us, hl with | [_, _], _ => rfl
  have gx6 := PySem.W.mg_of X G ax6
  have Fx7 := fun_mk (st := sDip) lx7 cox7 kx7
  have bx7 := Fx7.binds (ps := ["jar", "many"]) fun _ _ _ _ _ _ us hl => match us, hl with | [_, _], _ => rfl
  have gx7 := PySem.W.mg_of X G ax7
  have Fx8 := fun_mk (st := sThree) lx8 cox8 kx8
  have bx8 := Fx8.binds (ps := ["jar", "wide"]) fun _ _ _ _ _ _ us hl => match us, hl with | [_, _], _ => rfl
  have gx8 := PySem.W.mg_of X G ax8
  have Fx9 := fun_mk (st := sSmall) lx9 cox9 kx9
  have bx9 := Fx9.binds (ps := ["jar", "most"]) fun _ _ _ _ _ _ us hl => match us, hl with | [_, _], _ => rfl
  have gx9 := PySem.W.mg_of X G ax9
  have Fx10 := fun_mk (st := sHeap) lx10 cox10 kx10
  have bx10 := Fx10.binds (ps := ["raw"]) fun _ _ _ _ _ _ us hl => match us, hl with | [_], _ => rfl
  have gx10 := PySem.W.mg_of X G ax10
  have Fx11 := fun_mk (st := sNs) lx11 cox11 kx11
  have bx11 := Fx11.binds (ps := ["three"]) fun _ _ _ _ _ _ us hl => match us, hl with | [_], _ => rfl
  have gx11 := PySem.W.mg_of X G ax11
  have Fx12 := fun_mk (st := sCSet) lx12 cox12 kx12
  have bx12 := Fx12.binds (ps := ["settings"]) fun _ _ _ _ _ _ us hl => match us, hl with | [_], _ => rfl
  have gx12 := PySem.W.mg_of X G ax12
  have Fx13 := fun_mk (st := sCPl) lx13 cox13 kx13
  have bx13 := Fx13.binds (ps := ["place", "low", "high"]) fun _ _ _ _ _ _ us hl => match us, hl with | [_, _, _], _ => rfl
  have gx13 := PySem.W.mg_of X G ax13
  have Fx14 := fun_mk (st := sCLen) lx14 cox14 kx14
  have bx14 := Fx14.binds (ps := ["length", "settings"]) fun _ _ _ _ _ _ us hl => match us, hl with | [_, _], _ => rfl
  have gx14 := PySem.W.mg_of X G ax14
  have Fx15 := fun_mk (st := sGetL) lx15 cox15 kx15
  have bx15 := Fx15.binds (ps := ["self"]) fun _ _ _ _ _ _ us hl => match us, hl with | [_], _ => rfl
  have Fx16 := fun_mk (st := sGetM) lx16 cox16 kx16
  have bx16 := Fx16.binds (ps := ["self"]) fun _ _ _ _ _ _ us hl => match us, hl with | [_], _ => rfl
  have Fx17 := fun_mk (st := sGetS) lx17 cox17 kx17
  have bx17 := Fx17.binds (ps := ["self"]) fun _ _ _ _ _ _ us hl => match us, hl with | [_], _ => rfl
  have Fx18 := fun_mk (st := sCSz) lx18 cox18 kx18
  have bx18 := Fx18.binds (ps := ["row", "settings"]) fun _ _ _ _ _ _ us hl => match us, hl with | [_, _], _ => rfl
  have gx18 := PySem.W.mg_of X G ax18
  have Fx19 := fun_mk (st := sCB) lx19 cox19 kx19
  have bx19 := Fx19.binds (ps := ["places", "place"]) fun _ _ _ _ _ _ us hl => match us, hl with | [_, _], _ => rfl
  have gx19 := PySem.W.mg_of X G ax19
  have Fx20 := fun_mk (st := sFM) lx20 cox20 kx20
  have bx20 := Fx20.binds (ps := ["marks", "place", "end"]) fun _ _ _ _ _ _ us hl => match us, hl with | [_, _, _], _ => rfl
  have gx20 := PySem.W.mg_of X G ax20
  have Fx21 := fun_mk (st := sStep) lx21 cox21 kx21
  have bx21 := Fx21.binds (ps := ["row", "settings", "place"]) fun _ _ _ _ _ _ us hl => match us, hl with | [_, _, _], _ => rfl
  have gx21 := PySem.W.mg_of X G ax21
  have Fx22 := fun_mk (st := sNext) lx22 cox22 kx22
  have bx22 := Fx22.binds (ps := ["row", "settings", "place"]) fun _ _ _ _ _ _ us hl => match us, hl with | [_, _, _], _ => rfl
  have gx22 := PySem.W.mg_of X G ax22
  have Fx23 := fun_mk (st := sCWk) lx23 cox23 kx23
  have bx23 := Fx23.binds (ps := ["row", "settings", "places"]) fun _ _ _ _ _ _ us hl => match us, hl with | [_, _, _], _ => rfl
  have gx23 := PySem.W.mg_of X G ax23
  have Fx24 := fun_mk (st := sCuts) lx24 cox24 kx24
  have bx24 := Fx24.binds (ps := ["row", "settings", "start"]) fun _ _ _ _ _ _ us hl => match us, hl with | [_, _, _], _ => rfl
  have gx24 := PySem.W.mg_of X G ax24
  have Fx25 := fun_mk (st := sWalk) lx25 cox25 kx25
  have bx25 := Fx25.binds (ps := ["row", "settings", "start"]) fun _ _ _ _ _ _ us hl => match us, hl with | [_, _, _], _ => rfl
  have gx25 := PySem.W.mg_of X G ax25
  have Fx26 := fun_mk (st := sFF) lx26 cox26 kx26
  have bx26 := Fx26.binds (ps := ["row", "settings", "start", "place"]) fun _ _ _ _ _ _ us hl => match us, hl with | [_, _, _, _], _ => rfl
  have gx26 := PySem.W.mg_of X G ax26
  have Fx27 := fun_mk (st := sWithin) lx27 cox27 kx27
  have bx27 := Fx27.binds (ps := ["row", "settings", "start", "low", "high"]) fun _ _ _ _ _ _ us hl => match us, hl with | [_, _, _, _, _], _ => rfl
  have gx27 := PySem.W.mg_of X G ax27
  have Fx28 := fun_mk (st := sPm) lx28 cox28 kx28
  have bx28 := Fx28.binds (ps := ["row"]) fun _ _ _ _ _ _ us hl => match us, hl with | [_], _ => rfl
  have gx28 := PySem.W.mg_of X G ax28
  have Fx29 := fun_mk (st := sLw) lx29 cox29 kx29
  have bx29 := Fx29.binds (ps := ["marks", "begin", "end"]) fun _ _ _ _ _ _ us hl => match us, hl with | [_, _, _], _ => rfl
  have gx29 := PySem.W.mg_of X G ax29
  have Fx30 := fun_mk (st := sLb) lx30 cox30 kx30
  have bx30 := Fx30.binds (ps := ["row", "cuts"]) fun _ _ _ _ _ _ us hl => match us, hl with | [_, _], _ => rfl
  have gx30 := PySem.W.mg_of X G ax30
  have Fx31 := fun_mk (st := sTb) lx31 cox31 kx31
  have bx31 := Fx31.binds (ps := ["row", "cuts"]) fun _ _ _ _ _ _ us hl => match us, hl with | [_, _], _ => rfl
  have gx31 := PySem.W.mg_of X G ax31
  have Fx32 := fun_mk (st := sSos) lx32 cox32 kx32
  have bx32 := Fx32.binds (ps := ["lows", "tops"]) fun _ _ _ _ _ _ us hl => match us, hl with | [_, _], _ => rfl
  have gx32 := PySem.W.mg_of X G ax32
  have Fx33 := fun_mk (st := sSf) lx33 cox33 kx33
  have bx33 := Fx33.binds (ps := ["row", "cuts"]) fun _ _ _ _ _ _ us hl => match us, hl with | [_, _], _ => rfl
  have gx33 := PySem.W.mg_of X G ax33
  have Fx34 := fun_mk (st := sWd) lx34 cox34 kx34
  have bx34 := Fx34.binds (ps := ["e"]) fun _ _ _ _ _ _ us hl => match us, hl with | [_], _ => rfl
  have gx34 := PySem.W.mg_of X G ax34
  have Fx35 := fun_mk (st := sTo) lx35 cox35 kx35
  have bx35 := Fx35.binds (ps := ["way", "made", "three", "one", "two", "last"]) fun _ _ _ _ _ _ us hl => match us, hl with | [_, _, _, _, _, _], _ => rfl
  have gx35 := PySem.W.mg_of X G ax35
  have Fx36 := fun_mk (st := sSr) lx36 cox36 kx36
  have bx36 := Fx36.binds (ps := ["jar", "made", "three"]) fun _ _ _ _ _ _ us hl => match us, hl with | [_, _, _], _ => rfl
  have gx36 := PySem.W.mg_of X G ax36
  have Fx37 := fun_mk (st := sPr) lx37 cox37 kx37
  have bx37 := Fx37.binds (ps := ["jar", "made", "three"]) fun _ _ _ _ _ _ us hl => match us, hl with | [_, _, _], _ => rfl
  have gx37 := PySem.W.mg_of X G ax37
  have Fx38 := fun_mk (st := sCr) lx38 cox38 kx38
  have bx38 := Fx38.binds (ps := ["jar", "made"]) fun _ _ _ _ _ _ us hl => match us, hl with | [_, _], _ => rfl
  have gx38 := PySem.W.mg_of X G ax38
  have FLW := fun_mk (st := sL) lLW coLW kLW
  have gLW := PySem.W.mg_of X G aLW
  refine ⟨PySem.W.fnOf "law" "law" (defArgs sL) (defBody sL) (defScope sL) .none kVLW dcLW pmLW anLW cdLW ctLW, fun s v => .of_eq rfl, fun base _ _ => ?_⟩
  have Gx0_spOne := ok_int (P := l.prog) (w := w) (K := K) (mg := mg) (base := base) Fx0 T
  have Gx1_spPlaces := ok_places (P := l.prog) (w := w) (K := K) (mg := mg) (base := base) Fx1 T gx0 kx0 bx0 Gx0_spOne
  have Gx2_spAsc := ok_asc (P := l.prog) (w := w) (K := K) (mg := mg) (base := base) Fx2 T gx1 kx1 bx1 Gx1_spPlaces
  have Gx3_spMarks := ok_marks (P := l.prog) (w := w) (K := K) (mg := mg) (base := base) Fx3 T (PySem.W.mg_of X G a_MOST_MARKS) gx2 kx2 bx2 Gx2_spAsc
  have Gx4_spSome := ok_some (P := l.prog) (w := w) (K := K) (mg := mg) (base := base) Fx4 T gx2 kx2 bx2 Gx2_spAsc
  have Gx5_spInit := ok_init (P := l.prog) (w := w) (K := K) (mg := mg) (base := base) Fx5 T R gx0 kx0 bx0 Gx0_spOne gx3 kx3 bx3 Gx3_spMarks gx4 kx4 bx4 Gx4_spSome
  have Gx6_spJar := ok_jar (P := l.prog) (w := w) (K := K) (mg := mg) (base := base) Fx6 T
  have Gx7_spDip := ok_dip (P := l.prog) (w := w) (K := K) (mg := mg) (base := base) Fx7 T
  have Gx8_spThree := ok_three (P := l.prog) (w := w) (K := K) (mg := mg) (base := base) Fx8 gx7 kx7 bx7 Gx7_spDip
  have Gx9_spSmall := ok_small (P := l.prog) (w := w) (K := K) (mg := mg) (base := base) Fx9 T gx7 kx7 bx7 Gx7_spDip gx8 kx8 bx8 Gx8_spThree
  have Gx10_spHeap := ok_heap (P := l.prog) (w := w) (K := K) (mg := mg) (base := base) Fx10 R M bx5 Gx5_spInit
  have Gx15_spGetL := ok_getL (P := l.prog) (w := w) (K := K) (mg := mg) (base := base) Fx15 R
  have Gx16_spGetM := ok_getM (P := l.prog) (w := w) (K := K) (mg := mg) (base := base) Fx16 T R
  have Gx17_spGetS := ok_getS (P := l.prog) (w := w) (K := K) (mg := mg) (base := base) Fx17 T R
  have Gx11_spNs := ok_ns (P := l.prog) (w := w) (K := K) (mg := mg) (base := base) Fx11 T
  have Gx12_spCSet := ok_cset (P := l.prog) (w := w) (K := K) (mg := mg) (base := base) Fx12 T gx0 kx0 bx0 Gx0_spOne
  have Gx13_spPl := ok_pl (P := l.prog) (w := w) (K := K) (mg := mg) (base := base) Fx13 gx0 kx0 bx0 Gx0_spOne
  have Gx14_spLen := ok_len (P := l.prog) (w := w) (K := K) (mg := mg) (base := base) Fx14 (PySem.W.mg_of X G a_MOST_PIECES)
  have Gs : Gets l.prog w K mg base C pL fx15 pM fx16 pS fx17 _ _ _ := ⟨⟨apL, gpL, tpL, ⟨restpL, rpL⟩⟩, bx15, Gx15_spGetL, ⟨apM, gpM, tpM, ⟨restpM, rpM⟩⟩, bx16, Gx16_spGetM, ⟨apS, gpS, tpS, ⟨restpS, rpS⟩⟩, bx17, Gx17_spGetS⟩
  have Gx18_spSz := ok_sz (P := l.prog) (w := w) (K := K) (mg := mg) (base := base) Fx18 R Gs gx14 kx14 bx14 Gx14_spLen
  have Gx19_spCB := ok_cb (P := l.prog) (w := w) (K := K) (mg := mg) (base := base) Fx19 T
  have Gx20_spFM := ok_fm (P := l.prog) (w := w) (K := K) (mg := mg) (base := base) Fx20 T gx19 kx19 bx19 Gx19_spCB
  have Gx21_spStep := ok_step (P := l.prog) (w := w) (K := K) (mg := mg) (base := base) Fx21 T R Gs gx20 kx20 bx20 Gx20_spFM
  have Gx22_spNext := ok_next (P := l.prog) (w := w) (K := K) (mg := mg) (base := base) Fx22 R Gs gx12 kx12 bx12 Gx12_spCSet gx13 kx13 bx13 Gx13_spPl gx18 kx18 bx18 Gx18_spSz gx21 kx21 bx21 Gx21_spStep
  have Gx0_spIntA := inta_ok (P := l.prog) (w := w) (K := K) (mg := mg) (base := base) Fx0 T
  have Gx12_spSetA := ok_csa (P := l.prog) (w := w) (K := K) (mg := mg) (base := base) Fx12 T HInvalidSettings gx0 kx0 bx0 Gx0_spIntA
  have Gx13_spPlcA := ok_cpa (P := l.prog) (w := w) (K := K) (mg := mg) (base := base) Fx13 HInvalidPlace gx0 kx0 bx0 Gx0_spIntA
  have Gx14_spLenA := ok_cla (P := l.prog) (w := w) (K := K) (mg := mg) (base := base) Fx14 HTooLarge (PySem.W.mg_of X G a_MOST_PIECES)
  have Gx18_spSizA := ok_cza (P := l.prog) (w := w) (K := K) (mg := mg) (base := base) Fx18 R Gs gx14 kx14 bx14 Gx14_spLenA
  have Gx22_spNextX := ok_nxx (P := l.prog) (w := w) (K := K) (mg := mg) (base := base) Fx22 R Gs gx12 kx12 bx12 Gx12_spSetA gx13 kx13 bx13 Gx13_spPlcA gx18 kx18 bx18 Gx18_spSizA
  have Gx23_spCW := ok_cw (P := l.prog) (w := w) (K := K) (mg := mg) (base := base) Fx23 R Gs gx12 kx12 bx12 Gx12_spCSet gx13 kx13 bx13 Gx13_spPl gx18 kx18 bx18 Gx18_spSz
  have Gx24_spCuts := ok_cuts (P := l.prog) (w := w) (K := K) (mg := mg) (base := base) Fx24 R Gs gx21 kx21 bx21 Gx21_spStep
  have Gx25_spWalk := ok_walk (P := l.prog) (w := w) (K := K) (mg := mg) (base := base) Fx25 gx23 kx23 bx23 Gx23_spCW gx24 kx24 bx24 Gx24_spCuts
  have Gx23_spCWX := ok_cwx (P := l.prog) (w := w) (K := K) (mg := mg) (base := base) Fx23 R Gs gx12 kx12 bx12 Gx12_spSetA gx13 kx13 bx13 Gx13_spPlcA gx18 kx18 bx18 Gx18_spSizA
  have Gx25_spWalkX := ok_wlx (P := l.prog) (w := w) (K := K) (mg := mg) (base := base) Fx25 R Gs gx23 kx23 bx23 Gx23_spCWX
  have Gx26_spFF := ok_ff (P := l.prog) (w := w) (K := K) (mg := mg) (base := base) Fx26 gx23 kx23 bx23 Gx23_spCW gx24 kx24 bx24 Gx24_spCuts gx19 kx19 bx19 Gx19_spCB
  have Gx26_spFFX := ok_ffx (P := l.prog) (w := w) (K := K) (mg := mg) (base := base) Fx26 R Gs gx23 kx23 bx23 Gx23_spCWX
  have Gx27_spWithin := ok_within (P := l.prog) (w := w) (K := K) (mg := mg) (base := base) Fx27 gx23 kx23 bx23 Gx23_spCW gx24 kx24 bx24 Gx24_spCuts gx19 kx19 bx19 Gx19_spCB
  have Gx27_spWithinX := ok_wix (P := l.prog) (w := w) (K := K) (mg := mg) (base := base) Fx27 R Gs gx23 kx23 bx23 Gx23_spCWX
  have Gx28_spPm := ok_pm (P := l.prog) (w := w) (K := K) (mg := mg) (base := base) Fx28 T R Gs
  have Gx29_spLw := ok_lw (P := l.prog) (w := w) (K := K) (mg := mg) (base := base) Fx29 T gx19 kx19 bx19 Gx19_spCB
  have Gx30_spLb := ok_lb (P := l.prog) (w := w) (K := K) (mg := mg) (base := base) Fx30 T R Gs gx28 kx28 bx28 Gx28_spPm gx29 kx29 bx29 Gx29_spLw
  have Gx31_spTb := ok_tb (P := l.prog) (w := w) (K := K) (mg := mg) (base := base) Fx31 T R Gs
  have Gx32_spSos := ok_sos (P := l.prog) (w := w) (K := K) (mg := mg) (base := base) Fx32 T
  have Gx33_spSf := ok_sf (P := l.prog) (w := w) (K := K) (mg := mg) (base := base) Fx33 T R Gs gx2 kx2 bx2 Gx2_spAsc gx30 kx30 bx30 Gx30_spLb gx31 kx31 bx31 Gx31_spTb gx32 kx32 bx32 Gx32_spSos
  have Gx1_spPlA := ok_pla (P := l.prog) (w := w) (K := K) (mg := mg) (base := base) Fx1 T gx0 kx0 bx0 Gx0_spIntA
  have Gx2_spAscA := ok_asa (P := l.prog) (w := w) (K := K) (mg := mg) (base := base) Fx2 T gx1 kx1 bx1 Gx1_spPlA
  have Gx33_spSfX := ok_sfx (P := l.prog) (w := w) (K := K) (mg := mg) (base := base) Fx33 R HInvalidCuts Gs gx2 kx2 bx2 Gx2_spAscA
  have Gx34_spWd := ok_wd (P := l.prog) (w := w) (K := K) (mg := mg) (base := base) (CE := ECutError) Fx34 T (PySem.W.mg_none_of X G n_ValueError) (PySem.W.mg_of X G aEInvalidSettings) (PySem.W.mg_of X G aEInvalidPlace) (PySem.W.mg_of X G aEInvalidCuts) (PySem.W.mg_of X G aETooLarge) (PySem.W.mg_of X G aEInvalidNumber) (PySem.W.mg_of X G aEInvalidChange) (PySem.W.mg_of X G aEInvalidRow)
  have Gx35_spTo := ok_to (P := l.prog) (w := w) (K := K) (mg := mg) (base := base) Fx35 HCutError gx22 kx22 bx22 (FnOk.or (FnOk.lift Gx22_spNext) Gx22_spNextX) gx25 kx25 bx25 (FnOk.or (FnOk.lift Gx25_spWalk) Gx25_spWalkX) gx26 kx26 bx26 (FnOk.or (FnOk.lift Gx26_spFF) Gx26_spFFX) gx27 kx27 bx27 (FnOk.or (FnOk.lift Gx27_spWithin) Gx27_spWithinX) gx33 kx33 bx33 (FnOk.or (FnOk.lift Gx33_spSf) Gx33_spSfX) gx34 kx34 bx34 Gx34_spWd
  have Gx36_spSr := ok_sr (P := l.prog) (w := w) (K := K) (mg := mg) (base := base) Fx36 T R Gs WA0 gx7 kx7 bx7 Gx7_spDip gx11 kx11 bx11 Gx11_spNs gx35 kx35 bx35 Gx35_spTo
  have Gx37_spPr := ok_pr (P := l.prog) (w := w) (K := K) (mg := mg) (base := base) Fx37 T R Gs WA1 gx7 kx7 bx7 Gx7_spDip gx35 kx35 bx35 Gx35_spTo
  have Gx38_spCr := ok_cr (P := l.prog) (w := w) (K := K) (mg := mg) (base := base) Fx38 T (PySem.W.mg_none_of X G n_str) R Gs WA2 gx7 kx7 bx7 Gx7_spDip gx35 kx35 bx35 Gx35_spTo
  exact FnG.of (ok_law (P := l.prog) (w := w) (K := K) (mg := mg) (base := base) FLW T R M bx5 Gx5_spInit WA1 WA3 gx6 kx6 bx6 Gx6_spJar gx9 kx9 bx9 Gx9_spSmall gx10 kx10 bx10 Gx10_spHeap gx36 kx36 bx36 Gx36_spSr gx37 kx37 bx37 Gx37_spPr gx38 kx38 bx38 Gx38_spCr gx7 kx7 bx7 Gx7_spDip gx35 kx35 bx35 Gx35_spTo)
theorem walk_here {l : PySem.W.OpenLaw} {q : Program} {loose : List Str} {XP : (Str → Option Value) → Heap → Prop} {YP : World → Heap → Prop} {d : DefRec} {K : Params → PySem.W.Frag} (hn : l.most = some 63) (hdf : d.params.defaults = [])
    (hY : ∀ (w : World) (h : Heap), YP w h → (K w.params).In h)
    (F : ∀ (w : World) (mg : Str → Option Value) (fa : Addr) (h : Heap), (K w.params).In h → h.Ns mainGlobals mg → mg d.name = some (.ref fa) →
      ∃ fd : FuncData, (∀ (s : Shared) (u : Value), BindsTo s fd ⟨[u], []⟩ [("script", u)]) ∧ ∀ base : Heap, (K w.params).In base → base.Ns mainGlobals mg → FnG l.prog w (K w.params) mg base 10 fa fd ["script"] (spLaw (K w.params))) :
    PySem.W.WalkO q loose XP YP l.row.toRowW d [] (fun f vs => PySem.call f vs) :=
  walkG (n := 63) (k := 10) (x := "script") (sp := fun w => spLaw (K w.params)) hn (by decide) hdf ⟨rfl, by decide, by decide⟩ hY F fun _ _ a ns hl _ hS => ⟨a, ns, rfl, hS, hl, fun _ => rfl⟩
end Cw
open PySem PySem.W PyProof.Rows
set_option maxRecDepth 100000 in
set_option maxHeartbeats 0 in
theorem PySem.Challenge.cw_cutwalks_k13_errors_of_walks_holds : PySem.Challenge.rw_cutwalks_k13_errors_of_walks.Holds := by
  w_on; o_law; k_head; (case hw => w_witness2)
  k_fill
  refine Cw.walk_here (l := PySem.Challenge.rw_cutwalks_k13_errors_of_walks) rfl rfl (fun w h Y => PySem.W.kIn_of Y) ?F
  case F =>
    intro w mg fa h KX G hmg
    refine' Cw.all_mk KX G hmg ?aC ?a_MOST_MARKS ?a_MOST_PIECES ?n_int ?n_bool ?n_list ?n_tuple ?n_range ?n_len ?n_abs ?n_all ?n_isinstance ?n_zip ?n_max ?n_min ?n_set ?n_sorted ?n_dict ?n_ValueError ?n_str ?ax0 ?lx0 ?cox0 ?kx0 ?ax1 ?lx1 ?cox1 ?kx1 ?ax2 ?lx2 ?cox2 ?kx2 ?ax3 ?lx3 ?cox3 ?kx3 ?ax4 ?lx4 ?cox4 ?kx4 ?ax5 ?ix5 ?lx5 ?cox5 ?kx5 ?ax6 ?lx6 ?cox6 ?kx6 ?ax7 ?lx7 ?cox7 ?kx7 ?ax8 ?lx8 ?cox8 ?kx8 ?ax9 ?lx9 ?cox9 ?kx9 ?ax10 ?lx10 ?cox10 ?kx10 ?ax11 ?lx11 ?cox11 ?kx11 ?ax12 ?lx12 ?cox12 ?kx12 ?ax13 ?lx13 ?cox13 ?kx13 ?ax14 ?lx14 ?cox14 ?kx14 ?apL ?gpL ?tpL ?rpL ?lx15 ?cox15 ?kx15 ?apM ?gpM ?tpM ?rpM ?lx16 ?cox16 ?kx16 ?apS ?gpS ?tpS ?rpS ?lx17 ?cox17 ?kx17 ?ax18 ?lx18 ?cox18 ?kx18 ?ax19 ?lx19 ?cox19 ?kx19 ?ax20 ?lx20 ?cox20 ?kx20 ?ax21 ?lx21 ?cox21 ?kx21 ?ax22 ?lx22 ?cox22 ?kx22 ?ax23 ?lx23 ?cox23 ?kx23 ?ax24 ?lx24 ?cox24 ?kx24 ?ax25 ?lx25 ?cox25 ?kx25 ?ax26 ?lx26 ?cox26 ?kx26 ?ax27 ?lx27 ?cox27 ?kx27 ?ax28 ?lx28 ?cox28 ?kx28 ?ax29 ?lx29 ?cox29 ?kx29 ?ax30 ?lx30 ?cox30 ?kx30 ?ax31 ?lx31 ?cox31 ?kx31 ?ax32 ?lx32 ?cox32 ?kx32 ?ax33 ?lx33 ?cox33 ?kx33 ?ax34 ?lx34 ?cox34 ?kx34 ?ax35 ?lx35 ?cox35 ?kx35 ?ax36 ?lx36 ?cox36 ?kx36 ?ax37 ?lx37 ?cox37 ?kx37 ?ax38 ?lx38 ?cox38 ?kx38 ?aLW ?lLW ?coLW ?kLW ?pg ?hd ?po ?sa ?mk ?kc ?nL ?nM ?nS ?kt ?aECutError ?xECutError ?kpECutError ?bsECutError ?tyECutError ?aEInvalidChange ?aEInvalidCuts ?xEInvalidCuts ?kpEInvalidCuts ?bsEInvalidCuts ?tyEInvalidCuts ?aEInvalidNumber ?aEInvalidPlace ?xEInvalidPlace ?kpEInvalidPlace ?bsEInvalidPlace ?tyEInvalidPlace ?aEInvalidRow ?aEInvalidSettings ?xEInvalidSettings ?kpEInvalidSettings ?bsEInvalidSettings ?tyEInvalidSettings ?aETooLarge ?xETooLarge ?kpETooLarge ?bsETooLarge ?tyETooLarge ?wxc0 ?wk0_0 ?wk0_1 ?wk0_2 ?wk0_3 ?wo0_0 ?wo0_1 ?wo0_2 ?wv0 ?we0 ?wxc1 ?wk1_0 ?wk1_1 ?wk1_2 ?wk1_3 ?wo1_0 ?wo1_1 ?wo1_2 ?wv1 ?we1 ?wxc2 ?wk2_0 ?wk2_1 ?wk2_2 ?wk2_3 ?wo2_0 ?wo2_1 ?wo2_2 ?wv2 ?we2 ?wxc3 ?wk3_0 ?wk3_1 ?wk3_2 ?wk3_3 ?wo3_0 ?wo3_1 ?wo3_2 ?wv3 ?we3
    (case aC => k_is)
    (case a_MOST_MARKS => k_is)
    (case a_MOST_PIECES => k_is)
    (case n_int => k_is)
    (case n_bool => k_is)
    (case n_list => k_is)
    (case n_tuple => k_is)
    (case n_range => k_is)
    (case n_len => k_is)
    (case n_abs => k_is)
    (case n_all => k_is)
    (case n_isinstance => k_is)
    (case n_zip => k_is)
    (case n_max => k_is)
    (case n_min => k_is)
    (case n_set => k_is)
    (case n_sorted => k_is)
    (case n_dict => k_is)
    (case n_ValueError => k_is)
    (case n_str => k_is)
    (case ax0 => k_is)
    (case lx0 => k_is)
    (case cox0 => k_is)
    (case kx0 => k_is)
    (case ax1 => k_is)
    (case lx1 => k_is)
    (case cox1 => k_is)
    (case kx1 => k_is)
    (case ax2 => k_is)
    (case lx2 => k_is)
    (case cox2 => k_is)
    (case kx2 => k_is)
    (case ax3 => k_is)
    (case lx3 => k_is)
    (case cox3 => k_is)
    (case kx3 => k_is)
    (case ax4 => k_is)
    (case lx4 => k_is)
    (case cox4 => k_is)
    (case kx4 => k_is)
    (case ax5 => k_is)
    (case ix5 => k_is)
    (case lx5 => k_is)
    (case cox5 => k_is)
    (case kx5 => k_is)
    (case ax6 => k_is)
    (case lx6 => k_is)
    (case cox6 => k_is)
    (case kx6 => k_is)
    (case ax7 => k_is)
    (case lx7 => k_is)
    (case cox7 => k_is)
    (case kx7 => k_is)
    (case ax8 => k_is)
    (case lx8 => k_is)
    (case cox8 => k_is)
    (case kx8 => k_is)
    (case ax9 => k_is)
    (case lx9 => k_is)
    (case cox9 => k_is)
    (case kx9 => k_is)
    (case ax10 => k_is)
    (case lx10 => k_is)
    (case cox10 => k_is)
    (case kx10 => k_is)
    (case ax11 => k_is)
    (case lx11 => k_is)
    (case cox11 => k_is)
    (case kx11 => k_is)
    (case ax12 => k_is)
    (case lx12 => k_is)
    (case cox12 => k_is)
    (case kx12 => k_is)
    (case ax13 => k_is)
    (case lx13 => k_is)
    (case cox13 => k_is)
    (case kx13 => k_is)
    (case ax14 => k_is)
    (case lx14 => k_is)
    (case cox14 => k_is)
    (case kx14 => k_is)
    (case apL => k_is)
    (case gpL => first | k_is | kernel_rfl)
    (case tpL => first | k_is | kernel_rfl)
    (case rpL => k_is)
    (case lx15 => k_is)
    (case cox15 => k_is)
    (case kx15 => k_is)
    (case apM => k_is)
    (case gpM => first | k_is | kernel_rfl)
    (case tpM => first | k_is | kernel_rfl)
    (case rpM => k_is)
    (case lx16 => k_is)
    (case cox16 => k_is)
    (case kx16 => k_is)
    (case apS => k_is)
    (case gpS => first | k_is | kernel_rfl)
    (case tpS => first | k_is | kernel_rfl)
    (case rpS => k_is)
    (case lx17 => k_is)
    (case cox17 => k_is)
    (case kx17 => k_is)
    (case ax18 => k_is)
    (case lx18 => k_is)
    (case cox18 => k_is)
    (case kx18 => k_is)
    (case ax19 => k_is)
    (case lx19 => k_is)
    (case cox19 => k_is)
    (case kx19 => k_is)
    (case ax20 => k_is)
    (case lx20 => k_is)
    (case cox20 => k_is)
    (case kx20 => k_is)
    (case ax21 => k_is)
    (case lx21 => k_is)
    (case cox21 => k_is)
    (case kx21 => k_is)
    (case ax22 => k_is)
    (case lx22 => k_is)
    (case cox22 => k_is)
    (case kx22 => k_is)
    (case ax23 => k_is)
    (case lx23 => k_is)
    (case cox23 => k_is)
    (case kx23 => k_is)
    (case ax24 => k_is)
    (case lx24 => k_is)
    (case cox24 => k_is)
    (case kx24 => k_is)
    (case ax25 => k_is)
    (case lx25 => k_is)
    (case cox25 => k_is)
    (case kx25 => k_is)
    (case ax26 => k_is)
    (case lx26 => k_is)
    (case cox26 => k_is)
    (case kx26 => k_is)
    (case ax27 => k_is)
    (case lx27 => k_is)
    (case cox27 => k_is)
    (case kx27 => k_is)
    (case ax28 => k_is)
    (case lx28 => k_is)
    (case cox28 => k_is)
    (case kx28 => k_is)
    (case ax29 => k_is)
    (case lx29 => k_is)
    (case cox29 => k_is)
    (case kx29 => k_is)
    (case ax30 => k_is)
    (case lx30 => k_is)
    (case cox30 => k_is)
    (case kx30 => k_is)
    (case ax31 => k_is)
    (case lx31 => k_is)
    (case cox31 => k_is)
    (case kx31 => k_is)
    (case ax32 => k_is)
    (case lx32 => k_is)
    (case cox32 => k_is)
    (case kx32 => k_is)
    (case ax33 => k_is)
    (case lx33 => k_is)
    (case cox33 => k_is)
    (case kx33 => k_is)
    (case ax34 => k_is)
    (case lx34 => k_is)
    (case cox34 => k_is)
    (case kx34 => k_is)
    (case ax35 => k_is)
    (case lx35 => k_is)
    (case cox35 => k_is)
    (case kx35 => k_is)
    (case ax36 => k_is)
    (case lx36 => k_is)
    (case cox36 => k_is)
    (case kx36 => k_is)
    (case ax37 => k_is)
    (case lx37 => k_is)
    (case cox37 => k_is)
    (case kx37 => k_is)
    (case ax38 => k_is)
    (case lx38 => k_is)
    (case cox38 => k_is)
    (case kx38 => k_is)
    (case aLW => k_is)
    (case lLW => k_is)
    (case coLW => k_is)
    (case kLW => k_is)
    (case pg => k_is)
    (case hd => k_is)
    (case po => k_is)
    (case sa => k_is)
    (case mk => k_is)
    (case kc => k_is)
    (case nL => k_is)
    (case nM => k_is)
    (case nS => k_is)
    (case kt => first | k_is | kernel_rfl)
    (case aECutError => k_is)
    (case xECutError => first | k_is | kernel_rfl)
    (case kpECutError => first | k_is | kernel_rfl)
    (case bsECutError => first | k_is | kernel_rfl)
    (case tyECutError => first | k_is | kernel_rfl)
    (case aEInvalidChange => k_is)
    (case aEInvalidCuts => k_is)
    (case xEInvalidCuts => first | k_is | kernel_rfl)
    (case kpEInvalidCuts => first | k_is | kernel_rfl)
    (case bsEInvalidCuts => first | k_is | kernel_rfl)
    (case tyEInvalidCuts => first | k_is | kernel_rfl)
    (case aEInvalidNumber => k_is)
    (case aEInvalidPlace => k_is)
    (case xEInvalidPlace => first | k_is | kernel_rfl)
    (case kpEInvalidPlace => first | k_is | kernel_rfl)
    (case bsEInvalidPlace => first | k_is | kernel_rfl)
    (case tyEInvalidPlace => first | k_is | kernel_rfl)
    (case aEInvalidRow => k_is)
    (case aEInvalidSettings => k_is)
    (case xEInvalidSettings => first | k_is | kernel_rfl)
    (case kpEInvalidSettings => first | k_is | kernel_rfl)
    (case bsEInvalidSettings => first | k_is | kernel_rfl)
    (case tyEInvalidSettings => first | k_is | kernel_rfl)
    (case aETooLarge => k_is)
    (case xETooLarge => first | k_is | kernel_rfl)
    (case kpETooLarge => first | k_is | kernel_rfl)
    (case bsETooLarge => first | k_is | kernel_rfl)
    (case tyETooLarge => first | k_is | kernel_rfl)
    (case wxc0 => exact ⟨by first | k_is | kernel_rfl, by first | k_is | kernel_rfl, by first | k_is | kernel_rfl, by first | k_is | kernel_rfl, by first | k_is | kernel_rfl, by first | k_is | kernel_rfl, by first | k_is | kernel_rfl, by first | k_is | kernel_rfl⟩)
    (case wk0_0 => first | k_is | kernel_rfl)
    (case wk0_1 => first | k_is | kernel_rfl)
    (case wk0_2 => first | k_is | kernel_rfl)
    (case wk0_3 => first | k_is | kernel_rfl)
    (case wo0_0 => first | k_is | kernel_rfl)
    (case wo0_1 => first | k_is | kernel_rfl)
    (case wo0_2 => first | k_is | kernel_rfl)
    (case wv0 => first | k_is | kernel_rfl)
    (case we0 => first | k_is | kernel_rfl)
    (case wxc1 => exact ⟨by first | k_is | kernel_rfl, by first | k_is | kernel_rfl, by first | k_is | kernel_rfl, by first | k_is | kernel_rfl, by first | k_is | kernel_rfl, by first | k_is | kernel_rfl, by first | k_is | kernel_rfl, by first | k_is | kernel_rfl⟩)
    (case wk1_0 => first | k_is | kernel_rfl)
    (case wk1_1 => first | k_is | kernel_rfl)
    (case wk1_2 => first | k_is | kernel_rfl)
    (case wk1_3 => first | k_is | kernel_rfl)
    (case wo1_0 => first | k_is | kernel_rfl)
    (case wo1_1 => first | k_is | kernel_rfl)
    (case wo1_2 => first | k_is | kernel_rfl)
    (case wv1 => first | k_is | kernel_rfl)
    (case we1 => first | k_is | kernel_rfl)
    (case wxc2 => exact ⟨by first | k_is | kernel_rfl, by first | k_is | kernel_rfl, by first | k_is | kernel_rfl, by first | k_is | kernel_rfl, by first | k_is | kernel_rfl, by first | k_is | kernel_rfl, by first | k_is | kernel_rfl, by first | k_is | kernel_rfl⟩)
    (case wk2_0 => first | k_is | kernel_rfl)
    (case wk2_1 => first | k_is | kernel_rfl)
    (case wk2_2 => first | k_is | kernel_rfl)
    (case wk2_3 => first | k_is | kernel_rfl)
    (case wo2_0 => first | k_is | kernel_rfl)
    (case wo2_1 => first | k_is | kernel_rfl)
    (case wo2_2 => first | k_is | kernel_rfl)
    (case wv2 => first | k_is | kernel_rfl)
    (case we2 => first | k_is | kernel_rfl)
    (case wxc3 => exact ⟨by first | k_is | kernel_rfl, by first | k_is | kernel_rfl, by first | k_is | kernel_rfl, by first | k_is | kernel_rfl, by first | k_is | kernel_rfl, by first | k_is | kernel_rfl, by first | k_is | kernel_rfl, by first | k_is | kernel_rfl⟩)
    (case wk3_0 => first | k_is | kernel_rfl)
    (case wk3_1 => first | k_is | kernel_rfl)
    (case wk3_2 => first | k_is | kernel_rfl)
    (case wk3_3 => first | k_is | kernel_rfl)
    (case wo3_0 => first | k_is | kernel_rfl)
    (case wo3_1 => first | k_is | kernel_rfl)
    (case wo3_2 => first | k_is | kernel_rfl)
    (case wv3 => first | k_is | kernel_rfl)
    (case we3 => first | k_is | kernel_rfl)
#print axioms PySem.Challenge.cw_cutwalks_k13_errors_of_walks_holds
