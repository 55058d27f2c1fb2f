import PyProof.Rows.All
import Wide.All
import OpenK.AllK
import Wide.FinOn
import PyProof.ReprReads
import PyProof.FitsInt
import KE.KExcIs
import HandS.ForMost
import HandS.ForExc
import HandS.ExcInit
import HandS.ExcOwn
import HandS.ExcValue
import HandS.DeepEq
import HandS.IsInst
import HandS.TupAny
import HandS.Conv
import HandS.Style
import HandS.FStrTup
import HandS.TupSets
import HandS.Strs
import HandS.DictTup
import KE.KItemsList
import HandS.Codes
import PyProof.CallFns
import KE.KEqNest
import HandS.More
import HandS.DictComp
import HandS.WordsExc
import HandS.Small
import HandS.TryMany
import HandS.ExcField
import PySem.Challenge.RW_packsworn_k50_changes_of_locks
set_option Elab.async false
set_option linter.all false
set_option maxRecDepth 100000
set_option maxHeartbeats 16000000
/-! Sets of texts: one is made of a list, its members come sorted. -/
namespace TX
open PySem PySem.Spec PyProof.Rows L2
/-- a text in a set, with its hash -/
def Gt (P : Program) (w : World) (e : Int × Value) : Prop := ∃ (x : PySem.Str) (tk : Tok), e.2 = .str x tk ∧ e.1 = (PySem.strKind P w).hash x
def kt (e : Int × Value) : PySem.Str := strOf e.2
/-- the set at a has just the texts of xs -/
def SX (P : Program) (w : World) (h : Heap) (a : Addr) (xs : List PySem.Str) : Prop := ∃ o es ep t,
  (h.get? a = some o ∧ o.ExactSet ∧ o.data = .set es ep t) ∧ ((∀ e ∈ es.toList, Gt P w e) ∧ (es.toList.map kt).Nodup ∧ ∀ x, x ∈ xs ↔ x ∈ es.toList.map kt) ∧
  (es.size < scanBound ∧ t.fits es.size = true ∧ es.size ≤ xs.length) ∧ Ris t.place.toList ∧ (w.params.followText "set-order" = true ∨ t.led = true)
section
variable {P : Program} {w : World} {h h' : Heap} {a : Addr} {xs : List PySem.Str}
theorem SX.keep (R : SX P w h a xs) (k : ∀ o, h.get? a = some o → h'.get? a = some o) : SX P w h' a xs := by
  obtain ⟨o, es, ep, t, ⟨ho, r⟩, q⟩ := R
  exact ⟨o, es, ep, t, ⟨k o ho, r⟩, q⟩
theorem SX.alike {ys : List PySem.Str} (R : SX P w h a xs) (k : ∀ x, x ∈ ys ↔ x ∈ xs) (hl : xs.length ≤ ys.length) : SX P w h a ys := by
  obtain ⟨o, es, ep, t, r, ⟨g, n, m⟩, ⟨q1, q2, q3⟩, z⟩ := R
  exact ⟨o, es, ep, t, r, ⟨g, n, fun x => (k x).trans (m x)⟩, ⟨q1, q2, Nat.le_trans q3 hl⟩, z⟩
theorem gt_is {e : Int × Value} (g : Gt P w e) (x : PySem.Str) : (PySem.strKind P w).is x e.2 = true ↔ kt e = x := by
  obtain ⟨y, tk, h1, _⟩ := g
  unfold kt
  rw [h1]
  refine ⟨fun z => ?_, fun z => ?_⟩
  · exact (PySem.strKind P w).inj (.str y tk) y x (strKind_is P w y tk) z
  · have z' : y = x := z
    rw [← z']
    exact strKind_is P w y tk
theorem gt_elems {l : List (Int × Value)} (g : ∀ e ∈ l, Gt P w e) : ElemsOf (PySem.strKind P w) l := fun e he => by
  obtain ⟨x, tk, h1, h2⟩ := g e he
  exact ⟨⟨x, (gt_is (g e he) x).2 (by unfold kt; rw [h1]; rfl), h2⟩, by rw [h1] <;> rfl⟩
theorem gt_mem {l : List (Int × Value)} (g : ∀ e ∈ l, Gt P w e) (x : PySem.Str) : x ∈ l.map kt ↔ ∃ e ∈ l, (PySem.strKind P w).is x e.2 = true := by
  refine ⟨fun z => ?_, fun ⟨e, he, q⟩ => List.mem_map.mpr ⟨e, he, (gt_is (g e he) x).1 q⟩⟩
  obtain ⟨e, he, q⟩ := List.mem_map.mp z
  exact ⟨e, he, (gt_is (g e he) x).2 q⟩
theorem SX.fresh (ho : h.get? a = some { cls := .type "set", dict := none, data := .set #[] 0 (.fresh 0 0 (!w.params.followText "set-order")) }) : SX P w h a [] := by
  refine ⟨_, #[], 0, _, ⟨ho, ⟨rfl, rfl, rfl⟩, rfl⟩, ⟨fun e he => (by simp at he), (by simp), fun x => (by simp)⟩, ⟨(by decide), (by rfl), (by decide)⟩, List.Pairwise.nil, ?_⟩
  show _ ∨ (!w.params.followText "set-order") = true
  cases w.params.followText "set-order"
  · exact .inr rfl
  · exact .inl rfl
end
section
variable {P : Program} {w : World} {A : Around} {E : Value → Shared → Prop} {s : Shared} {a : Addr} {xs : List PySem.Str}
theorem put_tail {g : Bool → Sem Unit} (hg : ∀ (b : Bool) (s1 : Shared) (Z : Unit → Shared → Prop), Z () s1 → wpAny (model P w) A (g b) Z E s1) {o : Obj} {es es1 : Array (Int × Value)} {ep : Nat} {t t2 : SetTable} {ys : List PySem.Str}
    (ho : s.heap.get? a = some o) (hex : o.ExactSet) (hd : o.data = .set es ep t) (g1 : ∀ e ∈ es1.toList, Gt P w e) (n1 : (es1.toList.map kt).Nodup) (m1 : ∀ x, x ∈ ys ↔ x ∈ es1.toList.map kt)
    (hb : es1.size < scanBound) (hf : t2.fits es1.size = true) (hy : es1.size ≤ ys.length) (hr : Ris t2.place.toList) (hl : w.params.followText "set-order" = true ∨ t2.led = true) {dm : Bool} {R : Option Bool → Shared → Prop}
    (hR : ∀ h', Heap.SameBut a s.heap h' → SX P w h' a ys → R (some true) { s with heap := h' }) :
    wpAny (model P w) A (do
      storeSet a es1 t2
      if (!dm && t2.tooFull) = true then do
          g (relayAll t2 es1 (SetTable.grown es1.size)).2.2
          storeSet a (relayAll t2 es1 (SetTable.grown es1.size)).1 (relayAll t2 es1 (SetTable.grown es1.size)).2.1
          pure (some true)
        else pure (some true)) R E s := by
  refine wpAny_bind (wpAny_storeSet_of ho hd ?_ (fits_of_scanBound hb))
  have o1 := store_at (es' := es1) (t' := t2) ho hd
  have b1 := Heap.SameBut.update s.heap a (Obj.putSet es1 t2)
  split
  · have p3 := relayAll_perm t2 es1 (SetTable.grown es1.size)
    have f3 := relayAll_fits t2 es1 (SetTable.grown es1.size)
    have r3 := relayAll_ris t2 es1 (SetTable.grown es1.size)
    have l3 := relayAll_led t2 es1 (SetTable.grown es1.size)
    generalize relayAll t2 es1 (SetTable.grown es1.size) = Z at p3 f3 r3 l3 ⊢
    obtain ⟨es2, t3, gave⟩ := Z
    dsimp only at p3 f3 r3 l3 ⊢
    have z : es2.size = es1.size := by rw [← Array.length_toList, p3.length_eq, Array.length_toList]
    refine wpAny_bind (hg _ _ _ (wpAny_bind (wpAny_storeSet_of o1 rfl ?_ (fits_of_scanBound (by rw [z]; exact hb)))))
    refine wpAny_pure (hR _ (b1.trans (Heap.SameBut.update _ a _)) ⟨_, es2, _, t3, ⟨store_at (es' := es2) (t' := t3) o1 rfl, hex, rfl⟩, ⟨fun e he => g1 e (p3.mem_iff.mp he), (p3.map kt).nodup_iff.mpr n1, fun x => (m1 x).trans (p3.map kt).mem_iff.symm⟩,
      ⟨by rw [z]; exact hb, f3, by rw [z]; exact hy⟩, r3, hl.imp id fun q => by rw [l3]; exact q⟩)
  · exact wpAny_pure (hR _ b1 ⟨_, es1, _, t2, ⟨o1, hex, rfl⟩, ⟨g1, n1, m1⟩, ⟨hb, hf, hy⟩, hr, hl⟩)
/-- one text more -/
theorem add_hashed {x : PySem.Str} {tk : Tok} {Q : Bool → Shared → Prop} (R : SX P w s.heap a xs) (room : xs.length + 1 < scanBound)
    (hQ : ∀ (b : Bool) h', Heap.SameBut a s.heap h' → SX P w h' a (xs ++ [x]) → Q b { s with heap := h' }) : wpAny (model P w) A (setAddHashed a (.str x tk) ((PySem.strKind P w).hash x)) Q E s := by
  have R0 := R
  obtain ⟨o, es, ep, t, ⟨ho, hex, hd⟩, ⟨g, nd, hm⟩, ⟨hb, hf, hn⟩, hr, hl⟩ := R
  have hkey : (PySem.strKind P w).is x (.str x tk) = true := strKind_is P w x tk
  have hsc : (Value.str x tk).scannable = true := rfl
  have hel : ElemsOf (PySem.strKind P w) es.toList := gt_elems g
  unfold setAddHashed setAddHashedIn
  refine wpAny_holding (wpAny_bind (wpAny_setState_of ho hd hf ?_))
  dsimp only
  rw [byScan_of hsc hb hel]
  simp only [↓reduceIte]
  unfold setAddByScan
  refine wpAny_bind (wpAny_bind (wpAny_rule (wpAny_bind (wpAny_setScan_of hkey ho hd hf hel ?_))))
  cases hfi : List.findIdx? (fun e => (PySem.strKind P w).is x e.2) es.toList with
  | some j =>
    dsimp only
    obtain ⟨hj, pj, _⟩ := List.findIdx?_eq_some_iff_getElem.mp hfi
    have hx : x ∈ xs := (hm x).2 ((gt_mem g x).2 ⟨es.toList[j], List.getElem_mem hj, pj⟩)
    refine wpAny_pure (wpAny_pure (hQ _ s.heap (Heap.SameBut.refl a s.heap) (R0.alike (fun y => ?_) (by simp))))
    rw [List.mem_append, List.mem_singleton]
    exact ⟨fun z => z.elim id fun e => e ▸ hx, .inl⟩
  | none =>
    dsimp only
    have hnk : x ∉ es.toList.map kt := fun z => by
      obtain ⟨e, he, q⟩ := (gt_mem g x).1 z
      have c := List.findIdx?_eq_none_iff.mp hfi e he
      rw [q] at c
      cases c
    have hgw : ∀ (b : Bool) {s1 : Shared} {Z : Unit → Shared → Prop}, Z () s1 → wpAny (model P w) A (match b with | true => rule "set.scan.the-table-gave-way" | false => pure ()) Z E s1 := fun b s1 Z q => by
      cases b
      · exact wpAny_pure q
      · exact wpAny_rule q
    have pm := layNew_perm t es ((PySem.strKind P w).hash x) (.str x tk)
    have hf1 := layNew_fits t es ((PySem.strKind P w).hash x) (.str x tk)
    have hr1 := layNew_ris t es ((PySem.strKind P w).hash x) (.str x tk) hr
    have hl1 := layNew_led t es ((PySem.strKind P w).hash x) (.str x tk)
    generalize layNew t es ((PySem.strKind P w).hash x) (.str x tk) = Z at pm hf1 hr1 hl1 ⊢
    obtain ⟨es1, t1, dm, gave⟩ := Z
    dsimp only at pm hf1 hr1 hl1 ⊢
    rw [Array.toList_push] at pm
    have pc : es1.toList.Perm (((PySem.strKind P w).hash x, Value.str x tk) :: es.toList) := pm.trans (List.perm_append_singleton _ _)
    have pk : (es1.toList.map kt).Perm (x :: es.toList.map kt) := pc.map kt
    have g1 : ∀ e ∈ es1.toList, Gt P w e := fun e he => by
      rcases List.mem_cons.mp (pc.mem_iff.mp he) with z | z
      · exact ⟨x, tk, by rw [z], by rw [z]⟩
      · exact g e z
    have n1 : (es1.toList.map kt).Nodup := pk.nodup_iff.mpr (List.nodup_cons.mpr ⟨hnk, nd⟩)
    have m1 : ∀ y, y ∈ xs ++ [x] ↔ y ∈ es1.toList.map kt := fun y => by
      rw [pk.mem_iff, List.mem_cons, List.mem_append, List.mem_singleton, hm y]
      exact Or.comm
    have hsz : es1.size = es.size + 1 := by rw [← Array.length_toList, pc.length_eq, List.length_cons, Array.length_toList]
    have hy : es1.size ≤ (xs ++ [x]).length := by rw [hsz, List.length_append]; exact Nat.succ_le_succ hn
    have hb1 : es1.size < scanBound := by rw [hsz]; omega
    have hled : w.params.followText "set-order" = true ∨ t1.led = true := hl.imp id fun z => by rw [hl1]; exact z
    refine wpAny_bind (hgw _ ?_)
    split
    · refine wpAny_bind ?_
      rw [hashByValue_scannable 8 hsc]
      refine wpAny_pure (put_tail ?_ ho hex hd g1 n1 m1 hb1 ?_ hy ?_ ?_ ?_)
      · intro b s1 Z q
        cases b <;> first | exact wpAny_pure q | exact wpAny_rule q
      · first | (split <;> first | exact hf1 | exact SetTable.fits_plain_off hf1) | exact hf1
      · first | (split <;> exact hr1) | exact hr1
      · first | (split <;> exact hled) | exact hled
      · intro h' sb r
        exact wpAny_pure (hQ _ h' sb r)
    · refine wpAny_bind (wpAny_pure ?_)
      simp only [↓reduceIte]
      refine put_tail ?_ ho hex hd g1 n1 m1 hb1 hf1 hy hr1 hled ?_
      · intro b s1 Z q
        cases b <;> first | exact wpAny_pure q | exact wpAny_rule q
      · intro h' sb r
        exact wpAny_pure (hQ _ h' sb r)
end
end TX
namespace TX
open PySem PySem.Spec PyProof.Rows L2
section
variable {P : Program} {w : World} {A : Around} {E : Value → Shared → Prop} {s : Shared}
/-- the loop that puts all items of a list in -/
theorem fill_loop {I : Addr} {fp wr : List Addr} {G : Array GenState → Array GenState → Prop} {n : Nat} {Pv : Nat → Value → Prop} {St : Nat → Shared → Prop} {R : Result → Shared → Prop}
    (W : WalksS P w A.in1 I fp wr G n Pv St) (S : Addr) (hSf : S ∉ fp) (xs : List PySem.Str) (hn : n = xs.length) (few : xs.length + 1 < scanBound) (hval : ∀ i v, Pv i v → ∃ x t, xs[i]? = some x ∧ v = .str x t) :
    ∀ (k i : Nat) (s : Shared), n - i = k → i ≤ n → St i s → SX P w s.heap S (xs.take i) → (∀ s', Moved (S :: wr) G s s' → SX P w s'.heap S xs → R (.ok (.ret .none)) s') →
      codeAny (model P w) A (.builtin "set.update.loop" ⟨[.ref S, .ref I], []⟩) R s := by
  have hSw : S ∉ wr := fun h => hSf (W.sub _ h)
  have more : ∀ b ∈ wr, b ∈ S :: wr := fun b hb => List.mem_cons_of_mem _ hb
  intro k
  induction k with
  | zero =>
    intro i s hk hi hst hS hR
    have e : xs.take i = xs := List.take_of_length_le (by omega)
    rw [e] at hS
    have hin : i = n := by omega
    subst hin
    refine codeAny_builtin F.entry_set_update_loop ?_; rw [Around.under_plainId F.plain_set_update_loop _]; show wpAny _ A.in1 (pyNext (.ref I) >>= _) _ _ s
    refine wpAny_bind (W.done s _ _ hst fun s' hm => ?_)
    exact wpAny_pure (hR s' (hm.mono more) (hS.keep fun o e => hm.heap S o hSw e))
  | succ k ih =>
    intro i s hk hi hst hS hR
    have hlt : i < n := by omega
    refine codeAny_builtin F.entry_set_update_loop ?_; rw [Around.under_plainId F.plain_set_update_loop _]; show wpAny _ A.in1 (pyNext (.ref I) >>= _) _ _ s
    refine wpAny_bind (W.item i s _ _ hlt hst fun v s' hP hst' hm => ?_)
    obtain ⟨x, t, hx, rfl⟩ := hval i v hP
    have hS' : SX P w s'.heap S (xs.take i) := hS.keep fun o e => hm.heap S o hSw e
    show wpAny _ A.in1 (holding [Value.str x t] (setAdd S (.str x t)) >>= _) _ _ s'
    unfold setAdd
    refine wpAny_bind (wpAny_holding (wpAny_holding (wpAny_bind ((PySem.strKind P w).pyHash (k := x) (strKind_is _ _ _ _) ?_))))
    refine add_hashed (s := { s' with toks := s'.toks + 1 }) hS' (by rw [List.length_take]; omega) fun b h' hsb hS2 => ?_
    have hS3 : SX P w h' S (xs.take (i + 1)) := by
      rw [List.take_add_one, hx]
      exact hS2
    refine wpAny_pure ⟨plainId_quiet F.plain_set_update_loop _, ih (i + 1) _ (by omega) hlt (W.frame _ s' _ _ hst' (Nat.le_succ _) fun b hb o e => ?_) hS3 fun s2 hm2 hS4 => ?_⟩
    · exact (hsb.2 b fun h : b = S => hSf (by rw [← h]; exact hb)).trans e
    · refine hR s2 (Moved.trans W.gtrans ((hm.mono more).then_heap (Nat.le_succ _) fun b o hb e => ?_) hm2) hS4
      exact (hsb.2 b fun h : b = S => hb (by rw [h]; exact List.mem_cons_self)).trans e
def S0 (w : World) : Obj := { cls := .type "set", dict := none, data := .set #[] 0 (.fresh 0 0 (!w.params.followText "set-order")) }
/-- set(xs), xs a list of texts -/
theorem set_of {l : Addr} {items : Array Value} (xs : List PySem.Str) {Q : Value → Shared → Prop} (hh : A.handled = none) (hl : s.heap.IsList l items) (hit : StrsAre items.toList xs) (few : xs.length + 1 < scanBound)
    (h : ∀ (h' : Heap) (tk : Nat), SX P w h' s.heap.objs.size xs → (∀ b o, s.heap.get? b = some o → h'.get? b = some o) → Q (.ref s.heap.objs.size) { s with heap := h', toks := tk }) :
    wpAny (model P w) A (call (.type "set") [.ref l]) Q E s := by
  have hisz : items.size = xs.length := by rw [← StrsAre.len_eq hit, Array.length_toList]
  obtain ⟨c, tl, hmro⟩ := F.called_set.mro
  have hmade := F.called_set.made; have hsub := F.called_set.sub
  refine wpAny_call (codeAny_of_tree ?_); show wpAny _ _ (callAny (.type "set") _) _ _ _
  refine wpAny_pure ⟨Code.quiet_builtin _ (by decide +kernel), codeAny_builtin F.entry_type_call ?_⟩; rw [Around.under_plain (weight_type_call_type "set" [.ref l] []) rfl]
  have h1 := F.called_set.notType; have h2 := F.called_set.canCreate; have hct := F.typeCall_set_1 (.ref l)
  repeat (any_goals (first | assumption | wp_step))
  refine codeAny_mono (code_set_led1 (.ref l) (E := E) (Q₁ := fun obj z => obj = .ref s.heap.objs.size ∧ z = { s with heap := s.heap.push (S0 w) }) ⟨rfl, rfl⟩) fun r z hr => ?_
  cases r with
  | error e => exact hr
  | ok fl =>
    cases fl with
    | ret obj =>
      obtain ⟨rfl, rfl⟩ := hr
      have hS : (s.heap.push (S0 w)).get? s.heap.objs.size = some (S0 w) := Heap.get?_push_size _ rfl
      have hT : Shared.TypeIs { s with heap := s.heap.push (S0 w) } (.ref s.heap.objs.size) "set" := ⟨_, hS, rfl⟩
      have hli := F.called_set.init.lookup; have hbi := F.called_set.init.bind (.ref s.heap.objs.size)
      repeat (any_goals (first | assumption | wp_step))
      refine codeAny_mono (codeAny_call_builtin (R := wants (fun r z => r = .none ∧ ∃ h' tk, z = { s with heap := h', toks := tk } ∧ SX P w h' s.heap.objs.size xs ∧ (∀ b o, s.heap.get? b = some o → h'.get? b = some o)) E)
        F.called_set.init.plain F.entry_set_init (check_set_init_1 hT ?_)) fun r2 z hr2 => ?_
      · obtain ⟨ol, hol, hcl, nl, hdl⟩ := hl
        obtain ⟨ocls, odict, odata, oslots⟩ := ol
        simp only at hcl hdl
        subst hcl; subst hdl
        have hol' : (s.heap.push (S0 w)).get? l = some { cls := .type "list", dict := odict, data := .seq items nl, slots := oslots } := Heap.get?_push_of_some _ hol
        have hsls := F.sub_list_set; have hslf := F.sub_list_frozenset
        have hne : (Value.type "list" == Value.type "dict") = false := by decide
        have hl1 : (s.heap.push (S0 w)).IsList l items := ⟨_, hol', rfl, nl, rfl⟩
        unfold Builtin.«set.__init__» noKeywords Builtin.Frozenset.updateFrom
        generalize hPI : pyIter = PI
        wp_walk
        subst hPI
        refine wpAny_pyIter_list hl1 (wpAny_bind (wpAny_runValue ?_))
        have hlS : l < s.heap.objs.size := Heap.lt_size hol
        have hh3 : A.in1.in1.in1.handled = none := by simp [hh]
        have hsz : (s.heap.push (S0 w)).objs.size = s.heap.objs.size + 1 := Heap.size_push ..
        have hneI : l ≠ (s.heap.push (S0 w)).objs.size := hsz ▸ Nat.ne_of_lt (Nat.lt_succ_of_lt hlS)
        have hSf : s.heap.objs.size ∉ [(s.heap.push (S0 w)).objs.size, l] := by
          rw [hsz]; simp only [List.mem_cons, List.mem_singleton, List.not_mem_nil, or_false, not_or]; exact ⟨Nat.ne_of_lt (Nat.lt_succ_self _), Nat.ne_of_gt hlS⟩
        have hval : ∀ (i : Nat) (v : Value), items[i]? = some v → ∃ x t, xs[i]? = some x ∧ v = .str x t := fun i v hv => by
          obtain ⟨t, e⟩ := SS.strs_at hit i v (by rw [Array.getElem?_toList]; exact hv)
          have hi : i < xs.length := by rw [← hisz]; exact (Array.getElem?_eq_some_iff.mp hv).1
          exact ⟨xs.getD i Str.empty, t, by rw [List.getD_eq_getElem?_getD, List.getElem?_eq_getElem hi]; rfl, e⟩
        refine fill_loop ((Walks.list hh3 _ l hneI items).toS) s.heap.objs.size hSf xs hisz few hval (items.size - 0) 0 _ (by omega) (Nat.zero_le _) ⟨⟨_, Heap.get?_push_size _ rfl, rfl, rfl⟩, (hl1.push _)⟩ ?hS0 ?hR
        case hS0 => exact SX.fresh (Heap.get?_push_of_some _ hS)
        case hR =>
          intro s' hm hS'
          obtain ⟨h', g2, d', tk', os'⟩ := s'
          have eg : g2 = s.gens := hm.gens
          have ed : d' = s.drawn := hm.drawn
          have eo : os' = s.os := hm.os
          subst eg; subst ed; subst eo
          show wpAny _ _ _ _ _ _
          refine wpAny_pure ?_
          show wpAny _ _ (ret Value.none) _ _ _
          refine wpAny_pure ⟨rfl, h', tk', rfl, hS', fun b o e => ?_⟩
          have hlt := Heap.lt_size e
          have n1 : b ≠ s.heap.objs.size := Nat.ne_of_lt hlt
          have n2 : b ≠ (s.heap.push (S0 w)).objs.size := hsz ▸ Nat.ne_of_lt (Nat.lt_succ_of_lt hlt)
          exact hm.heap b o (by simp only [List.mem_cons, List.mem_singleton, List.not_mem_nil, or_false, not_or]; exact ⟨n1, n2⟩) (Heap.get?_push_of_some _ (Heap.get?_push_of_some _ e))
      · cases r2 with
        | error e => exact hr2
        | ok fl2 =>
          cases fl2 with
          | ret r =>
            obtain ⟨rfl, h', tk, rfl, hS', hk⟩ := hr2
            repeat (any_goals (first | assumption | wp_step))
            exact h _ _ hS' hk
          | _ => exact hr2.elim
    | _ => exact hr.elim
/-- what is collected, sorted -/
theorem sorted_of {a : Addr} {xs : List PySem.Str} {Q : Value → Shared → Prop} (R : SX P w s.heap a xs) (hh : A.handled = none) (h64 : xs.length < 64)
    (hQ : ∀ s' p (out : Array Value) (c : Nat) (ys : List PySem.Str), (∀ b o, s.heap.get? b = some o → s'.heap.get? b = some o) → s'.gens = s.gens → s'.os = s.os → s.heap.objs.size ≤ p →
      s'.heap.get? p = some (seqObj "list" out c) → StrsAre out.toList ys → sortedS ys = true → ys.Nodup → (∀ x, x ∈ ys ↔ x ∈ xs) → ys.length ≤ xs.length → Q (.ref p) s') : wpAny (model P w) A (call (.builtin "sorted") [.ref a]) Q E s := by
  obtain ⟨o, es, ep, t, ⟨ho, hex, hd⟩, ⟨g, nd, hm⟩, ⟨hb, hf, hn⟩, hr, hl⟩ := R
  refine Calls.call_function_entry kind_sorted plain_sorted entry_sorted (args_sorted1 _) ?_; unfold Builtin.«sorted»; refine wpAny_bind (m := checkCount "sorted" 1 1 _) (wpAny_pure ?_)
  refine wpAny_bind (collect_set (A := A.in1) hh ⟨o, ho, hex.1, hd⟩ hf hb hr hl fun s1 vs k1 hz g1 o1 pm => ?_)
  have hvl : vs.length = es.size := by rw [pm.length_eq, List.length_map, Array.length_toList]
  have hI : StrsAre vs (vs.map strOf) := strsAre_map vs fun v hv => by
    obtain ⟨e, he, q⟩ := List.mem_map.mp (pm.mem_iff.mp hv)
    obtain ⟨x, tk, h1, _⟩ := g e he
    exact ⟨x, tk, by rw [← q]; exact h1⟩
  have pk : (vs.map strOf).Perm (es.toList.map kt) := by
    have q := pm.map strOf
    rw [List.map_map] at q
    exact q
  refine wpAny_bind (wpAny_newList ?_ (by rw [hvl, sizeLine_eq]; omega))
  have hoL : (s1.heap.push (seqObj "list" vs.toArray 0)).get? s1.heap.objs.size = some (seqObj "list" vs.toArray 0) := Heap.get?_push_size _ rfl
  refine wpAny_bind (wpAny_holding (wpAny_call_entry slot_list_sort ⟨_, hoL, rfl⟩ entry_list_sort (list_sort_treeK strKind_oneLt hoL hI.keysOf (fun v1 v2 rest e => keyKind_strs (by rw [← e]; exact hI)) (by rw [hvl]; omega) fun st hp hs => ⟨_, rfl, ?_⟩) (args_list_sort _)))
  obtain ⟨ys, a1, a2, a3⟩ := sorted_out_str hI hp hs
  obtain ⟨c, hc⟩ := sortedHeap_at (vs := vs) (out := (arrOf st).map (·.2)) hoL
  have pn : ys.Perm (es.toList.map kt) := a2.trans pk
  refine wpAny_pure ⟨_, rfl, hQ _ s1.heap.objs.size _ c ys (fun b u e => ?_) g1 o1 hz hc a1 a3 (pn.nodup_iff.mpr nd) (fun x => by rw [pn.mem_iff, ← hm x]) ?_⟩
  · have q := k1 b u e
    have hlt := Heap.lt_size q
    exact (sortedHeap_old (Nat.ne_of_lt hlt) (by rw [size_push']; exact Nat.lt_succ_of_lt hlt)).trans (Heap.get?_push_of_some _ q)
  · rw [pn.length_eq, List.length_map, Array.length_toList]; exact hn
end
end TX
/-! sorted(set(texts)), and that it is one list only. -/
namespace TX
open PySem PySem.Spec PyProof.Rows L2
theorem rising_pair : ∀ (l : List PySem.Str) (p : PySem.Str), risingS p l = true → (p :: l).Pairwise fun a b => a.cps.toList ≤ b.cps.toList
  | [], p, _ => List.pairwise_singleton _ _
  | x :: r, p, h => by
    have h' : (!ltCps x.cps.toList p.cps.toList && risingS x r) = true := h
    rw [Bool.and_eq_true, ltCps_eq] at h'
    obtain ⟨h1, h2⟩ := h'
    have q := rising_pair r x h2
    have px : p.cps.toList ≤ x.cps.toList := by
      intro z
      rw [show decide (x.cps.toList < p.cps.toList) = true from decide_eq_true z] at h1
      cases h1
    refine List.pairwise_cons.mpr ⟨fun y hy => ?_, q⟩
    rcases List.mem_cons.mp hy with e | e
    · exact e ▸ px
    · exact List.le_trans px ((List.pairwise_cons.mp q).1 y e)
theorem sorted_pair {l : List PySem.Str} (h : sortedS l = true) : l.Pairwise fun a b => a.cps.toList ≤ b.cps.toList := by
  cases l with
  | nil => exact List.Pairwise.nil
  | cons x r => exact rising_pair r x h
theorem str_ext {a b : PySem.Str} (h : a.cps.toList = b.cps.toList) : a = b := by
  cases a; cases b
  simpa using h
/-- an ascending list without doubles -/
def Asc (l : List PySem.Str) : Prop := sortedS l = true ∧ l.Nodup
theorem Asc.one {l m : List PySem.Str} (a : Asc l) (b : Asc m) (h : ∀ x, x ∈ l ↔ x ∈ m) : l = m :=
  List.Perm.eq_of_pairwise (le := fun a b : PySem.Str => a.cps.toList ≤ b.cps.toList) (fun x y _ _ p q => str_ext (List.le_antisymm p q)) (sorted_pair a.1) (sorted_pair b.1) ((List.perm_ext_iff_of_nodup a.2 b.2).mpr h)
theorem Asc.perm {l m : List PySem.Str} (a : Asc l) (b : sortedS m = true) (h : m.Perm l) : m = l := Asc.one ⟨b, h.nodup_iff.mpr a.2⟩ a fun x => h.mem_iff
theorem sorted_perm {l m : List PySem.Str} (a : sortedS l = true) (b : sortedS m = true) (h : l.Perm m) : l = m :=
  List.Perm.eq_of_pairwise (le := fun a b : PySem.Str => a.cps.toList ≤ b.cps.toList) (fun x y _ _ p q => str_ext (List.le_antisymm p q)) (sorted_pair a) (sorted_pair b) h
/-- the set, for the abstract heap -/
def SXO (P : Program) (w : World) (a : Addr) (xs : List PySem.Str) : HO := .ext fun h => SX P w h a xs
theorem sxo_new {P : Program} {w : World} {H : Hp} {h : Heap} {a : Addr} {xs : List PySem.Str} (R : SX P w h a xs) : ObjOk P w H h a (SXO P w a xs) := by
  have ⟨o, _, _, _, ⟨ho, _⟩, _⟩ := R
  exact ⟨R, ⟨o, ho⟩, fun h1 h2 p k => SX.keep p k⟩
section
variable {X : Cx}
theorem cr_setX (hc : X.calm = true) : CallR X (.type "set") (fun vs H Q => ∃ (l : Addr) (xs : List PySem.Str), vs = [.ref l] ∧ SqL X.K H l (xs.map V.str) ∧ xs.length < 64 ∧ ∀ a, H a = none → Q (.ref a) (upd H a (SXO X.prog X.w a xs))) := by
  intro pins s σ H vs us Q I r h
  obtain ⟨l, xs, rfl, hl, few, q⟩ := h
  rw [Vals.ref1 r]
  obtain ⟨its, rv, pl, hz⟩ := I.list hl
  have hn : H s.heap.objs.size = none := I.hok.fresh (Nat.le_refl _)
  refine set_of (P := X.prog) (w := X.w) xs (I.ok.hd hc) pl.isList (by simpa using rv.strs) (by unfold scanBound; omega) fun h' tk R k => ?_
  exact ⟨.ref s.heap.objs.size, upd H s.heap.objs.size (SXO X.prog X.w s.heap.objs.size xs), I.laid (t' := tk) k (Nat.le_refl _) (sxo_new R), rfl, q _ hn⟩
theorem cr_sortedX (hc : X.calm = true) : CallR X (.builtin "sorted") (fun vs H Q => ∃ (a : Addr) (xs : List PySem.Str), vs = [.ref a] ∧ H a = some (SXO X.prog X.w a xs) ∧ xs.length < 64 ∧
    ∀ ys p, Asc ys → (∀ x, x ∈ ys ↔ x ∈ xs) → ys.length ≤ xs.length → H p = none → Q (.ref p) (upd H p (.lst (ys.map V.str)))) := by
  intro pins s σ H vs us Q I r h
  obtain ⟨a, xs, rfl, ha, few, q⟩ := h
  have R0 : SX X.prog X.w s.heap a xs := (I.hok a _ ha).1
  rw [Vals.ref1 r]
  refine sorted_of R0 (I.ok.hd hc) few fun s' p out c ys k g o hp hg hout h1 h2 h3 h4 => ?_
  have hlen : (ys.map V.str).length ≤ sizeLine := by rw [List.length_map, sizeLine_eq]; omega
  have hn : H p = none := I.hok.fresh hp
  have J : Inv X pins σ (upd H p (.lst (ys.map V.str))) { s with heap := s'.heap, gens := s'.gens, drawn := s'.drawn, toks := s'.toks } :=
    I.call (ch := []) (Un.laid k hp hn) (I.hok.laid k hp ⟨hlen, out.toList, c, vals_of_strs hout, hg⟩) (by rw [g]; exact I.bare) (fun _ z => nomatch z)
  have e : s' = { s with heap := s'.heap, gens := s'.gens, drawn := s'.drawn, toks := s'.toks } := by
    cases s'; cases s; cases o; rfl
  rw [e]
  exact ⟨.ref p, _, J, rfl, q ys p ⟨h1, h2⟩ h3 h4 hn⟩
end
end TX
/-! list(d.items()), d a dict of texts. -/
namespace TX
open PySem PySem.Spec PyProof.Rows L2
theorem paired_at {α β : Type} {F : α → β → Prop} : ∀ {l : List α} {m : List β} {j : Nat} {x : α} {y : β}, Paired F l m → l[j]? = some x → m[j]? = some y → F x y
  | _, _, _, _, _, .nil, h, _ => by simp at h
  | _, _, 0, x, y, .cons a b, h1, h2 => by
    simp at h1 h2
    exact h1 ▸ h2 ▸ a
  | _, _, j + 1, x, y, .cons a b, h1, h2 => paired_at (j := j) b (by simpa using h1) (by simpa using h2)
section
variable {X : Cx}
theorem mt_items : MtR X "dict.items" (fun x vs H Q => ∃ (a : Addr) (kvs : List (L2.Key × V)), x = .ref a ∧ vs = [] ∧ H a = some (.dK kvs) ∧ ∀ p, H p = none → Q (.ref p) (upd H p (L2.DX.itemsO p a))) := by
  intro pins s σ H x xs v us Q I rx rxs h
  obtain ⟨a, kvs, rfl, rfl, ha, q⟩ := h
  cases rx; cases rxs
  obtain ⟨z, hd, vs, rel, o, es, ep, ho, hx, hdat, _⟩ := dk_of I.hok ha
  refine DT.callItems (es := es) (ep := ep) hd ⟨o, ho, hx, hdat⟩ ?_
  exact ⟨.ref s.heap.objs.size, _, I.laid (t' := s.toks) (fun b u e => Heap.get?_push_of_some _ e) (Nat.le_refl _) (L2.DX.itemsO_ok (Heap.get?_push_size _ rfl)), rfl, q _ (I.hok.fresh (Nat.le_refl _))⟩
theorem cr_listItems (hc : X.calm = true) : CallR X (.type "list") (fun vs H Q => ∃ (p a : Addr) (kvs : List (L2.Key × V)), vs = [.ref p] ∧ H p = some (L2.DX.itemsO p a) ∧ H a = some (.dK kvs) ∧
    ∀ H' l as, (∀ b o, H b = some o → H' b = some o) → H l = none → H' l = some (.lst (as.map V.ref)) → Paired (fun b kv => H b = none ∧ H' b = some (.tup [kV kv.1, kv.2])) as kvs → Q (.ref l) H') := by
  intro pins s σ H vs us Q I r h
  obtain ⟨p, a, kvs, rfl, hp, ha, q⟩ := h
  rw [Vals.ref1 r]
  have view : s.heap.IsItemsView p a := (show ObjOk X.prog X.w H s.heap p (L2.DX.itemsO p a) from I.hok p _ hp).1
  obtain ⟨z, hd, vs, rel, dd⟩ := dk_of I.hok ha
  obtain ⟨ep, hat⟩ := dd.dictAt
  have lv : kvs.length = vs.length := Paired.length rel
  have hS : H s.heap.objs.size = none := I.hok.fresh (Nat.le_refl _)
  refine PySem.W.kdx_call (knd := mixKind X.prog X.w) (kvs := vs) (ep := ep) (I.ok.hd hc) view hat (by omega) fun h' tk acc c as hk hl hn hG hacc => ?_
  have nd : as.Nodup := List.Pairwise.imp (fun h => Nat.ne_of_lt h) hG.rise
  have vr : ∀ l : List Addr, Vals (l.map V.ref) (l.map Value.ref) := fun l => by
    induction l with
    | nil => exact .nil
    | cons x l ih => exact .cons rfl ih
  have I1 : Inv X pins σ (upd H s.heap.objs.size (.lst (as.map V.ref))) { s with heap := h', toks := tk } := I.laid (t' := tk) hk (Nat.le_refl _) ⟨by rw [List.length_map]; omega, acc.toList, c, by rw [hacc]; exact vr as, by rw [Array.toArray_toList]; exact hl⟩
  have ent : ∀ (j : Nat) (b : Addr), as[j]? = some b → ∃ kv, kvs[j]? = some kv ∧ ∀ H2, ObjOk X.prog X.w H2 h' b (.tup [kV kv.1, kv.2]) := fun j b hj => by
    obtain ⟨key, k, x, e1, e2, e3⟩ := hG.pairs j b hj
    have hj2 : j < kvs.length := by rw [lv]; exact (List.getElem?_eq_some_iff.mp e1).1
    have e4 : kvs[j]? = some kvs[j] := List.getElem?_eq_getElem hj2
    obtain ⟨r1, r2⟩ := paired_at rel e4 e1
    have r1' : kvs[j].1 = k := r1
    refine ⟨_, e4, fun H2 => ⟨by show 2 ≤ sizeLine; rw [sizeLine_eq]; omega, [key, x], .cons ?_ (.cons r2 .nil), _, e3, rfl, _, rfl⟩⟩
    rw [r1']
    exact keyIs_rel e2
  have low : ∀ b ∈ as, s.heap.objs.size ≤ b ∧ upd H s.heap.objs.size (.lst (as.map V.ref)) b = none := fun b hb => by
    have g := hG.above b hb
    exact ⟨Nat.le_of_lt g, by rw [upd_ne (Nat.ne_of_gt g)]; exact I.hok.fresh (Nat.le_of_lt g)⟩
  obtain ⟨H2, I2, k2, t2⟩ := L2.DX.takeT (P := fun b xs => ∃ kv : L2.Key × V, (∀ j : Nat, as[j]? = some b → kvs[j]? = some kv) ∧ xs = [kV kv.1, kv.2]) I as _ I1 nd fun b hb => by
    obtain ⟨j, hj⟩ := List.mem_iff_getElem?.mp hb
    obtain ⟨kv, e, ok⟩ := ent j b hj
    refine ⟨(low b hb).1, (low b hb).2, _, ⟨kv, fun i hi => ?_, rfl⟩, ok⟩
    obtain ⟨i1, q1⟩ := List.getElem?_eq_some_iff.mp hi
    obtain ⟨j1, q2⟩ := List.getElem?_eq_some_iff.mp hj
    have : i = j := (List.getElem_inj nd).mp (q1.trans q2.symm)
    rw [this]; exact e
  have nS : ∀ b o, H b = some o → b ≠ s.heap.objs.size := fun b o e n => by rw [n, hS] at e; cases e
  refine ⟨.ref s.heap.objs.size, H2, I2, rfl, q H2 _ as (fun b o e => k2 b o (by rw [upd_ne (nS b o e)]; exact e)) hS (k2 _ _ upd_same) ?_⟩
  have all : ∀ (j : Nat) (b : Addr) (kv : L2.Key × V), as[j]? = some b → kvs[j]? = some kv → H b = none ∧ H2 b = some (.tup [kV kv.1, kv.2]) := fun j b kv h1 h2 => by
    have hb : b ∈ as := List.mem_of_getElem? h1
    obtain ⟨xs, ⟨kv', e1, e2⟩, e3⟩ := t2 b hb
    have e4 := e1 j h1
    rw [h2] at e4
    cases e4
    exact ⟨I.hok.fresh (low b hb).1, by rw [e3, e2]⟩
  have build : ∀ (l : List Addr) (m : List (L2.Key × V)), l.length = m.length → (∀ (j : Nat) (b : Addr) (kv : L2.Key × V), l[j]? = some b → m[j]? = some kv → H b = none ∧ H2 b = some (.tup [kV kv.1, kv.2])) → Paired (fun b kv => H b = none ∧ H2 b = some (.tup [kV kv.1, kv.2])) l m := fun l => by
    induction l with
    | nil =>
      intro m hm _
      cases m with
      | nil => exact .nil
      | cons y m => simp at hm
    | cons x l ih =>
      intro m hm ha
      cases m with
      | nil => simp at hm
      | cons y m => exact .cons (ha 0 x y rfl rfl) (ih m (by simpa using hm) fun j b kv h1 h2 => ha (j + 1) b kv (by simpa using h1) (by simpa using h2))
  exact build as kvs (by omega) all
end
end TX
/-! What a value prints as, over the abstract heap: one relation over lists of values. -/
namespace V5
open PySem PySem.Spec PyProof.Rows L2

/-- the texts that some values print as: depth at most d, the objects as that are met, the texts, what they cost -/
inductive Shw (H : Hp) : List V → Nat → List Addr → List Str → Nat → Prop
  | nil {d : Nat} : Shw H [] d [] [] 0
  | non {vs d as ts c} (r : Shw H vs d as ts c) : Shw H (.non :: vs) d as ("None" :: ts) (10 + c)
  | bl {vs d as ts c} (b : Bool) (r : Shw H vs d as ts c) : Shw H (.bl b :: vs) d as ((if b then "True" else "False" : String) :: ts) (10 + c)
  | int {vs d as ts c} (i : Int) (hi : i.natAbs < 10 ^ 60) (r : Shw H vs d as ts c) : Shw H (.int i :: vs) d as (toString i :: ts) (70 + c)
  | str {vs d as ts c} (x : Str) (hx : x.length ≤ 100) (hc : ∀ k ∈ x.cps.toList, k < 16 ^ 8) (r : Shw H vs d as ts c) : Shw H (.str x :: vs) d as (reprText x :: ts) (1010 + c)
  | lst {vs d as ts c a xs bs us e} (h : H a = some (.lst xs)) (q : Shw H xs d bs us e) (hn : a ∉ bs) (r : Shw H vs (d + 1) as ts c) : Shw H (.ref a :: vs) (d + 1) ((a :: bs) ++ as) (listText us :: ts) (10 + e + c)
  | tup {vs d as ts c a xs bs us e} (h : H a = some (.tup xs)) (q : Shw H xs d bs us e) (hn : a ∉ bs) (r : Shw H vs (d + 1) as ts c) : Shw H (.ref a :: vs) (d + 1) ((a :: bs) ++ as) (tupleText us :: ts) (10 + e + c)
  | dic {vs d as ts c a bs us e} (ks : List (Str × V)) (h : H a = some (.dK (ks.map fun p => (Sum.inr p.1, p.2)))) (hk : ∀ p ∈ ks, p.1.length ≤ 100 ∧ ∀ k ∈ p.1.cps.toList, k < 16 ^ 8)
      (q : Shw H (ks.map (·.2)) d bs us e) (hn : a ∉ bs) (r : Shw H vs (d + 1) as ts c) :
      Shw H (.ref a :: vs) (d + 1) ((a :: bs) ++ as) (dictText (List.zipWith (fun p u => reprText p.1 ++ ": " ++ u) ks us) :: ts) (10 + 1010 * ks.length + e + c)

variable {H H' : Hp} {vs ws : List V} {d d' : Nat} {as bs : List Addr} {ts us : List Str} {c e : Nat}
theorem Shw.len (h : Shw H vs d as ts c) : ts.length = vs.length := by
  induction h with
  | nil => rfl
  | _ => simp_all
theorem Shw.there (h : Shw H vs d as ts c) : ∀ b ∈ as, ∃ o, H b = some o := by
  induction h with
  | nil => intro b hb; cases hb
  | non r ih => exact ih
  | bl b r ih => exact ih
  | int i hi r ih => exact ih
  | str x hx hc r ih => exact ih
  | lst h q hn r i1 i2 =>
    intro b hb
    rcases List.mem_append.mp hb with z | z
    · rcases List.mem_cons.mp z with y | y
      · exact ⟨_, y ▸ h⟩
      · exact i1 b y
    · exact i2 b z
  | tup h q hn r i1 i2 =>
    intro b hb
    rcases List.mem_append.mp hb with z | z
    · rcases List.mem_cons.mp z with y | y
      · exact ⟨_, y ▸ h⟩
      · exact i1 b y
    · exact i2 b z
  | dic ks h hk q hn r i1 i2 =>
    intro b hb
    rcases List.mem_append.mp hb with z | z
    · rcases List.mem_cons.mp z with y | y
      · exact ⟨_, y ▸ h⟩
      · exact i1 b y
    · exact i2 b z
theorem Shw.fresh {p : Addr} (h : Shw H vs d as ts c) (hp : H p = none) : p ∉ as := fun hm => by
  obtain ⟨o, e⟩ := h.there p hm
  rw [hp] at e; cases e
/-- what is kept at the objects that are met -/
theorem Shw.keep (h : Shw H vs d as ts c) : (∀ b ∈ as, ∀ o, H b = some o → H' b = some o) → Shw H' vs d as ts c := by
  induction h with
  | nil => intro _; exact .nil
  | non r ih => intro k; exact .non (ih k)
  | bl b r ih => intro k; exact .bl b (ih k)
  | int i hi r ih => intro k; exact .int i hi (ih k)
  | str x hx hc r ih => intro k; exact .str x hx hc (ih k)
  | lst h q hn r i1 i2 =>
    intro k
    exact .lst (k _ (List.mem_append_left _ List.mem_cons_self) _ h) (i1 fun b hb => k b (List.mem_append_left _ (List.mem_cons_of_mem _ hb))) hn (i2 fun b hb => k b (List.mem_append_right _ hb))
  | tup h q hn r i1 i2 =>
    intro k
    exact .tup (k _ (List.mem_append_left _ List.mem_cons_self) _ h) (i1 fun b hb => k b (List.mem_append_left _ (List.mem_cons_of_mem _ hb))) hn (i2 fun b hb => k b (List.mem_append_right _ hb))
  | dic ks h hk q hn r i1 i2 =>
    intro k
    exact .dic ks (k _ (List.mem_append_left _ List.mem_cons_self) _ h) hk (i1 fun b hb => k b (List.mem_append_left _ (List.mem_cons_of_mem _ hb))) hn (i2 fun b hb => k b (List.mem_append_right _ hb))
theorem Shw.up1 (h : Shw H vs d as ts c) : Shw H vs (d + 1) as ts c := by
  induction h with
  | nil => exact .nil
  | non r ih => exact .non ih
  | bl b r ih => exact .bl b ih
  | int i hi r ih => exact .int i hi ih
  | str x hx hc r ih => exact .str x hx hc ih
  | lst h q hn r i1 i2 => exact .lst h i1 hn i2
  | tup h q hn r i1 i2 => exact .tup h i1 hn i2
  | dic ks h hk q hn r i1 i2 => exact .dic ks h hk i1 hn i2
theorem Shw.up (h : Shw H vs d as ts c) (hd : d ≤ d') : Shw H vs d' as ts c := by
  induction hd with
  | refl => exact h
  | step _ ih => exact ih.up1
/-- one more in front -/
theorem Shw.cons1 {v : V} (h : Shw H [v] d as ts c) : Shw H ws d bs us e → Shw H (v :: ws) d (as ++ bs) (ts ++ us) (c + e) := by
  intro q
  generalize hv : [v] = vs at h
  cases h with
  | nil => cases hv
  | non r => cases hv; cases r; simpa using Shw.non q
  | bl b r => cases hv; cases r; simpa using Shw.bl b q
  | int i hi r => cases hv; cases r; simpa using Shw.int i hi q
  | str x hx hc r => cases hv; cases r; simpa using Shw.str x hx hc q
  | lst h p hn r => cases hv; cases r; simpa using Shw.lst h p hn q
  | tup h p hn r => cases hv; cases r; simpa using Shw.tup h p hn q
  | dic ks h hk p hn r => cases hv; cases r; simpa using Shw.dic ks h hk p hn q
/-- each of them alone -/
theorem Shw.each (h : Shw H vs d as ts c) : ∀ v ∈ vs, ∃ as t e, Shw H [v] d as [t] e ∧ e ≤ c := by
  induction h with
  | nil => intro v hv; cases hv
  | non r ih =>
    intro v hv
    rcases List.mem_cons.mp hv with z | z
    · subst z
      exact ⟨_, _, _, Shw.non Shw.nil, by omega⟩
    · obtain ⟨as, t, e, q, l⟩ := ih v z
      exact ⟨as, t, e, q, by omega⟩
  | bl b r ih =>
    intro v hv
    rcases List.mem_cons.mp hv with z | z
    · subst z
      exact ⟨_, _, _, Shw.bl b Shw.nil, by omega⟩
    · obtain ⟨as, t, e, q, l⟩ := ih v z
      exact ⟨as, t, e, q, by omega⟩
  | int i hi r ih =>
    intro v hv
    rcases List.mem_cons.mp hv with z | z
    · subst z
      exact ⟨_, _, _, Shw.int i hi Shw.nil, by omega⟩
    · obtain ⟨as, t, e, q, l⟩ := ih v z
      exact ⟨as, t, e, q, by omega⟩
  | str x hx hc r ih =>
    intro v hv
    rcases List.mem_cons.mp hv with z | z
    · subst z
      exact ⟨_, _, _, Shw.str x hx hc Shw.nil, by omega⟩
    · obtain ⟨as, t, e, q, l⟩ := ih v z
      exact ⟨as, t, e, q, by omega⟩
  | lst h q hn r i1 i2 =>
    intro v hv
    rcases List.mem_cons.mp hv with z | z
    · subst z
      exact ⟨_, _, _, Shw.lst h q hn Shw.nil, by omega⟩
    · obtain ⟨as, t, e, q, l⟩ := i2 v z
      exact ⟨as, t, e, q, by omega⟩
  | tup h q hn r i1 i2 =>
    intro v hv
    rcases List.mem_cons.mp hv with z | z
    · subst z
      exact ⟨_, _, _, Shw.tup h q hn Shw.nil, by omega⟩
    · obtain ⟨as, t, e, q, l⟩ := i2 v z
      exact ⟨as, t, e, q, by omega⟩
  | dic ks h hk q hn r i1 i2 =>
    intro v hv
    rcases List.mem_cons.mp hv with z | z
    · subst z
      exact ⟨_, _, _, Shw.dic ks h hk q hn Shw.nil, by omega⟩
    · obtain ⟨as, t, e, q, l⟩ := i2 v z
      exact ⟨as, t, e, q, by omega⟩
/-- what a value is of which all this is said -/
theorem Shw.kind {v : V} (h : Shw H [v] d as ts c) : flatB v = true ∨ ∃ a, v = .ref a := by
  generalize hv : [v] = vs at h
  cases h with
  | nil => cases hv
  | non r => cases hv; exact .inl rfl
  | bl b r => cases hv; exact .inl rfl
  | int i hi r => cases hv; exact .inl rfl
  | str x hx hc r => cases hv; exact .inl rfl
  | lst h p hn r => cases hv; exact .inr ⟨_, rfl⟩
  | tup h p hn r => cases hv; exact .inr ⟨_, rfl⟩
  | dic ks h hk p hn r => cases hv; exact .inr ⟨_, rfl⟩
/-- v prints, at depth d at most, at cost B at most -/
def Pt (H : Hp) (d B : Nat) (v : V) : Prop := ∃ as t e, Shw H [v] d as [t] e ∧ e ≤ B
theorem Pt.mono {B B' : Nat} {v : V} (p : Pt H d B v) (hd : d ≤ d') (hB : B ≤ B') : Pt H d' B' v := by
  obtain ⟨as, t, e, q, l⟩ := p
  exact ⟨as, t, e, q.up hd, by omega⟩
theorem Pt.same {B : Nat} {v : V} (p : Pt H d B v) (k : ∀ b o, H b = some o → H' b = some o) : Pt H' d B v := by
  obtain ⟨as, t, e, q, l⟩ := p
  exact ⟨as, t, e, q.keep fun b _ => k b, l⟩
theorem Pt.all {B : Nat} : ∀ {vs : List V}, (∀ v ∈ vs, Pt H d B v) → ∃ as ts e, Shw H vs d as ts e ∧ e ≤ B * vs.length
  | [], _ => ⟨_, _, _, .nil, Nat.zero_le _⟩
  | v :: vs, h => by
    obtain ⟨as, t, e, q, l⟩ := h v List.mem_cons_self
    obtain ⟨bs, us, f, r, m⟩ := Pt.all (vs := vs) fun w hw => h w (List.mem_cons_of_mem _ hw)
    refine ⟨_, _, _, q.cons1 r, ?_⟩
    rw [List.length_cons, Nat.mul_succ]
    omega
theorem Pt.lst {B : Nat} {a : Addr} {xs : List V} (h : H a = some (.lst xs)) (k : ∀ v ∈ xs, ∃ d0, d0 < d ∧ Pt H d0 B v) (hf : ∀ as ts e, Shw H xs (d - 1) as ts e → a ∉ as) (hd : 0 < d) : Pt H d (10 + B * xs.length) (.ref a) := by
  obtain ⟨d0, rfl⟩ : ∃ d0, d = d0 + 1 := ⟨d - 1, by omega⟩
  obtain ⟨as, ts, e, q, l⟩ := Pt.all (H := H) (d := d0) (B := B) (vs := xs) fun v hv => by
    obtain ⟨d1, h1, p⟩ := k v hv
    exact p.mono (by omega) (Nat.le_refl _)
  exact ⟨_, _, _, .lst h q (hf _ _ _ q) .nil, by omega⟩
end V5
namespace V5
open PySem PySem.Spec PyProof.Rows L2
theorem list_len (ts : List Str) : (listText ts).length ≤ piled ts + 2 := by
  cases ts with
  | nil => decide +kernel
  | cons t r =>
    have e0 : (listText (t :: r)).length = (textFrom 1 ((("[" : Str) ++ ("" : String)) ++ t) r).length + 1 := by
      show (textFrom 1 ((("[" : Str) ++ ("" : String)) ++ t) r ++ "]").length = _
      rw [strLen_append]; rfl
    have e1 : ((("[" : Str) ++ ("" : String)) ++ t).length = 1 + t.length := by rw [strLen_append]; rfl
    rw [e0, textFrom_length_pos _ _ _ Nat.one_pos, e1, piled_cons]
    omega
theorem dict_len (ps : List Str) : (dictText ps).length ≤ piled ps + 2 := by
  have e : (dictText ps).length = 1 + (Str.join ", " ps).length + 1 := by
    unfold dictText
    rw [strLen_append, strLen_append]; rfl
  by_cases h : ps = []
  · subst h; decide +kernel
  · have := join_length_add ps h
    omega
theorem zip_len : ∀ (ks : List (Str × V)) (us : List Str), (∀ p ∈ ks, p.1.length ≤ 100 ∧ ∀ k ∈ p.1.cps.toList, k < 16 ^ 8) → ks.length = us.length →
    piled (List.zipWith (fun p u => reprText p.1 ++ ": " ++ u) ks us) ≤ 1010 * ks.length + piled us
  | [], _, _, _ => by simp [piled]
  | _ :: _, [], _, h => by cases h
  | p :: ks, u :: us, hk, hl => by
    have ih := zip_len ks us (fun q hq => hk q (List.mem_cons_of_mem _ hq)) (by simpa using hl)
    obtain ⟨z1, z2⟩ := hk p List.mem_cons_self
    have r := StrLaws.reprText_len p.1 z2
    have e : (reprText p.1 ++ ": " ++ u).length = (reprText p.1).length + 2 + u.length := by
      rw [strLen_append, strLen_append]; rfl
    rw [List.zipWith_cons_cons, piled_cons, piled_cons, e, List.length_cons]
    omega
variable {H H' : Hp} {vs ws : List V} {d d' : Nat} {as bs : List Addr} {ts us : List Str} {c e : Nat}
theorem Shw.cost (h : Shw H vs d as ts c) : piled ts ≤ c := by
  induction h with
  | nil => exact Nat.zero_le _
  | non r ih =>
    rw [piled_cons]
    have : ("None" : Str).length = 4 := by decide +kernel
    omega
  | bl b r ih =>
    rw [piled_cons]
    have : ((if b then "True" else "False" : String) : Str).length ≤ 5 := by cases b <;> decide +kernel
    omega
  | int i hi r ih =>
    rw [piled_cons]
    have q := int_text_length_le10 (k := 60) (by decide) hi
    have : (Str.ofString (toString i)).length = (toString i).length := PySem.ofString_length _
    clear hi
    omega
  | str x hx hc r ih =>
    rw [piled_cons]
    have := StrLaws.reprText_len x hc
    omega
  | lst h q hn r i1 i2 =>
    rw [piled_cons]
    have := list_len ‹_›
    omega
  | tup h q hn r i1 i2 =>
    rw [piled_cons]
    have := fmt_text ‹_›
    omega
  | @dic vs d as ts c a bs us e ks h hk q hn r i1 i2 =>
    rw [piled_cons]
    have z := zip_len ks us hk (by rw [q.len, List.length_map])
    have := dict_len (List.zipWith (fun p u => reprText p.1 ++ ": " ++ u) ks us)
    omega
theorem one_le {t : Str} {ts : List Str} (h : t ∈ ts) : t.length + 2 ≤ piled ts := by
  induction ts with
  | nil => cases h
  | cons u ts ih =>
    rw [piled_cons]
    rcases List.mem_cons.mp h with z | z
    · subst z; omega
    · have := ih z; omega
section
variable {X : Cx} {pins : List (Addr × Obj)} {σ : L2.St} {s : Shared}
theorem kv_vals : ∀ {ks : List (Str × V)} {vs : List (Key × Value)}, KV (ks.map fun p => ((Sum.inr p.1 : Key), p.2)) vs → Vals (ks.map (·.2)) (vs.map (·.2))
  | [], _, h => by cases h; exact .nil
  | p :: ks, _, h => by
    cases h with
    | cons a b => exact .cons a.2 (kv_vals b)
theorem entries {prog : Program} {w : World} {h₀ : Heap} : ∀ (ks : List (Str × V)) (vs : List (Key × Value)) (es : List DictEntry) (us : List Str),
    KV (ks.map fun p => ((Sum.inr p.1 : Key), p.2)) vs → Pairs (mixKind prog w) es vs → (∀ p ∈ ks, p.1.length ≤ 100 ∧ ∀ k ∈ p.1.cps.toList, k < 16 ^ 8) →
    (∀ ws : List Value, Vals (ks.map (·.2)) ws → ReprAllK prog w bs h₀ d ws us) →
    ReprEntriesK prog w bs h₀ d es (List.zipWith (fun p u => reprText p.1 ++ ": " ++ u) ks us)
  | [], _, es, us, hv, hp, _, _ => by
    cases hv
    cases hp
    exact .nil
  | p :: ks, vs, es, us, hv, hp, hk, hr => by
    cases hv with
    | @cons _ q _ vs' h1 h2 =>
      obtain ⟨h1a, h1b⟩ := h1
      cases hp with
      | @cons en _ es' _ hi hj hp' =>
        have h0 := hr (q.2 :: vs'.map (·.2)) (.cons h1b (kv_vals h2))
        cases us with
        | nil => cases h0
        | cons u us =>
          have rest : ∀ ws : List Value, Vals (ks.map (·.2)) ws → ReprAllK prog w bs h₀ d ws us := fun ws hw => by
            have z := hr (q.2 :: ws) (.cons h1b hw)
            cases z with
            | cons _ z2 => exact z2
          have r2 := entries ks vs' es' us h2 hp' (fun x hx => hk x (List.mem_cons_of_mem _ hx)) rest
          obtain ⟨z1, z2⟩ := hk p List.mem_cons_self
          have hkey : ∃ t, en.key = .str p.1 t := by
            obtain ⟨q1, q2⟩ := q
            have e1 : Sum.inr p.1 = q1 := h1a
            subst e1
            obtain ⟨t, e⟩ := Value.isStrOf_shape (x := p.1) (v := en.key) hi
            exact ⟨t, e⟩
          obtain ⟨t, ek⟩ := hkey
          rw [List.zipWith_cons_cons]
          refine .cons (e := en) ?_ ?_ r2
          · rw [ek]
            exact .of_is (ReprIs.str p.1 t (by
              have := StrLaws.reprText_len p.1 z2
              rw [sizeLine_eq]
              omega)) _ _ _
          · rw [hj]
            cases h0 with
            | cons z _ => exact z
theorem Shw.runs (I : Inv X pins σ H s) (h : Shw H vs d as ts c) : c ≤ sizeLine → ∀ ws : List Value, Vals vs ws → ReprAllK X.prog X.w as s.heap d ws ts := by
  induction h with
  | nil =>
    intro _ ws r
    cases r
    exact .nil
  | non r ih =>
    intro hc ws rv
    cases rv with
    | cons r1 r2 =>
      cases (show _ = Value.none from r1)
      exact .cons (.of_is ReprIs.none _ _ _) (ih (by omega) _ r2)
  | bl b r ih =>
    intro hc ws rv
    cases rv with
    | cons r1 r2 =>
      cases (show _ = Value.bool b from r1)
      cases b <;> exact .cons (.of_is (ReprIs.bool _) _ _ _) (ih (by omega) _ r2)
  | int i hi r ih =>
    intro hc ws rv
    cases rv with
    | cons r1 r2 =>
      obtain ⟨t, rfl⟩ := r1
      refine .cons (.of_is (ReprIs.int t ?_) _ _ _) (ih (by omega) _ r2)
      by_cases h0 : i.natAbs = 0
      · rw [h0]; decide
      · exact (Nat.log2_lt h0).mpr (Nat.lt_trans hi (by decide +kernel))
  | str x hx hk r ih =>
    intro hc ws rv
    cases rv with
    | cons r1 r2 =>
      obtain ⟨t, rfl⟩ := r1
      refine .cons (.of_is (ReprIs.str x t ?_) _ _ _) (ih (by omega) _ r2)
      have := StrLaws.reprText_len x hk
      rw [sizeLine_eq]
      omega
  | @lst vs d as ts c a xs bs us e h q hn r i1 i2 =>
    intro hc ws rv
    cases rv with
    | cons r1 r2 =>
      cases (show _ = Value.ref a from r1)
      obtain ⟨_, its, n, rx, hg⟩ := (show ObjOk X.prog X.w H s.heap a (.lst xs) from I.hok a _ h)
      have k := i1 (by omega) its rx
      have k2 := (i2 (by omega) _ r2).more_le (as' := (a :: bs) ++ as) (fun b hb => List.mem_append_right _ hb) (Nat.le_refl _)
      refine .cons ?_ k2
      have one : ReprK X.prog X.w (a :: bs) s.heap (d + 1) (.ref a) (listText us) := by
        cases its with
        | nil =>
          cases k
          exact .listEmpty hg rfl rfl
        | cons y l => exact .list hg rfl rfl hn (by simpa using k.length_eq) fun i z hz => k.item i z (by simpa using hz)
      exact one.more fun b hb => List.mem_append_left _ hb
  | @tup vs d as ts c a xs bs us e h q hn r i1 i2 =>
    intro hc ws rv
    cases rv with
    | cons r1 r2 =>
      cases (show _ = Value.ref a from r1)
      obtain ⟨_, its, rx, ob, hg, hcl, n, hd⟩ := (show ObjOk X.prog X.w H s.heap a (.tup xs) from I.hok a _ h)
      have k := i1 (by omega) its rx
      have k2 := (i2 (by omega) _ r2).more_le (as' := (a :: bs) ++ as) (fun b hb => List.mem_append_right _ hb) (Nat.le_refl _)
      exact .cons ((ReprK.tuple hg hcl hd hn k).more fun b hb => List.mem_append_left _ hb) k2
  | @dic vs d as ts c a bs us e ks h hk q hn r i1 i2 =>
    intro hc ws rv
    cases rv with
    | cons r1 r2 =>
      cases (show _ = Value.ref a from r1)
      obtain ⟨_, hsm, vv, rk, ob, es, ep, hg, hex, hd, _, hp, _⟩ := (show ObjOk X.prog X.w H s.heap a (.dK (ks.map fun p => (Sum.inr p.1, p.2))) from I.hok a _ h)
      have k2 := (i2 (by omega) _ r2).more_le (as' := (a :: bs) ++ as) (fun b hb => List.mem_append_right _ hb) (Nat.le_refl _)
      exact .cons ((ReprK.dict hg hex.1 hd hsm hn (entries ks vv es.toList us rk hp hk fun ws hw => i1 (by omega) ws hw)).more fun b hb => List.mem_append_left _ hb) k2
/-- repr(x), x a list -/
theorem call_reprL (hg : X.A.guards = some []) (hu : X.A.units + 64 < cLine) : CallR X (.builtin "repr") (fun vs H Q => ∃ (p : Addr) (d : Nat) (as : List Addr) (t : Str) (c : Nat), vs = [.ref p] ∧ (∃ xs, H p = some (.lst xs)) ∧ Shw H [.ref p] d as [t] c ∧ d ≤ 60 ∧ c ≤ 16000000 ∧ Q (.str t) H) := by
  intro pins s σ H xs us Q I r h
  obtain ⟨p, d, as, t, c, rfl, ⟨xs, hp⟩, hs, hd, hc, q⟩ := h
  obtain ⟨u, rfl, rfl⟩ := vals1 r
  have hz : sizeLine = 16777216 := sizeLine_eq
  have hcost := hs.cost
  rw [piled_cons] at hcost
  obtain ⟨_, its, n, rx, hgt⟩ := (show ObjOk X.prog X.w H s.heap p (.lst xs) from I.hok p _ hp)
  cases hs with
  | @lst _ d0 _ _ _ _ ys bs ts e hp' q1 hn r1 =>
    cases r1
    rw [hp] at hp'
    cases hp'
    have k := q1.runs I (by omega) its rx
    refine call_repr_slot (T := "list") (idr := "list.__repr__") (by omega) ⟨_, hgt, rfl⟩ PySem.F.slot_list_repr.toG ?_
    cases its with
    | nil =>
      cases k
      exact call_list_repr_empty ⟨_, hgt, rfl⟩ hgt rfl ⟨_, _, rfl, .str _, H, I.tok _, ⟨_, rfl⟩, q⟩
    | cons y l =>
      refine call_list_reprK (g := []) hgt rfl rfl hn (by simpa using k.length_eq) (fun i z hz => k.item i z (by simpa using hz)) hg (fun b _ => Clear.nil b) ?_ (fun _ _ e => e) (fun h' u tk hk => ?_) (by omega)
      · show X.A.units + 1 + (d0 + 1) < cLine
        omega
      · exact ⟨_, _, rfl, .str _, H, I.kept (t' := tk) hk, ⟨_, rfl⟩, q⟩
  | tup hp' => rw [hp] at hp'; cases hp'
  | dic ks hp' => rw [hp] at hp'; cases hp'
end
end V5
/-! Promises of defs that are called where nothing is being printed (guards empty). -/
namespace V5
open PySem PySem.Spec PyProof.Rows L2
/-- a def's promise, wherever it is called with nothing being printed -/
structure Ok0 (P : Program) (w : World) (K : PySem.W.Frag) (mg : PySem.Str → Option Value) (base : Heap) (k : Nat)
    (f : Addr) (fd : FuncData) (ps : List PySem.Str) (sp : Sp) : Prop where
  cnt : ∀ vs H Q E, sp vs H Q E → vs.length = ps.length
  go : ∀ (A : Around) (outer : List Env) (s : Shared) (H : Hp) (args : Args) (us : List Value) (vs : List V) (Q : VK) (E : XK),
    A.guards = some [] → Room k A → Env0 P w K mg base A outer s H → BindsTo s fd args (ps.zip us) → Vals vs us → sp vs H Q E →
    codeAny (model P w) A (.call (.ref f) args) (CR CX0 outer P w H s Q E) s
section
variable {P : Program} {w : World} {K : PySem.W.Frag} {mg : PySem.Str → Option Value} {base : Heap} {k : Nat} {f : Addr} {fd : FuncData}
theorem Ok0.mk_of {x qual : PySem.Str} {st : Stmt} {N ps : List PySem.Str} {sp : Sp} (F : Fun K x qual st f fd) (S : FnScope N ps (defScope st))
    (cnt : ∀ vs H Q E, sp vs H Q E → vs.length = ps.length)
    (body : ∀ (cdv : Value) (A : Around) (outer : List Env) (s : Shared) (H : Hp) (vs : List V) (Q : VK) (E : XK), A.guards = some [] →
      Room k (A.deeper (envOfC qual (defScope st) s.heap.objs.size f cdv)) → sp vs H Q E →
      ∃ t, PSs (cxOf CX0 P w K mg base N qual (defScope st) f cdv A outer s H E).nox (defBody st) t ∧ t { nx := fun _ H' => Q .non H', rt := Q } (start N vs) H) :
    Ok0 P w K mg base (k + 1) f fd ps sp := by
  obtain ⟨oc, od, kV, doc, pm, an, cdv, ct, osl, rfl, lk, hcd⟩ := F.ex
  refine ⟨cnt, ?_⟩
  intro A outer s H args us vs Q E hgd hr e0 hb r hsp
  have kept : ∀ b o, base.get? b = some o → s.heap.get? b = some o := fun b o e => (e0.bs b o e).1
  have KX : K.In s.heap := e0.mod.kin.keeps kept
  have par : ∀ y ∈ ps.zip us, (defScope st).names.lookup y.1 = some .local ∨
      ((defScope st).names.lookup y.1 = some .cell ∧ ((cellsFrom (s.heap.objs.size + 1) (defScope st).names []).lookup y.1).isSome = true) := by
    rintro ⟨n, v⟩ hy
    rcases S.par n (List.of_mem_zip hy).1 with q | q
    · exact .inl q
    · exact .inr ⟨q, PySem.W.cellsFrom_some _ _ _ (.inl q)⟩
  have entry := hb
  refine codeAny_call_function hr.depth (KX _ _ lk) rfl S.co S.gen rfl (PySem.W.codeRec_of KX hcd) (entry _ _ _ _ ?_)
  refine wpAny_newFunctionEnv_cells S.kind par ?_
  intro env he s1 x
  subst he
  refine ⟨(e0.mod.nolimit.keeps kept).keeps x.toInCall.keep, codeAny_func ?_⟩
  obtain ⟨t, ht, hq⟩ := body cdv A outer s H vs Q E hgd (hr.deeper _) hsp
  have I := inv_start (CX := CX0) (E := E) S hr.hd e0 (cnt _ _ _ _ hsp) r x
  have fin : ∀ {σ' : L2.St} {s' : Shared} {H' : Hp} {v : V} {u : Value},
      Inv (cxOf CX0 P w K mg base N qual (defScope st) f cdv A outer s H E) [] σ' H' s' → RelV v u → Q v H' → CE outer P w H s Q u s' := by
    intro σ' s' H' v u J rv q
    exact ⟨v, H', J.os, J.bare, J.base, J.hok, rv, q⟩
  refine wpAny_mono (ht.nox.run [] s1 (start N vs) H _ I hq) ?_ (fun e s' hs => hs)
  intro fl s' hs
  cases fl with
  | ret u => obtain ⟨v, σ', H', J, rv, q⟩ := hs; exact fin J rv q
  | next => obtain ⟨σ', H', J, q⟩ := hs; exact fin (v := V.non) (u := Value.none) J rfl q
  | brk => obtain ⟨_, _, _, q⟩ := hs; exact q.elim
  | cont => obtain ⟨_, _, _, q⟩ := hs; exact q.elim
end
section
variable {X : Cx} {k : Nat} {f : Addr} {fd : FuncData} {ps : List PySem.Str} {sp : Sp} {x : PySem.Str} {p pos : Pos} {e : Expr} {es : List Expr} {t : TA}
/-- f(..) of such a def -/
theorem pe_call00 (F : Ok0 X.prog X.w X.K X.mg X.base k f fd ps sp) (hgd : X.A.guards = some []) (hr : Room k X.A) (hg : Gl X x) (hm : X.mg x = some (.ref f)) (hk : PySem.W.keepIn X.K (.ref f) = true)
    (hb : Binds X.K fd ps []) (ha : PA X (e :: es) t) (hdb : (x == ("__debug__" : PySem.Str)) = false := by decide)
    (he : starEach (e :: es) X.env = (false, eval e X.env) :: starEach es X.env := by rfl) (hpl : (backTo pos (starEach es X.env)).any (·.1) = false := by rfl) :
    PE X (.Call (.Name x p) (e :: es) [] pos) (fun σ H Q => t σ H fun vs H1 => sp vs H1 Q E0) := by
  constructor
  intro pins s σ H Q I h
  refine wpAny_Call_Name_kw (ld_glob I hg hm ?_ hdb)
  refine PySem.W.callWith_K (h₀ := X.base) I.ok.mod.kin hk (thn (ha.run pos pins s σ H _ I h) ?_) he hpl
  rintro us s1 ⟨vs, H1, I1, r, q⟩
  refine ⟨I1.kIn, ?_⟩
  have hl : us.length = ps.length := by rw [← r.length]; exact F.cnt _ _ _ _ q
  have hb1 := hb s1 us I1.kIn (by simpa using hl)
  rw [List.append_nil] at hb1
  refine wpAny_call (codeAny_mono (F.go X.A X.stack s1 H1 ⟨us, []⟩ us vs Q E0 hgd hr I1.env0 hb1 r q) ?_)
  intro r' s' hq
  cases r' with
  | error e => exact hq.elim
  | ok fl =>
    cases fl with
    | ret u => exact I1.after hq
    | next => exact hq.elim
    | brk => exact hq.elim
    | cont => exact hq.elim
end
end V5
/-! The law's own call, from a promise that wants empty guards. -/
namespace V5
open PySem PySem.Spec PyProof.Rows L2
section
variable {P : Program} {w : World} {K : PySem.W.Frag} {mg mb : PySem.Str → Option Value} {k : Nat} {fa a : Addr} {fd : FuncData} {x : PySem.Str} {sp : Sp} {s₁ : Shared} {vs : List Value} {ns : List Int}
/-- from an abstract heap that tracks at most the script -/
theorem law_core {H : Hp} (KX : K.In s₁.heap) (hns : s₁.heap.Ns mainGlobals mg) (hb : s₁.heap.Ns builtinsNs mb) (hbb : ∀ x : PySem.Str, x ≠ "__name__" → mb x = bootBuiltins x) (hlim : s₁.heap.NoLimit) (hg : s₁.gens = #[])
    (ha : s₁.heap.get? a = some { cls := .type "list", data := .seq vs.toArray }) (hr : Room k callerA)
    (F : ∀ base : Heap, K.In base → base.Ns mainGlobals mg → Ok0 P w K mg base k fa fd [x] sp) (hbind : ∀ (s : Shared) (u : Value), BindsTo s fd ⟨[u], []⟩ [(x, u)])
    (hO : Only H) (hsp : sp [.ref a] H (fun v _ => v = .bl true) fun _ _ _ => False) (hok : HOk P w H s₁.heap) (hA : ∀ b, H b ≠ none → b = a) (hK : H a ≠ none → K.lookup a = none) :
    codeAny (model P w) callerA (.call (.ref fa) ⟨[.ref a], []⟩) (fun r s' => r = .ok (.ret (.bool true)) ∧ OldK s₁.heap s'.heap ∧ s'.os = s₁.os ∧ AllBare s'.gens) s₁ := by
  have dictFree : ∀ {b : Addr} {o : Obj} {es : Array DictEntry} {ep : Nat}, s₁.heap.get? b = some o → o.data = .dict es ep → H b = none := by
    intro b o es ep e d
    rcases Option.eq_none_or_eq_some (H b) with q | ⟨u, q⟩
    · exact q
    · have e' := hA b (by rw [q]; simp)
      rw [e', ha] at e
      cases e
      exact absurd (show Data.seq vs.toArray _ = Data.dict es ep from d) (by simp)
  have ns' : ∀ {b : Addr} {m : PySem.Str → Option Value}, s₁.heap.Ns b m → (hidT s₁.heap H).Ns b m := by
    rintro b m ⟨o, es, ep, e, d, r⟩
    exact ⟨o, es, ep, hidT_get e (dictFree e d), d, r⟩
  have kin : K.In (hidT s₁.heap H) := by
    intro b o e
    refine hidT_get (KX b o e) ?_
    rcases Option.eq_none_or_eq_some (H b) with q | ⟨u, q⟩
    · exact q
    · have e' := hA b (by rw [q]; simp)
      rw [e'] at e q
      rw [hK (by rw [q]; simp)] at e
      cases e
  obtain ⟨mc, l1, l2⟩ := hlim
  have M : Mod K mg (hidT s₁.heap H) := ⟨kin, ns' hns, ⟨mb, ns' hb, hbb⟩, ⟨mc, ns' l1, l2⟩⟩
  have e0 : Env0 P w K mg (hidT s₁.heap H) callerA [] s₁ H :=
    { frames := rfl, mod := M, bs := fun b o e => of_hidT e, bsz := Nat.le_of_eq (hidT_size _ _), funs := trivial, frf := fun b hb => (by cases hb), hok := hok, bare := .of_eq hg }
  refine codeAny_mono ((F _ kin (ns' hns)).go callerA [] s₁ H ⟨[.ref a], []⟩ [.ref a] [.ref a] _ _ rfl hr e0 (hbind s₁ (.ref a)) (.cons rfl .nil) hsp) ?_
  intro r s' h
  cases r with
  | error e => exact h.elim
  | ok fl =>
    cases fl with
    | next => exact h.elim
    | brk => exact h.elim
    | cont => exact h.elim
    | ret u =>
      obtain ⟨v, H', os, bare, un, hok', r', q⟩ := h
      obtain rfl : v = .bl true := q
      obtain rfl : u = Value.bool true := r'
      refine ⟨rfl, OldK.of_keep ?_, os, bare⟩
      intro b o e
      rcases Option.eq_none_or_eq_some (H b) with q | ⟨u, q⟩
      · exact un.keep b o e q (by intro z; cases z) (by simp)
      · rcases hO b with z | ⟨ob, xs, z⟩
        · rw [q] at z; cases z
        · have y1 := (hok b _ z).1
          have y2 := (hok' b _ (un.frzs b ob _ z)).1
          rw [e] at y1
          cases y1
          exact y2
theorem law_end (KX : K.In s₁.heap) (hns : s₁.heap.Ns mainGlobals mg) (hb : s₁.heap.Ns builtinsNs mb) (hbb : ∀ x : PySem.Str, x ≠ "__name__" → mb x = bootBuiltins x) (hlim : s₁.heap.NoLimit) (hg : s₁.gens = #[])
    (ha : s₁.heap.get? a = some { cls := .type "list", data := .seq vs.toArray }) (hi : IntsAre vs ns) (hl : ns.length ≤ sizeLine) (hr : Room k callerA)
    (F : ∀ base : Heap, K.In base → base.Ns mainGlobals mg → Ok0 P w K mg base k fa fd [x] sp) (hbind : ∀ (s : Shared) (u : Value), BindsTo s fd ⟨[u], []⟩ [(x, u)])
    (hsp : ∀ H : Hp, Only H → SqL K H a (ns.map V.int) → sp [.ref a] H (fun v _ => v = .bl true) fun _ _ _ => False) :
    codeAny (model P w) callerA (.call (.ref fa) ⟨[.ref a], []⟩) (fun r s' => r = .ok (.ret (.bool true)) ∧ OldK s₁.heap s'.heap ∧ s'.os = s₁.os ∧ AllBare s'.gens) s₁ := by
  have rv := vals_ints hi
  rcases Option.eq_none_or_eq_some (K.lookup a) with hk | ⟨o, hk⟩
  · let ob : Obj := { cls := .type "list", data := .seq vs.toArray }
    let H : Hp := fun b => if b = a then some (.frz ob (.lst (ns.map V.int))) else none
    have at_ : ∀ b, b = a → H b = some (.frz ob (.lst (ns.map V.int))) := fun b e => if_pos e
    have off : ∀ b, b ≠ a → H b = none := fun b e => if_neg e
    refine law_core (H := H) KX hns hb hbb hlim hg ha hr F hbind ?_ (hsp H ?_ (.inl (.inr ⟨ob, at_ a rfl⟩))) ?_ ?_ (fun _ => hk)
    · intro b
      by_cases e : b = a
      · exact .inr ⟨_, _, at_ b e⟩
      · exact .inl (off b e)
    · intro b
      by_cases e : b = a
      · exact .inr ⟨_, _, at_ b e⟩
      · exact .inl (off b e)
    · intro b u z
      by_cases e : b = a
      · rw [at_ b e] at z
        cases z
        subst e
        exact ⟨ha, by rw [List.length_map]; exact hl, vs, _, rv, ha⟩
      · rw [off b e] at z
        cases z
    · intro b z
      by_cases e : b = a
      · exact e
      · exact absurd (off b e) z
  · have e := KX a o hk
    rw [ha] at e
    cases e
    have lv : vs.length ≤ sizeLine := by rw [hi.length]; exact hl
    refine law_core (H := fun _ => none) KX hns hb hbb hlim hg ha hr F hbind (fun _ => .inl rfl) (hsp _ (fun _ => .inl rfl) (.inr ⟨_, vs.toArray, _, hk, rfl, rfl, rfl, by simpa using lv, by simpa using rv⟩)) ?_ (fun b z => absurd rfl z) (fun z => absurd rfl z)
    intro b u z
    cases z
end
/-- the end of a law whose promise wants empty guards -/
theorem walk_of0 {l : PySem.W.OpenLaw} {n k : Nat} {q : Program} {loose : List PySem.Str} {XP : (PySem.Str → Option Value) → Heap → Prop} {YP : World → Heap → Prop} {d : DefRec} {K : Params → PySem.W.Frag} {sp : PySem.W.Frag → Sp} {x : PySem.Str}
    (hn : l.most = some n) (hn2 : n ≤ sizeLine) (hdf : d.params.defaults = []) (hr : Room k callerA) (hY : ∀ (w : World) (h : Heap), YP w h → (K w.params).In h)
    (F : ∀ (w : World) (mg : PySem.Str → Option Value) (fa : Addr) (h : Heap), (K w.params).In h → h.Ns mainGlobals mg → mg d.name = some (.ref fa) →
      ∃ fd : FuncData, (∀ (s : Shared) (u : Value), BindsTo s fd ⟨[u], []⟩ [(x, u)]) ∧ ∀ base : Heap, (K w.params).In base → base.Ns mainGlobals mg → Ok0 l.prog w (K w.params) mg base k fa fd [x] (sp (K w.params)))
    (hsp : ∀ (K : PySem.W.Frag) (H : Hp) (a : Addr) (ns : List Int), ns.length ≤ n → Only H → SqL K H a (ns.map V.int) → sp K [.ref a] H (fun v _ => v = .bl true) fun _ _ _ => False) :
    PySem.W.WalkO q loose XP YP l.row.toRowW d [] (fun f vs => PySem.call f vs) := by
  refine Att.attach_call hn hdf ?_
  intro w s₀ s₁ mg mb fa o pm cd doc a vs ns G Y ho hd hcd hmg hobj hints hlen hg
  obtain ⟨fd, hb, hF⟩ := F w mg fa _ (hY w _ Y) G.T.g hmg
  exact law_end (hY w _ Y) G.T.g G.T.b G.T.builtins G.T.nolimit hg hobj hints (Nat.le_trans hlen hn2) hr hF hb (fun H hO hS => hsp _ H a ns hlen hO hS)
end V5
/-! Lists read by place for +=, things turned about, tuples held against (). -/
namespace V5
open PySem PySem.Spec PyProof.Rows L2
section
variable {X : Cx}
/-- xs[i], read for xs[i] op= e -/
theorem pget_lst : PGet X (fun o i H Q => ∃ (p : Addr) (xs : List V) (k : Int) (v : V), o = .ref p ∧ i = .int k ∧ H p = some (.lst xs) ∧ 0 ≤ k ∧ k < 2 ^ 63 ∧ xs[k.toNat]? = some v ∧ Q v H) := by
  intro pins s σ H o i ov iv Q I ro ri h
  obtain ⟨p, xs, k, v, rfl, rfl, hp, h0, h1, hv, q⟩ := h
  cases (show ov = Value.ref p from ro)
  obtain ⟨t, rfl⟩ := ri
  obtain ⟨its, r, ht, hz⟩ := I.list (.inl (.inl hp))
  obtain ⟨u, hu, ru⟩ := r.get hv
  exact wpAny_getItem_list ht.isList h0 h1 (by simpa using hu) ⟨v, H, I, ru, q⟩
theorem rev_bounds (n : Nat) : Builtin.Slice.sliceAdjust none none (-1) (n : Int) = ((n : Int) - 1, -1) := by
  unfold Builtin.Slice.sliceAdjust
  simp
theorem rev_places (n : Nat) : Builtin.Slice.slicePlaces ((n : Int) - 1) (-1) (-1) = n := by
  unfold Builtin.Slice.slicePlaces
  have h1 : ¬ ((-1 : Int) > 0) := by omega
  simp only [h1, if_false, Int.neg_neg, Int.ediv_one]
  split <;> omega
theorem mem_picks {α : Type} {xs : Array α} {l : List Nat} {y : α} (h : y ∈ l.filterMap (xs[·]?)) : y ∈ xs.toList := by
  obtain ⟨i, _, e⟩ := List.mem_filterMap.mp h
  rw [← Array.getElem?_toList] at e
  exact List.mem_of_getElem? e
theorem tup_rev {prog : Program} {w : World} {A : Around} {E : Value → Shared → Prop} {s : Shared} {t sl : Addr} {items : Array Value} {k : Tok} {Q : Value → Shared → Prop} (ht : IsTup s.heap t items) (hs : s.heap.IsSliceOf sl .none .none (.int (-1) k))
    (h : ∀ ys : List Value, (∀ y ∈ ys, y ∈ items.toList) → ys.length ≤ items.size → Q (.ref s.heap.objs.size) { s with heap := s.heap.push { cls := .type "tuple", data := .seq ys.toArray } })
    (hsz : items.size ≤ sizeLine) : wpAny (model prog w) A (getItem (.ref t) (.ref sl)) Q E s := by
  obtain ⟨os, hos, hcs, hds⟩ := id hs
  have hTs : s.TypeIs (.ref sl) "slice" := ⟨os, hos, hcs⟩
  let ys : List Value := (List.range items.size).filterMap fun (m : Nat) => items[(((items.size : Int) - 1) + (m : Int) * (-1)).toNat]?
  have m1 : ∀ y ∈ ys, y ∈ items.toList := fun y hy => by
    obtain ⟨i, _, e⟩ := List.mem_filterMap.mp hy
    rw [← Array.getElem?_toList] at e
    exact List.mem_of_getElem? e
  have m2 : ys.length ≤ items.size := Nat.le_trans (List.length_filterMap_le _ _) (by rw [List.length_range]; exact Nat.le_refl _)
  have hq := h ys m1 m2
  have fit : sizeOk (.seq ys.toArray) := by
    show ys.toArray.size ≤ sizeLine
    rw [List.size_toArray]
    omega
  unfold getItem
  try with_reducible refine wpAny_holding ?_
  first | refine wpAny_bind (wpAny_pure ?_) | skip
  refine wpAny_bind (wpAny_sequenceKey ht.typeIs (by decide) ?_)
  refine wpAny_bind (wpAny_callSpecial?_slot (name := PySem.Str.ofString "__getitem__") ht.typeIs PyProof.Rows.slot_tuple_getitem (wpAny_call_entry PyProof.Rows.slot_tuple_getitem ht.typeIs entry_tuple_getitem ?_ (args_tuple_getitem _ _)))
  show wpAny _ _ (Builtin.Tuple.tupleItemsOf (.ref t) >>= _) _ _ s
  refine wpAny_bind (tupleItemsOf_ ht (wpAny_bind (wpAny_typeOf hTs ?_)))
  rw [if_pos (by decide)]
  have applied : ∀ {Q' : Int × Int × Nat → Shared → Prop}, Q' ((items.size : Int) - 1, -1, items.size) s → ∀ {E' : Value → Shared → Prop} {A' : Around}, wpAny (model prog w) A' (Builtin.Slice.sliceApplied (.ref sl) (pure (items.size : Int))) Q' E' s := by
    intro Q' hq' E' A'
    unfold Builtin.Slice.sliceApplied Builtin.Slice.sliceFields
    refine wpAny_bind (wpAny_bind (wpAny_field hos hds (x := .none) rfl (wpAny_bind (wpAny_field hos hds (x := .none) rfl (wpAny_bind (wpAny_field hos hds (x := .int (-1) k) rfl (wpAny_pure ?_)))))))
    refine wpAny_bind (slicePart_int ?_)
    show wpAny _ _ (if ((-1 : Int) == 0) = true then _ else _) _ _ s
    rw [if_neg (by decide)]
    refine wpAny_bind (slicePart_none (wpAny_bind (slicePart_none (wpAny_bind (wpAny_pure ?_)))))
    show wpAny _ _ (match Builtin.Slice.sliceAdjust none none (-1) (items.size : Int) with | (lo, hi) => pure (lo, (-1 : Int), Builtin.Slice.slicePlaces lo hi (-1))) _ _ s
    rw [rev_bounds]
    show wpAny _ _ (pure ((items.size : Int) - 1, (-1 : Int), Builtin.Slice.slicePlaces ((items.size : Int) - 1) (-1) (-1))) _ _ s
    rw [rev_places]
    exact wpAny_pure hq'
  refine wpAny_bind (applied ?_)
  have no : ¬ ((((items.size : Int) - 1) == 0 && (-1 : Int) == 1 && items.size == items.size) = true) := by
    intro q
    rw [Bool.and_eq_true, Bool.and_eq_true] at q
    exact absurd q.1.2 (by decide)
  show wpAny _ _ (if (((items.size : Int) - 1) == 0 && (-1 : Int) == 1 && items.size == items.size) = true then _ else _) _ _ s
  rw [if_neg no]
  first
    | exact wpAny_bind (m := Builtin.Tuple.tupleExact _) (wpAny_newObj_type (wpAny_pure ⟨_, rfl, wpAny_pure hq⟩) fit)
    | exact wpAny_bind (m := Builtin.Tuple.tupleExact _) (wpAny_newObj_type (wpAny_bind (wpAny_pure (wpAny_pure ⟨_, rfl, wpAny_pure hq⟩))) fit)
    | exact wpAny_bind (wpAny_bind (m := Builtin.Tuple.tupleExact _) (wpAny_newObj_type (wpAny_pure (wpAny_pure ⟨_, rfl, wpAny_pure hq⟩)) fit))
    | exact wpAny_bind (wpAny_bind (m := Builtin.Tuple.tupleExact _) (wpAny_newObj_type (wpAny_pure ⟨_, rfl, wpAny_pure hq⟩) fit))
/-- t == () -/
theorem op_eqT0 (hu : X.A.units < cLine) : OpR X (compareOp .Eq) (fun x y H Q => ∃ (a b : Addr) (xs : List V), x = .ref a ∧ y = .ref b ∧ SqT X.K H a xs ∧ SqT X.K H b [] ∧ Q (.bl xs.isEmpty) H) := by
  intro pins s σ H x y v u Q I rx ry h
  obtain ⟨a, b, xs, rfl, rfl, ha, hb, q⟩ := h
  cases (show v = Value.ref a from rx)
  cases (show u = Value.ref b from ry)
  obtain ⟨i1, r1, p1, _⟩ := I.tuple ha
  obtain ⟨i2, r2, p2, _⟩ := I.tuple hb
  cases r2
  refine SeqAt.eq_tupleAt (e := fun _ => true) p1 p2 hu (fun j _ h2 => absurd h2 (Nat.not_lt_zero j)) ?_
  refine ⟨.bl xs.isEmpty, H, I, ?_, q⟩
  cases r1 with
  | nil => rfl
  | cons c d => simp [L2.RelV]
theorem cut_mem {z : PySem.Str} {lo hi : Option Int} {k : Nat} (h : k ∈ (cutS z lo hi).cps.toList) : k ∈ z.cps.toList := by
  have h' : k ∈ (z.cps.toList.drop (HT.sIx z.length 0 lo)).take (HT.sIx z.length z.length hi - HT.sIx z.length 0 lo) := h
  exact List.mem_of_mem_drop (List.mem_of_mem_take h')
/-- x[::-1], x a text or a tuple: some arrangement of its items -/
theorem pe_rev {e : Expr} {te : TE} {k : Nat} {p1 p2 p3 pos : Pos} (he : PE X e te) : PE X (.Subscript e (.Slice none none (some (.UnaryOp .USub (.Constant (.int 1) k p1) p2)) p3) pos)
    (fun σ H Q => te σ H fun x H1 => (∃ z, x = .str z ∧ z.length ≤ sizeLine ∧ ∀ y : PySem.Str, y.length ≤ z.length → (∀ k ∈ y.cps.toList, k ∈ z.cps.toList) → Q (.str y) H1) ∨
      (∃ a xs, x = .ref a ∧ SqT X.K H1 a xs ∧ ∀ p ys, H1 p = none → (∀ y ∈ ys, y ∈ xs) → ys.length ≤ xs.length → Q (.ref p) (upd H1 p (.tup ys)))) := by
  constructor
  intro pins s σ H Q I h
  refine Subscript_ (thn (he.run pins s σ H _ I h) ?_)
  rintro v s1 ⟨x, H1, I1, r1, q1⟩
  have hst : PO X (some (.UnaryOp .USub (.Constant (.int 1) k p1) p2)) (tPart (tUn (rU fun i => .int (-i)) (tC (.int 1)))) := po_some (pe_un un_neg pe_int)
  refine wpAny_Slice (thn (po_none.run pins s1 σ H1 (fun o H2 => o = none ∧ H2 = H1) I1 ⟨rfl, rfl⟩) ?_)
  rintro vl s2 ⟨l, H2, I2, pl, rfl, rfl⟩
  refine thn (po_none.run pins s2 σ H2 (fun o H3 => o = none ∧ H3 = H2) I2 ⟨rfl, rfl⟩) ?_
  rintro vu s3 ⟨u, H3, I3, pu, rfl, rfl⟩
  refine thn (hst.run pins s3 σ H3 (fun o H4 => o = some (-1) ∧ H4 = H3) I3 ⟨1, rfl, -1, rfl, rfl, rfl⟩) ?_
  rintro vs s4 ⟨o, H4, I4, ps, rfl, rfl⟩
  cases pl
  cases pu
  obtain ⟨tk, rfl⟩ : ∃ tk, vs = .int (-1) tk := by cases ps with | int i t => exact ⟨t, rfl⟩
  have I5 : Inv X pins σ H4 { s4 with heap := s4.heap.push { cls := .type "slice", data := .fields #[Value.none, Value.none, .int (-1) tk] } } := I4.kept (t' := s4.toks) fun b ob q => Heap.get?_push_of_some _ q
  show wpAny (model X.prog X.w) X.A (subscriptTail e (.Slice none none (some (.UnaryOp .USub (.Constant (.int 1) k p1) p2)) p3) v (.ref s4.heap.objs.size)) (EP X pins σ Q) X.xe _
  rcases q1 with ⟨z, rfl, hz, q⟩ | ⟨a, xs, rfl, hx, q⟩
  · obtain ⟨t, rfl⟩ := r1
    refine tail_any (ops := [.str z t, .ref s4.heap.objs.size]) (typeIs_str _ z t) F.slot_str_getitem.lookup ?_ (by with_unfolding_all rfl)
    refine wpAny_getItem_str_slice (l := none) (u := none) (st := some (-1, tk)) ⟨_, Heap.get?_push_size _ rfl, rfl, rfl⟩ rfl ?_
    let y : PySem.Str := ⟨((slicePicked z none none (some (-1, tk))).filterMap (z.cps[·]?)).toArray⟩
    have e1 : slicePicked z none none (some (-1, tk)) = (List.range z.length).map fun k => z.length - 1 - k := by
      show Builtin.Str.strSliceIndices none none (-1) z.length = _
      unfold Builtin.Str.strSliceIndices
      simp only [show ¬ ((-1 : Int) > 0) by decide, if_false]
      exact PySem.W.krv_sliceRange z.length
    have e2 : y.length ≤ z.length := by
      show (((slicePicked z none none (some (-1, tk))).filterMap (z.cps[·]?)).toArray).size ≤ z.length
      rw [List.size_toArray]
      refine Nat.le_trans (List.length_filterMap_le _ _) ?_
      rw [e1, List.length_map, List.length_range]
      exact Nat.le_refl _
    have e3 : ∀ k ∈ y.cps.toList, k ∈ z.cps.toList := fun k hk => mem_picks hk
    have hq := q y e2 e3
    unfold sliceMade
    rw [if_neg (by intro c; exact absurd (show ((-1 : Int) == 1) = true from (Bool.and_eq_true_iff.mp c).1) (by decide))]
    exact ⟨by show y.length ≤ sizeLine; omega, .str y, H4, I5.tok _, ⟨_, rfl⟩, hq⟩
  · cases (show v = Value.ref a from r1)
    obtain ⟨its, r, ht, hz⟩ := I5.tuple hx
    refine tail_any (ops := [.ref a, .ref s4.heap.objs.size]) ht.typeIs PyProof.Rows.slot_tuple_getitem.lookup ?_ (by with_unfolding_all rfl)
    refine tup_rev ht (Heap.IsSliceOf.new _ _ _ _) (fun ys hy hl => ?_) (by rw [List.size_toArray, ← r.length]; exact hz)
    obtain ⟨zs, rz, hzs⟩ : ∃ zs : List V, Vals zs ys ∧ ∀ y ∈ zs, y ∈ xs := by
      clear hl
      induction ys with
      | nil => exact ⟨[], .nil, fun y hy => by cases hy⟩
      | cons y ys ih =>
        obtain ⟨zs, rz, hzs⟩ := ih fun w hw => hy w (List.mem_cons_of_mem _ hw)
        obtain ⟨j, hj⟩ := List.mem_iff_getElem?.mp (hy y List.mem_cons_self)
        have hj' : its[j]? = some y := by simpa using hj
        rcases Option.eq_none_or_eq_some (xs[j]?) with n | ⟨x, n⟩
        · have := r.none_of n
          rw [this] at hj'; cases hj'
        · obtain ⟨u, hu, ru⟩ := r.get n
          rw [hj'] at hu
          cases hu
          exact ⟨x :: zs, .cons ru rz, fun w hw => by
            rcases List.mem_cons.mp hw with e | e
            · exact e ▸ List.mem_of_getElem? n
            · exact hzs w e⟩
    have hlen : zs.length ≤ xs.length := by
      rw [rz.length, r.length]
      rw [List.size_toArray] at hl
      exact hl
    have hn := I5.hok.fresh (Nat.le_refl _)
    refine ⟨.ref _, _, I5.laid (t' := s4.toks) (o := .tup zs) (fun b ob q => Heap.get?_push_of_some _ q) (Nat.le_refl _) ?_, rfl, q _ zs hn hzs hlen⟩
    exact ⟨by omega, _, rz, IsTup.new _ _⟩
end
end V5
/-! The draws. -/
namespace V5
open PySem PySem.Spec PyProof.Rows L2
def topS (i : Nat) : Stmt := PySem.Challenge.pw_packsworn_k50_changes_of_locks.main.body.getD i (.Pass ⟨0, 0, 0, 0⟩)
abbrev sTake : Stmt := topS 11
abbrev sOne : Stmt := topS 12
theorem scTake : FnScope ["bag", "many", "cell", "stirred", "value", "begin", "second"] ["bag", "many"] (defScope sTake) := ⟨rfl, rfl, rfl, by decide +kernel, rfl, by decide +kernel, by decide +kernel⟩
theorem scOne : FnScope ["bag", "things"] ["bag", "things"] (defScope sOne) := ⟨rfl, rfl, rfl, by decide +kernel, rfl, by decide +kernel, by decide +kernel⟩
/-- all but b is as it was -/
structure Chb (b : Addr) (H H' : Hp) : Prop where
  app : ∀ a o, a ≠ b → H a = some o → H' a = some o
  fo : ∀ x y z l, H b = some (.lst [x, y, z, l]) → ∃ x y z, H' b = some (.lst [x, y, z, l])
instance {b : Addr} {H H' : Hp} : CoeFun (Chb b H H') (fun _ => ∀ a o, a ≠ b → H a = some o → H' a = some o) := ⟨Chb.app⟩
theorem Chb.refl {b : Addr} {H : Hp} : Chb b H H := ⟨fun _ _ _ h => h, fun _ _ _ _ h => ⟨_, _, _, h⟩⟩
theorem Chb.trans {b : Addr} {H H1 H2 : Hp} (x : Chb b H H1) (y : Chb b H1 H2) : Chb b H H2 := ⟨fun a o n h => y.app a o n (x.app a o n h), fun p q r l h => by
  obtain ⟨_, _, _, h1⟩ := x.fo p q r l h
  exact y.fo _ _ _ _ h1⟩
theorem Chb.new {b p : Addr} {o : HO} {H : Hp} (h : H p = none) : Chb b H (upd H p o) := ⟨fun a u _ e => by rw [upd_ne (ne_of_none e h)]; exact e, fun x y z l e => ⟨x, y, z, by rw [upd_ne (ne_of_none e h)]; exact e⟩⟩
theorem Chb.set {b : Addr} {x y z l x' y' z' : V} {H : Hp} (h : H b = some (.lst [x, y, z, l])) : Chb b H (upd H b (.lst [x', y', z', l])) := ⟨fun a u n e => by rw [upd_ne n]; exact e, fun p q r m e => by
  rw [h] at e
  cases e
  exact ⟨_, _, _, upd_same⟩⟩
theorem Chb.same {b : Addr} {H H' : Hp} (h : ∀ a o, H a = some o → H' a = some o) : Chb b H H' := ⟨fun a o _ e => h a o e, fun x y z l e => ⟨x, y, z, h _ _ e⟩⟩
theorem new_ne {H : Hp} {a p : Addr} {o u : HO} (ha : H a = some o) (hp : H p = none) : (upd H p u) a = some o := by rw [upd_ne (ne_of_none ha hp)]; exact ha
theorem new_same {H : Hp} {p : Addr} {o : HO} (h : H p = none) : Same H (upd H p o) := fun a u e => new_ne e h
/-- the bag at b -/
def Bag (H : Hp) (b : Addr) : Prop := ∃ (n m k : Int) (l : Addr) (cs : List Int), H b = some (.lst [.int n, .int m, .int k, .ref l]) ∧ H l = some (.lst (cs.map V.int)) ∧ l ≠ b ∧ 0 ≤ n ∧ 0 ≤ m ∧ m < 2147483647 ∧ cs.length ≤ 63 ∧ ∀ c ∈ cs, 0 ≤ c
theorem head_int {cs : List Int} (hc : ∀ c ∈ cs, 0 ≤ c) (lo hi : Option Int) : ∃ c : Int, 0 ≤ c ∧ atI (cutV (cs.map V.int) lo hi ++ [.int 0]) 0 = some (.int c) := by
  have sub : ∀ v ∈ cutV (cs.map V.int) lo hi, ∃ c, 0 ≤ c ∧ v = .int c := fun v hv => by
    have h1 := List.mem_of_mem_drop (List.mem_of_mem_take hv)
    obtain ⟨c, hc', e⟩ := List.mem_map.mp h1
    exact ⟨c, hc c hc', e.symm⟩
  generalize cutV (cs.map V.int) lo hi = zs at sub
  cases zs with
  | nil => exact ⟨0, by omega, rfl⟩
  | cons v zs =>
    obtain ⟨c, h0, rfl⟩ := sub v List.mem_cons_self
    exact ⟨c, h0, atI_nat (j := 0) rfl⟩
section
variable {P : Program} {w : World} {K : PySem.W.Frag} {mg : PySem.Str → Option Value} {base : Heap}
def spTake : Sp := fun vs H Q _ => ∃ (b : Addr) (many : Int), vs = [.ref b, .int many] ∧ Bag H b ∧ 0 < many ∧ many < 1073741824 ∧ ∀ H' v, Chb b H H' → Bag H' b → 0 ≤ v → v < many → Q (.int v) H'
theorem ok_take {f : Addr} {fd : FuncData} {k : Nat} (F : Fun K "_law_take" "_law_take" sTake f fd) (mI : mg "int" = none) : FnOk P w K mg base CX0 (k + 1) f fd ["bag", "many"] spTake := by
  refine F.ok scTake (fun vs H Q E h => ?_) (fun cdv A outer s H vs Q E hr h => ?_)
  · obtain ⟨b, many, rfl, _⟩ := h
    rfl
  · obtain ⟨b, many, rfl, hB, hm0, hm1, q⟩ := h
    refine ⟨_, C8.pss_cut (ps_if (pt_cmpR op_eq (pe_ix ix_list (pv 0) pe_int (fun _ _ => rfl)) pe_int (nomark _))
        (pss_cons (ps_set (i := 2) scTake.nd rfl (.inl rfl) (pe_ix ix_list (pe_op op_cat (pe_slice sl_list (pe_ix ix_list (pv 0) pe_int (fun _ _ => rfl)) (po_some (pe_ix ix_list (pv 0) pe_int (fun _ _ => rfl))) po_none) (pe_lst (pa_cons pe_int pa_nil))) pe_int (fun _ _ => rfl)))
        (pss_cons (ps_augS (pv 0) pe_int pget_lst pe_int ip_add set_list)
        (C8.pss_cut (ps_if (pt_cmpR op_ge (pv 2) (pe_op op_pow pe_int pe_int) (nomark _)) (pss_one (ps_asg (pv 2) (pg_sub (pv 0) pe_int set_list))) pss_nil)
        (pss_cons (ps_set (i := 3) scTake.nd rfl (.inl rfl) (pe_op op_add (pe_op op_add (pe_op op_mul (pe_ix ix_list (pv 0) pe_int (fun _ _ => rfl)) pe_int) (pe_op op_mod (pe_callTy call_int1 (by rfl) mI (by decide +kernel) (pa_cons (pv 2) pa_nil)) pe_int)) (pe_op op_mul pe_int (pe_ix ix_list (pv 0) pe_int (fun _ _ => rfl)))))
        (pss_one (ps_asg (pe_op op_mod (pe_callTy call_int1 (by rfl) mI (by decide +kernel) (pa_cons (pv 3) pa_nil)) pe_int) (pg_sub (pv 0) pe_int set_list)))))))
        pss_nil)
      (pss_cons (ps_if (pt_cmpR op_gt (pe_ix ix_list (pv 0) pe_int (fun _ _ => rfl)) pe_int (nomark _))
        (pss_cons (ps_set (i := 4) scTake.nd rfl (.inl rfl) (pe_op op_mod (pe_callTy call_int1 (by rfl) mI (by decide +kernel) (pa_cons (pe_ix ix_list (pv 0) pe_int (fun _ _ => rfl)) pa_nil)) (pv 1)))
        (pss_cons (ps_asg (pe_op op_fdiv (pe_callTy call_int1 (by rfl) mI (by decide +kernel) (pa_cons (pe_ix ix_list (pv 0) pe_int (fun _ _ => rfl)) pa_nil)) (pv 1)) (pg_sub (pv 0) pe_int set_list))
        (pss_one (ps_ret (pv 4)))))
        pss_nil)
      (pss_cons (ps_set (i := 5) scTake.nd rfl (.inl rfl) (pe_op op_mod (pe_callTy call_int1 (by rfl) mI (by decide +kernel) (pa_cons (pe_op op_mul (pe_op op_add (pe_ix ix_list (pv 0) pe_int (fun _ _ => rfl)) pe_int) pe_int) pa_nil)) pe_int))
      (pss_cons (ps_set (i := 6) scTake.nd rfl (.inl rfl) (pe_op op_mod (pe_callTy call_int1 (by rfl) mI (by decide +kernel) (pa_cons (pe_op op_mul (pe_op op_mod (pe_callTy call_int1 (by rfl) mI (by decide +kernel) (pa_cons (pe_op op_mul (pv 5) (pv 5)) pa_nil)) pe_int) pe_int) pa_nil)) pe_int))
      (pss_one (ps_ret (pe_op op_mod (pe_callTy call_int1 (by rfl) mI (by decide +kernel) (pa_cons (pe_op op_fdiv (pv 6) pe_int) pa_nil)) (pv 1))))))), ?_⟩
    obtain ⟨n, m, k, l, cs, hb, hl, hne, h0, h1, h2, h3, hcs⟩ := hB
    refine ⟨fun σ' H' => ∃ y2 y3, σ' = [some (.ref b), some (.int many), y2, y3, none, none, none] ∧ Chb b H H' ∧ Bag H' b, ?_, fun σ' H' hM => ?_⟩
    · refine ⟨.ref b, rfl, b, _, 0, .int n, rfl, rfl, .inl (.inl hb), rfl, rfl, _, rfl, ite2 (fun e => ?_) (fun e => ?_)⟩
      · obtain ⟨c, hc0, hc⟩ := head_int hcs (some k) none
        refine ⟨.ref b, rfl, b, _, 3, .ref l, rfl, rfl, .inl (.inl hb), rfl, .ref b, rfl, b, _, 2, .int k, rfl, rfl, .inl (.inl hb), rfl, k, rfl, l, _, rfl, .inl (.inl hl), fun p np => ⟨by show 1 ≤ sizeLine; decide, fun o no => ?_⟩⟩
        refine ⟨p, o, _, _, rfl, rfl, new_ne upd_same no, upd_same, ?_, fun r nr => ?_⟩
        · have := cutV_length (cs.map V.int) (some k) none
          rw [List.length_map] at this
          rw [sizeLine_eq]
          show _ + 1 ≤ _
          omega
        · refine ⟨r, _, 0, .int c, rfl, rfl, .inl (.inl upd_same), hc, ?_⟩
          generalize hH3 : upd (upd (upd H p _) o _) r _ = H3
          have c3 : Same H H3 := by rw [← hH3]; exact ((new_same np).trans (new_same no)).trans (new_same nr)
          have hb3 := c3 _ _ hb
          refine ⟨.ref b, rfl, b, _, 2, .int k, rfl, rfl, hb3, by decide, by decide, rfl, k, 1, rfl, rfl, b, _, 2, 2, rfl, rfl, hb3, rfl, ?_⟩
          refine ⟨fun σ' H' => σ' = [some (.ref b), some (.int many), some (.int c), none, none, none, none] ∧ Chb b H H' ∧ ∃ n', 0 ≤ n' ∧ H' b = some (.lst [.int n', .int m, .int (k + 1), .ref l]), ?_, fun σ' H' hM => ?_⟩
          · refine ⟨_, rfl, 10, 18, rfl, rfl, ⟨by decide, by decide, by decide⟩, c, _, rfl, rfl, _, rfl, ite2 (fun e2 => ?_) (fun e2 => ?_)⟩
            · exact ⟨_, rfl, .ref b, rfl, b, _, 0, 0, rfl, rfl, upd_same, rfl, rfl, ((Chb.same c3).trans (Chb.set hb3)).trans (Chb.set upd_same), c, hc0, upd_same⟩
            · exact ⟨rfl, (Chb.same c3).trans (Chb.set hb3), n, h0, upd_same⟩
          · obtain ⟨rfl, hC, n', hn', hb5⟩ := hM
            refine ⟨.ref b, rfl, b, _, 1, .int m, rfl, rfl, .inl (.inl hb5), rfl, m, 48271, rfl, rfl, .inl ⟨by omega, by omega⟩, _, rfl, .inl ⟨c, rfl, c, 2147483647, rfl, rfl, (by show (0 : Int) < 2147483647; decide), _, _, rfl, rfl, .ref b, rfl, b, _, 2, .int (k + 1), rfl, rfl, .inl (.inl hb5), rfl, 7919, k + 1, rfl, rfl, .inl ⟨by decide, by decide⟩, _, _, rfl, rfl, ?_⟩⟩
            refine ⟨_, rfl, .inl ⟨_, rfl, _, 2147483647, rfl, rfl, (by show (0 : Int) < 2147483647; decide), .ref b, rfl, b, _, 1, 1, rfl, rfl, hb5, rfl, ?_⟩⟩
            refine ⟨_, _, rfl, hC.trans (Chb.set hb5), n', _, k + 1, l, cs, upd_same, ?_, hne, hn', Int.emod_nonneg _ (by decide), Int.emod_lt_of_pos _ (by decide), h3, hcs⟩
            rw [upd_ne hne]
            exact hC _ _ hne hl
      · exact ⟨none, none, rfl, Chb.refl, n, m, k, l, cs, hb, hl, hne, h0, h1, h2, h3, hcs⟩
    · clear hb hl hne h0 h1 h2 h3 hcs
      obtain ⟨y2, y3, rfl, hC, n, m, k, l, cs, hb, hl, hne, h0, h1, h2, h3, hcs⟩ := hM
      refine ⟨.ref b, rfl, b, _, 0, .int n, rfl, rfl, .inl (.inl hb), rfl, n, 0, rfl, rfl, _, rfl, ite2 (fun e => ?_) (fun e => ?_)⟩
      · refine ⟨.ref b, rfl, b, _, 0, .int n, rfl, rfl, .inl (.inl hb), rfl, .inl ⟨n, rfl, _, rfl, n, many, rfl, rfl, hm0, ?_⟩⟩
        refine ⟨.ref b, rfl, b, _, 0, .int n, rfl, rfl, .inl (.inl hb), rfl, .inl ⟨n, rfl, _, rfl, n, many, rfl, rfl, ⟨hm0, hm1⟩, .ref b, rfl, b, _, 0, 0, rfl, rfl, hb, rfl, _, rfl, ?_⟩⟩
        refine q _ _ (hC.trans (Chb.set hb)) ⟨n / many, m, k, l, cs, upd_same, ?_, hne, Int.ediv_nonneg h0 (by omega), h1, h2, h3, hcs⟩ (Int.emod_nonneg _ (by omega)) (Int.emod_lt_of_pos _ hm0)
        rw [upd_ne hne]
        exact hl
      · have hB' : Bag H' b := ⟨n, m, k, l, cs, hb, hl, hne, h0, h1, h2, h3, hcs⟩
        refine ⟨.ref b, rfl, b, _, 1, .int m, rfl, rfl, .inl (.inl hb), rfl, m, 1, rfl, rfl, m + 1, 39373, rfl, rfl, .inl ⟨by omega, by omega⟩, .inl ⟨_, rfl, _, 1000000007, rfl, rfl, (by show (0 : Int) < 1000000007; decide), ?_⟩⟩
        have b0 := Int.emod_nonneg ((m + 1) * 39373) (show (1000000007 : Int) ≠ 0 by decide)
        have b1 := Int.emod_lt_of_pos ((m + 1) * 39373) (show (0 : Int) < 1000000007 by decide)
        refine ⟨_, rfl, _, rfl, (m + 1) * 39373 % 1000000007, (m + 1) * 39373 % 1000000007, rfl, rfl, .inl ⟨by omega, by omega⟩, ?_⟩
        generalize (m + 1) * 39373 % 1000000007 = begn at b0 b1
        have d0 := Int.emod_nonneg (begn * begn) (show (998244353 : Int) ≠ 0 by decide)
        have d1 := Int.emod_lt_of_pos (begn * begn) (show (0 : Int) < 998244353 by decide)
        refine .inl ⟨_, rfl, _, 998244353, rfl, rfl, (by show (0 : Int) < 998244353; decide), _, 30011, rfl, rfl, .inl ⟨by omega, by omega⟩, .inl ⟨_, rfl, _, 998244353, rfl, rfl, (by show (0 : Int) < 998244353; decide), ?_⟩⟩
        refine ⟨_, rfl, _, 7, rfl, rfl, ⟨by decide, by decide⟩, .inl ⟨_, rfl, _, rfl, _, many, rfl, rfl, hm0, ?_⟩⟩
        exact q _ _ hC hB' (Int.emod_nonneg _ (by omega)) (Int.emod_lt_of_pos _ hm0)
/-- one of some things -/
def spOne : Sp := fun vs H Q _ => ∃ (b t : Addr) (xs : List V), vs = [.ref b, .ref t] ∧ Bag H b ∧ H t = some (.lst xs) ∧ t ≠ b ∧ xs ≠ [] ∧ xs.length ≤ 1000 ∧ ∀ H' x, Chb b H H' → Bag H' b → x ∈ xs → Q x H'
theorem ok_one {f fT : Addr} {fd fdT : FuncData} {k : Nat} (F : Fun K "_law_one" "_law_one" sOne f fd) (FT : Fun K "_law_take" "_law_take" sTake fT fdT) (bT : Binds K fdT ["bag", "many"] []) (gT : mg "_law_take" = some (.ref fT))
    (mI : mg "int" = none) (mL : mg "len" = none) : FnOk P w K mg base CX0 (k + 2) f fd ["bag", "things"] spOne := by
  have GT : FnOk P w K mg base CX0 (k + 1) fT fdT ["bag", "many"] spTake := ok_take FT mI
  refine F.ok scOne (fun vs H Q E h => ?_) (fun cdv A outer s H vs Q E hr h => ?_)
  · obtain ⟨b, t, xs, rfl, _⟩ := h
    rfl
  · obtain ⟨b, t, xs, rfl, hB, ht, hne, hx, hl, q⟩ := h
    refine ⟨_, pss_one (ps_ret (pe_ix ix_list (pv 1) (pe_call GT hr (by rfl) gT FT.kp bT .nil pass0 (pa_cons (pv 0) (pa_cons (pe_callB call_len_seq (by rfl) mL PySem.boot_len (pa_cons (pv 1) pa_nil)) pa_nil))) (fun _ _ => rfl))), ?_⟩
    have pos : 0 < xs.length := List.length_pos_iff.mpr hx
    refine ⟨.ref t, rfl, .ref b, rfl, .ref t, rfl, t, xs, rfl, .inl (.inl (.inl ht)), b, _, rfl, hB, by omega, by omega, fun H' v hC hB' v0 v1 => ?_⟩
    have hi : v.toNat < xs.length := by omega
    refine ⟨t, xs, v, xs[v.toNat], rfl, rfl, .inl (.inl (hC _ _ hne ht)), ?_, q H' _ hC hB' (List.getElem_mem hi)⟩
    have e : ((v.toNat : Nat) : Int) = v := by omega
    have z := atI_nat (j := v.toNat) (List.getElem?_eq_getElem hi)
    rw [e] at z
    exact z
end
end V5
/-! Values that are drawn: what they print, what they are, apart from the bag at b. -/
namespace V5
open PySem PySem.Spec PyProof.Rows L2
section
variable {X : Cx} {e : Expr}
/-- a test, what holds behind it said once -/
theorem pt_mid {t : TT} (h : PT X e t) : PT X e (fun σ H Q => ∃ M : Bool → Hp → Prop, t σ H M ∧ ∀ c H', M c H' → Q c H') := by
  constructor
  intro pins s σ H Q I ⟨M, hm, k⟩
  exact thn (h.run pins s σ H M I hm) fun c s1 ⟨H1, I1, q⟩ => ⟨H1, I1, k c H1 q⟩
theorem pe_mid {t : TE} (h : PE X e t) : PE X e (fun σ H Q => ∃ M : V → Hp → Prop, t σ H M ∧ ∀ x H', M x H' → Q x H') := by
  constructor
  intro pins s σ H Q I ⟨M, hm, k⟩
  exact thn (h.run pins s σ H M I hm) fun c s1 ⟨x, H1, I1, r, q⟩ => ⟨x, H1, I1, r, k x H1 q⟩
end
/-- v prints, at depth d at most, at cost B at most, and b is not met -/
def Pv (b : Addr) (H : Hp) (d B : Nat) (v : V) : Prop := ∃ as t e, Shw H [v] d as [t] e ∧ e ≤ B ∧ b ∉ as
section
variable {b : Addr} {H H' : Hp} {d d' B B' : Nat} {v : V} {xs : List V}
theorem Pv.mono (p : Pv b H d B v) (hd : d ≤ d') (hB : B ≤ B') : Pv b H d' B' v := by
  obtain ⟨as, t, e, q, l, n⟩ := p
  exact ⟨as, t, e, q.up hd, by omega, n⟩
theorem Pv.chg (p : Pv b H d B v) (k : Chb b H H') : Pv b H' d B v := by
  obtain ⟨as, t, e, q, l, n⟩ := p
  exact ⟨as, t, e, q.keep fun a ha o h => k a o (fun z => n (z ▸ ha)) h, l, n⟩
theorem Pv.all : ∀ {vs : List V}, (∀ v ∈ vs, Pv b H d B v) → ∃ as ts e, Shw H vs d as ts e ∧ e ≤ B * vs.length ∧ b ∉ as
  | [], _ => ⟨_, _, _, .nil, Nat.zero_le _, by simp⟩
  | v :: vs, h => by
    obtain ⟨as, t, e, q, l, n⟩ := h v List.mem_cons_self
    obtain ⟨bs, us, f, r, m, o⟩ := Pv.all (vs := vs) fun w hw => h w (List.mem_cons_of_mem _ hw)
    refine ⟨_, _, _, q.cons1 r, ?_, ?_⟩
    · rw [List.length_cons, Nat.mul_succ]
      omega
    · intro z
      rcases List.mem_append.mp z with z | z
      · exact n z
      · exact o z
theorem Pv.each (h : ∃ as ts e, Shw H xs d as ts e ∧ e ≤ B ∧ b ∉ as) : ∀ v ∈ xs, ∃ e, Pv b H d e v ∧ e ≤ B := by
  obtain ⟨as, ts, e, q, l, n⟩ := h
  induction q with
  | nil => intro v hv; cases hv
  | non r ih =>
    intro v hv
    rcases List.mem_cons.mp hv with z | z
    · subst z; exact ⟨_, ⟨_, _, _, Shw.non Shw.nil, Nat.le_refl _, by simp⟩, by omega⟩
    · exact ih (by omega) n v z
  | bl c r ih =>
    intro v hv
    rcases List.mem_cons.mp hv with z | z
    · subst z; exact ⟨_, ⟨_, _, _, Shw.bl c Shw.nil, Nat.le_refl _, by simp⟩, by omega⟩
    · exact ih (by omega) n v z
  | int i hi r ih =>
    intro v hv
    rcases List.mem_cons.mp hv with z | z
    · subst z; exact ⟨_, ⟨_, _, _, Shw.int i hi Shw.nil, Nat.le_refl _, by simp⟩, by clear hi; omega⟩
    · exact ih (by clear hi; omega) n v z
  | str x hx hc r ih =>
    intro v hv
    rcases List.mem_cons.mp hv with z | z
    · subst z; exact ⟨_, ⟨_, _, _, Shw.str x hx hc Shw.nil, Nat.le_refl _, by simp⟩, by omega⟩
    · exact ih (by omega) n v z
  | lst h q hn r i1 i2 =>
    intro v hv
    have n1 := fun z => n (List.mem_append_left _ z)
    have n2 := fun z => n (List.mem_append_right _ z)
    rcases List.mem_cons.mp hv with z | z
    · subst z; exact ⟨_, ⟨_, _, _, Shw.lst h q hn Shw.nil, Nat.le_refl _, by simpa using n1⟩, by omega⟩
    · exact i2 (by omega) n2 v z
  | tup h q hn r i1 i2 =>
    intro v hv
    have n1 := fun z => n (List.mem_append_left _ z)
    have n2 := fun z => n (List.mem_append_right _ z)
    rcases List.mem_cons.mp hv with z | z
    · subst z; exact ⟨_, ⟨_, _, _, Shw.tup h q hn Shw.nil, Nat.le_refl _, by simpa using n1⟩, by omega⟩
    · exact i2 (by omega) n2 v z
  | dic ks h hk q hn r i1 i2 =>
    intro v hv
    have n1 := fun z => n (List.mem_append_left _ z)
    have n2 := fun z => n (List.mem_append_right _ z)
    rcases List.mem_cons.mp hv with z | z
    · subst z; exact ⟨_, ⟨_, _, _, Shw.dic ks h hk q hn Shw.nil, Nat.le_refl _, by simpa using n1⟩, by omega⟩
    · exact i2 (by omega) n2 v z
/-- the items of a tuple that prints -/
theorem Pv.items {a : Addr} (p : Pv b H d B (.ref a)) (h : H a = some (.tup xs)) : a ≠ b ∧ ∀ v ∈ xs, Pv b H d B v := by
  obtain ⟨as, t, e, q, l, n⟩ := p
  cases q with
  | lst h' => rw [h] at h'; cases h'
  | dic ks h' => rw [h] at h'; cases h'
  | @tup _ d0 _ _ _ _ ys bs us f h' q' hn r =>
    cases r
    rw [h] at h'
    cases h'
    refine ⟨fun z => n (by rw [z]; simp), fun v hv => ?_⟩
    obtain ⟨e', p, l'⟩ := Pv.each (b := b) (B := f) ⟨_, _, _, q', Nat.le_refl _, fun z => n (by simp [z])⟩ v hv
    exact p.mono (Nat.le_succ _) (by omega)
theorem ne_new {p : Addr} {o : HO} (hb : H b = some o) (hp : H p = none) : b ≠ p := ne_of_none hb hp
/-- a new tuple -/
theorem Pv.tup_new {p : Addr} {o : HO} (hb : H b = some o) (hp : H p = none) (k : ∀ v ∈ xs, Pv b H d B v) : Pv b (upd H p (.tup xs)) (d + 1) (10 + B * xs.length) (.ref p) := by
  obtain ⟨as, ts, e, q, l, n⟩ := Pv.all k
  refine ⟨_, _, _, .tup upd_same (q.keep fun a _ o h => new_ne h hp) (q.fresh hp) .nil, by omega, ?_⟩
  simp only [List.append_nil, List.mem_cons, not_or]
  exact ⟨ne_new hb hp, n⟩
/-- a new list -/
theorem Pv.lst_new {p : Addr} {o : HO} (hb : H b = some o) (hp : H p = none) (k : ∀ v ∈ xs, Pv b H d B v) : Pv b (upd H p (.lst xs)) (d + 1) (10 + B * xs.length) (.ref p) := by
  obtain ⟨as, ts, e, q, l, n⟩ := Pv.all k
  refine ⟨_, _, _, .lst upd_same (q.keep fun a _ o h => new_ne h hp) (q.fresh hp) .nil, by omega, ?_⟩
  simp only [List.append_nil, List.mem_cons, not_or]
  exact ⟨ne_new hb hp, n⟩
end
/-- a tuple at p of items zs that print -/
structure Tp (b : Addr) (H : Hp) (d B : Nat) (p : Addr) (zs : List V) : Prop where
  at_ : H p = some (.tup zs)
  its : ∀ v ∈ zs, Pv b H d B v
  all : Pv b H (d + 1) (10 + B * zs.length) (.ref p)
  ne : p ≠ b
theorem Tp.chg {b : Addr} {H H' : Hp} {d B : Nat} {p : Addr} {zs : List V} (t : Tp b H d B p zs) (k : Chb b H H') : Tp b H' d B p zs :=
  ⟨k _ _ t.ne t.at_, fun v hv => (t.its v hv).chg k, t.all.chg k, t.ne⟩
theorem Tp.new {b : Addr} {H : Hp} {o : HO} {d B : Nat} {p : Addr} {zs : List V} (hb : H b = some o) (hp : H p = none) (k : ∀ v ∈ zs, Pv b H d B v) : Tp b (upd H p (.tup zs)) d B p zs :=
  ⟨upd_same, fun v hv => (k v hv).chg (Chb.new hp), Pv.tup_new hb hp k, (ne_new hb hp).symm⟩
section
variable {X : Cx}
theorem cut_all {xs : List V} {lo hi : Option Int} (h : HT.sIx xs.length 0 lo = 0 ∧ HT.sIx xs.length xs.length hi = xs.length) : cutV xs lo hi = xs := by
  unfold cutV
  rw [h.1, h.2]
  simp
/-- t[lo:hi] of such a tuple -/
theorem sl_tp (b : Addr) (d B : Nat) : SlR X (fun x lo hi H Q => ∃ a xs o, x = .ref a ∧ H b = some o ∧ Tp b H d B a xs ∧ ∀ H' p, Same H H' → Tp b H' d B p (cutV xs lo hi) → Q (.ref p) H') := by
  intro pins s σ H x v vl vu lo hi sl Q I rx hs pl pu h
  obtain ⟨a, xs, o, rfl, hb, t, q⟩ := h
  refine sl_tupA pins s σ H _ v vl vu lo hi sl Q I rx hs pl pu ⟨a, xs, rfl, .inl (.inl t.at_), fun hw => ?_, fun _ p hp => ?_⟩
  · exact q H a (Same.refl H) (by rw [cut_all hw]; exact t)
  · exact q _ p (new_same hp) (.new hb hp fun v hv => t.its v (List.mem_of_mem_drop (List.mem_of_mem_take hv)))
/-- t + u of such tuples -/
theorem op_cattp (b : Addr) (d B : Nat) : OpR X (binaryOp .Add) (fun x y H Q => ∃ a c xs ys o, x = .ref a ∧ y = .ref c ∧ H b = some o ∧ Tp b H d B a xs ∧ Tp b H d B c ys ∧ xs.length + ys.length ≤ 1000 ∧ ∀ H' p, Same H H' → Tp b H' d B p (xs ++ ys) → Q (.ref p) H') := by
  intro pins s σ H x y v u Q I rx ry h
  obtain ⟨a, c, xs, ys, o, rfl, rfl, hb, t1, t2, hl, q⟩ := h
  refine op_catA pins s σ H _ _ v u Q I rx ry ⟨a, c, xs, ys, rfl, rfl, .inl (.inl t1.at_), .inl (.inl t2.at_), by rw [sizeLine_eq]; omega, fun hx => ?_, fun _ hy => ?_, fun _ _ p hp => ?_⟩
  · subst hx
    exact q H c (Same.refl H) t2
  · subst hy
    exact q H a (Same.refl H) (by rw [List.append_nil]; exact t1)
  · refine q _ p (new_same hp) (.new hb hp fun v hv => ?_)
    rcases List.mem_append.mp hv with z | z
    · exact t1.its v z
    · exact t2.its v z
end
/-- what is drawn from a menu -/
inductive Low (b : Addr) (H : Hp) : V → Prop
  | non : Low b H .non
  | bl (c : Bool) : Low b H (.bl c)
  | int (i : Int) (h : i.natAbs < 10 ^ 50) : Low b H (.int i)
  | str (x : PySem.Str) (h : x.length ≤ 50) (hc : ∀ k ∈ x.cps.toList, k < 16 ^ 8) : Low b H (.str x)
  | lst {a : Addr} {xs : List V} (n : a ≠ b) (h : H a = some (.lst xs)) : Low b H (.ref a)
  | dic {a : Addr} {kvs : List (Key × V)} (n : a ≠ b) (h : H a = some (.dK kvs)) : Low b H (.ref a)
  | tup {a : Addr} {xs : List V} (n : a ≠ b) (h : H a = some (.tup xs)) (hl : xs.length ≤ 4) (k : ∀ v ∈ xs, Low b H v) : Low b H (.ref a)
theorem Low.chg {b : Addr} {H H' : Hp} {v : V} (l : Low b H v) (k : Chb b H H') : Low b H' v := by
  induction l with
  | non => exact .non
  | bl c => exact .bl c
  | int i h => exact .int i h
  | str x h hc => exact .str x h hc
  | lst n h => exact .lst n (k _ _ n h)
  | dic n h => exact .dic n (k _ _ n h)
  | tup n h hl _ ih => exact .tup n (k _ _ n h) hl ih
def isI : V → Bool | .int _ => true | _ => false
def isB : V → Bool | .bl _ => true | _ => false
def isS : V → Bool | .str _ => true | _ => false
theorem kits (K : PySem.W.Frag) : (∀ T ∈ ["NoneType", "bool", "int", "str", "list", "dict", "tuple"], PySem.W.kitOne K (.type T) (.type "int") = some (decide (T = "int" ∨ T = "bool")) ∧ PySem.W.kitOne K (.type T) (.type "bool") = some (decide (T = "bool")) ∧
    PySem.W.kitOne K (.type T) (.type "str") = some (decide (T = "str")) ∧ PySem.W.kitOne K (.type T) (.type "tuple") = some (decide (T = "tuple"))) := by
  intro T hT
  simp only [List.mem_cons, List.mem_nil_iff, or_false, List.not_mem_nil] at hT
  rcases hT with rfl | rfl | rfl | rfl | rfl | rfl | rfl <;> exact ⟨by kernel_rfl, by kernel_rfl, by kernel_rfl, by kernel_rfl⟩
end V5
namespace V5
open PySem PySem.Spec PyProof.Rows L2
abbrev sBag : Stmt := topS 10
theorem scBag : FnScope ["script", "cell"] ["script"] (defScope sBag) := ⟨rfl, rfl, rfl, by decide +kernel, rfl, by decide +kernel, by decide +kernel⟩
/-- of what type a drawn value is -/
theorem Low.ty {b : Addr} {H : Hp} {v : V} (K : PySem.W.Frag) (l : Low b H v) : ∃ T, TyX K H v (.type T) ∧ PySem.W.kitOne K (.type T) (.type "int") = some (isI v || isB v) ∧ PySem.W.kitOne K (.type T) (.type "bool") = some (isB v) ∧
    PySem.W.kitOne K (.type T) (.type "str") = some (isS v) ∧ ∃ c, PySem.W.kitOne K (.type T) (.type "tuple") = some c ∧ (c = true → ∃ a xs, v = .ref a ∧ a ≠ b ∧ H a = some (.tup xs) ∧ xs.length ≤ 4 ∧ ∀ v ∈ xs, Low b H v) := by
  have k := kits K
  cases l with
  | non => obtain ⟨h1, h2, h3, h4⟩ := k "NoneType" (by decide); exact ⟨_, .base .non, h1, h2, h3, _, h4, fun e => absurd e (by decide)⟩
  | bl c => obtain ⟨h1, h2, h3, h4⟩ := k "bool" (by decide); exact ⟨_, .base (.bl c), h1, h2, h3, _, h4, fun e => absurd e (by decide)⟩
  | int i h => obtain ⟨h1, h2, h3, h4⟩ := k "int" (by decide); exact ⟨_, .base (.int i), h1, h2, h3, _, h4, fun e => absurd e (by decide)⟩
  | str x h hc => obtain ⟨h1, h2, h3, h4⟩ := k "str" (by decide); exact ⟨_, .base (.str x), h1, h2, h3, _, h4, fun e => absurd e (by decide)⟩
  | lst n h => obtain ⟨h1, h2, h3, h4⟩ := k "list" (by decide); exact ⟨_, .base (.lst h), h1, h2, h3, _, h4, fun e => absurd e (by decide)⟩
  | dic n h => obtain ⟨h1, h2, h3, h4⟩ := k "dict" (by decide); exact ⟨_, .base (.dK h), h1, h2, h3, _, h4, fun e => absurd e (by decide)⟩
  | tup n h hl hk => obtain ⟨h1, h2, h3, h4⟩ := k "tuple" (by decide); exact ⟨_, .base (.tup h), h1, h2, h3, _, h4, fun _ => ⟨_, _, rfl, n, h, hl, hk⟩⟩
section
variable {P : Program} {w : World} {K : PySem.W.Frag} {mg : PySem.Str → Option Value} {base : Heap}
def spBag (K : PySem.W.Frag) : Sp := fun vs H Q _ => ∃ (a : Addr) (ns : List Int), vs = [.ref a] ∧ SqL K H a (ns.map V.int) ∧ ns.length ≤ 63 ∧ ∀ H' b, Same H H' → H b = none → Bag H' b → Q (.ref b) H'
theorem ok_bag {f : Addr} {fd : FuncData} {k : Nat} (F : Fun K "_law_bag" "_law_bag" sBag f fd) (mA : mg "abs" = none) : FnOk P w K mg base CX0 (k + 1) f fd ["script"] (spBag K) := by
  refine F.ok scBag (fun vs H Q E h => ?_) (fun cdv A outer s H vs Q E hr h => ?_)
  · obtain ⟨a, ns, rfl, _⟩ := h
    rfl
  · obtain ⟨a, ns, rfl, hS, hl, q⟩ := h
    refine ⟨_, pss_one (ps_ret (pe_lst (pa_cons pe_int (pa_cons pe_int (pa_cons pe_int (pa_cons (pe_lc (own := [("cell", 1)]) (g := gName 1) rfl scBag.nd (pi_list (pe_slice sl_list (pv 0) po_none (po_some pe_int))) (blkOk_by (N := ["script", "cell"]) (sc := defScope sBag) (by decide +kernel))
      (fun _ _ _ _ _ => pg_name (i := 1) scBag.nd rfl (Or.inl rfl)) (fun _ _ _ _ _ => pts_nil) (fun _ _ _ _ _ => pe_callB call_abs (by rfl) mA (by decide +kernel) (pa_cons (pv 1) pa_nil))) pa_nil)))))), ?_⟩
    refine ⟨.ref a, rfl, 63, rfl, a, _, rfl, hS, fun p np => ⟨p, rfl, ⟨_, .inl (.inl upd_same)⟩, fun D nD => ?_⟩⟩
    generalize hzs : cutV (ns.map V.int) none (some 63) = zs at nD ⊢
    have hz : zs.length ≤ 63 := by
      rw [← hzs]
      refine Nat.le_trans (cutV_length _ _ _) ?_
      rw [List.length_map]
      exact hl
    have hint : ∀ v ∈ zs, ∃ c, v = V.int c := by
      intro v hv
      rw [← hzs] at hv
      obtain ⟨c, _, e⟩ := List.mem_map.mp (List.mem_of_mem_drop (List.mem_of_mem_take hv))
      exact ⟨c, e.symm⟩
    have pD : p ≠ D := ne_of_none upd_same nD
    have nDH : H D = none := by
      cases z : H D with
      | none => rfl
      | some o =>
        have := new_ne (u := .lst zs) z np
        rw [nD] at this
        cases this
    refine lc_list (K := K) (a := p) (xs := zs) (fun i Hc => ∃ cs : List Int, Hc D = some (.lst (cs.map V.int)) ∧ cs.length = i ∧ (∀ c ∈ cs, 0 ≤ c) ∧ Same H Hc ∧ Hc p = some (.lst zs))
      ⟨[], upd_same, rfl, fun c hc => (by cases hc), (new_same np).trans (new_same nD), new_ne upd_same nD⟩ (fun i Hc _ ⟨cs, _, _, _, _, hp⟩ => .inl (.inl hp)) (fun i x Hc hx ⟨cs, h1, h2, h3, h4, h5⟩ => ?_) (fun Hc ⟨cs, h1, h2, h3, h4, h5⟩ => ?_)
    · obtain ⟨c, rfl⟩ := hint x (List.mem_of_getElem? hx)
      refine ⟨rfl, _, rfl, c, rfl, cs.map V.int, h1, ?_, cs ++ [if c < 0 then -c else c], ?_, ?_, fun z hz => ?_, ?_, ?_⟩
      · have := (List.getElem?_eq_some_iff.mp hx).1
        rw [List.length_map, sizeLine_eq]
        omega
      · rw [upd_same, List.map_append]
        rfl
      · rw [List.length_append, h2]
        rfl
      · rcases List.mem_append.mp hz with e | e
        · exact h3 z e
        · rw [List.mem_singleton] at e
          subst e
          split <;> omega
      · intro y o e
        have : y ≠ D := ne_of_none e nDH
        rw [upd_ne this]
        exact h4 y o e
      · rw [upd_ne pD]
        exact h5
    · refine ⟨by show 4 ≤ sizeLine; decide, fun b nb => q _ b (h4.trans (new_same nb)) ?_ ⟨0, 1234567891, 0, D, cs, upd_same, ?_, ne_of_none h1 nb, by decide, by decide, by decide, by omega, h3⟩⟩
      · cases z : H b with
        | none => rfl
        | some o =>
          have := h4 b o z
          rw [nb] at this
          cases this
      · exact new_ne h1 nb
end
end V5
/-! Values of which it is known what they are; repr of any of them. -/
namespace V5
open PySem PySem.Spec PyProof.Rows L2
/-- v prints, so it is known what it is -/
def Kn (H : Hp) (v : V) : Prop := ∃ d as t c, Shw H [v] d as [t] c
theorem Pv.kn {b : Addr} {H : Hp} {d B : Nat} {v : V} (p : Pv b H d B v) : Kn H v := by
  obtain ⟨as, t, e, q, _⟩ := p
  exact ⟨_, _, _, _, q⟩
theorem Shw.alone {H : Hp} {v : V} {vs : List V} {d : Nat} {as : List Addr} {ts : List PySem.Str} {c : Nat} (h : Shw H vs d as ts c) (hv : v ∈ vs) : Kn H v := by
  obtain ⟨as, t, e, q, _⟩ := h.each v hv
  exact ⟨_, _, _, _, q⟩
/-- what a value is -/
inductive Kind (H : Hp) : V → Prop
  | non : Kind H .non
  | bl (c : Bool) : Kind H (.bl c)
  | int (i : Int) (h : i.natAbs < 10 ^ 60) : Kind H (.int i)
  | str (x : PySem.Str) (h : x.length ≤ 100) (hc : ∀ k ∈ x.cps.toList, k < 16 ^ 8) : Kind H (.str x)
  | lst {a : Addr} {xs : List V} (h : H a = some (.lst xs)) : Kind H (.ref a)
  | dic {a : Addr} {kvs : List (Key × V)} (h : H a = some (.dK kvs)) : Kind H (.ref a)
  | tup {a : Addr} {xs : List V} (h : H a = some (.tup xs)) (k : ∀ v ∈ xs, Kn H v) : Kind H (.ref a)
theorem Kn.kind {H : Hp} {v : V} (k : Kn H v) : Kind H v := by
  obtain ⟨d, as, t, c, h⟩ := k
  generalize hv : [v] = vs at h
  cases h with
  | non r => cases hv; exact .non
  | bl b r => cases hv; exact .bl b
  | int i hi r => cases hv; exact .int i hi
  | str x hx hc r => cases hv; exact .str x hx hc
  | lst h p hn r => cases hv; exact .lst h
  | tup h p hn r => cases hv; exact .tup h fun v hv => p.alone hv
  | dic ks h hk p hn r => cases hv; exact .dic h
theorem Kn.same {H H' : Hp} {v : V} (k : Kn H v) (s : Same H H') : Kn H' v := by
  obtain ⟨d, as, t, c, h⟩ := k
  exact ⟨d, as, t, c, h.keep fun b _ o e => s b o e⟩
/-- of what type it is -/
theorem Kind.ty {H : Hp} {v : V} (K : PySem.W.Frag) (l : Kind H v) : ∃ T, TyX K H v (.type T) ∧ PySem.W.kitOne K (.type T) (.type "int") = some (isI v || isB v) ∧ PySem.W.kitOne K (.type T) (.type "bool") = some (isB v) ∧
    PySem.W.kitOne K (.type T) (.type "str") = some (isS v) ∧ ∃ c, PySem.W.kitOne K (.type T) (.type "tuple") = some c ∧ (c = true → ∃ a xs, v = .ref a ∧ H a = some (.tup xs) ∧ ∀ v ∈ xs, Kn H v) ∧ (c = false → ∀ a xs, v = .ref a → H a ≠ some (.tup xs)) := by
  have k := kits K
  cases l with
  | non => obtain ⟨h1, h2, h3, h4⟩ := k "NoneType" (by decide); exact ⟨_, .base .non, h1, h2, h3, _, h4, fun e => absurd e (by decide), fun _ a xs z => nomatch z⟩
  | bl c => obtain ⟨h1, h2, h3, h4⟩ := k "bool" (by decide); exact ⟨_, .base (.bl c), h1, h2, h3, _, h4, fun e => absurd e (by decide), fun _ a xs z => nomatch z⟩
  | int i h => obtain ⟨h1, h2, h3, h4⟩ := k "int" (by decide); exact ⟨_, .base (.int i), h1, h2, h3, _, h4, fun e => absurd e (by decide), fun _ a xs z => nomatch z⟩
  | str x h hc => obtain ⟨h1, h2, h3, h4⟩ := k "str" (by decide); exact ⟨_, .base (.str x), h1, h2, h3, _, h4, fun e => absurd e (by decide), fun _ a xs z => nomatch z⟩
  | lst h => obtain ⟨h1, h2, h3, h4⟩ := k "list" (by decide); exact ⟨_, .base (.lst h), h1, h2, h3, _, h4, fun e => absurd e (by decide), fun _ a xs z y => by cases z; rw [h] at y; cases y⟩
  | dic h => obtain ⟨h1, h2, h3, h4⟩ := k "dict" (by decide); exact ⟨_, .base (.dK h), h1, h2, h3, _, h4, fun e => absurd e (by decide), fun _ a xs z y => by cases z; rw [h] at y; cases y⟩
  | tup h hk => obtain ⟨h1, h2, h3, h4⟩ := k "tuple" (by decide); exact ⟨_, .base (.tup h), h1, h2, h3, _, h4, fun _ => ⟨_, _, rfl, h, hk⟩, fun e => absurd e (by decide)⟩
section
variable {X : Cx}
/-- repr(x), x of any kind -/
theorem call_reprV (hg : X.A.guards = some []) (hu : X.A.units + 64 < cLine) : CallR X (.builtin "repr") (fun vs H Q => ∃ (v : V) (d : Nat) (as : List Addr) (t : Str) (c : Nat), vs = [v] ∧ Shw H [v] d as [t] c ∧ d ≤ 60 ∧ c ≤ 16000000 ∧ Q (.str t) H) := by
  intro pins s σ H xs us Q I r h
  obtain ⟨v, d, as, t, c, rfl, hs, hd, hc, q⟩ := h
  obtain ⟨u, rfl, r1⟩ := vals1 r
  have hz : sizeLine = 16777216 := sizeLine_eq
  have hcost := hs.cost
  rw [piled_cons] at hcost
  have fin : ∀ tk, EP X pins σ Q (.str t s.toks) { s with toks := tk } := fun tk => ⟨.str _, H, I.tok _, ⟨_, rfl⟩, q⟩
  cases hs with
  | non r2 =>
    cases (show u = Value.none from r1)
    cases r2
    exact PySem.P.repr_of_none (fin _)
  | bl b r2 =>
    cases (show u = Value.bool b from r1)
    cases r2
    cases b <;> exact PySem.P.repr_of_bool (fin _)
  | int i hi r2 =>
    obtain ⟨tk, rfl⟩ := r1
    cases r2
    refine PySem.P.repr_of_int ?_ (fin _)
    by_cases h0 : i.natAbs = 0
    · rw [h0]; decide
    · exact (Nat.log2_lt h0).mpr (Nat.lt_trans hi (by decide +kernel))
  | str x hx hk r2 =>
    obtain ⟨tk, rfl⟩ := r1
    cases r2
    refine PySem.P.repr_of_str (fin _) ?_
    have := StrLaws.reprText_len x hk
    omega
  | @lst _ d0 _ _ _ a ys bs ts e hp q1 hn r2 =>
    cases r2
    cases (show u = Value.ref a from r1)
    obtain ⟨_, its, n, rx, hgt⟩ := (show ObjOk X.prog X.w H s.heap a (.lst ys) from I.hok a _ hp)
    have k := q1.runs I (by omega) its rx
    refine call_repr_slot (T := "list") (idr := "list.__repr__") (by omega) ⟨_, hgt, rfl⟩ PySem.F.slot_list_repr.toG ?_
    cases its with
    | nil =>
      cases k
      exact call_list_repr_empty ⟨_, hgt, rfl⟩ hgt rfl ⟨_, _, rfl, .str _, H, I.tok _, ⟨_, rfl⟩, q⟩
    | cons y l =>
      refine call_list_reprK (g := []) hgt rfl rfl hn (by simpa using k.length_eq) (fun i z hz => k.item i z (by simpa using hz)) hg (fun b _ => Clear.nil b) ?_ (fun _ _ e => e) (fun h' u tk hk => ?_) (by omega)
      · show X.A.units + 1 + (d0 + 1) < cLine
        omega
      · exact ⟨_, _, rfl, .str _, H, I.kept (t' := tk) hk, ⟨_, rfl⟩, q⟩
  | @tup _ d0 _ _ _ a ys bs ts e hp q1 hn r2 =>
    cases r2
    cases (show u = Value.ref a from r1)
    obtain ⟨_, its, rx, ob, hgt, hcl, n, hda⟩ := (show ObjOk X.prog X.w H s.heap a (.tup ys) from I.hok a _ hp)
    have k := q1.runs I (by omega) its rx
    refine call_repr_slot (T := "tuple") (idr := "tuple.__repr__") (by omega) ⟨_, hgt, hcl⟩ PySem.F.slot_tuple_repr ?_
    refine call_tuple_reprK (g := []) hgt hcl hda hn (by simpa using k) hg (fun b _ => Clear.nil b) ?_ (fun _ _ e => e) (fun h' u tk hk => ?_) (by omega)
    · show X.A.units + 1 + (d0 + 1) < cLine
      omega
    · exact ⟨_, _, rfl, .str _, H, I.kept (t' := tk) hk, ⟨_, rfl⟩, q⟩
  | @dic _ d0 _ _ _ a bs ts e ks hp hk q1 hn r2 =>
    cases r2
    cases (show u = Value.ref a from r1)
    obtain ⟨_, hsm, vv, rk, ob, es, ep, hgt, hex, hda, _, hpr, _⟩ := (show ObjOk X.prog X.w H s.heap a (.dK (ks.map fun p => (Sum.inr p.1, p.2))) from I.hok a _ hp)
    refine call_repr_slot (T := "dict") (idr := "dict.__repr__") (by omega) ⟨_, hgt, hex.1⟩ PySem.F.slot_dict_repr ?_
    refine call_dict_reprK (g := []) hgt hex.1 hda hsm hn (entries ks vv es.toList _ rk hpr hk fun ws hw => q1.runs I (by omega) ws hw) hg (fun b _ => Clear.nil b) ?_ (fun _ _ e => e) (fun h' u tk hk => ?_) (by omega)
    · show X.A.units + 1 + (d0 + 1) < cLine
      omega
    · exact ⟨_, _, rfl, .str _, H, I.kept (t' := tk) hk, ⟨_, rfl⟩, q⟩
end
end V5
namespace V5
open PySem PySem.Spec PyProof.Rows L2 TL
abbrev sVersion : Stmt := topS 15
theorem scVersion : FnScope ["bag", "menu", "part"] ["bag"] (defScope sVersion) := ⟨rfl, rfl, rfl, by decide +kernel, rfl, by decide +kernel, by decide +kernel⟩
/-- a version's numbers -/
def Vs (ns : List Int) : Prop := ns.length = 3 ∧ ∀ n ∈ ns, 0 ≤ n ∧ n < 1000000
theorem vs3 {a b c : Int} (ha : 0 ≤ a ∧ a < 1000000) (hb : 0 ≤ b ∧ b < 1000000) (hc : 0 ≤ c ∧ c < 1000000) : Vs [a, b, c] := ⟨rfl, fun n hn => by
  simp only [List.mem_cons, List.not_mem_nil, or_false] at hn
  rcases hn with e | e | e
  · exact e ▸ ha
  · exact e ▸ hb
  · exact e ▸ hc⟩
theorem Bag.same {b : Addr} {H H' : Hp} (B : Bag H b) (s : Same H H') : Bag H' b := by
  obtain ⟨n, m, k, l, cs, hb, hl, r⟩ := B
  exact ⟨n, m, k, l, cs, s _ _ hb, s _ _ hl, r⟩
theorem Bag.lst {b : Addr} {H : Hp} (B : Bag H b) : ∃ o, H b = some o := by
  obtain ⟨n, m, k, l, cs, hb, _⟩ := B
  exact ⟨_, hb⟩
/-- the bag's own list -/
def Own (H : Hp) (b l : Addr) : Prop := ∃ x y z, H b = some (.lst [x, y, z, .ref l])
theorem Bag.own {b : Addr} {H : Hp} (B : Bag H b) : ∃ l cs, Own H b l ∧ H l = some (.lst cs) ∧ l ≠ b := by
  obtain ⟨n, m, k, l, cs, hb, hl, hne, _⟩ := B
  exact ⟨l, _, ⟨_, _, _, hb⟩, hl, hne⟩
theorem Own.chb {b l : Addr} {H H' : Hp} (o : Own H b l) (c : Chb b H H') : Own H' b l := by
  obtain ⟨x, y, z, h⟩ := o
  exact c.fo _ _ _ _ h
/-- another object changed -/
theorem Bag.set {b l r : Addr} {H : Hp} {o : HO} (B : Bag H b) (w : Own H b l) (h1 : r ≠ b) (h2 : r ≠ l) : Bag (upd H r o) b ∧ Own (upd H r o) b l := by
  obtain ⟨n, m, k, l', cs, hb, hl, rest⟩ := B
  obtain ⟨x, y, z, hw⟩ := w
  rw [hb] at hw
  cases hw
  have e1 : upd H r o b = some (.lst [.int n, .int m, .int k, .ref l]) := by rw [upd_ne h1.symm]; exact hb
  have e2 : upd H r o l = some (.lst (cs.map V.int)) := by rw [upd_ne h2.symm]; exact hl
  exact ⟨⟨n, m, k, l, cs, e1, e2, rest⟩, ⟨_, _, _, e1⟩⟩
theorem Chb.put {b r : Addr} {H H' : Hp} {o : HO} (c : Chb b H H') (n : H r = none) (h : r ≠ b) : Chb b H (upd H' r o) := ⟨fun a u ne e => by
  rw [upd_ne (ne_of_none e n)]
  exact c.app a u ne e, fun x y z l e => by
  obtain ⟨p, q, s, e'⟩ := c.fo x y z l e
  exact ⟨p, q, s, by rw [upd_ne h.symm]; exact e'⟩⟩
section
variable {P : Program} {w : World} {K : PySem.W.Frag} {mg : PySem.Str → Option Value} {base : Heap}
def spVersion : Sp := fun vs H Q _ => ∃ b : Addr, vs = [.ref b] ∧ Bag H b ∧ ∀ H' p ns, Chb b H H' → Bag H' b → H' p = some (.tup (ns.map V.int)) → Vs ns → p ≠ b → Q (.ref p) H'
theorem ok_version {f fO fT : Addr} {fd fdO fdT : FuncData} {k : Nat} (F : Fun K "_law_version" "_law_version" sVersion f fd) (FO : Fun K "_law_one" "_law_one" sOne fO fdO) (bO : Binds K fdO ["bag", "things"] []) (gO : mg "_law_one" = some (.ref fO))
    (FT : Fun K "_law_take" "_law_take" sTake fT fdT) (bT : Binds K fdT ["bag", "many"] []) (gT : mg "_law_take" = some (.ref fT)) (mI : mg "int" = none) (mL : mg "len" = none) (mR : mg "range" = none) (mU : mg "tuple" = none) :
    FnOk P w K mg base CX0 (k + 3) f fd ["bag"] spVersion := by
  have GO : FnOk P w K mg base CX0 (k + 2) fO fdO ["bag", "things"] spOne := ok_one FO FT bT gT mI mL
  refine F.ok scVersion (fun vs H Q E h => ?_) (fun cdv A outer s H vs Q E hr h => ?_)
  · obtain ⟨b, rfl, _⟩ := h
    rfl
  · obtain ⟨b, rfl, hB, q⟩ := h
    refine ⟨_, pss_cons (ps_set (i := 1) scVersion.nd rfl (.inr rfl) (pe_call GO hr (by rfl) gO FO.kp bO .nil pass0 (pa_cons (pv 0) (pa_cons (pe_lst (pa_cons (pe_lst (pa_cons pe_int (pa_cons pe_int (pa_cons pe_int pa_nil)))) (pa_cons (pe_lst (pa_cons pe_int (pa_cons pe_int pa_nil))) (pa_cons (pe_lst (pa_cons pe_int (pa_cons pe_int (pa_cons pe_int pa_nil))))
        (pa_cons (pe_lst (pa_cons pe_int (pa_cons pe_int (pa_cons pe_int pa_nil)))) pa_nil))))) pa_nil))))
      (pss_one (ps_ret (pe_callTy call_tuple_of (by rfl) mU (by decide +kernel) (pa_cons (pe_lc (own := [("part", 2)]) (g := gName 2) rfl scVersion.nd (pi_range1 (by rfl) mR (pa_cons pe_int pa_nil)) (blkOk_by (N := ["bag", "menu", "part"]) (sc := defScope sVersion) (by decide +kernel))
        (fun _ _ _ _ _ => pg_name (i := 2) scVersion.nd rfl (Or.inl rfl)) (fun _ _ _ _ _ => pts_nil) (fun _ _ _ _ _ => pe_call GO hr (by rfl) gO FO.kp bO .nil pass0 (pa_cons (pv 0) (pa_cons (pv 1) pa_nil)))) pa_nil)))), ?_⟩
    obtain ⟨ob, hb⟩ := hB.lst
    refine ⟨.ref b, rfl, by show 3 ≤ sizeLine; decide, fun p1 n1 => ⟨by show 2 ≤ sizeLine; decide, fun p2 n2 => ⟨by show 3 ≤ sizeLine; decide, fun p3 n3 => ⟨by show 3 ≤ sizeLine; decide, fun p4 n4 => ⟨by show 4 ≤ sizeLine; decide, fun p5 n5 => ?_⟩⟩⟩⟩⟩
    have b1 := new_ne (u := .lst [.int 0, .int 1, .int 2]) hb n1
    have b2 := new_ne (u := .lst [.int 0, .int 1]) b1 n2
    have b3 := new_ne (u := .lst [.int 1, .int 2, .int 10]) b2 n3
    have b4 := new_ne (u := .lst [.int 0, .int 999999, .int 1]) b3 n4
    have small : ∀ x : V, ∀ xs : List V, x ∈ xs → xs ∈ [[V.int 0, .int 1, .int 2], [.int 0, .int 1], [.int 1, .int 2, .int 10], [.int 0, .int 999999, .int 1]] → ∃ n : Int, x = .int n ∧ 0 ≤ n ∧ n < 1000000 := by
      intro x xs hx hxs
      simp only [List.mem_cons, List.not_mem_nil, or_false] at hxs
      rcases hxs with e | e | e | e <;> subst e <;> simp only [List.mem_cons, List.not_mem_nil, or_false] at hx
      · rcases hx with e | e | e <;> exact ⟨_, e, by decide, by decide⟩
      · rcases hx with e | e <;> exact ⟨_, e, by decide, by decide⟩
      · rcases hx with e | e | e <;> exact ⟨_, e, by decide, by decide⟩
      · rcases hx with e | e | e <;> exact ⟨_, e, by decide, by decide⟩
    have q1 : upd (upd (upd (upd H p1 (.lst [.int 0, .int 1, .int 2])) p2 (.lst [.int 0, .int 1])) p3 (.lst [.int 1, .int 2, .int 10])) p4 (.lst [.int 0, .int 999999, .int 1]) p1 = some (.lst [.int 0, .int 1, .int 2]) := new_ne (new_ne (new_ne upd_same n2) n3) n4
    have q2 : upd (upd (upd (upd H p1 (.lst [.int 0, .int 1, .int 2])) p2 (.lst [.int 0, .int 1])) p3 (.lst [.int 1, .int 2, .int 10])) p4 (.lst [.int 0, .int 999999, .int 1]) p2 = some (.lst [.int 0, .int 1]) := new_ne (new_ne upd_same n3) n4
    have q3 : upd (upd (upd (upd H p1 (.lst [.int 0, .int 1, .int 2])) p2 (.lst [.int 0, .int 1])) p3 (.lst [.int 1, .int 2, .int 10])) p4 (.lst [.int 0, .int 999999, .int 1]) p3 = some (.lst [.int 1, .int 2, .int 10]) := new_ne upd_same n4
    have q4 : upd (upd (upd (upd H p1 (.lst [.int 0, .int 1, .int 2])) p2 (.lst [.int 0, .int 1])) p3 (.lst [.int 1, .int 2, .int 10])) p4 (.lst [.int 0, .int 999999, .int 1]) p4 = some (.lst [.int 0, .int 999999, .int 1]) := upd_same
    have s4 : Same H (upd (upd (upd (upd H p1 (.lst [.int 0, .int 1, .int 2])) p2 (.lst [.int 0, .int 1])) p3 (.lst [.int 1, .int 2, .int 10])) p4 (.lst [.int 0, .int 999999, .int 1])) := (((new_same n1).trans (new_same n2)).trans (new_same n3)).trans (new_same n4)
    generalize upd (upd (upd (upd H p1 (.lst [.int 0, .int 1, .int 2])) p2 (.lst [.int 0, .int 1])) p3 (.lst [.int 1, .int 2, .int 10])) p4 (.lst [.int 0, .int 999999, .int 1]) = H4 at n5 q1 q2 q3 q4 s4 b4 ⊢
    have ne : ∀ p xs, H4 p = some (.lst xs) → H p = none → p ≠ b := fun p xs _ hn => (ne_of_none hb hn).symm
    have m1 : p1 ≠ b := (ne_of_none hb n1).symm
    have m2 : p2 ≠ b := (ne_of_none b1 n2).symm
    have m3 : p3 ≠ b := (ne_of_none b2 n3).symm
    have m4 : p4 ≠ b := (ne_of_none b3 n4).symm
    have B5 : Bag (upd H4 p5 (.lst [.ref p1, .ref p2, .ref p3, .ref p4])) b := (hB.same s4).same (new_same n5)
    have cH : Chb b H (upd H4 p5 (.lst [.ref p1, .ref p2, .ref p3, .ref p4])) := (Chb.same s4).trans (Chb.new n5)
    refine ⟨b, p5, _, rfl, B5, upd_same, (ne_of_none b4 n5).symm, by simp, by show 4 ≤ 1000; decide, fun H6 x c6 B6 hx => ?_⟩
    obtain ⟨mn, xs, rfl, hmb, hm, hxs⟩ : ∃ mn xs, x = .ref mn ∧ mn ≠ b ∧ H6 mn = some (.lst xs) ∧ xs ∈ [[V.int 0, .int 1, .int 2], [.int 0, .int 1], [.int 1, .int 2, .int 10], [.int 0, .int 999999, .int 1]] := by
      simp only [List.mem_cons, List.not_mem_nil, or_false] at hx
      rcases hx with e | e | e | e
      · exact ⟨p1, _, e, m1, c6 _ _ m1 (new_ne q1 n5), by simp⟩
      · exact ⟨p2, _, e, m2, c6 _ _ m2 (new_ne q2 n5), by simp⟩
      · exact ⟨p3, _, e, m3, c6 _ _ m3 (new_ne q3 n5), by simp⟩
      · exact ⟨p4, _, e, m4, c6 _ _ m4 (new_ne q4 n5), by simp⟩
    have hxl : xs ≠ [] ∧ xs.length ≤ 1000 := by
      simp only [List.mem_cons, List.not_mem_nil, or_false] at hxs
      rcases hxs with e | e | e | e <;> subst e <;> exact ⟨by simp, by decide⟩
    obtain ⟨o6, hb6⟩ := B6.lst
    obtain ⟨lc, cs0, O6, hlc, lcb⟩ := B6.own
    refine ⟨3, rfl, by decide, by decide, fun Dl nD => ?_⟩
    have db : Dl ≠ b := (ne_of_none hb6 nD).symm
    have dl : Dl ≠ lc := (ne_of_none hlc nD).symm
    refine lc_range (lo := 0) (n := 3) (fun j Hc => Chb b H6 Hc ∧ Bag Hc b ∧ ∃ ns : List Int, Hc Dl = some (.lst (ns.map V.int)) ∧ ns.length = j ∧ ∀ n ∈ ns, 0 ≤ n ∧ n < 1000000) ⟨Chb.new nD, B6.same (new_same nD), [], upd_same, rfl, fun n hn => by cases hn⟩ (fun j Hc hj hP => ?_) (fun Hc hP => ?_)
    · obtain ⟨c7, B7, ns, d1, d2, d3⟩ := hP
      refine ⟨rfl, .ref b, rfl, .ref mn, rfl, b, mn, xs, rfl, B7, c7 _ _ hmb hm, hmb, hxl.1, hxl.2, fun H8 y c8 B8 hy => ?_⟩
      obtain ⟨n, rfl, n0, n1⟩ := small y xs hy hxs
      have d8 := c8 _ _ db d1
      have c68 := c7.trans c8
      refine ⟨ns.map V.int, d8, by rw [List.length_map, sizeLine_eq]; omega, c68.put nD db, (B8.set (O6.chb c68) db dl).1, ns ++ [n], ?_, by rw [List.length_append, d2]; rfl, fun m hm => ?_⟩
      · rw [List.map_append]
        exact upd_same
      · rcases List.mem_append.mp hm with e | e
        · exact d3 m e
        · rw [List.mem_singleton] at e
          subst e
          exact ⟨n0, n1⟩
    · obtain ⟨c7, B7, ns, d1, d2, d3⟩ := hP
      obtain ⟨o7, hb7⟩ := B7.lst
      refine ⟨Dl, ns.map V.int, rfl, .inl ⟨.inl (.inl d1), fun r nr => ?_⟩⟩
      exact q _ r ns (((cH.trans c6).trans c7).trans (Chb.new nr)) (B7.same (new_same nr)) upd_same ⟨d2, d3⟩ (ne_of_none hb7 nr).symm
end
end V5
/-! == of nested lists, tuples, dicts; two values alike. -/
namespace V5
open PySem PySem.Spec PyProof.Rows L2
def EqT (K : PySem.W.Frag) (H : Hp) (F : V → V → Prop) (x y : V) : Prop := ∃ (a b : Addr) (xs ys : List V), x = .ref a ∧ y = .ref b ∧ SqT K H a xs ∧ SqT K H b ys ∧ Paired F xs ys
def EqW (K : PySem.W.Frag) (H : Hp) : Nat → V → V → Prop
  | 0 => fun _ _ => False
  | n + 1 => fun x y => (x = y ∧ flatB x = true) ∨ (∃ a, x = .ref a ∧ y = .ref a) ∨ EqR K H (EqW K H n) x y ∨ EqT K H (EqW K H n) x y
section
variable {X : Cx} {pins : List (Addr × Obj)} {σ : L2.St} {H : Hp} {s : Shared}
theorem eqT_run (I : Inv X pins σ H s) {A : Around} {F : V → V → Prop} (hu : A.units < cLine) (ih : ∀ x y v u, F x y → RelV x v → RelV y u → SeqAt.EqP X.prog X.w A.in1 s v u true) {x y : V} {v u : Value} (h : EqT X.K H F x y) (rx : RelV x v) (ry : RelV y u)
    (E Q : Value → Shared → Prop) (q : Q (.bool true) s) : wpAny (model X.prog X.w) A (richCompare .Eq v u) Q E s := by
  obtain ⟨a, b, xs, ys, rfl, rfl, ha, hb, hp⟩ := h
  cases (show v = Value.ref a from rx); cases (show u = Value.ref b from ry)
  obtain ⟨us, r1, p1, _⟩ := I.tuple ha
  obtain ⟨ws, r2, p2, _⟩ := I.tuple hb
  have hsz : us.length = ws.length := by rw [← r1.length, ← r2.length]; exact Paired.length hp
  refine SeqAt.rcIn_tuples (e := fun _ => true) p1 p2 hu (fun j h1 h2 => ?_) ?_
  · have k := items_run ih hp r1 r2 j (by simpa using h1) (by simpa using h2)
    have k2 : SeqAt.EqIn X.prog X.w A.in1 s us[j] ws[j] true := k
    simpa using k2
  · have e : ((List.range (min us.toArray.size ws.toArray.size)).all (fun _ => true) && us.toArray.size == ws.toArray.size) = true := by
      rw [List.size_toArray, List.size_toArray, hsz]
      simp
    rw [e]
    exact q
theorem eqRT_run (I : Inv X pins σ H s) {A : Around} {F : V → V → Prop} (hu : A.units < cLine) (ih : ∀ x y v u, F x y → RelV x v → RelV y u → SeqAt.EqP X.prog X.w A.in1 s v u true) {x y : V} {v u : Value} (h : EqR X.K H F x y ∨ EqT X.K H F x y) (rx : RelV x v) (ry : RelV y u)
    (E Q : Value → Shared → Prop) (q : Q (.bool true) s) : wpAny (model X.prog X.w) A (richCompare .Eq v u) Q E s :=
  h.elim (fun h => eqR_run I hu ih h rx ry E Q q) fun h => eqT_run I hu ih h rx ry E Q q
theorem eqW_run (I : Inv X pins σ H s) : ∀ (n : Nat) (A : Around), A.units + n < cLine → ∀ (x y : V) (v u : Value), EqW X.K H n x y → RelV x v → RelV y u → SeqAt.EqP X.prog X.w A s v u true
  | 0, _, _, _, _, _, _, h, _, _ => (show False from h).elim
  | n + 1, A, hu, x, y, v, u, h, rx, ry => by
    rcases h with ⟨rfl, f⟩ | ⟨a, rfl, rfl⟩ | h
    · exact (eqAt_same rx ry f).eqP
    · cases (show v = Value.ref a from rx); cases (show u = Value.ref a from ry)
      exact (SeqAt.EqAt.same _).eqP
    · have step := eqRT_run I (A := A) (by omega) (eqW_run I n A.in1 (by show A.units + 1 + n < cLine; omega)) h rx ry
      obtain ⟨a, b, rfl, rfl⟩ : ∃ a b, x = .ref a ∧ y = .ref b := by
        rcases h with (⟨a, b, _, _, e1, e2, _⟩ | ⟨a, b, _, _, e1, e2, _⟩) | ⟨a, b, _, _, e1, e2, _⟩ <;> exact ⟨a, b, e1, e2⟩
      cases (show v = Value.ref a from rx); cases (show u = Value.ref b from ry)
      by_cases e : a = b
      · subst e
        exact (SeqAt.EqAt.same _).eqP
      · exact SeqAt.eqP_refs e step
theorem op_eqW (hu : X.A.units + 64 < cLine) : OpR X (compareOp .Eq) (fun x y H Q => ∃ n, n ≤ 60 ∧ (EqR X.K H (EqW X.K H n) x y ∨ EqT X.K H (EqW X.K H n) x y) ∧ Q (.bl true) H) := by
  intro pins s σ H x y v u Q I rx ry h
  obtain ⟨n, hn, h, q⟩ := h
  exact eqRT_run I (A := X.A) (by omega) (eqW_run I n X.A.in1 (by show X.A.units + 1 + n < cLine; omega)) h rx ry _ _ ⟨.bl true, H, I, rfl, q⟩
end
theorem EqW.flat {K : PySem.W.Frag} {H : Hp} {n : Nat} {x : V} (h : flatB x = true) : EqW K H (n + 1) x x := .inl ⟨rfl, h⟩
theorem EqW.same {K : PySem.W.Frag} {H : Hp} {n : Nat} {a : Addr} : EqW K H (n + 1) (.ref a) (.ref a) := .inr (.inl ⟨a, rfl, rfl⟩)
abbrev sAlike : Stmt := topS 14
theorem scAlike : FnScope ["found", "due"] ["found", "due"] (defScope sAlike) := ⟨rfl, rfl, rfl, by decide +kernel, rfl, by decide +kernel, by decide +kernel⟩
section
variable {P : Program} {w : World} {K : PySem.W.Frag} {mg : PySem.Str → Option Value} {base : Heap}
def spAlike (K : PySem.W.Frag) : Sp := fun vs H Q _ => ∃ (x y : V) (m n : Nat) (as bs : List Addr) (t : PySem.Str) (c e : Nat), vs = [x, y] ∧ m ≤ 60 ∧ (EqR K H (EqW K H m) x y ∨ EqT K H (EqW K H m) x y) ∧
  Shw H [x] n as [t] c ∧ Shw H [y] n bs [t] e ∧ n ≤ 60 ∧ c ≤ 16000000 ∧ e ≤ 16000000 ∧ Q (.bl true) H
theorem ok_alike {f : Addr} {fd : FuncData} {k : Nat} (F : Fun K "_law_alike" "_law_alike" sAlike f fd) (mR : mg "repr" = none) : Ok0 P w K mg base (k + 1) f fd ["found", "due"] (spAlike K) := by
  refine Ok0.mk_of F scAlike (fun vs H Q E h => ?_) (fun cdv A outer s H vs Q E hgd hr h => ?_)
  · obtain ⟨x, y, m, n, as, bs, t, c, e, rfl, _⟩ := h
    rfl
  · obtain ⟨x, y, m, n, as, bs, t, c, e, rfl, hm, eqs, s1, s2, hn, hc, he, q⟩ := h
    refine ⟨_, pss_one (ps_ret (pe_and (pe_cmpR (op_eqW hr.units) (pv 0) (pv 1) (nomark _)) (pe_one (pe_cmpR op_eq (pe_callB (call_reprV hgd hr.units) (by rfl) mR (by decide +kernel) (pa_cons (pv 0) pa_nil)) (pe_callB (call_reprV hgd hr.units) (by rfl) mR (by decide +kernel) (pa_cons (pv 1) pa_nil)) (nomark _))))), ?_⟩
    refine ⟨_, rfl, _, rfl, m, hm, eqs, true, rfl, _, rfl, x, n, as, t, c, rfl, s1, hn, hc, _, rfl, _, n, bs, t, e, rfl, s2, hn, he, rfl, ?_⟩
    rw [show decide (V.str t = V.str t) = true from decide_eq_true rfl]
    exact q
end
end V5
/-! What stands in the locks. -/
namespace V5
open PySem PySem.Spec PyProof.Rows L2
def NMS : List PySem.Str := ["core", "a", "lib-x", "z9", "tool", "b", "net", "ui", "m1", "q", "old-api", "k"]
def FTS : List PySem.Str := ([("fast" : PySem.Str), "x", "tls"] : List PySem.Str) ++ NMS.map fun x => cutS x none (some 3)
def okT (x : PySem.Str) : Bool := decide (x.length ≤ 100) && x.cps.toList.all (fun k => decide (k < 16 ^ 8)) && (PyData.str x).canLay0
theorem nms_ok : ∀ x ∈ NMS, okT x = true := by decide +kernel
theorem fts_ok : ∀ x ∈ FTS, okT x = true := by decide +kernel
theorem okT_shw {x : PySem.Str} (h : okT x = true) : x.length ≤ 100 ∧ ∀ k ∈ x.cps.toList, k < 16 ^ 8 := by
  unfold okT at h
  simp only [Bool.and_eq_true, decide_eq_true_eq, List.all_eq_true] at h
  exact ⟨h.1.1, h.1.2⟩
theorem okT_lay {x : PySem.Str} (h : okT x = true) : (PyData.str x).canLay0 = true := by
  unfold okT at h
  simp only [Bool.and_eq_true] at h
  exact h.2
theorem nms_nd : NMS.Nodup := by decide +kernel
/-- an entry of a lock -/
structure Et (H : Hp) (v : V) (e p q : Addr) (ns : List Int) (fs : List PySem.Str) : Prop where
  v : v = .ref e
  he : H e = some (.tup [.ref p, .ref q])
  hp : H p = some (.tup (ns.map V.int))
  vs : Vs ns
  hq : H q = some (.tup (fs.map V.str))
  ok : ∀ x ∈ fs, x ∈ FTS
  few : fs.length ≤ 4
def Ent (b : Addr) (H : Hp) (v : V) : Prop := ∃ e p q ns fs, Et H v e p q ns fs ∧ e ≠ b ∧ p ≠ b ∧ q ≠ b
def En (b : Addr) (H : Hp) (v : V) : Prop := v = .non ∨ Ent b H v
variable {b : Addr} {H H' : Hp} {v : V}
theorem Ent.chb (h : Ent b H v) (c : Chb b H H') : Ent b H' v := by
  obtain ⟨e, p, q, ns, fs, t, n1, n2, n3⟩ := h
  exact ⟨e, p, q, ns, fs, ⟨t.v, c _ _ n1 t.he, c _ _ n2 t.hp, t.vs, c _ _ n3 t.hq, t.ok, t.few⟩, n1, n2, n3⟩
theorem En.chb (h : En b H v) (c : Chb b H H') : En b H' v := h.imp id fun h => h.chb c
theorem Ent.ref (h : Ent b H v) : ∃ e, v = .ref e := let ⟨e, _, _, _, _, t, _⟩ := h; ⟨e, t.v⟩
theorem Ent.nn (h : Ent b H v) : v ≠ .non := by
  obtain ⟨e, rfl⟩ := h.ref
  intro z; cases z
/-- its contents, as data -/
def lv : V → PyData
  | .int i => .int i
  | .str x => .str x
  | _ => .none
def cont (H : Hp) : V → PyData
  | .ref e => match H e with
    | some (.tup [.ref p, .ref q]) => match H p, H q with
      | some (.tup xs), some (.tup ys) => .tuple [.tuple (xs.map lv), .tuple (ys.map lv)]
      | _, _ => .none
    | _ => .none
  | _ => .none
theorem Et.cont {e p q : Addr} {ns : List Int} {fs : List PySem.Str} (t : Et H v e p q ns fs) : V5.cont H v = .tuple [.tuple (ns.map PyData.int), .tuple (fs.map PyData.str)] := by
  rw [t.v]
  show (match H e with | some (.tup [.ref p, .ref q]) => _ | _ => _) = _
  rw [t.he]
  show (match H p, H q with | some (.tup xs), some (.tup ys) => _ | _, _ => _) = _
  rw [t.hp, t.hq]
  show PyData.tuple [.tuple ((ns.map V.int).map lv), .tuple ((fs.map V.str).map lv)] = _
  rw [List.map_map, List.map_map]
  rfl
theorem En.cont (h : En b H v) (c : Chb b H H') : V5.cont H' v = V5.cont H v := by
  rcases h with rfl | h
  · rfl
  · obtain ⟨e, p, q, ns, fs, t, n1, n2, n3⟩ := h
    rw [t.cont, Et.cont (H := H') ⟨t.v, c _ _ n1 t.he, c _ _ n2 t.hp, t.vs, c _ _ n3 t.hq, t.ok, t.few⟩]
theorem dp_ints {K : PySem.W.Frag} : ∀ ns : List Int, DpAll K H (ns.map V.int) (ns.map PyData.int)
  | [] => .nil
  | n :: ns => .cons (.int n) (dp_ints ns)
theorem dp_strs {K : PySem.W.Frag} : ∀ fs : List PySem.Str, DpAll K H (fs.map V.str) (fs.map PyData.str)
  | [] => .nil
  | x :: fs => .cons (.str x) (dp_strs fs)
theorem En.dp (K : PySem.W.Frag) (h : En b H v) : Dp K H v (V5.cont H v) := by
  rcases h with rfl | h
  · exact .non
  · obtain ⟨e, p, q, ns, fs, t, n1, n2, n3⟩ := h
    rw [t.cont, t.v]
    exact .tup (.inl (.inl t.he)) (.cons (.tup (.inl (.inl t.hp)) (dp_ints ns)) (.cons (.tup (.inl (.inl t.hq)) (dp_strs fs)) .nil))
theorem lay_ints : ∀ ns : List Int, PyData.canLayAll0 (ns.map PyData.int) = true ∧ PyData.depthAll (ns.map PyData.int) = 0
  | [] => ⟨rfl, rfl⟩
  | n :: ns => ⟨(lay_ints ns).1, by
    show max 0 (PyData.depthAll (ns.map PyData.int)) = 0
    rw [(lay_ints ns).2]; rfl⟩
theorem lay_strs : ∀ fs : List PySem.Str, (∀ x ∈ fs, x ∈ FTS) → PyData.canLayAll0 (fs.map PyData.str) = true ∧ PyData.depthAll (fs.map PyData.str) = 0
  | [], _ => ⟨rfl, rfl⟩
  | x :: fs, h => by
    obtain ⟨h1, h2⟩ := lay_strs fs fun y hy => h y (List.mem_cons_of_mem _ hy)
    refine ⟨?_, ?_⟩
    · show ((PyData.str x).canLay0 && PyData.canLayAll0 (fs.map PyData.str)) = true
      rw [okT_lay (fts_ok x (h x List.mem_cons_self)), h1]; rfl
    · show max 0 (PyData.depthAll (fs.map PyData.str)) = 0
      rw [h2]; rfl
theorem En.shaped (h : En b H v) : SeqAt.shaped (V5.cont H v) = true := by
  rcases h with rfl | h
  · show SeqAt.shaped .none = true
    decide
  · obtain ⟨e, p, q, ns, fs, t, n1, n2, n3⟩ := h
    rw [t.cont]
    unfold SeqAt.shaped
    obtain ⟨a1, a2⟩ := lay_ints ns
    obtain ⟨b1, b2⟩ := lay_strs fs t.ok
    have c1 : (PyData.tuple [.tuple (ns.map PyData.int), .tuple (fs.map PyData.str)]).canLay0 = true := by
      show (PyData.canLayAll0 (ns.map PyData.int) && (PyData.canLayAll0 (fs.map PyData.str) && true)) = true
      rw [a1, b1]; rfl
    have c2 : (PyData.tuple [.tuple (ns.map PyData.int), .tuple (fs.map PyData.str)]).depth = 2 := by
      show max (PyData.depthAll (ns.map PyData.int) + 1) (max (PyData.depthAll (fs.map PyData.str) + 1) 0) + 1 = 2
      rw [a2, b2]; rfl
    rw [c1, c2]; rfl
/-- two of them, not the same -/
def ne (H : Hp) (x y : V) : Bool := !PyData.eqv (V5.cont H x) (V5.cont H y)
theorem ne_chb {x y : V} (hx : En b H x) (hy : En b H y) (c : Chb b H H') : ne H' x y = ne H x y := by
  unfold ne
  rw [hx.cont c, hy.cont c]
/-- what they print as -/
theorem shw_ints : ∀ (ns : List Int), (∀ n ∈ ns, 0 ≤ n ∧ n < 1000000) → ∃ ts, Shw H (ns.map V.int) 0 [] ts (70 * ns.length)
  | [], _ => ⟨_, .nil⟩
  | n :: ns, h => by
    obtain ⟨ts, r⟩ := shw_ints ns fun m hm => h m (List.mem_cons_of_mem _ hm)
    have hn := h n List.mem_cons_self
    have e : 70 * (n :: ns).length = 70 + 70 * ns.length := by rw [List.length_cons]; omega
    rw [e]
    exact ⟨_, .int n (by omega) r⟩
theorem shw_strs : ∀ (fs : List PySem.Str), (∀ x ∈ fs, okT x = true) → ∃ ts, Shw H (fs.map V.str) 0 [] ts (1010 * fs.length)
  | [], _ => ⟨_, .nil⟩
  | x :: fs, h => by
    obtain ⟨ts, r⟩ := shw_strs fs fun m hm => h m (List.mem_cons_of_mem _ hm)
    obtain ⟨h1, h2⟩ := okT_shw (h x List.mem_cons_self)
    have e : 1010 * (x :: fs).length = 1010 + 1010 * fs.length := by rw [List.length_cons]; omega
    rw [e]
    exact ⟨_, .str x h1 h2 r⟩
/-- an object within an entry is no row, and no pair of a text and another object -/
def Low2 (H : Hp) (a : Addr) : Prop := ∃ xs, H a = some (.tup xs) ∧ ∀ (n : PySem.Str) (rest : List V) (v : V), v ∈ rest → (v = .non ∨ ∃ z, v = .ref z) → xs ≠ .str n :: rest
theorem Low2.ne {H : Hp} {a r : Addr} {n : PySem.Str} {rest : List V} {v : V} (l : Low2 H a) (hr : H r = some (.tup (.str n :: rest))) (hv : v ∈ rest) (h : v = .non ∨ ∃ z, v = .ref z) : r ≠ a := fun e => by
  obtain ⟨xs, h1, h2⟩ := l
  rw [e, h1] at hr
  exact h2 n rest v hv h (HO.tup.inj (Option.some.inj hr))
theorem Ent.shw (h : Ent b H v) : ∃ as t c, Shw H [v] 2 as [t] c ∧ c ≤ 5000 ∧ b ∉ as ∧ ∀ a ∈ as, Low2 H a := by
  obtain ⟨e, p, q, ns, fs, t, n1, n2, n3⟩ := h
  obtain ⟨ts, r1⟩ := shw_ints (H := H) ns t.vs.2
  obtain ⟨us, r2⟩ := shw_strs (H := H) fs fun x hx => fts_ok x (t.ok x hx)
  have l1 := t.vs.1
  have l2 := t.few
  have pe : e ≠ p := fun z => by
    have y := t.he
    rw [z, t.hp] at y
    obtain ⟨hl, _⟩ := t.vs
    have y2 := congrArg List.length (HO.tup.inj (Option.some.inj y))
    rw [List.length_map, hl] at y2
    simp at y2
  have qe : e ≠ q := fun z => by
    have y := t.he
    rw [z, t.hq] at y
    have y2 := HO.tup.inj (Option.some.inj y)
    cases fs with
    | nil => simp at y2
    | cons x fs => simp at y2
  have S : Shw H [.ref p, .ref q] 1 _ _ _ := Shw.tup (d := 0) t.hp r1 (by simp) (Shw.tup (d := 0) t.hq r2 (by simp) .nil)
  rw [t.v]
  refine ⟨_, _, _, Shw.tup (d := 1) t.he S (by simp [pe, qe]) .nil, by omega, by simp [n1.symm, n2.symm, n3.symm], fun a ha => ?_⟩
  simp at ha
  rcases ha with rfl | rfl | rfl
  · exact ⟨_, t.he, fun n rest v _ _ z => by simp at z⟩
  · exact ⟨_, t.hp, fun n rest v _ _ z => by
      cases ns with
      | nil => simp at z
      | cons y ns => simp at z⟩
  · refine ⟨_, t.hq, fun n rest v hv hu z => ?_⟩
    cases fs with
    | nil => simp at z
    | cons y fs =>
      rw [List.map_cons] at z
      injection z with _ z2
      rw [← z2] at hv
      obtain ⟨y2, _, rfl⟩ := List.mem_map.mp hv
      rcases hu with k | ⟨_, k⟩ <;> cases k
theorem En.shw (h : En b H v) : ∃ as t c, Shw H [v] 2 as [t] c ∧ c ≤ 5000 ∧ b ∉ as ∧ ∀ a ∈ as, Low2 H a := by
  rcases h with rfl | h
  · exact ⟨_, _, _, .non .nil, by decide, by simp, fun a ha => by cases ha⟩
  · exact h.shw
theorem En.or (h : En b H v) : v = .non ∨ ∃ z, v = .ref z := h.imp id Ent.ref
end V5
/-! Names; a list mixed. -/
namespace V5
open PySem PySem.Spec PyProof.Rows L2 TL
abbrev sMixed : Stmt := topS 13
abbrev sNames : Stmt := topS 16
theorem scMixed : FnScope ["bag", "things", "found", "thing"] ["bag", "things"] (defScope sMixed) := ⟨rfl, rfl, rfl, by decide +kernel, rfl, by decide +kernel, by decide +kernel⟩
theorem scNames : FnScope ["many"] ["many"] (defScope sNames) := ⟨rfl, rfl, rfl, by decide +kernel, rfl, by decide +kernel, by decide +kernel⟩
section
variable {P : Program} {w : World} {K : PySem.W.Frag} {mg : PySem.Str → Option Value} {base : Heap}
def spNames : Sp := fun vs H Q _ => vs = [.int 12] ∧ ∀ H' p, Same H H' → H' p = some (.tup (NMS.map V.str)) → Q (.ref p) H'
theorem ok_names {f : Addr} {fd : FuncData} {k : Nat} (F : Fun K "_law_names" "_law_names" sNames f fd) : FnOk P w K mg base CX0 (k + 1) f fd ["many"] spNames := by
  refine F.ok scNames (fun vs H Q E h => ?_) (fun cdv A outer s H vs Q E hr h => ?_)
  · obtain ⟨rfl, _⟩ := h
    rfl
  · obtain ⟨rfl, q⟩ := h
    refine ⟨_, pss_one (ps_ret (pe_slice sl_tupA (pe_tup (pa_cons pe_str (pa_cons pe_str (pa_cons pe_str (pa_cons pe_str (pa_cons pe_str (pa_cons pe_str (pa_cons pe_str (pa_cons pe_str (pa_cons pe_str (pa_cons pe_str (pa_cons pe_str (pa_cons pe_str pa_nil))))))))))))) po_none (po_some (pv 0)))), ?_⟩
    refine ⟨by show 12 ≤ sizeLine; decide, fun p np => ⟨_, rfl, _, rfl, p, NMS.map V.str, rfl, .inl (.inl upd_same), fun _ => q _ p (new_same np) upd_same, fun n => absurd (by decide +kernel) n⟩⟩
def spMixed : Sp := fun vs H Q _ => ∃ (b t : Addr) (xs : List V), vs = [.ref b, .ref t] ∧ Bag H b ∧ H t = some (.lst xs) ∧ t ≠ b ∧ xs.length ≤ 60 ∧ ∀ H' r ys, Chb b H H' → Bag H' b → H r = none → H' r = some (.lst ys) → ys.Perm xs → r ≠ b → Q (.ref r) H'
theorem ok_mixed {f fT : Addr} {fd fdT : FuncData} {k : Nat} (F : Fun K "_law_mixed" "_law_mixed" sMixed f fd) (FT : Fun K "_law_take" "_law_take" sTake fT fdT) (bT : Binds K fdT ["bag", "many"] []) (gT : mg "_law_take" = some (.ref fT))
    (mI : mg "int" = none) (mL : mg "len" = none) : FnOk P w K mg base CX0 (k + 2) f fd ["bag", "things"] spMixed := by
  have GT : FnOk P w K mg base CX0 (k + 1) fT fdT ["bag", "many"] spTake := ok_take FT mI
  refine F.ok scMixed (fun vs H Q E h => ?_) (fun cdv A outer s H vs Q E hr h => ?_)
  · obtain ⟨b, t, xs, rfl, _⟩ := h
    rfl
  · obtain ⟨b, t, xs, rfl, hB, ht, tb, hl, q⟩ := h
    refine ⟨_, pss_cons (ps_set (i := 2) scMixed.nd rfl (.inl rfl) (pe_lst pa_nil))
      (pss_cons (ps_for PassesOwn.never rfl (pi_list (pv 1)) (pg_name (i := 3) scMixed.nd rfl (Or.inl rfl))
        (pss_one (ps_expr (pe_bm PySem.F.plainAttrs_list PySem.F.slot_list_insert PySem.F.type_list_insert mt_insert (pv 2) (pa_cons (pe_call GT hr (by rfl) gT FT.kp bT .nil pass0 (pa_cons (pv 0) (pa_cons (pe_op op_add (pe_callB call_len_seq (by rfl) mL PySem.boot_len (pa_cons (pv 2) pa_nil)) pe_int) pa_nil))) (pa_cons (pv 3) pa_nil))))))
      (pss_one (ps_ret (pv 2)))), ?_⟩
    refine ⟨by show 0 ≤ sizeLine; exact Nat.zero_le _, fun l nl => ⟨.ref t, rfl, t, rfl, ⟨xs, .inl (.inl (new_ne ht nl))⟩, ?_⟩⟩
    obtain ⟨ob, hb⟩ := hB.lst
    obtain ⟨lc, cs0, O0, hlc, lcb⟩ := hB.own
    have lb : l ≠ b := (ne_of_none hb nl).symm
    have ll : l ≠ lc := (ne_of_none hlc nl).symm
    refine for_list (K := K) (a := t) (xs := xs) (fun i σ' H' => (∃ y, σ' = [some (.ref b), some (.ref t), some (.ref l), y]) ∧ Chb b H H' ∧ Bag H' b ∧ ∃ ys, H' l = some (.lst ys) ∧ ys.Perm (xs.take i)) ⟨⟨none, rfl⟩, Chb.new nl, hB.same (new_same nl), [], upd_same, by simp⟩ (fun i σ' H' _ hP => ?_) (fun i x σ' H1 hx hP => ?_) (fun σ' H1 hP => ?_)
    · obtain ⟨_, c1, _⟩ := hP
      exact .inl (.inl (c1 _ _ tb ht))
    · obtain ⟨⟨y, rfl⟩, c1, B1, ys, hys, pm⟩ := hP
      have ly : ys.length ≤ 60 := by
        rw [pm.length_eq, List.length_take]
        omega
      refine ⟨_, rfl, .inl ⟨rfl, _, .inl (.inl hys)⟩, _, rfl, _, rfl, l, ys, rfl, .inl (.inl (.inl hys)), _, _, rfl, rfl, b, _, rfl, B1, by omega, by omega, fun H2 v c2 B2 v0 v1 => ⟨_, rfl, ?_⟩⟩
      have hys2 := c2 _ _ lb hys
      have c12 := c1.trans c2
      refine ⟨l, ys, v, x, rfl, rfl, hys2, by rw [sizeLine_eq]; omega, v0, by omega, ⟨_, rfl⟩, c12.put nl lb, (B2.set (O0.chb c12) lb ll).1, _, upd_same, ?_⟩
      have e : xs.take (i + 1) = xs.take i ++ [x] := by rw [List.take_add_one, hx]; rfl
      rw [e]
      have p1 : (ys.take v.toNat ++ [x] ++ ys.drop v.toNat).Perm (x :: ys) := by
        have h0 : (x :: (ys.take v.toNat ++ ys.drop v.toNat)).Perm (ys.take v.toNat ++ [x] ++ ys.drop v.toNat) := by
          rw [List.append_assoc]
          exact List.perm_middle.symm
        rw [List.take_append_drop] at h0
        exact h0.symm
      exact p1.trans ((List.Perm.cons x pm).trans (List.perm_append_singleton _ _).symm)
    · obtain ⟨⟨y, rfl⟩, c1, B1, ys, hys, pm⟩ := hP
      rw [List.take_of_length_le (Nat.le_refl _)] at pm
      exact ⟨_, rfl, q H1 l ys c1 B1 nl hys pm lb⟩
end
end V5
/-! Features drawn. -/
namespace V5
open PySem PySem.Spec PyProof.Rows L2 TL
theorem same_no {H H' : Hp} {p : Addr} (s : Same H H') (h : H' p = none) : H p = none := by
  cases e : H p with
  | none => rfl
  | some o => have := s _ _ e; rw [h] at this; cases this
/-- sorted(set(e)), e a list of texts -/
theorem pe_sortSet {X : Cx} {e : Expr} {te : TE} {p1 p2 p3 p4 : Pos} (hc : X.calm = true) (hg1 : Gl X "sorted") (hg2 : Gl X "set") (m1 : X.mg "sorted" = none) (m2 : X.mg "set" = none) (he : PE X e te)
    (h1 : starEach (e :: []) X.env = (false, eval e X.env) :: starEach [] X.env) :
    PE X (.Call (.Name "sorted" p1) [.Call (.Name "set" p2) [e] [] p3] [] p4) (fun σ H Q => te σ H fun x H1 => ∃ (l : Addr) (xs : List PySem.Str), x = .ref l ∧ H1 l = some (.lst (xs.map V.str)) ∧ xs.length < 64 ∧
      ∀ (H' : Hp) (p : Addr) (ys : List PySem.Str), Same H1 H' → H1 p = none → H' p = some (.lst (ys.map V.str)) → TX.Asc ys → (∀ x, x ∈ ys ↔ x ∈ xs) → ys.length ≤ xs.length → Q (.ref p) H') := by
  constructor
  intro pins s σ H Q I h
  have R := pe_callB (X := X) (pos := p4) (p := p1) (TX.cr_sortedX hc) hg1 m1 (by decide +kernel) (pa_cons (pe_callTy (pos := p3) (p := p2) (TX.cr_setX hc) hg2 m2 (by decide +kernel) (pa_cons (pe_mid he) pa_nil h1) (by decide) (by decide) h1 (by rfl)) pa_nil) (by decide) (by decide) (by rfl) (by rfl)
  refine R.run pins s σ H Q I ⟨_, h, ?_⟩
  rintro x H1 ⟨l, xs, rfl, hl, few, q⟩
  refine ⟨l, xs, rfl, .inl (.inl hl), few, fun a na => ⟨a, xs, rfl, upd_same, few, fun ys p as mm le np => ?_⟩⟩
  have s1 : Same H1 (upd H1 a (TX.SXO X.prog X.w a xs)) := new_same na
  exact q _ p ys (s1.trans (new_same np)) (same_no s1 np) upd_same as mm le
abbrev sFeat : Stmt := topS 17
theorem scFeat : FnScope ["bag", "name", "some", "feature"] ["bag", "name"] (defScope sFeat) := ⟨rfl, rfl, rfl, by decide +kernel, rfl, by decide +kernel, by decide +kernel⟩
section
variable {P : Program} {w : World} {K : PySem.W.Frag} {mg : PySem.Str → Option Value} {base : Heap}
def spFeat : Sp := fun vs H Q _ => ∃ (b : Addr) (x : PySem.Str), vs = [.ref b, .str x] ∧ Bag H b ∧ x ∈ NMS ∧ ∀ (H' : Hp) (p : Addr) (fs : List PySem.Str), Chb b H H' → Bag H' b → H' p = some (.tup (fs.map V.str)) → (∀ y ∈ fs, y ∈ FTS) → fs.length ≤ 4 → p ≠ b → Q (.ref p) H'
theorem ok_feat {f fT : Addr} {fd fdT : FuncData} {k : Nat} (F : Fun K "_law_feature_names" "_law_feature_names" sFeat f fd) (FT : Fun K "_law_take" "_law_take" sTake fT fdT) (bT : Binds K fdT ["bag", "many"] []) (gT : mg "_law_take" = some (.ref fT))
    (mI : mg "int" = none) (mU : mg "tuple" = none) (mS : mg "sorted" = none) (mE : mg "set" = none) : FnOk P w K mg base CX0 (k + 2) f fd ["bag", "name"] spFeat := by
  have GT : FnOk P w K mg base CX0 (k + 1) fT fdT ["bag", "many"] spTake := ok_take FT mI
  refine F.ok scFeat (fun vs H Q E h => ?_) (fun cdv A outer s H vs Q E hr h => ?_)
  · obtain ⟨b, x, rfl, _⟩ := h
    rfl
  · obtain ⟨b, x, rfl, hB, hx, q⟩ := h
    refine ⟨_, pss_cons (ps_set (i := 2) scFeat.nd rfl (.inl rfl) (pe_lst (pa_cons pe_str (pa_cons pe_str (pa_cons (pe_slice sl_str (pv 1) po_none (po_some pe_int)) (pa_cons pe_str pa_nil))))))
      (pss_one (ps_ret (pe_callTy call_tuple_of (by rfl) mU (by decide +kernel) (pa_cons (pe_sortSet rfl (by rfl) (by rfl) mS mE (pe_lc (own := [("feature", 3)]) (g := gName 3) rfl scFeat.nd (pi_list (pv 2)) (blkOk_by (N := ["bag", "name", "some", "feature"]) (sc := defScope sFeat) (by decide +kernel))
        (fun _ _ _ _ _ => pg_name (i := 3) scFeat.nd rfl (Or.inl rfl)) (fun _ _ _ _ _ => pts_one (pt_cmpR op_eq (pe_call GT hr (by rfl) gT FT.kp bT .nil pass0 (pa_cons (pv 0) (pa_cons pe_int pa_nil))) pe_int (nomark _))) (fun _ _ _ _ _ => pv 3)) (by rfl)) pa_nil)))), ?_⟩
    have lx : x.length ≤ 100 := (okT_shw (nms_ok x hx)).1
    refine ⟨_, rfl, 3, rfl, x, rfl, by rw [sizeLine_eq]; omega, by show 4 ≤ sizeLine; decide, fun l nl => ?_⟩
    obtain ⟨ob, hb⟩ := hB.lst
    obtain ⟨lc, cs0, O0, hlc, lcb⟩ := hB.own
    have lb : l ≠ b := (ne_of_none hb nl).symm
    have mem : ∀ y ∈ [("fast" : PySem.Str), "x", cutS x none (some 3), "tls"], y ∈ FTS := by
      intro y hy
      simp only [List.mem_cons, List.not_mem_nil, or_false] at hy
      unfold FTS
      rw [List.mem_append]
      rcases hy with e | e | e | e
      · exact .inl (by rw [e]; decide +kernel)
      · exact .inl (by rw [e]; decide +kernel)
      · exact .inr (List.mem_map.mpr ⟨x, hx, e.symm⟩)
      · exact .inl (by rw [e]; decide +kernel)
    have B1 : Bag (upd H l (.lst [.str "fast", .str "x", .str (cutS x none (some 3)), .str "tls"])) b := hB.same (new_same nl)
    have c1 : Chb b H (upd H l (.lst [.str "fast", .str "x", .str (cutS x none (some 3)), .str "tls"])) := Chb.new nl
    have hl1 : upd H l (.lst [.str "fast", .str "x", .str (cutS x none (some 3)), .str "tls"]) l = some (.lst ([("fast" : PySem.Str), "x", cutS x none (some 3), "tls"].map V.str)) := upd_same
    generalize hfs : [("fast" : PySem.Str), "x", cutS x none (some 3), "tls"] = fs0 at mem hl1
    have l4 : fs0.length = 4 := by rw [← hfs]; rfl
    generalize upd H l (.lst [.str "fast", .str "x", .str (cutS x none (some 3)), .str "tls"]) = H1 at B1 c1 hl1 ⊢
    refine ⟨.ref l, rfl, l, rfl, ⟨_, .inl (.inl hl1)⟩, fun D nD => ?_⟩
    obtain ⟨o1, hb1⟩ := B1.lst
    obtain ⟨lc1, cs1, O1, hlc1, lcb1⟩ := B1.own
    have Db : D ≠ b := (ne_of_none hb1 nD).symm
    have Dl : D ≠ lc1 := (ne_of_none hlc1 nD).symm
    refine lc_list (K := K) (a := l) (xs := fs0.map V.str) (fun i Hc => Chb b H1 Hc ∧ Bag Hc b ∧ ∃ ys : List PySem.Str, Hc D = some (.lst (ys.map V.str)) ∧ ys.length ≤ i ∧ ∀ y ∈ ys, y ∈ FTS) ⟨Chb.new nD, B1.same (new_same nD), [], upd_same, Nat.le_refl _, fun y hy => by cases hy⟩ (fun i Hc _ hP => .inl (.inl (hP.1 _ _ lb hl1))) (fun i y Hc hy hP => ?_) (fun Hc hP => ?_)
    · obtain ⟨c2, B2, ys, d1, d2, d3⟩ := hP
      rw [List.getElem?_map] at hy
      cases hz : fs0[i]? with
      | none => rw [hz] at hy; cases hy
      | some z =>
        rw [hz] at hy
        cases hy
        have hi : i < 4 := by rw [← l4]; exact (List.getElem?_eq_some_iff.mp hz).1
        refine ⟨rfl, _, rfl, b, 3, rfl, B2, by decide, by decide, fun H3 v c3 B3 v0 v1 => ⟨rfl, _, rfl, ite2 (fun e => ?_) (fun e => ?_)⟩⟩
        · have d4 := c3 _ _ Db d1
          have c13 := c2.trans c3
          refine ⟨_, rfl, ys.map V.str, d4, by rw [List.length_map, sizeLine_eq]; omega, c13.put nD Db, (B3.set (O1.chb c13) Db Dl).1, ys ++ [z], ?_, by rw [List.length_append, List.length_singleton]; omega, fun u hu => ?_⟩
          · rw [List.map_append]
            exact upd_same
          · rcases List.mem_append.mp hu with e | e
            · exact d3 u e
            · rw [List.mem_singleton] at e
              exact e ▸ mem z (List.mem_of_getElem? hz)
        · exact ⟨c2.trans c3, B3, ys, c3 _ _ Db d1, by omega, d3⟩
    · obtain ⟨c2, B2, ys, d1, d2, d3⟩ := hP
      rw [List.length_map, l4] at d2
      refine ⟨D, ys, rfl, d1, by omega, fun H3 p zs s3 np hp as mm le => ⟨p, zs.map V.str, rfl, .inl ⟨.inl (.inl hp), fun r nr => ?_⟩⟩⟩
      have B3 := B2.same s3
      obtain ⟨o3, hb3⟩ := B3.lst
      exact q _ r zs (((c1.trans c2).trans (Chb.same s3)).trans (Chb.new nr)) (B3.same (new_same nr)) upd_same (fun y hy => d3 y ((mm y).mp hy)) (by omega) (ne_of_none hb3 nr).symm
end
end V5
/-! What keeps tuples; pairs; locks. -/
namespace V5
open PySem PySem.Spec PyProof.Rows L2 TL
/-- all tuples stay -/
def KT (H H' : Hp) : Prop := ∀ a xs, H a = some (.tup xs) → H' a = some (.tup xs)
theorem KT.trans {H H1 H2 : Hp} (x : KT H H1) (y : KT H1 H2) : KT H H2 := fun a xs h => y a xs (x a xs h)
theorem KT.same {H H' : Hp} (s : Same H H') : KT H H' := fun a xs h => s _ _ h
theorem KT.new {H : Hp} {p : Addr} {o : HO} (n : H p = none) : KT H (upd H p o) := KT.same (new_same n)
theorem KT.lst {H : Hp} {p : Addr} {o : HO} {xs : List V} (n : H p = some (.lst xs)) : KT H (upd H p o) := fun a ys h => by
  rw [upd_ne (fun z => by rw [z, n] at h; cases h)]
  exact h
theorem KT.dic {H : Hp} {p : Addr} {o : HO} {xs : List (L2.Key × V)} (n : H p = some (.dK xs)) : KT H (upd H p o) := fun a ys h => by
  rw [upd_ne (fun z => by rw [z, n] at h; cases h)]
  exact h
theorem Chb.kt {b : Addr} {H H' : Hp} (B : Bag H b) (c : Chb b H H') : KT H H' := fun a xs h => by
  obtain ⟨n, m, k, l, cs, hb, _⟩ := B
  exact c _ _ (fun z => by rw [z, hb] at h; cases h) h
section
variable {b : Addr} {H H' : Hp} {v : V}
theorem Et.kt {e p q : Addr} {ns : List Int} {fs : List PySem.Str} (t : Et H v e p q ns fs) (k : KT H H') : Et H' v e p q ns fs := ⟨t.v, k _ _ t.he, k _ _ t.hp, t.vs, k _ _ t.hq, t.ok, t.few⟩
theorem Ent.kt (h : Ent b H v) (k : KT H H') : Ent b H' v := by
  obtain ⟨e, p, q, ns, fs, t, n⟩ := h
  exact ⟨e, p, q, ns, fs, t.kt k, n⟩
theorem En.kt (h : En b H v) (k : KT H H') : En b H' v := h.imp id fun h => h.kt k
theorem En.contK (h : En b H v) (k : KT H H') : V5.cont H' v = V5.cont H v := by
  rcases h with rfl | ⟨e, p, q, ns, fs, t, n⟩
  · rfl
  · rw [t.cont, (t.kt k).cont]
theorem ne_kt {x y : V} (hx : En b H x) (hy : En b H y) (k : KT H H') : ne H' x y = ne H x y := by
  unfold ne
  rw [hx.contK k, hy.contK k]
end
/-- pairs of a name and an entry -/
abbrev Pr := Addr × PySem.Str × V
def PL (b : Addr) (H : Hp) (L : List Pr) : Prop := ∀ q ∈ L, H q.1 = some (.tup [.str q.2.1, q.2.2]) ∧ Ent b H q.2.2
abbrev rfs (L : List Pr) : List V := L.map fun q => V.ref q.1
theorem PL.kt {b : Addr} {H H' : Hp} {L : List Pr} (h : PL b H L) (k : KT H H') : PL b H' L := fun q hq => ⟨k _ _ (h q hq).1, (h q hq).2.kt k⟩
theorem PL.snoc {b : Addr} {H : Hp} {L : List Pr} {q : Pr} (h : PL b H L) (h1 : H q.1 = some (.tup [.str q.2.1, q.2.2])) (h2 : Ent b H q.2.2) : PL b H (L ++ [q]) := fun r hr => by
  rcases List.mem_append.mp hr with e | e
  · exact h r e
  · rw [List.mem_singleton] at e
    exact e ▸ ⟨h1, h2⟩
/-- a dict's pairs -/
def kk (ks : List (PySem.Str × V)) : List (L2.Key × V) := ks.map fun p => (Sum.inr p.1, p.2)
theorem kk_keys (ks : List (PySem.Str × V)) : (kk ks).map (·.1) = (ks.map (·.1)).map Sum.inr := by
  unfold kk
  rw [List.map_map, List.map_map]
  rfl
theorem perm_map_inv {α β : Type} {f : α → β} {ys zs : List β} (p : ys.Perm zs) : ∀ L : List α, zs = L.map f → ∃ L' : List α, L'.Perm L ∧ ys = L'.map f := by
  induction p with
  | nil =>
    intro L h
    cases L with
    | nil => exact ⟨[], .nil, rfl⟩
    | cons a L => cases h
  | cons x p ih =>
    intro L h
    cases L with
    | nil => cases h
    | cons a L =>
      rw [List.map_cons] at h
      injection h with h1 h2
      obtain ⟨L', q, e⟩ := ih L h2
      exact ⟨a :: L', q.cons a, by rw [List.map_cons, h1, e]⟩
  | swap x y l =>
    intro L h
    cases L with
    | nil => cases h
    | cons a L =>
      cases L with
      | nil => rw [List.map_cons] at h; injection h with _ h2; cases h2
      | cons c L =>
        rw [List.map_cons, List.map_cons] at h
        injection h with h1 h2
        injection h2 with h2 h3
        exact ⟨c :: a :: L, List.Perm.swap a c L, by rw [List.map_cons, List.map_cons, h1, h2, h3]⟩
  | trans p1 p2 i1 i2 =>
    intro L h
    obtain ⟨L1, q1, e1⟩ := i2 L h
    obtain ⟨L2, q2, e2⟩ := i1 L1 e1
    exact ⟨L2, q2.trans q1, e2⟩
theorem merge_nd : ∀ (more kvs : List (L2.Key × V)), ((kvs ++ more).map (·.1)).Nodup → mergeK kvs more = kvs ++ more
  | [], kvs, _ => (List.append_nil kvs).symm
  | kv :: more, kvs, h => by
    have hn : valV kvs kv.1 = none := by
      cases e : valV kvs kv.1 with
      | none => rfl
      | some v =>
        have hm := valV_in e
        rw [List.map_append, List.nodup_append] at h
        exact absurd rfl (h.2.2 kv.1 hm kv.1 (by rw [List.map_cons]; exact List.mem_cons_self))
    show mergeK (putK kvs kv.1 kv.2) more = _
    rw [putK_new _ hn]
    have e : kvs ++ [(kv.1, kv.2)] ++ more = kvs ++ kv :: more := by simp
    rw [merge_nd more (kvs ++ [(kv.1, kv.2)]) (by rw [e]; exact h), e]
/-- a lock over some names -/
structure Lk (b : Addr) (H : Hp) (d : Addr) (nm : List PySem.Str) (ks : List (PySem.Str × V)) : Prop where
  at_ : H d = some (.dK (kk ks))
  nb : d ≠ b
  nd : (ks.map (·.1)).Nodup
  all : ∀ p ∈ ks, p.1 ∈ nm ∧ Ent b H p.2
theorem Lk.same {b d : Addr} {H H' : Hp} {nm : List PySem.Str} {ks : List (PySem.Str × V)} (h : Lk b H d nm ks) (s : Same H H') : Lk b H' d nm ks :=
  ⟨s _ _ h.at_, h.nb, h.nd, fun p hp => ⟨(h.all p hp).1, (h.all p hp).2.kt (KT.same s)⟩⟩
theorem Lk.chb {b d : Addr} {H H' : Hp} {nm : List PySem.Str} {ks : List (PySem.Str × V)} (h : Lk b H d nm ks) (B : Bag H b) (c : Chb b H H') : Lk b H' d nm ks :=
  ⟨c _ _ h.nb h.at_, h.nb, h.nd, fun p hp => ⟨(h.all p hp).1, (h.all p hp).2.kt (Chb.kt B c)⟩⟩
structure Nm (nm : List PySem.Str) : Prop where
  nd : nm.Nodup
  ok : ∀ x ∈ nm, x ∈ NMS
  ne : nm ≠ []
  few : nm.length ≤ 7
theorem nodup_le {α : Type} [DecidableEq α] : ∀ {xs ys : List α}, xs.Nodup → (∀ x ∈ xs, x ∈ ys) → xs.length ≤ ys.length
  | [], ys, _, _ => Nat.zero_le _
  | x :: xs, ys, h, m => by
    obtain ⟨h1, h2⟩ := List.nodup_cons.mp h
    have hx : x ∈ ys := m x List.mem_cons_self
    have ih := nodup_le (xs := xs) (ys := ys.erase x) h2 fun y hy => (List.mem_erase_of_ne (fun e : y = x => h1 (by rw [← e]; exact hy))).mpr (m y (List.mem_cons_of_mem _ hy))
    rw [List.length_erase_of_mem hx] at ih
    have : 0 < ys.length := List.length_pos_of_mem hx
    rw [List.length_cons]
    omega
theorem Lk.few {b d : Addr} {H : Hp} {nm : List PySem.Str} {ks : List (PySem.Str × V)} (h : Lk b H d nm ks) (n : Nm nm) : ks.length ≤ 7 := by
  have := nodup_le h.nd (ys := nm) fun x hx => by
    obtain ⟨p, hp, rfl⟩ := List.mem_map.mp hx
    exact (h.all p hp).1
  rw [List.length_map] at this
  exact Nat.le_trans this n.few
/-- a dict is made of a list of pairs in any order -/
theorem pairs_dict {K : PySem.W.Frag} {b : Addr} {H : Hp} {L : List Pr} (h : PL b H L) : Paired (fun p kv => SqT K H p [kV kv.1, kv.2]) (L.map (·.1)) (kk (L.map (·.2))) := by
  induction L with
  | nil => exact .nil
  | cons q L ih => exact .cons (.inl (.inl (h q List.mem_cons_self).1)) (ih fun r hr => h r (List.mem_cons_of_mem _ hr))
theorem kk_nd {ks : List (PySem.Str × V)} (h : (ks.map (·.1)).Nodup) : ((kk ks).map (·.1)).Nodup := by
  rw [kk_keys]
  exact List.Pairwise.map Sum.inr (fun a b n e => n (Sum.inr.inj e)) h
end V5
/-! Locks drawn; a dict with its keys ascending. -/
namespace V5
open PySem PySem.Spec PyProof.Rows L2 TL
abbrev sAny : Stmt := topS 18
abbrev sAsc : Stmt := topS 19
theorem scAny : FnScope ["bag", "names", "found", "name"] ["bag", "names"] (defScope sAny) := ⟨rfl, rfl, rfl, by decide +kernel, rfl, by decide +kernel, by decide +kernel⟩
theorem scAsc : FnScope ["found", "key"] ["found"] (defScope sAsc) := ⟨rfl, rfl, rfl, by decide +kernel, rfl, by decide +kernel, by decide +kernel⟩
section
variable {P : Program} {w : World} {K : PySem.W.Frag} {mg : PySem.Str → Option Value} {base : Heap}
/-- what the draws lean on -/
structure Drw (K : PySem.W.Frag) (mg : PySem.Str → Option Value) (fT fO fM fV fE : Addr) (dT dO dM dV dE : FuncData) : Prop where
  FT : Fun K "_law_take" "_law_take" sTake fT dT
  FO : Fun K "_law_one" "_law_one" sOne fO dO
  FM : Fun K "_law_mixed" "_law_mixed" sMixed fM dM
  FV : Fun K "_law_version" "_law_version" sVersion fV dV
  FE : Fun K "_law_feature_names" "_law_feature_names" sFeat fE dE
  bT : Binds K dT ["bag", "many"] []
  bO : Binds K dO ["bag", "things"] []
  bM : Binds K dM ["bag", "things"] []
  bV : Binds K dV ["bag"] []
  bE : Binds K dE ["bag", "name"] []
  gT : mg "_law_take" = some (.ref fT)
  gO : mg "_law_one" = some (.ref fO)
  gM : mg "_law_mixed" = some (.ref fM)
  gV : mg "_law_version" = some (.ref fV)
  gE : mg "_law_feature_names" = some (.ref fE)
  mI : mg "int" = none
  mL : mg "len" = none
  mR : mg "range" = none
  mU : mg "tuple" = none
  mS : mg "sorted" = none
  mE : mg "set" = none
  mD : mg "dict" = none
  mLi : mg "list" = none
variable {fT fO fM fV fE : Addr} {dT dO dM dV dE : FuncData}
def spAny : Sp := fun vs H Q _ => ∃ (b t : Addr) (nm : List PySem.Str), vs = [.ref b, .ref t] ∧ Bag H b ∧ H t = some (.lst (nm.map V.str)) ∧ t ≠ b ∧ Nm nm ∧
  ∀ (H' : Hp) (d : Addr) (ks : List (PySem.Str × V)), Chb b H H' → Bag H' b → Lk b H' d nm ks → Q (.ref d) H'
theorem ok_any {f : Addr} {fd : FuncData} {k : Nat} (F : Fun K "_law_any_lock" "_law_any_lock" sAny f fd) (T : Drw K mg fT fO fM fV fE dT dO dM dV dE) : FnOk P w K mg base CX0 (k + 4) f fd ["bag", "names"] spAny := by
  have GT : FnOk P w K mg base CX0 (k + 3) fT dT ["bag", "many"] spTake := ok_take T.FT T.mI
  have GV : FnOk P w K mg base CX0 (k + 3) fV dV ["bag"] spVersion := ok_version T.FV T.FO T.bO T.gO T.FT T.bT T.gT T.mI T.mL T.mR T.mU
  have GE : FnOk P w K mg base CX0 (k + 3) fE dE ["bag", "name"] spFeat := ok_feat T.FE T.FT T.bT T.gT T.mI T.mU T.mS T.mE
  have GM : FnOk P w K mg base CX0 (k + 3) fM dM ["bag", "things"] spMixed := ok_mixed T.FM T.FT T.bT T.gT T.mI T.mL
  refine F.ok scAny (fun vs H Q E h => ?_) (fun cdv A outer s H vs Q E hr h => ?_)
  · obtain ⟨b, t, nm, rfl, _⟩ := h
    rfl
  · obtain ⟨b, t, nm, rfl, hB, ht, tb, hN, q⟩ := h
    refine ⟨_, pss_cons (ps_set (i := 2) scAny.nd rfl (.inl rfl) (pe_lst pa_nil))
      (pss_cons (ps_for PassesOwn.never rfl (pi_list (pv 1)) (pg_name (i := 3) scAny.nd rfl (Or.inl rfl))
        (pss_one (ps_if (pt_cmpR op_gt (pe_call GT hr (by rfl) T.gT T.FT.kp T.bT .nil pass0 (pa_cons (pv 0) (pa_cons pe_int pa_nil))) pe_int (nomark _))
          (pss_one (ps_expr (pe_bm PySem.F.plainAttrs_list PySem.F.slot_list_append PySem.F.type_list_append mt_append (pv 2) (pa_cons (pe_tup (pa_cons (pv 3) (pa_cons (pe_tup (pa_cons (pe_call GV hr (by rfl) T.gV T.FV.kp T.bV .nil pass0 (pa_cons (pv 0) pa_nil))
            (pa_cons (pe_mid (pe_ifExp (pt_cmpR op_eq (pe_call GT hr (by rfl) T.gT T.FT.kp T.bT .nil pass0 (pa_cons (pv 0) (pa_cons pe_int pa_nil))) pe_int (nomark _)) (pe_call GE hr (by rfl) T.gE T.FE.kp T.bE .nil pass0 (pa_cons (pv 0) (pa_cons (pv 3) pa_nil))) (pe_tup pa_nil))) pa_nil))) pa_nil))) pa_nil)))) pss_nil)))
      (pss_one (ps_ret (pe_callTy (call_dictP rfl) (by rfl) T.mD (by decide +kernel) (pa_cons (pe_call GM hr (by rfl) T.gM T.FM.kp T.bM .nil pass0 (pa_cons (pv 0) (pa_cons (pv 2) pa_nil))) pa_nil))))), ?_⟩
    refine ⟨by show 0 ≤ sizeLine; exact Nat.zero_le _, fun l nl => ⟨.ref t, rfl, t, rfl, ⟨_, .inl (.inl (new_ne ht nl))⟩, ?_⟩⟩
    obtain ⟨ob, hb⟩ := hB.lst
    obtain ⟨lc, cs0, O0, hlc, lcb⟩ := hB.own
    have lb : l ≠ b := (ne_of_none hb nl).symm
    have ll : l ≠ lc := (ne_of_none hlc nl).symm
    refine for_list (K := K) (a := t) (xs := nm.map V.str) (fun i σ' H' => (∃ y, σ' = [some (.ref b), some (.ref t), some (.ref l), y]) ∧ Chb b H H' ∧ Bag H' b ∧ ∃ L, H' l = some (.lst (rfs L)) ∧ PL b H' L ∧ (L.map (·.2.1)).Sublist (nm.take i))
      ⟨⟨none, rfl⟩, Chb.new nl, hB.same (new_same nl), [], upd_same, (fun q hq => by cases hq), (by simp)⟩ (fun i σ' H' _ hP => .inl (.inl (hP.2.1 _ _ tb ht))) (fun i x σ' H1 hx hP => ?_) (fun σ' H1 hP => ?_)
    · obtain ⟨⟨y, rfl⟩, c1, B1, L, hl, hL, sub⟩ := hP
      rw [List.getElem?_map] at hx
      cases hz : nm[i]? with
      | none => rw [hz] at hx; cases hx
      | some z =>
        rw [hz] at hx
        cases hx
        have zn : z ∈ nm := List.mem_of_getElem? hz
        have et : nm.take (i + 1) = nm.take i ++ [z] := by rw [List.take_add_one, hz]; rfl
        refine ⟨_, rfl, b, 3, rfl, B1, by decide, by decide, fun H2 v c2 B2 v0 v1 => ⟨v, 0, rfl, rfl, _, rfl, ite2 (fun e => ?_) (fun e => ?_)⟩⟩
        · have hl2 := c2 _ _ lb hl
          refine ⟨_, rfl, .inl ⟨rfl, _, .inl (.inl hl2)⟩, _, rfl, _, rfl, b, rfl, B2, fun H3 p ns c3 B3 hp vs pb => ?_⟩
          refine ⟨fun u H' => ∃ (q : Addr) (fs : List PySem.Str), u = .ref q ∧ Chb b H3 H' ∧ Bag H' b ∧ H' q = some (.tup (fs.map V.str)) ∧ (∀ y ∈ fs, y ∈ FTS) ∧ fs.length ≤ 4 ∧ q ≠ b, ?_, ?_⟩
          · refine ⟨_, rfl, b, 2, rfl, B3, by decide, by decide, fun H4 u c4 B4 u0 u1 => ⟨rfl, _, rfl, ite2 (fun e => ?_) (fun e => ?_)⟩⟩
            · exact ⟨_, rfl, _, rfl, b, z, rfl, B4, hN.ok z zn, fun H5 q fs c5 B5 hq hf h4 qb => ⟨q, fs, rfl, c4.trans c5, B5, hq, hf, h4, qb⟩⟩
            · obtain ⟨o4, hb4⟩ := B4.lst
              exact ⟨by show 0 ≤ sizeLine; exact Nat.zero_le _, fun q nq => ⟨q, [], rfl, c4.trans (Chb.new nq), B4.same (new_same nq), upd_same, (fun y hy => by cases hy), by decide, (ne_of_none hb4 nq).symm⟩⟩
          · rintro x H4 ⟨q2, fs, rfl, c4, B4, hq, hf, h4, qb⟩
            refine ⟨by show 2 ≤ sizeLine; decide, fun e ne => ⟨by show 2 ≤ sizeLine; decide, fun r nr => ?_⟩⟩
            have hp4 := c4 _ _ pb hp
            obtain ⟨o4, hb4⟩ := B4.lst
            have eb : e ≠ b := (ne_of_none hb4 ne).symm
            have he5 : upd H4 e (.tup [.ref p, .ref q2]) e = some (.tup [.ref p, .ref q2]) := upd_same
            have en5 : Ent b (upd H4 e (.tup [.ref p, .ref q2])) (.ref e) := ⟨e, p, q2, ns, fs, ⟨rfl, he5, new_ne hp4 ne, vs, new_ne hq ne, hf, h4⟩, eb, pb, qb⟩
            have B5 : Bag (upd H4 e (.tup [.ref p, .ref q2])) b := B4.same (new_same ne)
            have c5 : Chb b H (upd H4 e (.tup [.ref p, .ref q2])) := (((c1.trans c2).trans c3).trans c4).trans (Chb.new ne)
            have k5 : KT H1 (upd H4 e (.tup [.ref p, .ref q2])) := Chb.kt B1 (((c2.trans c3).trans c4).trans (Chb.new ne))
            have hl5 : upd H4 e (.tup [.ref p, .ref q2]) l = some (.lst (rfs L)) := new_ne ((c3.trans c4) _ _ lb hl2) ne
            generalize upd H4 e (.tup [.ref p, .ref q2]) = H5 at nr en5 B5 c5 k5 hl5 ⊢
            have hr6 : upd H5 r (.tup [.str z, .ref e]) r = some (.tup [.str z, .ref e]) := upd_same
            have hl6 := new_ne (u := .tup [.str z, .ref e]) hl5 nr
            have c6 : Chb b H (upd H5 r (.tup [.str z, .ref e])) := c5.trans (Chb.new nr)
            have B6 : Bag (upd H5 r (.tup [.str z, .ref e])) b := B5.same (new_same nr)
            have pl6 : PL b (upd H5 r (.tup [.str z, .ref e])) (L ++ [(r, z, .ref e)]) := (hL.kt (k5.trans (KT.new nr))).snoc hr6 (en5.kt (KT.new nr))
            generalize upd H5 r (.tup [.str z, .ref e]) = H6 at hl6 c6 B6 pl6 ⊢
            have few : L.length ≤ 7 := by
              have := sub.length_le
              rw [List.length_map, List.length_take] at this
              have := hN.few
              omega
            refine ⟨l, rfs L, .ref r, rfl, rfl, hl6, by rw [List.length_map, sizeLine_eq]; omega, ⟨_, rfl⟩, c6.put nl lb, (B6.set (O0.chb c6) lb ll).1, L ++ [(r, z, .ref e)], ?_, pl6.kt (KT.lst hl6), ?_⟩
            · have e7 : rfs (L ++ [(r, z, .ref e)]) = rfs L ++ [.ref r] := List.map_append
              rw [e7]
              exact upd_same
            · rw [et, List.map_append]
              exact sub.append (List.Sublist.refl _)
        · refine ⟨⟨_, rfl⟩, c1.trans c2, B2, L, c2 _ _ lb hl, hL.kt (Chb.kt B1 c2), ?_⟩
          rw [et]
          exact sub.trans (List.sublist_append_left _ _)
    · obtain ⟨⟨y, rfl⟩, c1, B1, L, hl, hL, sub⟩ := hP
      rw [List.length_map, List.take_of_length_le (Nat.le_refl _)] at sub
      have few : L.length ≤ 7 := by
        have := sub.length_le
        rw [List.length_map] at this
        have := hN.few
        omega
      refine ⟨_, rfl, _, rfl, b, l, rfs L, rfl, B1, hl, lb, by rw [List.length_map]; omega, fun H2 r ys c2 B2 nr hr pm rb => ?_⟩
      obtain ⟨L', pL, rfl⟩ := perm_map_inv pm L rfl
      have hL2 : PL b H2 L' := fun q hq => (hL.kt (Chb.kt B1 c2)) q (pL.mem_iff.mp hq)
      have nd : ((L'.map (·.2)).map (·.1)).Nodup := by
        rw [List.map_map]
        exact (pL.map _).nodup_iff.mpr (sub.nodup hN.nd)
      refine ⟨r, L'.map (·.1), kk (L'.map (·.2)), rfl, .inl (.inl (by rw [hr, List.map_map]; rfl)), pairs_dict hL2, fun d nd2 => ?_⟩
      obtain ⟨o2, hb2⟩ := B2.lst
      refine q _ d (L'.map (·.2)) ((c1.trans c2).trans (Chb.new nd2)) (B2.same (new_same nd2)) ⟨?_, (ne_of_none hb2 nd2).symm, nd, fun p hp => ?_⟩
      · rw [merge_nd _ [] (by simpa using kk_nd nd)]
        exact upd_same
      · obtain ⟨q, hq, rfl⟩ := List.mem_map.mp hp
        exact ⟨sub.subset ((pL.map _).mem_iff.mp (List.mem_map_of_mem hq)), (hL2 q hq).2.kt (KT.new nd2)⟩
end
end V5
/-! A dict with its keys ascending, in two ways. -/
namespace V5
open PySem PySem.Spec PyProof.Rows L2 TL
theorem val_kk (ks : List (PySem.Str × V)) (x : PySem.Str) : valV (kk ks) (Sum.inr x) = valV ks x := by
  induction ks with
  | nil => rfl
  | cons p ks ih =>
    by_cases e : p.1 = x
    · rw [valV_pos e]
      exact valV_pos (p := ((Sum.inr p.1 : L2.Key), p.2)) (by rw [e])
    · rw [valV_neg e, ← ih]
      exact valV_neg (p := ((Sum.inr p.1 : L2.Key), p.2)) (fun z => e (Sum.inr.inj z))
theorem val_mem {ks : List (PySem.Str × V)} (nd : (ks.map (·.1)).Nodup) {p : PySem.Str × V} (h : p ∈ ks) : valV ks p.1 = some p.2 := by
  induction ks with
  | nil => cases h
  | cons q ks ih =>
    rw [List.map_cons] at nd
    obtain ⟨n1, n2⟩ := List.nodup_cons.mp nd
    rcases List.mem_cons.mp h with e | e
    · rw [e]; exact valV_pos rfl
    · have : ¬ q.1 = p.1 := fun z => n1 (by rw [z]; exact List.mem_map_of_mem e)
      rw [valV_neg this]
      exact ih n2 e
theorem mem_val {ks : List (PySem.Str × V)} {x : PySem.Str} {v : V} (h : valV ks x = some v) : (x, v) ∈ ks := by
  induction ks with
  | nil => cases h
  | cons q ks ih =>
    by_cases e : q.1 = x
    · rw [valV_pos e] at h
      cases h
      rw [← e]; exact List.mem_cons_self
    · rw [valV_neg e] at h
      exact List.mem_cons_of_mem _ (ih h)
/-- the same pairs, keys ascending -/
structure AscD (ks ks' : List (PySem.Str × V)) : Prop where
  s : sortedS (ks'.map (·.1)) = true
  p : ks'.Perm ks
theorem AscD.one {ks k1 k2 : List (PySem.Str × V)} (nd : (ks.map (·.1)).Nodup) (a : AscD ks k1) (b : AscD ks k2) : k1 = k2 := by
  refine List.Perm.eq_of_pairwise (le := fun p q : PySem.Str × V => p.1.cps.toList ≤ q.1.cps.toList) (fun x y hx hy h1 h2 => ?_) ?_ ?_ (a.p.trans b.p.symm)
  · have e := TX.str_ext (List.le_antisymm h1 h2)
    have v1 := val_mem nd (a.p.mem_iff.mp hx)
    have v2 := val_mem nd (b.p.mem_iff.mp hy)
    rw [e, v2] at v1
    cases x; cases y
    simp at e v1
    rw [e, v1]
  · exact (List.pairwise_map (R := fun a b : PySem.Str => a.cps.toList ≤ b.cps.toList)).mp (TX.sorted_pair a.s)
  · exact (List.pairwise_map (R := fun a b : PySem.Str => a.cps.toList ≤ b.cps.toList)).mp (TX.sorted_pair b.s)
/-- the pairs of some keys -/
def prs (ks : List (PySem.Str × V)) (ys : List PySem.Str) : List (PySem.Str × V) := ys.map fun y => (y, (valV ks y).getD .non)
theorem prs_keys (ks : List (PySem.Str × V)) (ys : List PySem.Str) : (prs ks ys).map (·.1) = ys := by
  unfold prs
  rw [List.map_map]
  exact List.map_id ys
theorem prs_asc {ks : List (PySem.Str × V)} {ys : List PySem.Str} (nd : (ks.map (·.1)).Nodup) (pm : ys.Perm (ks.map (·.1))) (s : sortedS ys = true) : AscD ks (prs ks ys) := by
  refine ⟨by rw [prs_keys]; exact s, ?_⟩
  have h := pm.map fun y => (y, (valV ks y).getD V.non)
  have e : (ks.map (·.1)).map (fun y => (y, (valV ks y).getD V.non)) = ks := by
    rw [List.map_map]
    refine (List.map_congr_left fun p hp => ?_).trans (List.map_id ks)
    show (p.1, (valV ks p.1).getD V.non) = id p
    rw [val_mem nd hp]
    rfl
  rw [e] at h
  exact h
theorem val_some {ks : List (PySem.Str × V)} {x : PySem.Str} (h : x ∈ ks.map (·.1)) : ∃ v, valV ks x = some v := by
  cases e : valV ks x with
  | some v => exact ⟨v, rfl⟩
  | none => exact absurd h (valV_not e)
theorem kk_len (ks : List (PySem.Str × V)) : (kk ks).length = ks.length := List.length_map ..
theorem kk_snoc (ks : List (PySem.Str × V)) (x : PySem.Str) (v : V) : kk (ks ++ [(x, v)]) = kk ks ++ [(Sum.inr x, v)] := List.map_append
theorem take_fresh {α : Type} {ys : List α} (nd : ys.Nodup) {i : Nat} {z : α} (h : ys[i]? = some z) : z ∉ ys.take i := fun m => by
  obtain ⟨j, hj⟩ := List.mem_iff_getElem?.mp m
  rw [List.getElem?_take] at hj
  split at hj
  · rename_i lt
    obtain ⟨h1, e1⟩ := List.getElem?_eq_some_iff.mp h
    obtain ⟨h2, e2⟩ := List.getElem?_eq_some_iff.mp hj
    have : i = j := (List.getElem_inj nd).mp (e1.trans e2.symm)
    omega
  · cases hj
/-- a dict made of a list, item by item -/
theorem dc_list {K : PySem.W.Frag} {a : Addr} {xs : List V} {g : TG} {tt : TT} {tk tv : TE} {vs : List Nat} {σ : L2.St} {H1 : Hp} {D : Addr} {Qd : Hp → Prop} (Pv : Nat → Hp → Prop) (h0 : Pv 0 (upd H1 D (.dK []))) (hl : ∀ i H, i ≤ xs.length → Pv i H → SqL K H a xs)
    (hs : ∀ i x H, xs[i]? = some x → Pv i H → g x (wipe σ vs) H fun s2 H2 => wipe s2 vs = wipe σ vs ∧ tt s2 H2 fun b H3 =>
      if b = true then tk s2 H3 fun y H4 => tv s2 H4 fun z H5 => ∃ kvs k, y = kV k ∧ H5 D = some (.dK kvs) ∧ kvs.length < sizeLine ∧ Pv (i + 1) (upd H5 D (.dK (putK kvs k z))) else Pv (i + 1) H3) (hd : ∀ H, Pv xs.length H → Qd H) :
    ∃ W : Nat → Nat → Hp → Prop, (∃ m, W 0 m (upd H1 D (.dK []))) ∧ ∀ i m H, W i m H →
      ((Itl K a).stop i H ∧ Qd H) ∨ ((Itl K a).go i H ∧ ∃ Nx : Hp → Prop, (∀ H', Nx H' → ∃ m', m' < m ∧ W (i + 1) m' H') ∧ ∀ x H', (Itl K a).yld i H x H' → g x (wipe σ vs) H' fun s2 H2 => wipe s2 vs = wipe σ vs ∧ tt s2 H2 fun b H3 =>
        if b = true then tk s2 H3 fun y H4 => tv s2 H4 fun z H5 => ∃ kvs k, y = kV k ∧ H5 D = some (.dK kvs) ∧ kvs.length < sizeLine ∧ Nx (upd H5 D (.dK (putK kvs k z))) else Nx H3) := by
  refine ⟨fun i m H => (m = xs.length - i ∧ i ≤ xs.length) ∧ Pv i H, ⟨xs.length, ⟨rfl, Nat.zero_le _⟩, h0⟩, ?_⟩
  rintro i m H ⟨⟨rfl, hi⟩, p⟩
  have q := hl i H hi p
  rcases Nat.lt_or_ge i xs.length with lt | ge
  · refine .inr ⟨⟨xs, xs[i], q, List.getElem?_eq_getElem lt⟩, Pv (i + 1), fun H' p' => ⟨xs.length - (i + 1), by omega, ⟨rfl, lt⟩, p'⟩, fun x H' y => ?_⟩
    obtain ⟨rfl, y2⟩ := y
    have e := y2 xs q
    exact hs i x _ e p
  · have e : i = xs.length := Nat.le_antisymm hi ge
    subst e
    exact .inl ⟨⟨xs, q, Nat.le_refl _⟩, hd H p⟩
abbrev sCopy : Stmt := topS 4
theorem scCopy : FnScope ["lock", "name"] ["lock"] (defScope sCopy) := ⟨rfl, rfl, rfl, by decide +kernel, rfl, by decide +kernel, by decide +kernel⟩
section
variable {P : Program} {w : World} {K : PySem.W.Frag} {mg : PySem.Str → Option Value} {base : Heap}
def spCopy : Sp := fun vs H Q _ => ∃ (d : Addr) (ks : List (PySem.Str × V)), vs = [.ref d] ∧ H d = some (.dK (kk ks)) ∧ (ks.map (·.1)).Nodup ∧ ks.length ≤ 40 ∧
  ∀ (H' : Hp) (p : Addr) (ks' : List (PySem.Str × V)), Same H H' → H p = none → H' p = some (.dK (kk ks')) → AscD ks ks' → Q (.ref p) H'
theorem ok_copy {f : Addr} {fd : FuncData} {k : Nat} (F : Fun K "lock_copy" "lock_copy" sCopy f fd) (mS : mg "sorted" = none) : FnOk P w K mg base CX0 (k + 1) f fd ["lock"] spCopy := by
  refine F.ok scCopy (fun vs H Q E h => ?_) (fun cdv A outer s H vs Q E hr h => ?_)
  · obtain ⟨d, ks, rfl, _⟩ := h
    rfl
  · obtain ⟨d, ks, rfl, hd, nd, hl, q⟩ := h
    refine ⟨_, pss_one (ps_ret (pe_dc (own := [("name", 1)]) (g := gName 1) rfl scCopy.nd (pi_list (pe_callB (call_sortedD rfl) (by rfl) mS (by decide +kernel) (pa_cons (pv 0) pa_nil))) (blkOk_by (N := ["lock", "name"]) (sc := defScope sCopy) (by decide +kernel))
      (fun _ _ _ _ _ => pg_name (i := 1) scCopy.nd rfl (Or.inl rfl)) (fun _ _ _ _ _ => pts_nil) (fun _ _ _ _ _ => pv 1) (fun _ _ _ _ _ => pe_dget (Nat.lt_of_le_of_lt (Nat.add_le_add_left (by decide) _) hr.units) (pv 0) (pv 1) (fun _ _ => rfl)))), ?_⟩
    refine ⟨_, rfl, d, kk ks, ks.map (·.1), rfl, .inl hd, kk_keys ks, by rw [List.length_map]; omega, fun ys p pm ss np => ⟨p, rfl, ⟨_, .inl (.inl upd_same)⟩, fun D nD => ?_⟩⟩
    have s1 : Same H (upd H p (.lst (ys.map V.str))) := new_same np
    have hp1 : upd H p (.lst (ys.map V.str)) p = some (.lst (ys.map V.str)) := upd_same
    generalize upd H p (.lst (ys.map V.str)) = H1 at s1 hp1 nD ⊢
    have hd1 := s1 _ _ hd
    have Dp : p ≠ D := ne_of_none hp1 nD
    have Dd : d ≠ D := ne_of_none hd1 nD
    have yn : ys.Nodup := pm.nodup_iff.mpr nd
    have yl : ys.length ≤ 40 := by rw [pm.length_eq, List.length_map]; exact hl
    refine dc_list (K := K) (a := p) (xs := ys.map V.str) (fun i Hc => Hc D = some (.dK (kk (prs ks (ys.take i)))) ∧ ∀ x o, x ≠ D → H1 x = some o → Hc x = some o) ⟨upd_same, fun x o n e => by rw [upd_ne n]; exact e⟩ (fun i Hc _ hP => .inl (.inl (hP.2 _ _ Dp hp1))) (fun i x Hc hx hP => ?_) (fun Hc hP => ?_)
    · obtain ⟨h1, h2⟩ := hP
      rw [List.getElem?_map] at hx
      cases hz : ys[i]? with
      | none => rw [hz] at hx; cases hx
      | some z =>
        rw [hz] at hx
        cases hx
        obtain ⟨v, hv⟩ := val_some (pm.mem_iff.mp (List.mem_of_getElem? hz))
        have hdc := h2 _ _ Dd hd1
        refine ⟨rfl, _, rfl, _, rfl, _, rfl, d, v, rfl, ?_, kk (prs ks (ys.take i)), Sum.inr z, rfl, h1, ?_, ?_, fun x o n e => by rw [upd_ne n]; exact h2 x o n e⟩
        · have := DGet.k (k := Sum.inr z) hdc
          rw [val_kk, hv] at this
          exact this
        · rw [kk_len, prs, List.length_map, List.length_take, sizeLine_eq]; omega
        · have hn : valV (kk (prs ks (ys.take i))) (Sum.inr z) = none := by
            rw [val_kk]
            cases e : valV (prs ks (ys.take i)) z with
            | none => rfl
            | some u =>
              have := valV_in e
              rw [prs_keys] at this
              have h3 := take_fresh yn hz
              exact absurd this h3
          rw [putK_new _ hn, upd_same]
          have e1 : ys.take (i + 1) = ys.take i ++ [z] := by rw [List.take_add_one, hz]; rfl
          have e2 : prs ks (ys.take i ++ [z]) = prs ks (ys.take i) ++ [(z, (valV ks z).getD .non)] := List.map_append
          rw [e1, e2, kk_snoc, hv]
          rfl
    · obtain ⟨h1, h2⟩ := hP
      rw [List.length_map, List.take_of_length_le (Nat.le_refl _)] at h1
      refine q Hc D _ (fun x o e => ?_) (same_no s1 nD) h1 (prs_asc nd pm ss)
      have e1 := s1 _ _ e
      exact h2 x o (ne_of_none e1 nD) e1
end
end V5
/-! The law's own dict, keys ascending. -/
namespace V5
open PySem PySem.Spec PyProof.Rows L2 TL
section
variable {P : Program} {w : World} {K : PySem.W.Frag} {mg : PySem.Str → Option Value} {base : Heap}
theorem pairs_dict0 {K : PySem.W.Frag} {H : Hp} {L : List Pr} (h : ∀ q ∈ L, H q.1 = some (.tup [.str q.2.1, q.2.2])) : Paired (fun p kv => SqT K H p [kV kv.1, kv.2]) (L.map (·.1)) (kk (L.map (·.2))) := by
  induction L with
  | nil => exact .nil
  | cons q L ih => exact .cons (.inl (.inl (h q List.mem_cons_self))) (ih fun r hr => h r (List.mem_cons_of_mem _ hr))
theorem ok_asc {f : Addr} {fd : FuncData} {k : Nat} (F : Fun K "_law_ascending_dict" "_law_ascending_dict" sAsc f fd) (mS : mg "sorted" = none) (mD : mg "dict" = none) : FnOk P w K mg base CX0 (k + 1) f fd ["found"] spCopy := by
  refine F.ok scAsc (fun vs H Q E h => ?_) (fun cdv A outer s H vs Q E hr h => ?_)
  · obtain ⟨d, ks, rfl, _⟩ := h
    rfl
  · obtain ⟨d, ks, rfl, hd, nd, hl, q⟩ := h
    refine ⟨_, pss_one (ps_ret (pe_callTy (call_dictP rfl) (by rfl) mD (by decide +kernel) (pa_cons (pe_lc (own := [("key", 1)]) (g := gName 1) rfl scAsc.nd (pi_list (pe_callB (call_sortedD rfl) (by rfl) mS (by decide +kernel) (pa_cons (pv 0) pa_nil))) (blkOk_by (N := ["found", "key"]) (sc := defScope sAsc) (by decide +kernel))
      (fun _ _ _ _ _ => pg_name (i := 1) scAsc.nd rfl (Or.inl rfl)) (fun _ _ _ _ _ => pts_nil) (fun _ _ _ _ _ => pe_tup (pa_cons (pv 1) (pa_cons (pe_dget (Nat.lt_of_le_of_lt (Nat.add_le_add_left (by decide) _) hr.units) (pv 0) (pv 1) (fun _ _ => rfl)) pa_nil)))) pa_nil))), ?_⟩
    refine ⟨_, rfl, d, kk ks, ks.map (·.1), rfl, .inl hd, kk_keys ks, by rw [List.length_map]; omega, fun ys p pm ss np => ⟨p, rfl, ⟨_, .inl (.inl upd_same)⟩, fun D nD => ?_⟩⟩
    have s1 : Same H (upd H p (.lst (ys.map V.str))) := new_same np
    have hp1 : upd H p (.lst (ys.map V.str)) p = some (.lst (ys.map V.str)) := upd_same
    generalize upd H p (.lst (ys.map V.str)) = H1 at s1 hp1 nD ⊢
    have hd1 := s1 _ _ hd
    have Dp : p ≠ D := ne_of_none hp1 nD
    have Dd : d ≠ D := ne_of_none hd1 nD
    have yn : ys.Nodup := pm.nodup_iff.mpr nd
    have yl : ys.length ≤ 40 := by rw [pm.length_eq, List.length_map]; exact hl
    refine lc_list (K := K) (a := p) (xs := ys.map V.str) (fun i Hc => (∃ L : List Pr, Hc D = some (.lst (rfs L)) ∧ (∀ q ∈ L, Hc q.1 = some (.tup [.str q.2.1, q.2.2])) ∧ L.map (·.2) = prs ks (ys.take i)) ∧ ∀ x o, x ≠ D → H1 x = some o → Hc x = some o)
      ⟨⟨[], upd_same, (fun q hq => by cases hq), rfl⟩, fun x o n e => by rw [upd_ne n]; exact e⟩ (fun i Hc _ hP => .inl (.inl (hP.2 _ _ Dp hp1))) (fun i x Hc hx hP => ?_) (fun Hc hP => ?_)
    · obtain ⟨⟨L, h1, hL, e0⟩, h2⟩ := hP
      rw [List.getElem?_map] at hx
      cases hz : ys[i]? with
      | none => rw [hz] at hx; cases hx
      | some z =>
        rw [hz] at hx
        cases hx
        obtain ⟨v, hv⟩ := val_some (pm.mem_iff.mp (List.mem_of_getElem? hz))
        have hdc := h2 _ _ Dd hd1
        refine ⟨rfl, _, rfl, _, rfl, _, rfl, d, v, rfl, ?_, by show 2 ≤ sizeLine; decide, fun r nr => ?_⟩
        · have := DGet.k (k := Sum.inr z) hdc
          rw [val_kk, hv] at this
          exact this
        · have hr1 : upd Hc r (.tup [.str z, v]) r = some (.tup [.str z, v]) := upd_same
          have h3 := new_ne (u := .tup [.str z, v]) h1 nr
          have h4 : ∀ q ∈ L ++ [(r, z, v)], upd Hc r (.tup [.str z, v]) q.1 = some (.tup [.str q.2.1, q.2.2]) := fun q hq => by
            rcases List.mem_append.mp hq with e | e
            · exact new_ne (hL q e) nr
            · rw [List.mem_singleton] at e
              rw [e]; exact hr1
          have h5 : ∀ x o, x ≠ D → H1 x = some o → upd Hc r (.tup [.str z, v]) x = some o := fun x o n e => new_ne (h2 x o n e) nr
          generalize upd Hc r (.tup [.str z, v]) = H3 at h3 h4 h5 ⊢
          have ll : L.length ≤ 40 := by
            have := congrArg List.length e0
            rw [List.length_map, prs, List.length_map, List.length_take] at this
            omega
          refine ⟨rfs L, h3, by rw [List.length_map, sizeLine_eq]; omega, ⟨L ++ [(r, z, v)], ?_, fun q hq => ?_, ?_⟩, fun x o n e => by rw [upd_ne n]; exact h5 x o n e⟩
          · have e7 : rfs (L ++ [(r, z, v)]) = rfs L ++ [.ref r] := List.map_append
            rw [e7]
            exact upd_same
          · rw [upd_ne (fun e => by have := h4 q hq; rw [e, h3] at this; cases this)]
            exact h4 q hq
          · have e1 : ys.take (i + 1) = ys.take i ++ [z] := by rw [List.take_add_one, hz]; rfl
            have e2 : prs ks (ys.take i ++ [z]) = prs ks (ys.take i) ++ [(z, (valV ks z).getD .non)] := List.map_append
            rw [e1, e2, List.map_append, e0, hv]
            rfl
    · obtain ⟨⟨L, h1, hL, e0⟩, h2⟩ := hP
      rw [List.length_map, List.take_of_length_le (Nat.le_refl _)] at e0
      have A1 := prs_asc nd pm ss
      rw [← e0] at A1
      have nd1 : ((L.map (·.2)).map (·.1)).Nodup := by rw [e0, prs_keys]; exact yn
      refine ⟨D, L.map (·.1), kk (L.map (·.2)), rfl, .inl (.inl (by rw [h1, List.map_map]; rfl)), pairs_dict0 hL, fun r nr => ?_⟩
      have same : Same H Hc := fun x o e => h2 x o (ne_of_none (s1 _ _ e) nD) (s1 _ _ e)
      refine q _ r (L.map (·.2)) (same.trans (new_same nr)) (same_no same nr) ?_ A1
      rw [merge_nd _ [] (by simpa using kk_nd nd1)]
      exact upd_same
end
end V5
/-! Locks near another. -/
namespace V5
open PySem PySem.Spec PyProof.Rows L2 TL
theorem any_kk (ks : List (PySem.Str × V)) (z : PySem.Str) : ((kk ks).any fun kv => decide (kv.1 = Sum.inr z)) = ks.any fun kv => decide (kv.1 = z) := by
  rw [valV_any, valV_any, val_kk]
theorem kk_put (ks : List (PySem.Str × V)) (z : PySem.Str) (v : V) : kk (putK ks z v) = putK (kk ks) (Sum.inr z) v := by
  unfold putK
  rw [any_kk]
  by_cases h : (ks.any fun kv => decide (kv.1 = z)) = true
  · rw [if_pos h, if_pos h]
    unfold kk
    rw [List.map_map, List.map_map]
    refine List.map_congr_left fun p _ => ?_
    show (Sum.inr (if p.1 = z then (p.1, v) else p).1, (if p.1 = z then (p.1, v) else p).2) = if (Sum.inr p.1 : L2.Key) = Sum.inr z then (Sum.inr p.1, v) else (Sum.inr p.1, p.2)
    by_cases e : p.1 = z
    · rw [if_pos e, if_pos (by rw [e])]
    · rw [if_neg e, if_neg (fun x => e (Sum.inr.inj x))]
  · rw [if_neg h, if_neg h, kk_snoc]
theorem put_mem {ks : List (PySem.Str × V)} {z : PySem.Str} {v : V} {p : PySem.Str × V} (h : p ∈ putK ks z v) : p = (z, v) ∨ p ∈ ks := by
  unfold putK at h
  by_cases c : (ks.any fun kv => decide (kv.1 = z)) = true
  · rw [if_pos c] at h
    obtain ⟨q, hq, e⟩ := List.mem_map.mp h
    by_cases e1 : q.1 = z
    · rw [if_pos e1] at e
      exact .inl (by rw [← e, e1])
    · rw [if_neg e1] at e
      exact .inr (e ▸ hq)
  · rw [if_neg c] at h
    rcases List.mem_append.mp h with e | e
    · exact .inr e
    · rw [List.mem_singleton] at e
      exact .inl e
theorem put_nd {ks : List (PySem.Str × V)} {z : PySem.Str} {v : V} (nd : (ks.map (·.1)).Nodup) : ((putK ks z v).map (·.1)).Nodup := by
  cases e : valV ks z with
  | none => exact nd_putK v nd e
  | some u =>
    have c : (ks.any fun kv => decide (kv.1 = z)) = true := by rw [valV_any, e]; rfl
    unfold putK
    rw [if_pos c, List.map_map]
    have : (ks.map fun p => (if p.1 = z then (p.1, v) else p).1) = ks.map (·.1) := List.map_congr_left fun p _ => by split <;> rfl
    show (ks.map fun p => (if p.1 = z then (p.1, v) else p).1).Nodup
    rw [this]
    exact nd
theorem kk_drop (ks : List (PySem.Str × V)) (z : PySem.Str) : kk (dropK ks z) = dropK (kk ks) (Sum.inr z) := by
  induction ks with
  | nil => rfl
  | cons p ks ih =>
    by_cases e : p.1 = z
    · rw [dropK_pos e, ih]
      exact (dropK_pos (p := ((Sum.inr p.1 : L2.Key), p.2)) (by rw [e])).symm
    · rw [dropK_neg e]
      show _ :: kk (dropK ks z) = _
      rw [ih]
      exact (dropK_neg (p := ((Sum.inr p.1 : L2.Key), p.2)) (fun x => e (Sum.inr.inj x))).symm
section
variable {b d : Addr} {H : Hp} {nm : List PySem.Str} {ks : List (PySem.Str × V)}
theorem Lk.put {z : PySem.Str} {v : V} (h : Lk b H d nm ks) (hz : z ∈ nm) (hv : Ent b H v) : Lk b (upd H d (.dK (putK (kk ks) (Sum.inr z) v))) d nm (putK ks z v) := by
  refine ⟨by rw [kk_put]; exact upd_same, h.nb, put_nd h.nd, fun p hp => ?_⟩
  have k : KT H (upd H d (.dK (putK (kk ks) (Sum.inr z) v))) := KT.dic h.at_
  rcases put_mem hp with e | e
  · rw [e]; exact ⟨hz, hv.kt k⟩
  · exact ⟨(h.all p e).1, (h.all p e).2.kt k⟩
theorem Lk.drop {z : PySem.Str} (h : Lk b H d nm ks) : Lk b (upd H d (.dK (dropK (kk ks) (Sum.inr z)))) d nm (dropK ks z) := by
  refine ⟨by rw [kk_drop]; exact upd_same, h.nb, nd_dropK h.nd, fun p hp => ?_⟩
  have k : KT H (upd H d (.dK (dropK (kk ks) (Sum.inr z)))) := KT.dic h.at_
  have e := dropK_mem hp
  exact ⟨(h.all p e).1, (h.all p e).2.kt k⟩
theorem Lk.val {z : PySem.Str} {v : V} (h : Lk b H d nm ks) (e : valV ks z = some v) : z ∈ nm ∧ Ent b H v := h.all _ (mem_val e)
end
/-- the pairs that list(d.items()) makes -/
theorem pairs_back {H0 H : Hp} : ∀ {as : List Addr} {ks : List (PySem.Str × V)}, Paired (fun b (kv : L2.Key × V) => H0 b = none ∧ H b = some (.tup [kV kv.1, kv.2])) as (kk ks) → ∃ L : List Pr, as = L.map (·.1) ∧ (∀ q ∈ L, H q.1 = some (.tup [.str q.2.1, q.2.2])) ∧ L.map (·.2) = ks
  | [], [], _ => ⟨[], rfl, (fun q hq => by cases hq), rfl⟩
  | a :: as, [], h => by cases h
  | [], p :: ks, h => by cases h
  | a :: as, p :: ks, h => by
    cases h with
    | cons h1 h2 =>
      obtain ⟨L, e1, e2, e3⟩ := pairs_back h2
      refine ⟨(a, p) :: L, by rw [List.map_cons, e1], fun q hq => ?_, by rw [List.map_cons, e3]⟩
      rcases List.mem_cons.mp hq with e | e
      · rw [e]; exact h1.2
      · exact e2 q e
abbrev sNear : Stmt := topS 20
theorem scNear : FnScope ["bag", "lock", "names", "found", "turn", "name", "way"] ["bag", "lock", "names"] (defScope sNear) := ⟨rfl, rfl, rfl, by decide +kernel, rfl, by decide +kernel, by decide +kernel⟩
section
variable {P : Program} {w : World} {K : PySem.W.Frag} {mg : PySem.Str → Option Value} {base : Heap} {fT fO fM fV fE : Addr} {dT dO dM dV dE : FuncData}
def spNear : Sp := fun vs H Q _ => ∃ (b d t : Addr) (nm : List PySem.Str) (ks : List (PySem.Str × V)), vs = [.ref b, .ref d, .ref t] ∧ Bag H b ∧ Lk b H d nm ks ∧ H t = some (.lst (nm.map V.str)) ∧ t ≠ b ∧ Nm nm ∧
  ∀ (H' : Hp) (p : Addr) (ks' : List (PySem.Str × V)), Chb b H H' → Bag H' b → Lk b H' p nm ks' → Q (.ref p) H'
theorem ok_near {f : Addr} {fd : FuncData} {k : Nat} (F : Fun K "_law_near_lock" "_law_near_lock" sNear f fd) (T : Drw K mg fT fO fM fV fE dT dO dM dV dE) : FnOk P w K mg base CX0 (k + 4) f fd ["bag", "lock", "names"] spNear := by
  have GT : FnOk P w K mg base CX0 (k + 3) fT dT ["bag", "many"] spTake := ok_take T.FT T.mI
  have GO : FnOk P w K mg base CX0 (k + 3) fO dO ["bag", "things"] spOne := ok_one T.FO T.FT T.bT T.gT T.mI T.mL
  have GV : FnOk P w K mg base CX0 (k + 3) fV dV ["bag"] spVersion := ok_version T.FV T.FO T.bO T.gO T.FT T.bT T.gT T.mI T.mL T.mR T.mU
  have GE : FnOk P w K mg base CX0 (k + 3) fE dE ["bag", "name"] spFeat := ok_feat T.FE T.FT T.bT T.gT T.mI T.mU T.mS T.mE
  have GM : FnOk P w K mg base CX0 (k + 3) fM dM ["bag", "things"] spMixed := ok_mixed T.FM T.FT T.bT T.gT T.mI T.mL
  refine F.ok scNear (fun vs H Q E h => ?_) (fun cdv A outer s H vs Q E hr h => ?_)
  · obtain ⟨b, d, t, nm, ks, rfl, _⟩ := h
    rfl
  · obtain ⟨b, d, t, nm, ks, rfl, hB, hd, ht, tb, hN, q⟩ := h
    have hu1 := Nat.lt_of_le_of_lt (Nat.add_le_add_left (show 1 ≤ 64 by decide) _) hr.units
    refine ⟨_, pss_cons (ps_set (i := 3) scNear.nd rfl (.inl rfl) (pe_callTy call_dictD (by rfl) T.mD (by decide +kernel) (pa_cons (pv 1) pa_nil)))
      (pss_cons (ps_for PassesOwn.never rfl (pi_range1 (by rfl) T.mR (pa_cons (pe_call GT hr (by rfl) T.gT T.FT.kp T.bT .nil pass0 (pa_cons (pv 0) (pa_cons pe_int pa_nil))) pa_nil)) (pg_name (i := 4) scNear.nd rfl (Or.inl rfl))
        (pss_cons (ps_par (i := 5) (j := 6) rfl scNear.nd rfl rfl (by decide) rfl rfl (pa_cons (pe_call GO hr (by rfl) T.gO T.FO.kp T.bO .nil pass0 (pa_cons (pv 0) (pa_cons (pv 2) pa_nil))) (pa_cons (pe_call GT hr (by rfl) T.gT T.FT.kp T.bT .nil pass0 (pa_cons (pv 0) (pa_cons pe_int pa_nil))) pa_nil)) (by rfl))
        (pss_one (ps_if (pt_cmpR op_eq (pv 6) pe_int (nomark _))
          (pss_one (ps_expr (pe_dpop2 (pv 3) (pv 5) pe_non ⟨rfl, rfl, rfl, rfl⟩)))
          (pss_one (ps_if (pt_mid (PW.pt (pw_and (pt_cmpR op_eq (pv 6) pe_int (nomark _)) (pw_and1 (pt_cmp (pc_din hu1 (pv 5) (pv 3)))))))
            (pss_one (ps_dput hu1 (pv 3) (pv 5) (pe_tup (pa_cons (pe_ix ix_tup (pe_dget hu1 (pv 3) (pv 5) (fun _ _ => rfl)) pe_int (fun _ _ => rfl)) (pa_cons (pe_call GE hr (by rfl) T.gE T.FE.kp T.bE .nil pass0 (pa_cons (pv 0) (pa_cons (pv 5) pa_nil))) pa_nil))) (by rfl)))
            (pss_one (ps_dput hu1 (pv 3) (pv 5) (pe_tup (pa_cons (pe_call GV hr (by rfl) T.gV T.FV.kp T.bV .nil pass0 (pa_cons (pv 0) pa_nil)) (pa_cons (pe_ix ix_tup (pe_dget2 hu1 (pv 3) (pv 5) (pe_tup (pa_cons pe_int (pa_cons (pe_tup pa_nil) pa_nil))) ⟨rfl, rfl, rfl, rfl⟩) pe_int (fun _ _ => rfl)) pa_nil))) (by rfl)))))))))
      (pss_one (ps_ret (pe_callTy (call_dictP rfl) (by rfl) T.mD (by decide +kernel) (pa_cons (pe_call GM hr (by rfl) T.gM T.FM.kp T.bM .nil pass0 (pa_cons (pv 0) (pa_cons (pe_callTy (TX.cr_listItems rfl) (by rfl) T.mLi (by decide +kernel) (pa_cons (pe_bm0 PySem.F.plainAttrs_dict PySem.F.slot_dict_items PySem.F.type_dict_items TX.mt_items (pv 3)) pa_nil)) pa_nil))) pa_nil))))), ?_⟩
    refine ⟨_, rfl, d, kk ks, rfl, .inl hd.at_, fun l nl => ?_⟩
    obtain ⟨ob, hb⟩ := hB.lst
    obtain ⟨lc, cs0, O0, hlc, lcb⟩ := hB.own
    have lb : l ≠ b := (ne_of_none hb nl).symm
    have ll : l ≠ lc := (ne_of_none hlc nl).symm
    have B1 : Bag (upd H l (.dK (kk ks))) b := hB.same (new_same nl)
    have L1 : Lk b (upd H l (.dK (kk ks))) l nm ks := ⟨upd_same, lb, hd.nd, fun p hp => ⟨(hd.all p hp).1, (hd.all p hp).2.kt (KT.new nl)⟩⟩
    have c1 : Chb b H (upd H l (.dK (kk ks))) := Chb.new nl
    generalize upd H l (.dK (kk ks)) = H1 at B1 L1 c1 ⊢
    refine ⟨_, rfl, b, 5, rfl, B1, by decide, by decide, fun H2 v c2 B2 v0 v1 => ⟨v, rfl, by omega, by omega, ?_⟩⟩
    refine for_range (n := v.toNat) (fun i σ' H' => (∃ y z u, σ' = [some (.ref b), some (.ref d), some (.ref t), some (.ref l), y, z, u]) ∧ Chb b H H' ∧ Bag H' b ∧ ∃ ks', Lk b H' l nm ks') ⟨⟨_, _, _, rfl⟩, c1.trans c2, B2, ks, L1.chb B1 c2⟩ (fun i σ' H3 hi hP => ?_) (fun σ' H3 hP => ?_)
    · obtain ⟨⟨y0, z0, u0, rfl⟩, c3, B3, ks3, L3⟩ := hP
      have lnm : nm.length ≤ 7 := hN.few
      refine ⟨_, rfl, _, rfl, b, t, nm.map V.str, rfl, B3, c3 _ _ tb ht, tb, by simpa using hN.ne, by rw [List.length_map]; omega, fun H4 x c4 B4 hx => ⟨_, rfl, b, 4, rfl, B4, by decide, by decide, fun H5 u c5 B5 u0 u1 => ?_⟩⟩
      obtain ⟨z, hz, rfl⟩ := List.mem_map.mp hx
      have c35 := (c4.trans c5)
      have L5 := L3.chb B3 c35
      have few5 := L5.few hN
      have c05 := c3.trans c35
      have fin : ∀ (o : HO) (ks' : List (PySem.Str × V)) (H6 : Hp), Chb b H5 H6 → Bag H6 b → Lk b (upd H6 l o) l nm ks' → Chb b H (upd H6 l o) ∧ Bag (upd H6 l o) b ∧ ∃ ks', Lk b (upd H6 l o) l nm ks' := fun o ks' H6 c B L => by
        have c6 := c05.trans c
        exact ⟨c6.put nl lb, (B.set (O0.chb c6) lb ll).1, ks', L⟩
      refine ⟨_, _, rfl, _, rfl, rfl, _, rfl, ite2 (fun e => ?_) (fun e => ?_)⟩
      · refine ⟨_, rfl, l, rfl, .inl ⟨_, .inl L5.at_⟩, _, rfl, kk ks3, Sum.inr z, L5.at_, rfl, fun w' hw => ⟨⟨_, _, _, rfl⟩, fin _ _ H5 Chb.refl B5 L5.drop⟩, fun hn => ⟨⟨_, _, _, rfl⟩, c05, B5, ks3, L5⟩⟩
      · refine ⟨fun c H' => H5 = H' ∧ (c = true → ∃ v, valV ks3 z = some v), ⟨_, rfl, rfl, _, rfl, ite2 (fun e1 => ?_) (fun e1 => ⟨rfl, fun y => nomatch y⟩)⟩, ?_⟩
        · refine ⟨_, rfl, _, rfl, l, valV (kk ks3) (Sum.inr z), rfl, DGet.k (k := Sum.inr z) L5.at_, _, rfl, rfl, fun y => ?_⟩
          rw [val_kk] at y
          cases hv : valV ks3 z with
          | none => rw [hv] at y; cases y
          | some v => exact ⟨v, rfl⟩
        rintro c H' ⟨rfl, hc⟩
        refine ite2 (fun y => ?_) (fun _ => ?_)
        · obtain ⟨w', hw⟩ := hc y
          have dg : DGet H5 l (V.str z) (some w') := by
            have := DGet.k (k := Sum.inr z) L5.at_
            rw [val_kk, hw] at this
            exact this
          obtain ⟨e0, p0, q0, ns, fs0, t0, eb, pb, qb⟩ := (L5.val hw).2
          refine ⟨_, rfl, _, rfl, l, w', rfl, dg, e0, [.ref p0, .ref q0], 0, .ref p0, t0.v, rfl, .inl (.inl t0.he), rfl, _, rfl, _, rfl, b, z, rfl, B5, hN.ok z hz, fun H6 q2 fs c6 B6 hq hf h4 q2b => ⟨by show 2 ≤ sizeLine; decide, fun e2 ne2 => ?_⟩⟩
          obtain ⟨o6, hb6⟩ := B6.lst
          have eb2 : e2 ≠ b := (ne_of_none hb6 ne2).symm
          have t6 := t0.kt (Chb.kt B5 c6)
          have en : Ent b (upd H6 e2 (.tup [.ref p0, .ref q2])) (.ref e2) := ⟨e2, p0, q2, ns, fs, ⟨rfl, upd_same, new_ne t6.hp ne2, t6.vs, new_ne hq ne2, hf, h4⟩, eb2, pb, q2b⟩
          have L7 : Lk b (upd H6 e2 (.tup [.ref p0, .ref q2])) l nm ks3 := (L5.chb B5 c6).same (new_same ne2)
          have B7 : Bag (upd H6 e2 (.tup [.ref p0, .ref q2])) b := B6.same (new_same ne2)
          have c7 : Chb b H5 (upd H6 e2 (.tup [.ref p0, .ref q2])) := c6.trans (Chb.new ne2)
          generalize upd H6 e2 (.tup [.ref p0, .ref q2]) = H7 at en L7 B7 c7 ⊢
          exact ⟨_, rfl, _, rfl, l, _, rfl, .inl ⟨kk ks3, Sum.inr z, L7.at_, rfl, by rw [kk_len, sizeLine_eq]; omega, rfl⟩, ⟨_, _, _, rfl⟩, fin _ _ H7 c7 B7 (L7.put hz en)⟩
        · refine ⟨_, rfl, b, rfl, B5, fun H6 p ns c6 B6 hp vs pb => ⟨_, rfl, l, rfl, ?_⟩⟩
          have L6 := L5.chb B5 c6
          refine ⟨.inl ⟨_, .inl L6.at_⟩, _, rfl, by show 0 ≤ sizeLine; exact Nat.zero_le _, fun a1 na1 => ⟨by show 2 ≤ sizeLine; decide, fun a2 na2 => ?_⟩⟩
          obtain ⟨o6, hb6⟩ := B6.lst
          have a1b : a1 ≠ b := (ne_of_none hb6 na1).symm
          have s7 : Same H6 (upd (upd H6 a1 (.tup [])) a2 (.tup [.int 0, .ref a1])) := (new_same na1).trans (new_same na2)
          have h1 : upd (upd H6 a1 (.tup [])) a2 (.tup [.int 0, .ref a1]) a1 = some (.tup []) := new_ne upd_same na2
          have h2 : upd (upd H6 a1 (.tup [])) a2 (.tup [.int 0, .ref a1]) a2 = some (.tup [.int 0, .ref a1]) := upd_same
          generalize upd (upd H6 a1 (.tup [])) a2 (.tup [.int 0, .ref a1]) = H7 at s7 h1 h2 ⊢
          have L7 := L6.same s7
          have B7 := B6.same s7
          have hp7 := s7 _ _ hp
          have last : ∃ (e2 : Addr) (q2 : Addr) (fs : List PySem.Str), (valV (kk ks3) (Sum.inr z)).getD (.ref a2) = .ref e2 ∧ (∃ x, H7 e2 = some (.tup [x, .ref q2])) ∧ H7 q2 = some (.tup (fs.map V.str)) ∧ (∀ y ∈ fs, y ∈ FTS) ∧ fs.length ≤ 4 ∧ q2 ≠ b := by
            rw [val_kk]
            cases hv : valV ks3 z with
            | none => exact ⟨a2, a1, [], rfl, ⟨_, h2⟩, h1, (fun y hy => by cases hy), by decide, a1b⟩
            | some w' =>
              obtain ⟨e0, p0, q0, ns0, fs0, t0, eb, pb0, qb⟩ := (L7.val hv).2
              exact ⟨e0, q0, fs0, t0.v, ⟨_, t0.he⟩, t0.hq, t0.ok, t0.few, qb⟩
          obtain ⟨e2, q2, fs, g1, ⟨x0, g2⟩, g3, g4, g5, q2b⟩ := last
          refine ⟨valV (kk ks3) (Sum.inr z), DGet.k (k := Sum.inr z) L7.at_, e2, [x0, .ref q2], 1, .ref q2, g1, rfl, .inl (.inl g2), rfl, by show 2 ≤ sizeLine; decide, fun e3 ne3 => ?_⟩
          obtain ⟨o7, hb7⟩ := B7.lst
          have e3b : e3 ≠ b := (ne_of_none hb7 ne3).symm
          have en : Ent b (upd H7 e3 (.tup [.ref p, .ref q2])) (.ref e3) := ⟨e3, p, q2, ns, fs, ⟨rfl, upd_same, new_ne hp7 ne3, vs, new_ne g3 ne3, g4, g5⟩, e3b, pb, q2b⟩
          have L8 : Lk b (upd H7 e3 (.tup [.ref p, .ref q2])) l nm ks3 := L7.same (new_same ne3)
          have B8 : Bag (upd H7 e3 (.tup [.ref p, .ref q2])) b := B7.same (new_same ne3)
          have c8 : Chb b H5 (upd H7 e3 (.tup [.ref p, .ref q2])) := (c6.trans (Chb.same s7)).trans (Chb.new ne3)
          generalize upd H7 e3 (.tup [.ref p, .ref q2]) = H8 at en L8 B8 c8 ⊢
          exact ⟨_, rfl, _, rfl, l, _, rfl, .inl ⟨kk ks3, Sum.inr z, L8.at_, rfl, by rw [kk_len, sizeLine_eq]; omega, rfl⟩, ⟨_, _, _, rfl⟩, fin _ _ H8 c8 B8 (L8.put hz en)⟩
    · obtain ⟨⟨y0, z0, u0, rfl⟩, c3, B3, ks3, L3⟩ := hP
      have few3 := L3.few hN
      refine ⟨_, rfl, _, rfl, .inr (.inr (.inl ⟨rfl, .inl ⟨_, L3.at_⟩⟩)), l, kk ks3, rfl, rfl, L3.at_, fun p np => ⟨p, l, kk ks3, rfl, upd_same, new_ne L3.at_ np, fun H4 r as k4 nr hr pr => ?_⟩⟩
      have s4 : Same H3 H4 := fun x o e => k4 x o (new_ne e np)
      have B4 := B3.same s4
      obtain ⟨o3, hb3⟩ := B3.lst
      have rb : r ≠ b := (ne_of_none (new_ne hb3 np) nr).symm
      obtain ⟨L, eL, hL, eK⟩ := pairs_back pr
      have la : as.length ≤ 7 := by
        rw [eL, List.length_map, ← List.length_map (f := Prod.snd), eK]
        exact few3
      refine ⟨b, r, as.map V.ref, rfl, B4, hr, rb, by rw [List.length_map]; omega, fun H5 r2 ys c5 B5 nr2 hr2 pm r2b => ?_⟩
      have eR : as.map V.ref = rfs L := by rw [eL, List.map_map]; rfl
      obtain ⟨L', pL, rfl⟩ := perm_map_inv pm L eR
      have L4 := (L3.same s4)
      have hL5 : PL b H5 L' := fun q hq => by
        have hq' := pL.mem_iff.mp hq
        exact ⟨Chb.kt B4 c5 _ _ (hL q hq'), ((L4.all q.2 (by rw [← eK]; exact List.mem_map_of_mem hq')).2).kt (Chb.kt B4 c5)⟩
      have nd : ((L'.map (·.2)).map (·.1)).Nodup := by
        have h0 : ((L.map (·.2)).map (·.1)).Nodup := by rw [eK]; exact L3.nd
        exact ((pL.map (·.2)).map (·.1)).nodup_iff.mpr h0
      refine ⟨r2, L'.map (·.1), kk (L'.map (·.2)), rfl, .inl (.inl (by rw [hr2, List.map_map]; rfl)), pairs_dict hL5, fun d2 nd2 => ?_⟩
      obtain ⟨o5, hb5⟩ := B5.lst
      refine q _ d2 (L'.map (·.2)) (((c3.trans (Chb.same s4)).trans c5).trans (Chb.new nd2)) (B5.same (new_same nd2)) ⟨?_, (ne_of_none hb5 nd2).symm, nd, fun p hp => ?_⟩
      · rw [merge_nd _ [] (by simpa using kk_nd nd)]
        exact upd_same
      · obtain ⟨q1, hq, rfl⟩ := List.mem_map.mp hp
        exact ⟨(L3.all q1.2 (by rw [← eK]; exact List.mem_map_of_mem (pL.mem_iff.mp hq))).1, (hL5 q1 hq).2.kt (KT.new nd2)⟩
end
end V5
/-! Changes between two locks, in two ways. -/
namespace V5
open PySem PySem.Spec PyProof.Rows L2 TL
def g (ks : List (PySem.Str × V)) (n : PySem.Str) : V := (valV ks n).getD .non
abbrev Row := Addr × PySem.Str × V × V
def RL (H0 H : Hp) (L : List Row) : Prop := ∀ q ∈ L, H0 q.1 = none ∧ H q.1 = some (.tup [.str q.2.1, q.2.2.1, q.2.2.2])
abbrev rrs (L : List Row) : List V := L.map fun q => V.ref q.1
def rws (H : Hp) (k1 k2 : List (PySem.Str × V)) (ys : List PySem.Str) : List (PySem.Str × V × V) := (ys.filter fun n => ne H (g k1 n) (g k2 n)).map fun n => (n, g k1 n, g k2 n)
def keysOf (ks : List (PySem.Str × V)) : List PySem.Str := ks.map (·.1)
theorem Lk.en {b d : Addr} {H : Hp} {nm : List PySem.Str} {ks : List (PySem.Str × V)} (h : Lk b H d nm ks) (n : PySem.Str) : En b H (g ks n) := by
  unfold g
  cases e : valV ks n with
  | none => exact .inl rfl
  | some v => exact .inr (h.val e).2
theorem kV_strs (ks : List (PySem.Str × V)) : (kk ks).map (fun kv => kV kv.1) = (keysOf ks).map V.str := by
  unfold kk keysOf
  rw [List.map_map, List.map_map]
  rfl
theorem getD_kk (ks : List (PySem.Str × V)) (n : PySem.Str) : (valV (kk ks) (Sum.inr n)).getD .non = g ks n := by
  rw [val_kk]; rfl
section
variable {P : Program} {w : World} {K : PySem.W.Frag} {mg : PySem.Str → Option Value} {base : Heap}
def spCh : Sp := fun vs H Q _ => ∃ (b d1 d2 : Addr) (nm : List PySem.Str) (k1 k2 : List (PySem.Str × V)), vs = [.ref d1, .ref d2] ∧ Lk b H d1 nm k1 ∧ Lk b H d2 nm k2 ∧ Nm nm ∧
  ∀ (H' : Hp) (r : Addr) (L : List Row) (ys : List PySem.Str), Same H H' → H r = none → H' r = some (.lst (rrs L)) → RL H H' L → TX.Asc ys → (∀ x, x ∈ ys ↔ x ∈ keysOf k1 ++ keysOf k2) → L.map (·.2) = rws H k1 k2 ys → Q (.ref r) H'
abbrev sBetween : Stmt := topS 6
theorem scBetween : FnScope ["one", "other", "names", "name"] ["one", "other"] (defScope sBetween) := ⟨rfl, rfl, rfl, by decide +kernel, rfl, by decide +kernel, by decide +kernel⟩
theorem ok_Between {f : Addr} {fd : FuncData} {k : Nat} (F : Fun K "changes_between" "changes_between" sBetween f fd) (mS : mg "sorted" = none) (mE : mg "set" = none) (mLi : mg "list" = none) : FnOk P w K mg base CX0 (k + 1) f fd ["one", "other"] spCh := by
  refine F.ok scBetween (fun vs H Q E h => ?_) (fun cdv A outer s H vs Q E hr h => ?_)
  · obtain ⟨b, d1, d2, nm, k1, k2, rfl, _⟩ := h
    rfl
  · obtain ⟨b, d1, d2, nm, k1, k2, rfl, h1, h2, hN, q⟩ := h
    have hu1 := Nat.lt_of_le_of_lt (Nat.add_le_add_left (show 1 ≤ 64 by decide) _) hr.units
    refine ⟨_, pss_cons (ps_set (i := 2) scBetween.nd rfl (.inl rfl) (pe_sortSet rfl (by rfl) (by rfl) mS mE (pe_op op_cat (pe_callTy (call_list_dK rfl) (by rfl) mLi (by decide +kernel) (pa_cons (pv 0) pa_nil)) (pe_callTy (call_list_dK rfl) (by rfl) mLi (by decide +kernel) (pa_cons (pv 1) pa_nil))) (by rfl)))
      (pss_one (ps_ret (pe_lc (own := [("name", 3)]) (g := gName 3) rfl scBetween.nd (pi_list (pv 2)) (blkOk_by (N := ["one", "other", "names", "name"]) (sc := defScope sBetween) (by decide +kernel))
        (fun _ _ _ _ _ => pg_name (i := 3) scBetween.nd rfl (Or.inl rfl)) (fun _ _ _ _ _ => pts_one (pt_cmpR (show OpR _ (compareOp .NotEq) (rNeD K) from op_neD hr.units) (pe_dget1 hu1 (pv 0) (pv 3) ⟨rfl, rfl, rfl, rfl⟩) (pe_dget1 hu1 (pv 1) (pv 3) ⟨rfl, rfl, rfl, rfl⟩) (nomark _)))
        (fun _ _ _ _ _ => pe_tup (pa_cons (pv 3) (pa_cons (pe_dget1 hu1 (pv 0) (pv 3) ⟨rfl, rfl, rfl, rfl⟩) (pa_cons (pe_dget1 hu1 (pv 1) (pv 3) ⟨rfl, rfl, rfl, rfl⟩) pa_nil))))))), ?_⟩
    have f1 := h1.few hN
    have f2 := h2.few hN
    refine ⟨_, rfl, d1, kk k1, rfl, h1.at_, fun l1 n1 => ⟨_, rfl, d2, kk k2, rfl, (new_same n1) _ _ h2.at_, fun l2 n2 => ?_⟩⟩
    rw [kV_strs] at n2
    rw [kV_strs, kV_strs]
    have z1 : upd (upd H l1 (.lst ((keysOf k1).map V.str))) l2 (.lst ((keysOf k2).map V.str)) l1 = some (.lst ((keysOf k1).map V.str)) := new_ne upd_same n2
    have z2 : upd (upd H l1 (.lst ((keysOf k1).map V.str))) l2 (.lst ((keysOf k2).map V.str)) l2 = some (.lst ((keysOf k2).map V.str)) := upd_same
    have s0 : Same H (upd (upd H l1 (.lst ((keysOf k1).map V.str))) l2 (.lst ((keysOf k2).map V.str))) := (new_same n1).trans (new_same n2)
    generalize upd (upd H l1 (.lst ((keysOf k1).map V.str))) l2 (.lst ((keysOf k2).map V.str)) = H0 at z1 z2 s0 ⊢
    have lk1 : (keysOf k1).length ≤ 7 := by unfold keysOf; rw [List.length_map]; exact f1
    have lk2 : (keysOf k2).length ≤ 7 := by unfold keysOf; rw [List.length_map]; exact f2
    refine ⟨l1, l2, _, _, rfl, rfl, z1, z2, by rw [List.length_map, List.length_map, sizeLine_eq]; omega, fun r nr => ?_⟩
    rw [← List.map_append]
    refine ⟨r, keysOf k1 ++ keysOf k2, rfl, upd_same, by rw [List.length_append]; omega, fun H1 p ys s1 np hp as mm le => ?_⟩
    have s01 : Same H H1 := (s0.trans (new_same nr)).trans s1
    rw [List.length_append] at le
    refine ⟨_, rfl, p, rfl, ⟨_, .inl (.inl hp)⟩, fun D nD => ?_⟩
    have Dp : p ≠ D := ne_of_none hp nD
    refine lc_list (K := K) (a := p) (xs := ys.map V.str) (fun i Hc => (∃ L : List Row, Hc D = some (.lst (rrs L)) ∧ RL H Hc L ∧ L.map (·.2) = rws H k1 k2 (ys.take i)) ∧ ∀ x o, x ≠ D → H1 x = some o → Hc x = some o)
      ⟨⟨[], upd_same, (fun q hq => by cases hq), rfl⟩, fun x o n e => by rw [upd_ne n]; exact e⟩ (fun i Hc _ hP => .inl (.inl (hP.2 _ _ Dp hp))) (fun i x Hc hx hP => ?_) (fun Hc hP => ?_)
    · obtain ⟨⟨L, a1, a2, a3⟩, a4⟩ := hP
      rw [List.getElem?_map] at hx
      cases hz : ys[i]? with
      | none => rw [hz] at hx; cases hx
      | some z =>
        rw [hz] at hx
        cases hx
        have sc : Same H Hc := fun x o e => a4 x o (ne_of_none (s01 _ _ e) nD) (s01 _ _ e)
        have g1 := h1.same sc
        have g2 := h2.same sc
        have dg1 := DGet.k (k := Sum.inr z) g1.at_
        have dg2 := DGet.k (k := Sum.inr z) g2.at_
        have e1 : ys.take (i + 1) = ys.take i ++ [z] := by rw [List.take_add_one, hz]; rfl
        refine ⟨rfl, _, rfl, d1, rfl, .inl ⟨_, .inl g1.at_⟩, _, rfl, _, dg1, _, rfl, d2, rfl, .inl ⟨_, .inl g2.at_⟩, _, rfl, _, dg2, ?_⟩
        rw [getD_kk, getD_kk]
        refine ⟨_, _, (g1.en z).dp K, (g2.en z).dp K, (g1.en z).shaped, (g2.en z).shaped, _, rfl, ?_⟩
        have en : (!PyData.eqv (cont Hc (g k1 z)) (cont Hc (g k2 z))) = ne H (g k1 z) (g k2 z) := ne_kt (h1.en z) (h2.en z) (KT.same sc)
        rw [en]
        refine ite2 (fun c => ?_) (fun c => ?_)
        · refine ⟨_, rfl, _, rfl, d1, rfl, .inl ⟨_, .inl g1.at_⟩, _, rfl, _, dg1, _, rfl, d2, rfl, .inl ⟨_, .inl g2.at_⟩, _, rfl, _, dg2, by show 3 ≤ sizeLine; decide, fun r2 nr2 => ?_⟩
          rw [getD_kk, getD_kk]
          have b1 := new_ne (u := .tup [.str z, g k1 z, g k2 z]) a1 nr2
          have b2 : RL H (upd Hc r2 (.tup [.str z, g k1 z, g k2 z])) (L ++ [(r2, z, g k1 z, g k2 z)]) := fun q hq => by
            rcases List.mem_append.mp hq with e | e
            · exact ⟨(a2 q e).1, new_ne (a2 q e).2 nr2⟩
            · rw [List.mem_singleton] at e
              rw [e]
              exact ⟨same_no sc nr2, upd_same⟩
          have b3 : ∀ x o, x ≠ D → H1 x = some o → upd Hc r2 (.tup [.str z, g k1 z, g k2 z]) x = some o := fun x o n e => new_ne (a4 x o n e) nr2
          generalize upd Hc r2 (.tup [.str z, g k1 z, g k2 z]) = H3 at b1 b2 b3 ⊢
          have ll : L.length ≤ 14 := by
            have h0 := congrArg List.length a3
            rw [List.length_map, rws, List.length_map] at h0
            have h00 := List.length_filter_le (fun n => ne H (g k1 n) (g k2 n)) (ys.take i)
            rw [List.length_take] at h00
            omega
          refine ⟨rrs L, b1, by rw [List.length_map, sizeLine_eq]; omega, ⟨L ++ [(r2, z, g k1 z, g k2 z)], ?_, fun q hq => ⟨(b2 q hq).1, ?_⟩, ?_⟩, fun x o n e => by rw [upd_ne n]; exact b3 x o n e⟩
          · have e7 : rrs (L ++ [(r2, z, g k1 z, g k2 z)]) = rrs L ++ [.ref r2] := List.map_append
            rw [e7]
            exact upd_same
          · rw [upd_ne (fun e => by have := (b2 q hq).2; rw [e, b1] at this; cases this)]
            exact (b2 q hq).2
          · unfold rws at a3 ⊢
            rw [e1, List.filter_append, List.map_append, List.map_append, a3]
            have e2 : [z].filter (fun n => ne H (g k1 n) (g k2 n)) = [z] := by rw [List.filter_cons, if_pos c]; rfl
            rw [e2]
            rfl
        · refine ⟨⟨L, a1, a2, ?_⟩, a4⟩
          unfold rws at a3 ⊢
          have e2 : [z].filter (fun n => ne H (g k1 n) (g k2 n)) = [] := by rw [List.filter_cons, if_neg c]; rfl
          rw [e1, List.filter_append, e2, List.append_nil, a3]
    · obtain ⟨⟨L, a1, a2, a3⟩, a4⟩ := hP
      rw [List.length_map, List.take_of_length_le (Nat.le_refl _)] at a3
      have sc : Same H Hc := fun x o e => a4 x o (ne_of_none (s01 _ _ e) nD) (s01 _ _ e)
      exact q Hc D L ys sc (same_no s01 nD) a1 a2 as mm a3
abbrev sChanges : Stmt := topS 21
theorem scChanges : FnScope ["one", "other", "names", "name"] ["one", "other"] (defScope sChanges) := ⟨rfl, rfl, rfl, by decide +kernel, rfl, by decide +kernel, by decide +kernel⟩
theorem ok_Changes {f : Addr} {fd : FuncData} {k : Nat} (F : Fun K "_law_changes" "_law_changes" sChanges f fd) (mS : mg "sorted" = none) (mE : mg "set" = none) (mLi : mg "list" = none) : FnOk P w K mg base CX0 (k + 1) f fd ["one", "other"] spCh := by
  refine F.ok scChanges (fun vs H Q E h => ?_) (fun cdv A outer s H vs Q E hr h => ?_)
  · obtain ⟨b, d1, d2, nm, k1, k2, rfl, _⟩ := h
    rfl
  · obtain ⟨b, d1, d2, nm, k1, k2, rfl, h1, h2, hN, q⟩ := h
    have hu1 := Nat.lt_of_le_of_lt (Nat.add_le_add_left (show 1 ≤ 64 by decide) _) hr.units
    refine ⟨_, pss_cons (ps_set (i := 2) scChanges.nd rfl (.inl rfl) (pe_sortSet rfl (by rfl) (by rfl) mS mE (pe_op op_cat (pe_callTy (call_list_dK rfl) (by rfl) mLi (by decide +kernel) (pa_cons (pv 0) pa_nil)) (pe_callTy (call_list_dK rfl) (by rfl) mLi (by decide +kernel) (pa_cons (pv 1) pa_nil))) (by rfl)))
      (pss_one (ps_ret (pe_lc (own := [("name", 3)]) (g := gName 3) rfl scChanges.nd (pi_list (pv 2)) (blkOk_by (N := ["one", "other", "names", "name"]) (sc := defScope sChanges) (by decide +kernel))
        (fun _ _ _ _ _ => pg_name (i := 3) scChanges.nd rfl (Or.inl rfl)) (fun _ _ _ _ _ => pts_one (pt_cmpR (show OpR _ (compareOp .NotEq) (rNeD K) from op_neD hr.units) (pe_dget1 hu1 (pv 0) (pv 3) ⟨rfl, rfl, rfl, rfl⟩) (pe_dget1 hu1 (pv 1) (pv 3) ⟨rfl, rfl, rfl, rfl⟩) (nomark _)))
        (fun _ _ _ _ _ => pe_tup (pa_cons (pv 3) (pa_cons (pe_dget1 hu1 (pv 0) (pv 3) ⟨rfl, rfl, rfl, rfl⟩) (pa_cons (pe_dget1 hu1 (pv 1) (pv 3) ⟨rfl, rfl, rfl, rfl⟩) pa_nil))))))), ?_⟩
    have f1 := h1.few hN
    have f2 := h2.few hN
    refine ⟨_, rfl, d1, kk k1, rfl, h1.at_, fun l1 n1 => ⟨_, rfl, d2, kk k2, rfl, (new_same n1) _ _ h2.at_, fun l2 n2 => ?_⟩⟩
    rw [kV_strs] at n2
    rw [kV_strs, kV_strs]
    have z1 : upd (upd H l1 (.lst ((keysOf k1).map V.str))) l2 (.lst ((keysOf k2).map V.str)) l1 = some (.lst ((keysOf k1).map V.str)) := new_ne upd_same n2
    have z2 : upd (upd H l1 (.lst ((keysOf k1).map V.str))) l2 (.lst ((keysOf k2).map V.str)) l2 = some (.lst ((keysOf k2).map V.str)) := upd_same
    have s0 : Same H (upd (upd H l1 (.lst ((keysOf k1).map V.str))) l2 (.lst ((keysOf k2).map V.str))) := (new_same n1).trans (new_same n2)
    generalize upd (upd H l1 (.lst ((keysOf k1).map V.str))) l2 (.lst ((keysOf k2).map V.str)) = H0 at z1 z2 s0 ⊢
    have lk1 : (keysOf k1).length ≤ 7 := by unfold keysOf; rw [List.length_map]; exact f1
    have lk2 : (keysOf k2).length ≤ 7 := by unfold keysOf; rw [List.length_map]; exact f2
    refine ⟨l1, l2, _, _, rfl, rfl, z1, z2, by rw [List.length_map, List.length_map, sizeLine_eq]; omega, fun r nr => ?_⟩
    rw [← List.map_append]
    refine ⟨r, keysOf k1 ++ keysOf k2, rfl, upd_same, by rw [List.length_append]; omega, fun H1 p ys s1 np hp as mm le => ?_⟩
    have s01 : Same H H1 := (s0.trans (new_same nr)).trans s1
    rw [List.length_append] at le
    refine ⟨_, rfl, p, rfl, ⟨_, .inl (.inl hp)⟩, fun D nD => ?_⟩
    have Dp : p ≠ D := ne_of_none hp nD
    refine lc_list (K := K) (a := p) (xs := ys.map V.str) (fun i Hc => (∃ L : List Row, Hc D = some (.lst (rrs L)) ∧ RL H Hc L ∧ L.map (·.2) = rws H k1 k2 (ys.take i)) ∧ ∀ x o, x ≠ D → H1 x = some o → Hc x = some o)
      ⟨⟨[], upd_same, (fun q hq => by cases hq), rfl⟩, fun x o n e => by rw [upd_ne n]; exact e⟩ (fun i Hc _ hP => .inl (.inl (hP.2 _ _ Dp hp))) (fun i x Hc hx hP => ?_) (fun Hc hP => ?_)
    · obtain ⟨⟨L, a1, a2, a3⟩, a4⟩ := hP
      rw [List.getElem?_map] at hx
      cases hz : ys[i]? with
      | none => rw [hz] at hx; cases hx
      | some z =>
        rw [hz] at hx
        cases hx
        have sc : Same H Hc := fun x o e => a4 x o (ne_of_none (s01 _ _ e) nD) (s01 _ _ e)
        have g1 := h1.same sc
        have g2 := h2.same sc
        have dg1 := DGet.k (k := Sum.inr z) g1.at_
        have dg2 := DGet.k (k := Sum.inr z) g2.at_
        have e1 : ys.take (i + 1) = ys.take i ++ [z] := by rw [List.take_add_one, hz]; rfl
        refine ⟨rfl, _, rfl, d1, rfl, .inl ⟨_, .inl g1.at_⟩, _, rfl, _, dg1, _, rfl, d2, rfl, .inl ⟨_, .inl g2.at_⟩, _, rfl, _, dg2, ?_⟩
        rw [getD_kk, getD_kk]
        refine ⟨_, _, (g1.en z).dp K, (g2.en z).dp K, (g1.en z).shaped, (g2.en z).shaped, _, rfl, ?_⟩
        have en : (!PyData.eqv (cont Hc (g k1 z)) (cont Hc (g k2 z))) = ne H (g k1 z) (g k2 z) := ne_kt (h1.en z) (h2.en z) (KT.same sc)
        rw [en]
        refine ite2 (fun c => ?_) (fun c => ?_)
        · refine ⟨_, rfl, _, rfl, d1, rfl, .inl ⟨_, .inl g1.at_⟩, _, rfl, _, dg1, _, rfl, d2, rfl, .inl ⟨_, .inl g2.at_⟩, _, rfl, _, dg2, by show 3 ≤ sizeLine; decide, fun r2 nr2 => ?_⟩
          rw [getD_kk, getD_kk]
          have b1 := new_ne (u := .tup [.str z, g k1 z, g k2 z]) a1 nr2
          have b2 : RL H (upd Hc r2 (.tup [.str z, g k1 z, g k2 z])) (L ++ [(r2, z, g k1 z, g k2 z)]) := fun q hq => by
            rcases List.mem_append.mp hq with e | e
            · exact ⟨(a2 q e).1, new_ne (a2 q e).2 nr2⟩
            · rw [List.mem_singleton] at e
              rw [e]
              exact ⟨same_no sc nr2, upd_same⟩
          have b3 : ∀ x o, x ≠ D → H1 x = some o → upd Hc r2 (.tup [.str z, g k1 z, g k2 z]) x = some o := fun x o n e => new_ne (a4 x o n e) nr2
          generalize upd Hc r2 (.tup [.str z, g k1 z, g k2 z]) = H3 at b1 b2 b3 ⊢
          have ll : L.length ≤ 14 := by
            have h0 := congrArg List.length a3
            rw [List.length_map, rws, List.length_map] at h0
            have h00 := List.length_filter_le (fun n => ne H (g k1 n) (g k2 n)) (ys.take i)
            rw [List.length_take] at h00
            omega
          refine ⟨rrs L, b1, by rw [List.length_map, sizeLine_eq]; omega, ⟨L ++ [(r2, z, g k1 z, g k2 z)], ?_, fun q hq => ⟨(b2 q hq).1, ?_⟩, ?_⟩, fun x o n e => by rw [upd_ne n]; exact b3 x o n e⟩
          · have e7 : rrs (L ++ [(r2, z, g k1 z, g k2 z)]) = rrs L ++ [.ref r2] := List.map_append
            rw [e7]
            exact upd_same
          · rw [upd_ne (fun e => by have := (b2 q hq).2; rw [e, b1] at this; cases this)]
            exact (b2 q hq).2
          · unfold rws at a3 ⊢
            rw [e1, List.filter_append, List.map_append, List.map_append, a3]
            have e2 : [z].filter (fun n => ne H (g k1 n) (g k2 n)) = [z] := by rw [List.filter_cons, if_pos c]; rfl
            rw [e2]
            rfl
        · refine ⟨⟨L, a1, a2, ?_⟩, a4⟩
          unfold rws at a3 ⊢
          have e2 : [z].filter (fun n => ne H (g k1 n) (g k2 n)) = [] := by rw [List.filter_cons, if_neg c]; rfl
          rw [e1, List.filter_append, e2, List.append_nil, a3]
    · obtain ⟨⟨L, a1, a2, a3⟩, a4⟩ := hP
      rw [List.length_map, List.take_of_length_le (Nat.le_refl _)] at a3
      have sc : Same H Hc := fun x o e => a4 x o (ne_of_none (s01 _ _ e) nD) (s01 _ _ e)
      exact q Hc D L ys sc (same_no s01 nD) a1 a2 as mm a3
end
end V5
/-! A lock changed; it may raise. -/
namespace V5
open PySem PySem.Spec PyProof.Rows L2 TL
theorem PI_or {X : Cx} {tg it : Expr} {w1 w2 : TI} (h1 : PI X tg it w1) (h2 : PI X tg it w2) : PI X tg it (fun σ H R => w1 σ H R ∨ w2 σ H R) := ⟨fun pins s σ H R I h => h.elim (h1.run pins s σ H R I) (h2.run pins s σ H R I)⟩
def Seq (H : Hp) (c : Addr) (xs : List V) : Prop := H c = some (.lst xs) ∨ H c = some (.tup xs)
theorem Seq.same {H H' : Hp} {c : Addr} {xs : List V} (h : Seq H c xs) (s : Same H H') : Seq H' c xs := h.imp (s _ _) (s _ _)
/-- rows that may stand in a change -/
def RC (b : Addr) (H : Hp) (nm : List PySem.Str) (T : List Row) : Prop := ∀ q ∈ T, H q.1 = some (.tup [.str q.2.1, q.2.2.1, q.2.2.2]) ∧ q.2.1 ∈ nm ∧ En b H q.2.2.1 ∧ En b H q.2.2.2
theorem RC.same {b : Addr} {H H' : Hp} {nm : List PySem.Str} {T : List Row} (h : RC b H nm T) (s : Same H H') : RC b H' nm T := fun q hq => by
  obtain ⟨a, c, d, e⟩ := h q hq
  exact ⟨s _ _ a, c, d.kt (KT.same s), e.kt (KT.same s)⟩
def stepV (v : PySem.Str → Option V) (r : PySem.Str × V × V) : PySem.Str → Option V := fun x => if x = r.1 then (if r.2.2 = .non then none else some r.2.2) else v x
def finV (v : PySem.Str → Option V) (rows : List (PySem.Str × V × V)) : PySem.Str → Option V := rows.foldl stepV v
theorem finV_snoc (v : PySem.Str → Option V) (rows : List (PySem.Str × V × V)) (r : PySem.Str × V × V) : finV v (rows ++ [r]) = stepV (finV v rows) r := by
  unfold finV
  rw [List.foldl_append]
  rfl
/-- does not fit -/
def bad (H : Hp) (ks : List (PySem.Str × V)) (r : PySem.Str × V × V) : Bool := ne H (g ks r.1) r.2.1
def fst (H : Hp) (ks : List (PySem.Str × V)) (rows : List (PySem.Str × V × V)) : Option PySem.Str := (rows.find? (bad H ks)).map (·.1)
theorem find_at {α : Type} {p : α → Bool} : ∀ {l : List α} {i : Nat} {x : α}, l[i]? = some x → (∀ y ∈ l.take i, p y = false) → p x = true → l.find? p = some x
  | [], i, x, h, _, _ => by simp at h
  | y :: l, 0, x, h, _, hx => by
    simp at h
    rw [List.find?_cons, h, hx]
  | y :: l, i + 1, x, h, hn, hx => by
    have hy : p y = false := hn y (by rw [List.take_succ_cons]; exact List.mem_cons_self)
    rw [List.find?_cons, hy]
    exact find_at (i := i) (by simpa using h) (fun z hz => hn z (by rw [List.take_succ_cons]; exact List.mem_cons_of_mem _ hz)) hx
theorem val_drop {ks : List (PySem.Str × V)} {z x : PySem.Str} : valV (dropK ks z) x = if x = z then none else valV ks x := by
  induction ks with
  | nil => split <;> rfl
  | cons p ks ih =>
    by_cases e : p.1 = z
    · rw [dropK_pos e, ih]
      by_cases c : x = z
      · rw [if_pos c, if_pos c]
      · rw [if_neg c, if_neg c, valV_neg (fun q => c (by rw [← q, e]))]
    · rw [dropK_neg e]
      by_cases c : p.1 = x
      · rw [valV_pos c, if_neg (fun q => e (by rw [c, q])), valV_pos c]
      · rw [valV_neg c, ih, valV_neg c]
theorem nd_pairs {k : List (PySem.Str × V)} (n : (k.map (·.1)).Nodup) : k.Nodup := by
  induction k with
  | nil => exact List.nodup_nil
  | cons p k ih =>
    rw [List.map_cons] at n
    obtain ⟨n1, n2⟩ := List.nodup_cons.mp n
    exact List.nodup_cons.mpr ⟨fun h => n1 (List.mem_map_of_mem h), ih n2⟩
/-- the same pairs, told by what is kept -/
theorem perm_val {k1 k2 : List (PySem.Str × V)} (n1 : (k1.map (·.1)).Nodup) (n2 : (k2.map (·.1)).Nodup) (h : ∀ x, valV k1 x = valV k2 x) : k1.Perm k2 := by
  refine (List.perm_ext_iff_of_nodup (nd_pairs n1) (nd_pairs n2)).mpr fun p => ⟨fun hp => ?_, fun hp => ?_⟩
  · have e := val_mem n1 hp
    rw [h] at e
    exact mem_val e
  · have e := val_mem n2 hp
    rw [← h] at e
    exact mem_val e
theorem perm_valV {k1 k2 : List (PySem.Str × V)} (n2 : (k2.map (·.1)).Nodup) (h : k1.Perm k2) (x : PySem.Str) : valV k1 x = valV k2 x := by
  have n1 : (k1.map (·.1)).Nodup := (h.map (·.1)).nodup_iff.mpr n2
  cases e : valV k1 x with
  | some v => exact (val_mem n2 (h.mem_iff.mp (mem_val e))).symm
  | none =>
    cases e2 : valV k2 x with
    | none => rfl
    | some v =>
      have := val_mem n1 (h.mem_iff.mpr (mem_val e2))
      rw [e] at this
      cases this
abbrev sInitN : Stmt := inClass (topS 2) 0
abbrev sChg : Stmt := topS 7
theorem scInitN : FnScope ["self", "name"] ["self", "name"] (defScope sInitN) := ⟨rfl, rfl, rfl, by decide +kernel, rfl, by decide +kernel, by decide +kernel⟩
theorem scChg : FnScope ["lock", "changes", "found", "name", "before", "after"] ["lock", "changes"] (defScope sChg) := ⟨rfl, rfl, rfl, by decide +kernel, rfl, by decide +kernel, by decide +kernel⟩
/-- what the written part says of NotThere, at CN -/
structure Ex (K : PySem.W.Frag) (mg : PySem.Str → Option Value) (CN fI : Addr) (dI : FuncData) : Prop where
  gN : mg "NotThere" = some (.ref CN)
  ox : OexC K CN
  iC : PySem.W.findIn K (.ref CN) "__init__" = some (some (.ref fI))
  tI : PySem.W.typeIn K (.ref fI) = some (.type "function")
  no : PySem.W.findIn K (.ref CN) "name" = some none
  fn : Fun K "__init__" "NotThere.__init__" sInitN fI dI
  bI : Binds K dI ["self", "name"] []
section
variable {P : Program} {w : World} {K : PySem.W.Frag} {mg : PySem.Str → Option Value} {base : Heap}
def spInitN (C : Addr) : Sp := fun vs H Q _ => ∃ (a : Addr) (v : V), vs = [.ref a, v] ∧ H a = some (exo a C none) ∧ ∀ d, H d = none → d ≠ a → Q .non (upd (upd H d (exd d [("name", v)])) a (exo a C (some d)))
theorem init_N {CN fI : Addr} {dI : FuncData} {k : Nat} (T : Ex K mg CN fI dI) : FnOk P w K mg base CX0 (k + 1) fI dI ["self", "name"] (spInitN CN) := by
  refine T.fn.ok scInitN (fun vs H Q E h => ?_) (fun cdv A outer s H vs Q E hr h => ?_)
  · obtain ⟨a, v, rfl, _⟩ := h
    rfl
  · obtain ⟨a, v, rfl, ha, q⟩ := h
    refine ⟨_, pss_one (ps_ost (pv 0) (pv 1)), ?_⟩
    exact ⟨v, rfl, .ref a, rfl, a, CN, rfl, T.ox, T.no, .inl ⟨ha, fun d nd ne => q d nd ne⟩⟩
end
section
variable {X : Cx}
/-- NotThere(e) -/
theorem pmk_nt {CN fI : Addr} {dI : FuncData} {k : Nat} {p pos : Pos} {e : Expr} {te : TE} (T : Ex X.K X.mg CN fI dI) (hr : Room (k + 2) X.A) (hg : Gl X "NotThere") (he : PE X e te)
    (h1 : starEach (e :: []) X.env = (false, eval e X.env) :: starEach [] X.env) :
    PMk X (.Call (.Name "NotThere" p) [e] [] pos) (fun σ H Q => te σ H fun v H1 => ∀ H' d, Same H1 H' → H1 d = none → H' d = some (.xd [("name", v)]) → Q (.ref CN) (some d) H') := by
  intro pins s σ H Q I h
  refine pmk_oex (CX := CX0) (dvs := []) (ds := []) T.ox T.iC T.tI (init_N (k := k) T) hr T.bI .nil pass0 hg T.gN (pa_cons (pe_mid he) pa_nil h1) (by decide) h1 (by rfl) pins s σ H Q I ?_
  refine ⟨_, h, fun v H1 h => ?_⟩
  refine ⟨by show 1 ≤ 1000; decide, fun a na => ⟨a, v, rfl, upd_same, fun d nd ne => ⟨rfl, d, [("name", v)], upd_same, ?_, ?_, ?_⟩⟩⟩
  · rw [upd_ne ne]
    exact upd_same
  · rw [upd_ne ne] at nd
    exact nd
  · rw [upd_ne ne] at nd
    refine h _ d (fun b o hb => ?_) nd upd_same
    have h1 : b ≠ d := ne_of_none hb nd
    have h2 : b ≠ a := ne_of_none hb na
    rw [upd_ne h1, del_ne h2, upd_ne h2, upd_ne h1, upd_ne h2]
    exact hb
end
section
variable {P : Program} {w : World} {K : PySem.W.Frag} {mg : PySem.Str → Option Value} {base : Heap}
/-- what a changed lock is -/
structure Rs (b : Addr) (H : Hp) (p : Addr) (nm : List PySem.Str) (ks ks' : List (PySem.Str × V)) (rows : List (PySem.Str × V × V)) : Prop where
  lk : Lk b H p nm ks'
  s : sortedS (ks'.map (·.1)) = true
  v : ∀ x, valV ks' x = finV (valV ks) rows x
theorem Rs.one {b1 b2 : Addr} {H1 H2 : Hp} {p1 p2 : Addr} {nm : List PySem.Str} {ks k1 k2 : List (PySem.Str × V)} {rows : List (PySem.Str × V × V)} (x : Rs b1 H1 p1 nm ks k1 rows) (y : Rs b2 H2 p2 nm ks k2 rows) : k1 = k2 :=
  AscD.one y.lk.nd ⟨x.s, perm_val x.lk.nd y.lk.nd fun z => (x.v z).trans (y.v z).symm⟩ ⟨y.s, List.Perm.refl _⟩
def spChg (CN : Addr) : Sp := fun vs H Q E => ∃ (b d c : Addr) (nm : List PySem.Str) (ks : List (PySem.Str × V)) (T : List Row) (ob : HO), vs = [.ref d, .ref c] ∧ H b = some ob ∧ Lk b H d nm ks ∧ Nm nm ∧ Seq H c (rrs T) ∧ RC b H nm T ∧
  (∀ n, fst H ks (T.map (·.2)) = some n → ∀ (H' : Hp) (dd : Addr), Same H H' → H dd = none → H' dd = some (.xd [("name", .str n)]) → E (.ref CN) (some dd) H') ∧
  (fst H ks (T.map (·.2)) = none → ∀ (H' : Hp) (p : Addr) (ks' : List (PySem.Str × V)), Same H H' → Rs b H' p nm ks ks' (T.map (·.2)) → Q (.ref p) H')
theorem ok_chg {f fC : Addr} {fd fdC : FuncData} {k : Nat} {CN fI : Addr} {dI : FuncData} (F : Fun K "changed_lock" "changed_lock" sChg f fd) (FC : Fun K "lock_copy" "lock_copy" sCopy fC fdC) (bC : Binds K fdC ["lock"] []) (gC : mg "lock_copy" = some (.ref fC))
    (T : Ex K mg CN fI dI) (mS : mg "sorted" = none) : FnOk P w K mg base (L2.CX P w) (k + 3) f fd ["lock", "changes"] (spChg CN) := by
  have GC : FnOk P w K mg base CX0 (k + 2) fC fdC ["lock"] spCopy := ok_copy FC mS
  refine F.okX scChg (fun vs H Q E h => ?_) (fun cdv A outer s H vs Q E hr h => ?_)
  · obtain ⟨b, d, c, nm, ks, T, ob, rfl, _⟩ := h
    rfl
  · have hu1 := Nat.lt_of_le_of_lt (Nat.add_le_add_left (show 1 ≤ 64 by decide) _) hr.units
    refine ⟨_, pss_cons (ps_set (i := 2) scChg.nd rfl (.inl rfl) (pe_call GC hr (by rfl) gC FC.kp bC .nil pass0 (pa_cons (pv 0) pa_nil)))
      (pss_cons (ps_for (passes_of rfl) rfl (PI_or (pi_list (pv 1)) (pi_tup (pv 1))) (pg_tup rfl (pgs_cons (pg_name (i := 3) scChg.nd rfl (Or.inl rfl)) (pgs_cons (pg_name (i := 4) scChg.nd rfl (Or.inl rfl)) (pgs_cons (pg_name (i := 5) scChg.nd rfl (Or.inl rfl)) pgs_nil))))
        (pss_cons (ps_if (pt_cmpR (op_neD hr.units) (pe_dget1 hu1 (pv 0) (pv 3) ⟨rfl, rfl, rfl, rfl⟩) (pv 4) (nomark _)) (pss_one (ps_raise rfl (takes_of rfl rfl rfl rfl) (pmk_nt T hr (by rfl) (pv 3) (by rfl)))) pss_nil)
        (pss_one (ps_if (pt_cmpR op_notN (pv 5) pe_non (nomark _)) (pss_one (ps_dput hu1 (pv 2) (pv 3) (pv 5) (by rfl))) (pss_one (ps_if (pt_cmp (pc_din hu1 (pv 3) (pv 2))) (pss_one (ps_ddel (pv 2) (pv 3))) pss_nil))))))
      (pss_one (ps_ret (pe_call GC hr (by rfl) gC FC.kp bC .nil pass0 (pa_cons (pv 2) pa_nil))))), ?_⟩
    obtain ⟨b, d, c, nm, ks, T, ob, rfl, hb, hd, hN, hc, hT, q1, q2⟩ := h
    refine ⟨_, rfl, d, ks, rfl, hd.at_, hd.nd, Nat.le_trans (hd.few hN) (by decide), fun H0 l k0 s0 nl hl A0 => ?_⟩
    have lb : l ≠ b := (ne_of_none hb nl).symm
    have L0 : Lk b H0 l nm k0 := ⟨hl, lb, (A0.p.map (·.1)).nodup_iff.mpr hd.nd, fun p hp => ⟨(hd.all p (A0.p.mem_iff.mp hp)).1, (hd.all p (A0.p.mem_iff.mp hp)).2.kt (KT.same s0)⟩⟩
    have V0 : ∀ x, valV k0 x = finV (valV ks) ((T.map (·.2)).take 0) x := fun x => perm_valV hd.nd A0.p x
    let Pv : Nat → L2.St → Hp → Prop := fun i σ' H' => (∃ y3 y4 y5, σ' = [some (.ref d), some (.ref c), some (.ref l), y3, y4, y5]) ∧ Same H H' ∧ (∃ kf, Lk b H' l nm kf ∧ ∀ x, valV kf x = finV (valV ks) ((T.map (·.2)).take i) x) ∧ ∀ r ∈ (T.map (·.2)).take i, bad H ks r = false
    have start : Pv 0 [some (.ref d), some (.ref c), some (.ref l), none, none, none] H0 := ⟨⟨_, _, _, rfl⟩, s0, ⟨k0, L0, V0⟩, fun r hr => by simp at hr⟩
    rcases hc with hc | hc
    · refine .inl ⟨_, rfl, c, rfl, ⟨_, .inl (.inl (s0 _ _ hc))⟩, for_list (K := K) (a := c) (xs := rrs T) Pv start (fun i σ' H' _ hP => .inl (.inl (hP.2.1 _ _ hc))) (fun i x σ' H1 hx hP => ?_) (fun σ' H1 hP => ?_)⟩
      · obtain ⟨⟨y3, y4, y5, rfl⟩, s1, ⟨kf, Lf, Vf⟩, nb⟩ := hP
        rw [List.getElem?_map] at hx
        cases hz : T[i]? with
        | none => rw [hz] at hx; cases hx
        | some q =>
          rw [hz] at hx
          cases hx
          obtain ⟨r0, r1, r2, r3⟩ := hT q (List.mem_of_getElem? hz)
          have hz2 : (T.map (·.2))[i]? = some q.2 := by rw [List.getElem?_map, hz]; rfl
          have et : (T.map (·.2)).take (i + 1) = (T.map (·.2)).take i ++ [q.2] := by rw [List.take_add_one, hz2]; rfl
          have d1 := hd.same s1
          have en0 := d1.en q.2.1
          have en1 := r2.kt (KT.same s1)
          refine ⟨q.1, _, rfl, .inl (.inl (s1 _ _ r0)), rfl, _, _, rfl, _, _, rfl, _, _, rfl, rfl, ?_⟩
          refine ⟨_, rfl, d, rfl, .inl ⟨_, .inl d1.at_⟩, _, rfl, _, DGet.k (k := Sum.inr q.2.1) d1.at_, _, rfl, ?_⟩
          rw [getD_kk]
          refine ⟨_, _, en0.dp K, en1.dp K, en0.shaped, en1.shaped, _, rfl, ?_⟩
          have eb : (!PyData.eqv (cont H1 (g ks q.2.1)) (cont H1 q.2.2.1)) = bad H ks q.2 := ne_kt (hd.en q.2.1) r2 (KT.same s1)
          rw [eb]
          refine ite2 (fun cc => ?_) (fun cc => ?_)
          · refine ⟨_, rfl, fun H' dd s' nd hx => q1 q.2.1 ?_ H' dd (s1.trans s') (same_no s1 nd) hx⟩
            unfold fst
            rw [find_at hz2 nb cc]
            rfl
          · have nb' : ∀ r ∈ (T.map (·.2)).take (i + 1), bad H ks r = false := fun r hr => by
              rw [et] at hr
              rcases List.mem_append.mp hr with e | e
              · exact nb r e
              · rw [List.mem_singleton] at e
                rw [e]
                exact Bool.eq_false_iff.mpr cc
            have few := Lf.few hN
            have stay : ∀ o, Same H (upd H1 l o) := fun o x u e => by rw [upd_ne (ne_of_none e nl)]; exact s1 _ _ e
            refine ⟨_, rfl, rfl, _, rfl, ite2 (fun ca => ?_) (fun ca => ?_)⟩
            · have na : q.2.2.2 ≠ .non := fun z => by rw [z] at ca; cases ca
              have ea : Ent b H1 q.2.2.2 := (r3.kt (KT.same s1)).resolve_left na
              refine ⟨_, rfl, _, rfl, _, rfl, l, _, rfl, .inl ⟨kk kf, Sum.inr q.2.1, Lf.at_, rfl, by rw [kk_len, sizeLine_eq]; omega, rfl⟩, ⟨_, _, _, rfl⟩, stay _, ⟨_, Lf.put r1 ea, fun x => ?_⟩, nb'⟩
              rw [et, finV_snoc, valV_put]
              unfold stepV
              rw [if_neg na]
              by_cases e : x = q.2.1
              · rw [if_pos e, if_pos e]
              · rw [if_neg e, if_neg e, Vf x]
            · have na : q.2.2.2 = .non := by
                by_cases e : q.2.2.2 = .non
                · exact e
                · exact absurd (by rw [decide_eq_false e]; rfl) ca
              refine ⟨_, rfl, _, rfl, l, valV (kk kf) (Sum.inr q.2.1), rfl, DGet.k (k := Sum.inr q.2.1) Lf.at_, _, rfl, ite2 (fun ci => ?_) (fun ci => ?_)⟩
              · refine ⟨_, rfl, _, rfl, l, kk kf, Sum.inr q.2.1, rfl, Lf.at_, rfl, ci, ⟨_, _, _, rfl⟩, stay _, ⟨_, Lf.drop, fun x => ?_⟩, nb'⟩
                rw [et, finV_snoc, val_drop]
                unfold stepV
                rw [if_pos na, Vf x]
              · refine ⟨⟨_, _, _, rfl⟩, s1, ⟨kf, Lf, fun x => ?_⟩, nb'⟩
                rw [et, finV_snoc]
                unfold stepV
                rw [if_pos na]
                by_cases e : x = q.2.1
                · rw [if_pos e, e]
                  rw [val_kk] at ci
                  cases ev : valV kf q.2.1 with
                  | none => rfl
                  | some v => rw [ev] at ci; exact absurd rfl ci
                · rw [if_neg e, Vf x]
      · obtain ⟨⟨y3, y4, y5, rfl⟩, s1, ⟨kf, Lf, Vf⟩, nb⟩ := hP
        have el : (rrs T).length = (T.map (·.2)).length := by rw [List.length_map, List.length_map]
        rw [el, List.take_of_length_le (Nat.le_refl _)] at Vf nb
        refine ⟨_, rfl, l, kf, rfl, Lf.at_, Lf.nd, Nat.le_trans (Lf.few hN) (by decide), fun H2 p k2 s2 np hp A2 => q2 ?_ H2 p k2 (s1.trans s2) ⟨⟨hp, (ne_of_none (s1 _ _ hb) np).symm, (A2.p.map (·.1)).nodup_iff.mpr Lf.nd, fun x hx => ⟨(Lf.all x (A2.p.mem_iff.mp hx)).1, (Lf.all x (A2.p.mem_iff.mp hx)).2.kt (KT.same s2)⟩⟩, A2.s, fun x => (perm_valV Lf.nd A2.p x).trans (Vf x)⟩⟩
        unfold fst
        rw [List.find?_eq_none.mpr fun r hr => by rw [nb r hr]; exact Bool.false_ne_true]
        rfl
    · refine .inr ⟨_, rfl, c, rfl, ⟨_, .inl (.inl (s0 _ _ hc))⟩, for_tup (K := K) (a := c) (xs := rrs T) Pv start (fun i σ' H' _ hP => .inl (.inl (hP.2.1 _ _ hc))) (fun i x σ' H1 hx hP => ?_) (fun σ' H1 hP => ?_)⟩
      · obtain ⟨⟨y3, y4, y5, rfl⟩, s1, ⟨kf, Lf, Vf⟩, nb⟩ := hP
        rw [List.getElem?_map] at hx
        cases hz : T[i]? with
        | none => rw [hz] at hx; cases hx
        | some q =>
          rw [hz] at hx
          cases hx
          obtain ⟨r0, r1, r2, r3⟩ := hT q (List.mem_of_getElem? hz)
          have hz2 : (T.map (·.2))[i]? = some q.2 := by rw [List.getElem?_map, hz]; rfl
          have et : (T.map (·.2)).take (i + 1) = (T.map (·.2)).take i ++ [q.2] := by rw [List.take_add_one, hz2]; rfl
          have d1 := hd.same s1
          have en0 := d1.en q.2.1
          have en1 := r2.kt (KT.same s1)
          refine ⟨q.1, _, rfl, .inl (.inl (s1 _ _ r0)), rfl, _, _, rfl, _, _, rfl, _, _, rfl, rfl, ?_⟩
          refine ⟨_, rfl, d, rfl, .inl ⟨_, .inl d1.at_⟩, _, rfl, _, DGet.k (k := Sum.inr q.2.1) d1.at_, _, rfl, ?_⟩
          rw [getD_kk]
          refine ⟨_, _, en0.dp K, en1.dp K, en0.shaped, en1.shaped, _, rfl, ?_⟩
          have eb : (!PyData.eqv (cont H1 (g ks q.2.1)) (cont H1 q.2.2.1)) = bad H ks q.2 := ne_kt (hd.en q.2.1) r2 (KT.same s1)
          rw [eb]
          refine ite2 (fun cc => ?_) (fun cc => ?_)
          · refine ⟨_, rfl, fun H' dd s' nd hx => q1 q.2.1 ?_ H' dd (s1.trans s') (same_no s1 nd) hx⟩
            unfold fst
            rw [find_at hz2 nb cc]
            rfl
          · have nb' : ∀ r ∈ (T.map (·.2)).take (i + 1), bad H ks r = false := fun r hr => by
              rw [et] at hr
              rcases List.mem_append.mp hr with e | e
              · exact nb r e
              · rw [List.mem_singleton] at e
                rw [e]
                exact Bool.eq_false_iff.mpr cc
            have few := Lf.few hN
            have stay : ∀ o, Same H (upd H1 l o) := fun o x u e => by rw [upd_ne (ne_of_none e nl)]; exact s1 _ _ e
            refine ⟨_, rfl, rfl, _, rfl, ite2 (fun ca => ?_) (fun ca => ?_)⟩
            · have na : q.2.2.2 ≠ .non := fun z => by rw [z] at ca; cases ca
              have ea : Ent b H1 q.2.2.2 := (r3.kt (KT.same s1)).resolve_left na
              refine ⟨_, rfl, _, rfl, _, rfl, l, _, rfl, .inl ⟨kk kf, Sum.inr q.2.1, Lf.at_, rfl, by rw [kk_len, sizeLine_eq]; omega, rfl⟩, ⟨_, _, _, rfl⟩, stay _, ⟨_, Lf.put r1 ea, fun x => ?_⟩, nb'⟩
              rw [et, finV_snoc, valV_put]
              unfold stepV
              rw [if_neg na]
              by_cases e : x = q.2.1
              · rw [if_pos e, if_pos e]
              · rw [if_neg e, if_neg e, Vf x]
            · have na : q.2.2.2 = .non := by
                by_cases e : q.2.2.2 = .non
                · exact e
                · exact absurd (by rw [decide_eq_false e]; rfl) ca
              refine ⟨_, rfl, _, rfl, l, valV (kk kf) (Sum.inr q.2.1), rfl, DGet.k (k := Sum.inr q.2.1) Lf.at_, _, rfl, ite2 (fun ci => ?_) (fun ci => ?_)⟩
              · refine ⟨_, rfl, _, rfl, l, kk kf, Sum.inr q.2.1, rfl, Lf.at_, rfl, ci, ⟨_, _, _, rfl⟩, stay _, ⟨_, Lf.drop, fun x => ?_⟩, nb'⟩
                rw [et, finV_snoc, val_drop]
                unfold stepV
                rw [if_pos na, Vf x]
              · refine ⟨⟨_, _, _, rfl⟩, s1, ⟨kf, Lf, fun x => ?_⟩, nb'⟩
                rw [et, finV_snoc]
                unfold stepV
                rw [if_pos na]
                by_cases e : x = q.2.1
                · rw [if_pos e, e]
                  rw [val_kk] at ci
                  cases ev : valV kf q.2.1 with
                  | none => rfl
                  | some v => rw [ev] at ci; exact absurd rfl ci
                · rw [if_neg e, Vf x]
      · obtain ⟨⟨y3, y4, y5, rfl⟩, s1, ⟨kf, Lf, Vf⟩, nb⟩ := hP
        have el : (rrs T).length = (T.map (·.2)).length := by rw [List.length_map, List.length_map]
        rw [el, List.take_of_length_le (Nat.le_refl _)] at Vf nb
        refine ⟨_, rfl, l, kf, rfl, Lf.at_, Lf.nd, Nat.le_trans (Lf.few hN) (by decide), fun H2 p k2 s2 np hp A2 => q2 ?_ H2 p k2 (s1.trans s2) ⟨⟨hp, (ne_of_none (s1 _ _ hb) np).symm, (A2.p.map (·.1)).nodup_iff.mpr Lf.nd, fun x hx => ⟨(Lf.all x (A2.p.mem_iff.mp hx)).1, (Lf.all x (A2.p.mem_iff.mp hx)).2.kt (KT.same s2)⟩⟩, A2.s, fun x => (perm_valV Lf.nd A2.p x).trans (Vf x)⟩⟩
        unfold fst
        rw [List.find?_eq_none.mpr fun r hr => by rw [nb r hr]; exact Bool.false_ne_true]
        rfl
end
end V5
/-! A try whose first clause binds a name, others behind it. -/
namespace V5
open PySem PySem.Spec PyProof.Rows L2 TL
/-- what the clauses wish of an error that flies out of the body -/
def wFirst (K : PySem.W.Frag) (c : Value) (i : Nat) (ts : Addr → Value → Option Addr → TS) (l : List (Value × (Addr → Value → Option Addr → TS))) (D : Ends) : WX := fun cl d σ H =>
  ∃ b, PySem.W.exmOne K cl c = some b ∧ (b = true → ∀ a, H a = none → ts a cl d { nx := fun σ2 H2 => D.nx (σ2.set i none) H2, rt := D.rt, bk := fun σ2 H2 => D.bk (σ2.set i none) H2, ct := fun σ2 H2 => D.ct (σ2.set i none) H2 } (σ.set i (some (.ref a))) H) ∧
    (b = false → wMany K (fun _ _ _ _ => False) D l cl d σ H)
theorem ps_tryA {X : Cx} {x n : PySem.Str} {c : Value} {i : Nat} {body su : List Stmt} {b0 : Stmt} {np pos ps1 : Pos} {hds : List ExceptHandler} {l : List (Value × (Addr → Value → Option Addr → TS))} {tb : WX → TS} {ts : Addr → Value → Option Addr → TS}
    (st : X.stack = X.env :: X.outer) (fr : X.env.frame = some X.env.locals) (nd : X.N.Nodup) (hi : X.N[i]? = some n) (ln : X.env.kindOf n = some .local) (nm : Names X x c)
    (hb : ∀ (W : WX) (pn : List (Addr × Obj)) (xe : Value → Shared → Prop), Takes (X.tr pn xe) W → PassesOwn (model X.prog X.w) X.A X.env xe → PSs (X.tr pn xe) body (tb W))
    (hsu : ∀ (a : Addr) (oe : Obj) (cl : Value) (d : Option Addr) (pn : List (Addr × Obj)), Zc cl d oe → (∃ vs, oe.data = .fields vs) → PSs (X.suite a ((a, oe) :: pn)) (b0 :: su) (ts a cl d)) (hh : HdsOk X hds l) :
    PS X (.Try body (.ExceptHandler (some (.Name x np)) (some n) (b0 :: su) ps1 :: hds) [] [] pos) (fun D σ H => tb (wFirst X.K c i ts l D) D σ H) := by
  constructor
  intro pins s σ H D I h
  have ok := I.ok
  have tk0 : Takes X (fun _ _ _ _ => False) := takes_none5
  have frs1 : X.A.frames = some (X.env :: X.outer) := by rw [ok.frames, st]
  have lc : Loc X.env.scope n := .inl ln
  refine wpAny_Try_except (wpAny_mono ((hb (wFirst X.K c i ts l D) (X.pn ++ pins) (fun e z1 => wpAny (model X.prog X.w) X.A (noteFrame e X.env) (fun _ z2 => wpAny (model X.prog X.w) X.A (setFlight e none) (fun _ z3 =>
    wpAny (model X.prog X.w) X.A (handleBy e X.env (.ExceptHandler (some (.Name x np)) (some n) (b0 :: su) ps1 :: hds)) (SP X pins D) X.xe z3) X.xe z2) X.xe z1) (fun u z xx => ?_) PassesOwn.looking).run [] s σ H D (I.toTry _) h) (fun f z1 sp => ?_) (fun e z1 he => he))
  · obtain ⟨a, B, sI, pins2, σ1, H1, cl, d, rfl, J0, nb, up, sky, na, os, ag, b, e1, yes, no⟩ := xx
    have J : Inv X pins σ1 H1 sI := J0.ofTry ok
    have sky1 : Sky B (X.env :: X.outer) a (Zc cl d) X.env.locals z.heap := by rw [← st]; exact sky
    show wpAny (model X.prog X.w) X.A (noteFrame (.ref a) X.env) _ _ _
    refine Sky.land Zc.steady frs1 fr sky1 fun h3 fl3 up3 => ?_
    have J3 : Inv X pins σ1 H1 { z with heap := h3 } := J.landed nb fl3.1 (up.trans up3) os ag
    obtain ⟨o3, v3, he3, hz3, hd3⟩ := fl3.there
    have nfr : a ∉ frs (X.env :: X.outer) := fun hm => by
      obtain ⟨_, o', e', hnf⟩ := fl3.2.2.1.mem hm
      rw [he3] at e'; cases e'
      exact hnf _ hd3
    have nL : a ≠ X.env.locals := fun y => nfr (List.mem_filterMap.mpr ⟨X.env, List.mem_cons_self, by rw [fr, y]⟩)
    have nF : a ∉ X.fs := fun hm => by
      obtain ⟨e, he, q⟩ := List.mem_filterMap.mp hm
      exact nfr (List.mem_filterMap.mpr ⟨e, List.mem_cons_of_mem _ he, q⟩)
    have S3 := J3.suite he3 hd3 na nL nF
    have LT : PySem.W.Looks (model X.prog X.w) h3 (typeOf (.ref a)) cl := fun A Q E s k q => wpAny_typeOf_ref (k _ _ he3) (by rw [hz3.1]; exact q)
    have tst : ∀ {y : PySem.Str} {q : Pos} {c1 : Value}, Names X y c1 → ∀ {Q : Value → Shared → Prop} {E : Value → Shared → Prop}, Q c1 { z with heap := h3 } → wpAny (model X.prog X.w) (X.A.mark (some (.ref a))) (eval (.Name y q) X.env) Q E { z with heap := h3 } := fun {y q c1} nm {Q E} hq => by
      obtain ⟨hg, hdbg, hm | ⟨hm, hv, hnn⟩⟩ := nm
      · exact ld_glob (X := X.suite a ((a, o3) :: (X.pn ++ pins))) S3 hg hm hq hdbg
      · exact ld_blt (X := X.suite a ((a, o3) :: (X.pn ++ pins))) S3 hg hm hv hq hnn hdbg
    -- the clauses behind the first
    have rest : ∀ {hd1 : List ExceptHandler} {l1 : List (Value × (Addr → Value → Option Addr → TS))}, HdsOk X hd1 l1 → wMany X.K (fun _ _ _ _ => False) D l1 cl d σ1 H1 →
        wpAny (model X.prog X.w) X.A (handleBy (.ref a) X.env hd1) (SP X pins D) X.xe { z with heap := h3 } := by
      intro hd1 l1 hk
      induction hk with
      | nil => exact fun w => False.elim w
      | @cons y c1 t1 b1 su1 np1 ps2 hd2 l2 hc1 hs1 r1 ih =>
        rintro ⟨b, f1, y1, n1⟩
        refine wpAny_handleBy_cons (codeAny_handlers_test (tst hc1 ((PySem.W.exm_one (M := model X.prog X.w) J3.kIn LT f1).here ?_))) (by intro q; cases q)
        cases b with
        | false => exact ih (n1 rfl)
        | true =>
          refine codeAny_handlers_suite (HandSPX.lands_againZ fl3 fun h4 fl4 up4 => ?_)
          have J4 : Inv X pins σ1 H1 { z with heap := h4 } := J.landed nb fl4.1 ((up.trans up3).trans up4) os ag
          obtain ⟨o4, v4, he4, hz4, hd4⟩ := fl4.there
          refine wpAny_mono ((hs1 a o4 cl d (X.pn ++ pins) hz4 ⟨_, hd4⟩).run [] _ _ H1 _ (J4.suite he4 hd4 na nL nF) (y1 rfl a na)) (fun f s6 hp => ?_) (fun _ _ y => False.elim y)
          cases f with
          | ret u => obtain ⟨v6, σ6, H6, S6, r6, q6⟩ := hp; exact ⟨_, _, _, S6.unsuite ok, r6, q6⟩
          | next => obtain ⟨σ6, H6, S6, q6⟩ := hp; exact ⟨_, _, S6.unsuite ok, q6⟩
          | brk => obtain ⟨σ6, H6, S6, q6⟩ := hp; exact ⟨_, _, S6.unsuite ok, q6⟩
          | cont => obtain ⟨σ6, H6, S6, q6⟩ := hp; exact ⟨_, _, S6.unsuite ok, q6⟩
    -- the first clause
    refine wpAny_handleBy_cons (codeAny_handlers_test (tst nm ((PySem.W.exm_one (M := model X.prog X.w) J3.kIn LT e1).here ?_))) (by intro q; cases q)
    cases b with
    | false => exact rest hh (no rfl)
    | true =>
      refine codeAny_handlers_suite_as (HandSPX.lands_againZ fl3 fun h4 fl4 up4 => ?_)
      have J4 : Inv X pins σ1 H1 { z with heap := h4 } := J.landed nb fl4.1 ((up.trans up3).trans up4) os ag
      obtain ⟨o4, v4, he4, hz4, hd4⟩ := fl4.there
      refine store_ok (X := X.suite a ((a, o4) :: (X.pn ++ pins))) (v := .ref a) (J4.suite he4 hd4 na nL nF) nd hi lc rfl (fun s5 S5 => ?_) (.inr ln)
      refine wpAny_mono ((hsu a o4 cl d (X.pn ++ pins) hz4 ⟨_, hd4⟩).run [] s5 _ H1 _ S5 (yes rfl a na)) (fun f s6 hp => ?_) (fun _ _ y => False.elim y)
      have fin : ∀ {σ6 : L2.St} {H6 : Hp} {Q : Shared → Prop}, Inv (X.suite a ((a, o4) :: (X.pn ++ pins))) [] σ6 H6 s6 → (∀ s7, Inv X pins (σ6.set i none) H6 s7 → Q s7) →
          wpAny (model X.prog X.w) X.A (do bindName X.env n .none; unbindBehindTheSuite X.env n ps1) (fun _ s7 => Q s7) X.xe s6 := fun {σ6 H6 Q} S6 hq => gone_ok (S6.unsuite ok) nd hi ln hq
      cases f with
      | ret u => obtain ⟨v6, σ6, H6, S6, r6, q6⟩ := hp; exact fin S6 fun s7 J7 => ⟨_, _, _, J7, r6, q6⟩
      | next => obtain ⟨σ6, H6, S6, q6⟩ := hp; exact fin S6 fun s7 J7 => ⟨_, _, J7, q6⟩
      | brk => obtain ⟨σ6, H6, S6, q6⟩ := hp; exact fin S6 fun s7 J7 => ⟨_, _, J7, q6⟩
      | cont => obtain ⟨σ6, H6, S6, q6⟩ := hp; exact fin S6 fun s7 J7 => ⟨_, _, J7, q6⟩
  · cases f with
    | ret u => obtain ⟨v, σ1, H1, J1, r, q⟩ := sp; exact ⟨v, σ1, H1, J1.ofTry ok, r, q⟩
    | next => obtain ⟨σ1, H1, J1, q⟩ := sp; exact wpAny_execs_nil ⟨σ1, H1, J1.ofTry ok, q⟩
    | brk => obtain ⟨σ1, H1, J1, q⟩ := sp; exact ⟨σ1, H1, J1.ofTry ok, q⟩
    | cont => obtain ⟨σ1, H1, J1, q⟩ := sp; exact ⟨σ1, H1, J1.ofTry ok, q⟩
end V5
/-! The law's own change, and what was heard of the program's. -/
namespace V5
open PySem PySem.Spec PyProof.Rows L2 TL
abbrev sLChg : Stmt := topS 22
abbrev sHeard : Stmt := topS 23
theorem scLChg : FnScope ["lock", "changes", "name", "before", "after", "found"] ["lock", "changes"] (defScope sLChg) := ⟨rfl, rfl, rfl, by decide +kernel, rfl, by decide +kernel, by decide +kernel⟩
theorem scHeard : FnScope ["lock", "changes", "e"] ["lock", "changes"] (defScope sHeard) := ⟨rfl, rfl, rfl, by decide +kernel, rfl, by decide +kernel, by decide +kernel⟩
section
variable {P : Program} {w : World} {K : PySem.W.Frag} {mg : PySem.Str → Option Value} {base : Heap}
def spRes : Sp := fun vs H Q _ => ∃ (b d c : Addr) (nm : List PySem.Str) (ks : List (PySem.Str × V)) (T : List Row) (ob : HO), vs = [.ref d, .ref c] ∧ H b = some ob ∧ Lk b H d nm ks ∧ Nm nm ∧ Seq H c (rrs T) ∧ RC b H nm T ∧
  (∀ n, fst H ks (T.map (·.2)) = some n → ∀ (H' : Hp) (q : Addr), Same H H' → H q = none → H' q = some (.tup [.str "not there", .str n]) → Q (.ref q) H') ∧
  (fst H ks (T.map (·.2)) = none → ∀ (H' : Hp) (q p : Addr) (ks' : List (PySem.Str × V)), Same H H' → H q = none → H' q = some (.tup [.str "told", .ref p]) → Rs b H' p nm ks ks' (T.map (·.2)) → Q (.ref q) H')
theorem ok_lchg {f fA : Addr} {fd fdA : FuncData} {k : Nat} (F : Fun K "_law_changed" "_law_changed" sLChg f fd) (FA : Fun K "_law_ascending_dict" "_law_ascending_dict" sAsc fA fdA) (bA : Binds K fdA ["found"] []) (gA : mg "_law_ascending_dict" = some (.ref fA))
    (mS : mg "sorted" = none) (mD : mg "dict" = none) : FnOk P w K mg base CX0 (k + 2) f fd ["lock", "changes"] spRes := by
  have GA : FnOk P w K mg base CX0 (k + 1) fA fdA ["found"] spCopy := ok_asc FA mS mD
  refine F.ok scLChg (fun vs H Q E h => ?_) (fun cdv A outer s H vs Q E hr h => ?_)
  · obtain ⟨b, d, c, nm, ks, T, ob, rfl, _⟩ := h
    rfl
  · have hu1 := Nat.lt_of_le_of_lt (Nat.add_le_add_left (show 1 ≤ 64 by decide) _) hr.units
    refine ⟨_, C8.pss_cut (ps_for PassesOwn.never rfl (PI_or (pi_list (pv 1)) (pi_tup (pv 1))) (pg_tup rfl (pgs_cons (pg_name (i := 2) scLChg.nd rfl (Or.inl rfl)) (pgs_cons (pg_name (i := 3) scLChg.nd rfl (Or.inl rfl)) (pgs_cons (pg_name (i := 4) scLChg.nd rfl (Or.inl rfl)) pgs_nil))))
        (pss_one (ps_if (pt_cmpR (op_neD hr.units) (pe_dget1 hu1 (pv 0) (pv 2) ⟨rfl, rfl, rfl, rfl⟩) (pv 3) (nomark _)) (pss_one (ps_ret (pe_tup (pa_cons pe_str (pa_cons (pv 2) pa_nil))))) pss_nil)))
      (C8.pss_cut (ps_set (i := 5) scLChg.nd rfl (.inl rfl) (pe_callTy call_dictD (by rfl) mD (by decide +kernel) (pa_cons (pv 0) pa_nil)))
      (pss_cons (ps_for PassesOwn.never rfl (PI_or (pi_list (pv 1)) (pi_tup (pv 1))) (pg_tup rfl (pgs_cons (pg_name (i := 2) scLChg.nd rfl (Or.inl rfl)) (pgs_cons (pg_name (i := 3) scLChg.nd rfl (Or.inl rfl)) (pgs_cons (pg_name (i := 4) scLChg.nd rfl (Or.inl rfl)) pgs_nil))))
        (C8.pss_cut (ps_expr (pe_dpop2 (pv 5) (pv 2) pe_non ⟨rfl, rfl, rfl, rfl⟩))
        (pss_one (ps_if (pt_cmpR op_notN (pv 4) pe_non (nomark _)) (pss_one (ps_dput hu1 (pv 5) (pv 2) (pv 4) (by rfl))) pss_nil))))
      (pss_one (ps_ret (pe_tup (pa_cons pe_str (pa_cons (pe_call GA hr (by rfl) gA FA.kp bA .nil pass0 (pa_cons (pv 5) pa_nil)) pa_nil))))))), ?_⟩
    obtain ⟨b, d, c, nm, ks, T, ob, rfl, hb, hd, hN, hc, hT, q1, q2⟩ := h
    have el : (rrs T).length = (T.map (·.2)).length := by rw [List.length_map, List.length_map]
    -- the first walk
    refine ⟨fun σ' H' => (∃ y2 y3 y4, σ' = [some (.ref d), some (.ref c), y2, y3, y4, none]) ∧ Same H H' ∧ fst H ks (T.map (·.2)) = none, ?_, ?_⟩
    · let Pv : Nat → L2.St → Hp → Prop := fun i σ' H' => (∃ y2 y3 y4, σ' = [some (.ref d), some (.ref c), y2, y3, y4, none]) ∧ Same H H' ∧ ∀ r ∈ (T.map (·.2)).take i, bad H ks r = false
      have start : Pv 0 [some (.ref d), some (.ref c), none, none, none, none] H := ⟨⟨_, _, _, rfl⟩, Same.refl H, fun r hr => by simp at hr⟩
      rcases hc with hc | hc
      · refine .inl ⟨_, rfl, c, rfl, ⟨_, .inl (.inl hc)⟩, for_list (K := K) (a := c) (xs := rrs T) Pv start (fun i σ' H' _ hP => .inl (.inl (hP.2.1 _ _ hc))) (fun i x σ' H1 hx hP => ?_) (fun σ' H1 hP => ?_)⟩
        · obtain ⟨⟨y2, y3, y4, rfl⟩, s1, nb⟩ := hP
          rw [List.getElem?_map] at hx
          cases hz : T[i]? with
          | none => rw [hz] at hx; cases hx
          | some q =>
            rw [hz] at hx
            cases hx
            obtain ⟨r0, r1, r2, r3⟩ := hT q (List.mem_of_getElem? hz)
            have hz2 : (T.map (·.2))[i]? = some q.2 := by rw [List.getElem?_map, hz]; rfl
            have et : (T.map (·.2)).take (i + 1) = (T.map (·.2)).take i ++ [q.2] := by rw [List.take_add_one, hz2]; rfl
            have d1 := hd.same s1
            have en0 := d1.en q.2.1
            have en1 := r2.kt (KT.same s1)
            refine ⟨q.1, _, rfl, .inl (.inl (s1 _ _ r0)), rfl, _, _, rfl, _, _, rfl, _, _, rfl, rfl, ?_⟩
            refine ⟨_, rfl, d, rfl, .inl ⟨_, .inl d1.at_⟩, _, rfl, _, DGet.k (k := Sum.inr q.2.1) d1.at_, _, rfl, ?_⟩
            rw [getD_kk]
            refine ⟨_, _, en0.dp K, en1.dp K, en0.shaped, en1.shaped, _, rfl, ?_⟩
            have eb : (!PyData.eqv (cont H1 (g ks q.2.1)) (cont H1 q.2.2.1)) = bad H ks q.2 := ne_kt (hd.en q.2.1) r2 (KT.same s1)
            rw [eb]
            refine ite2 (fun cc => ?_) (fun cc => ?_)
            · refine ⟨_, rfl, by show 2 ≤ sizeLine; decide, fun p np => q1 q.2.1 ?_ _ p (s1.trans (new_same np)) (same_no s1 np) upd_same⟩
              unfold fst
              rw [find_at hz2 nb cc]
              rfl
            · refine ⟨⟨_, _, _, rfl⟩, s1, fun r hr => ?_⟩
              rw [et] at hr
              rcases List.mem_append.mp hr with e | e
              · exact nb r e
              · rw [List.mem_singleton] at e
                rw [e]
                exact Bool.eq_false_iff.mpr cc
        · obtain ⟨⟨y2, y3, y4, rfl⟩, s1, nb⟩ := hP
          rw [el, List.take_of_length_le (Nat.le_refl _)] at nb
          refine ⟨⟨_, _, _, rfl⟩, s1, ?_⟩
          unfold fst
          rw [List.find?_eq_none.mpr fun r hr => by rw [nb r hr]; exact Bool.false_ne_true]
          rfl
      · refine .inr ⟨_, rfl, c, rfl, ⟨_, .inl (.inl hc)⟩, for_tup (K := K) (a := c) (xs := rrs T) Pv start (fun i σ' H' _ hP => .inl (.inl (hP.2.1 _ _ hc))) (fun i x σ' H1 hx hP => ?_) (fun σ' H1 hP => ?_)⟩
        · obtain ⟨⟨y2, y3, y4, rfl⟩, s1, nb⟩ := hP
          rw [List.getElem?_map] at hx
          cases hz : T[i]? with
          | none => rw [hz] at hx; cases hx
          | some q =>
            rw [hz] at hx
            cases hx
            obtain ⟨r0, r1, r2, r3⟩ := hT q (List.mem_of_getElem? hz)
            have hz2 : (T.map (·.2))[i]? = some q.2 := by rw [List.getElem?_map, hz]; rfl
            have et : (T.map (·.2)).take (i + 1) = (T.map (·.2)).take i ++ [q.2] := by rw [List.take_add_one, hz2]; rfl
            have d1 := hd.same s1
            have en0 := d1.en q.2.1
            have en1 := r2.kt (KT.same s1)
            refine ⟨q.1, _, rfl, .inl (.inl (s1 _ _ r0)), rfl, _, _, rfl, _, _, rfl, _, _, rfl, rfl, ?_⟩
            refine ⟨_, rfl, d, rfl, .inl ⟨_, .inl d1.at_⟩, _, rfl, _, DGet.k (k := Sum.inr q.2.1) d1.at_, _, rfl, ?_⟩
            rw [getD_kk]
            refine ⟨_, _, en0.dp K, en1.dp K, en0.shaped, en1.shaped, _, rfl, ?_⟩
            have eb : (!PyData.eqv (cont H1 (g ks q.2.1)) (cont H1 q.2.2.1)) = bad H ks q.2 := ne_kt (hd.en q.2.1) r2 (KT.same s1)
            rw [eb]
            refine ite2 (fun cc => ?_) (fun cc => ?_)
            · refine ⟨_, rfl, by show 2 ≤ sizeLine; decide, fun p np => q1 q.2.1 ?_ _ p (s1.trans (new_same np)) (same_no s1 np) upd_same⟩
              unfold fst
              rw [find_at hz2 nb cc]
              rfl
            · refine ⟨⟨_, _, _, rfl⟩, s1, fun r hr => ?_⟩
              rw [et] at hr
              rcases List.mem_append.mp hr with e | e
              · exact nb r e
              · rw [List.mem_singleton] at e
                rw [e]
                exact Bool.eq_false_iff.mpr cc
        · obtain ⟨⟨y2, y3, y4, rfl⟩, s1, nb⟩ := hP
          rw [el, List.take_of_length_le (Nat.le_refl _)] at nb
          refine ⟨⟨_, _, _, rfl⟩, s1, ?_⟩
          unfold fst
          rw [List.find?_eq_none.mpr fun r hr => by rw [nb r hr]; exact Bool.false_ne_true]
          rfl
    rintro σ' H0 ⟨⟨y2, y3, y4, rfl⟩, s0, hf⟩
    -- the copy
    refine ⟨fun σ' H' => ∃ l, (∃ y2 y3 y4, σ' = [some (.ref d), some (.ref c), y2, y3, y4, some (.ref l)]) ∧ Same H H' ∧ H l = none ∧ Lk b H' l nm ks, ?_, ?_⟩
    · have d0 := hd.same s0
      exact ⟨_, rfl, d, kk ks, rfl, .inl d0.at_, fun l nl => ⟨l, ⟨_, _, _, rfl⟩, s0.trans (new_same nl), same_no s0 nl, upd_same, (ne_of_none (s0 _ _ hb) nl).symm, d0.nd, fun p hp => ⟨(d0.all p hp).1, (d0.all p hp).2.kt (KT.new nl)⟩⟩⟩
    clear s0
    rintro σ' H0 ⟨l, ⟨y2, y3, y4, rfl⟩, s0, nl, L0⟩
    let Pv : Nat → L2.St → Hp → Prop := fun i σ' H' => (∃ y2 y3 y4, σ' = [some (.ref d), some (.ref c), y2, y3, y4, some (.ref l)]) ∧ Same H H' ∧ (∃ kf, Lk b H' l nm kf ∧ ∀ x, valV kf x = finV (valV ks) ((T.map (·.2)).take i) x)
    have start : Pv 0 [some (.ref d), some (.ref c), y2, y3, y4, some (.ref l)] H0 := ⟨⟨_, _, _, rfl⟩, s0, ks, L0, fun x => rfl⟩
    rcases hc with hc | hc
    · refine .inl ⟨_, rfl, c, rfl, ⟨_, .inl (.inl (s0 _ _ hc))⟩, for_list (K := K) (a := c) (xs := rrs T) Pv start (fun i σ' H' _ hP => .inl (.inl (hP.2.1 _ _ hc))) (fun i x σ' H1 hx hP => ?_) (fun σ' H1 hP => ?_)⟩
      · obtain ⟨⟨y2, y3, y4, rfl⟩, s1, kf, Lf, Vf⟩ := hP
        rw [List.getElem?_map] at hx
        cases hz : T[i]? with
        | none => rw [hz] at hx; cases hx
        | some q =>
          rw [hz] at hx
          cases hx
          obtain ⟨r0, r1, r2, r3⟩ := hT q (List.mem_of_getElem? hz)
          have hz2 : (T.map (·.2))[i]? = some q.2 := by rw [List.getElem?_map, hz]; rfl
          have et : (T.map (·.2)).take (i + 1) = (T.map (·.2)).take i ++ [q.2] := by rw [List.take_add_one, hz2]; rfl
          refine ⟨q.1, _, rfl, .inl (.inl (s1 _ _ r0)), rfl, _, _, rfl, _, _, rfl, _, _, rfl, rfl, ?_⟩
          have stay : ∀ (H2 : Hp) (o : HO), Same H H2 → Same H (upd H2 l o) := fun H2 o s2 x u e => by rw [upd_ne (ne_of_none e nl)]; exact s2 _ _ e
          refine ⟨fun σ' H' => σ' = [some (.ref d), some (.ref c), some (.str q.2.1), some q.2.2.1, some q.2.2.2, some (.ref l)] ∧ Same H H' ∧ ∃ k2, Lk b H' l nm k2 ∧ ∀ x, valV k2 x = if x = q.2.1 then none else valV kf x, ?_, ?_⟩
          · refine ⟨_, rfl, l, rfl, .inl ⟨_, .inl Lf.at_⟩, _, rfl, kk kf, Sum.inr q.2.1, Lf.at_, rfl, fun w' hw => ⟨rfl, stay H1 _ s1, _, Lf.drop, fun x => val_drop⟩, fun hn => ⟨rfl, s1, kf, Lf, fun x => ?_⟩⟩
            rw [val_kk] at hn
            by_cases e : x = q.2.1
            · rw [if_pos e, e, hn]
            · rw [if_neg e]
          rintro σ' H2 ⟨rfl, s2, k2, L2', V2⟩
          have few := L2'.few hN
          refine ⟨_, rfl, rfl, _, rfl, ite2 (fun ca => ?_) (fun ca => ?_)⟩
          · have na : q.2.2.2 ≠ .non := fun z => by rw [z] at ca; cases ca
            have ea : Ent b H2 q.2.2.2 := (r3.kt (KT.same s2)).resolve_left na
            refine ⟨_, rfl, _, rfl, _, rfl, l, _, rfl, .inl ⟨kk k2, Sum.inr q.2.1, L2'.at_, rfl, by rw [kk_len, sizeLine_eq]; omega, rfl⟩, ⟨_, _, _, rfl⟩, stay H2 _ s2, _, L2'.put r1 ea, fun x => ?_⟩
            rw [et, finV_snoc, valV_put]
            unfold stepV
            rw [if_neg na]
            by_cases e : x = q.2.1
            · rw [if_pos e, if_pos e]
            · rw [if_neg e, if_neg e, V2 x, if_neg e, Vf x]
          · have na : q.2.2.2 = .non := by
              by_cases e : q.2.2.2 = .non
              · exact e
              · exact absurd (by rw [decide_eq_false e]; rfl) ca
            refine ⟨⟨_, _, _, rfl⟩, s2, k2, L2', fun x => ?_⟩
            rw [et, finV_snoc]
            unfold stepV
            rw [if_pos na, V2 x, Vf x]
      · obtain ⟨⟨y2, y3, y4, rfl⟩, s1, kf, Lf, Vf⟩ := hP
        rw [el, List.take_of_length_le (Nat.le_refl _)] at Vf
        refine ⟨_, rfl, l, kf, rfl, Lf.at_, Lf.nd, Nat.le_trans (Lf.few hN) (by decide), fun H2 p k2 s2 np hp A2 => ⟨by show 2 ≤ sizeLine; decide, fun q3 nq => ?_⟩⟩
        have s3 := s1.trans s2
        have R2 : Rs b H2 p nm ks k2 (T.map (·.2)) := ⟨⟨hp, (ne_of_none (s1 _ _ hb) np).symm, (A2.p.map (·.1)).nodup_iff.mpr Lf.nd, fun x hx => ⟨(Lf.all x (A2.p.mem_iff.mp hx)).1, (Lf.all x (A2.p.mem_iff.mp hx)).2.kt (KT.same s2)⟩⟩, A2.s, fun x => (perm_valV Lf.nd A2.p x).trans (Vf x)⟩
        exact q2 hf _ q3 p k2 (s3.trans (new_same nq)) (same_no s3 nq) upd_same ⟨R2.lk.same (new_same nq), R2.s, R2.v⟩
    · refine .inr ⟨_, rfl, c, rfl, ⟨_, .inl (.inl (s0 _ _ hc))⟩, for_tup (K := K) (a := c) (xs := rrs T) Pv start (fun i σ' H' _ hP => .inl (.inl (hP.2.1 _ _ hc))) (fun i x σ' H1 hx hP => ?_) (fun σ' H1 hP => ?_)⟩
      · obtain ⟨⟨y2, y3, y4, rfl⟩, s1, kf, Lf, Vf⟩ := hP
        rw [List.getElem?_map] at hx
        cases hz : T[i]? with
        | none => rw [hz] at hx; cases hx
        | some q =>
          rw [hz] at hx
          cases hx
          obtain ⟨r0, r1, r2, r3⟩ := hT q (List.mem_of_getElem? hz)
          have hz2 : (T.map (·.2))[i]? = some q.2 := by rw [List.getElem?_map, hz]; rfl
          have et : (T.map (·.2)).take (i + 1) = (T.map (·.2)).take i ++ [q.2] := by rw [List.take_add_one, hz2]; rfl
          refine ⟨q.1, _, rfl, .inl (.inl (s1 _ _ r0)), rfl, _, _, rfl, _, _, rfl, _, _, rfl, rfl, ?_⟩
          have stay : ∀ (H2 : Hp) (o : HO), Same H H2 → Same H (upd H2 l o) := fun H2 o s2 x u e => by rw [upd_ne (ne_of_none e nl)]; exact s2 _ _ e
          refine ⟨fun σ' H' => σ' = [some (.ref d), some (.ref c), some (.str q.2.1), some q.2.2.1, some q.2.2.2, some (.ref l)] ∧ Same H H' ∧ ∃ k2, Lk b H' l nm k2 ∧ ∀ x, valV k2 x = if x = q.2.1 then none else valV kf x, ?_, ?_⟩
          · refine ⟨_, rfl, l, rfl, .inl ⟨_, .inl Lf.at_⟩, _, rfl, kk kf, Sum.inr q.2.1, Lf.at_, rfl, fun w' hw => ⟨rfl, stay H1 _ s1, _, Lf.drop, fun x => val_drop⟩, fun hn => ⟨rfl, s1, kf, Lf, fun x => ?_⟩⟩
            rw [val_kk] at hn
            by_cases e : x = q.2.1
            · rw [if_pos e, e, hn]
            · rw [if_neg e]
          rintro σ' H2 ⟨rfl, s2, k2, L2', V2⟩
          have few := L2'.few hN
          refine ⟨_, rfl, rfl, _, rfl, ite2 (fun ca => ?_) (fun ca => ?_)⟩
          · have na : q.2.2.2 ≠ .non := fun z => by rw [z] at ca; cases ca
            have ea : Ent b H2 q.2.2.2 := (r3.kt (KT.same s2)).resolve_left na
            refine ⟨_, rfl, _, rfl, _, rfl, l, _, rfl, .inl ⟨kk k2, Sum.inr q.2.1, L2'.at_, rfl, by rw [kk_len, sizeLine_eq]; omega, rfl⟩, ⟨_, _, _, rfl⟩, stay H2 _ s2, _, L2'.put r1 ea, fun x => ?_⟩
            rw [et, finV_snoc, valV_put]
            unfold stepV
            rw [if_neg na]
            by_cases e : x = q.2.1
            · rw [if_pos e, if_pos e]
            · rw [if_neg e, if_neg e, V2 x, if_neg e, Vf x]
          · have na : q.2.2.2 = .non := by
              by_cases e : q.2.2.2 = .non
              · exact e
              · exact absurd (by rw [decide_eq_false e]; rfl) ca
            refine ⟨⟨_, _, _, rfl⟩, s2, k2, L2', fun x => ?_⟩
            rw [et, finV_snoc]
            unfold stepV
            rw [if_pos na, V2 x, Vf x]
      · obtain ⟨⟨y2, y3, y4, rfl⟩, s1, kf, Lf, Vf⟩ := hP
        rw [el, List.take_of_length_le (Nat.le_refl _)] at Vf
        refine ⟨_, rfl, l, kf, rfl, Lf.at_, Lf.nd, Nat.le_trans (Lf.few hN) (by decide), fun H2 p k2 s2 np hp A2 => ⟨by show 2 ≤ sizeLine; decide, fun q3 nq => ?_⟩⟩
        have s3 := s1.trans s2
        have R2 : Rs b H2 p nm ks k2 (T.map (·.2)) := ⟨⟨hp, (ne_of_none (s1 _ _ hb) np).symm, (A2.p.map (·.1)).nodup_iff.mpr Lf.nd, fun x hx => ⟨(Lf.all x (A2.p.mem_iff.mp hx)).1, (Lf.all x (A2.p.mem_iff.mp hx)).2.kt (KT.same s2)⟩⟩, A2.s, fun x => (perm_valV Lf.nd A2.p x).trans (Vf x)⟩
        exact q2 hf _ q3 p k2 (s3.trans (new_same nq)) (same_no s3 nq) upd_same ⟨R2.lk.same (new_same nq), R2.s, R2.v⟩
end
end V5
/-! Words for a change; what was heard. -/
namespace V5
open PySem PySem.Spec PyProof.Rows L2 TL
/-- the version of an entry -/
def ver (H : Hp) : V → List Int
  | .ref e => match H e with
    | some (.tup (.ref p :: _)) => match H p with
      | some (.tup xs) => xs.map fun | .int i => i | _ => 0
      | _ => []
    | _ => []
  | _ => []
theorem Et.ver {H : Hp} {v : V} {e p q : Addr} {ns : List Int} {fs : List PySem.Str} (t : Et H v e p q ns fs) : V5.ver H v = ns := by
  rw [t.v]
  show (match H e with | some (.tup (.ref p :: _)) => _ | _ => _) = _
  rw [t.he]
  show (match H p with | some (.tup xs) => _ | _ => _) = _
  rw [t.hp]
  show (ns.map V.int).map _ = ns
  rw [List.map_map]
  exact List.map_id ns
theorem En.ver {b : Addr} {H H' : Hp} {v : V} (h : En b H v) (k : KT H H') : V5.ver H' v = V5.ver H v := by
  rcases h with rfl | ⟨e, p, q, ns, fs, t, n⟩
  · rfl
  · rw [t.ver, (t.kt k).ver]
def wd (H : Hp) (v w : V) : PySem.Str := if v = .non then "added" else if w = .non then "dropped" else if PyData.eqv (.tuple ((ver H v).map PyData.int)) (.tuple ((ver H w).map PyData.int)) = true then "other" else if HT.lexLt (ver H v) (ver H w) = true then "raised" else "lowered"
theorem wd_kt {b : Addr} {H H' : Hp} {v w : V} (h1 : En b H v) (h2 : En b H w) (k : KT H H') : wd H' v w = wd H v w := by
  unfold wd
  rw [h1.ver k, h2.ver k]
theorem sh_ints (ns : List Int) : SeqAt.shaped (.tuple (ns.map PyData.int)) = true := by
  obtain ⟨a1, a2⟩ := lay_ints ns
  unfold SeqAt.shaped
  have c1 : (PyData.tuple (ns.map PyData.int)).canLay0 = true := a1
  have c2 : (PyData.tuple (ns.map PyData.int)).depth = 1 := by
    show PyData.depthAll (ns.map PyData.int) + 1 = 1
    rw [a2]
  rw [c1, c2]; rfl
abbrev sWord : Stmt := topS 8
abbrev sLWord : Stmt := topS 24
theorem scWord : FnScope ["before", "after"] ["before", "after"] (defScope sWord) := ⟨rfl, rfl, rfl, by decide +kernel, rfl, by decide +kernel, by decide +kernel⟩
theorem scLWord : FnScope ["before", "after"] ["before", "after"] (defScope sLWord) := ⟨rfl, rfl, rfl, by decide +kernel, rfl, by decide +kernel, by decide +kernel⟩
theorem dN {v : V} : decide (v = .non) = true ↔ v = .non := decide_eq_true_iff
section
variable {P : Program} {w : World} {K : PySem.W.Frag} {mg : PySem.Str → Option Value} {base : Heap}
def spWord : Sp := fun vs H Q _ => ∃ (b : Addr) (v u : V), vs = [v, u] ∧ En b H v ∧ En b H u ∧ Q (.str (wd H v u)) H
theorem ok_word {f : Addr} {fd : FuncData} {k : Nat} (F : Fun K "change_word" "change_word" sWord f fd) : FnOk P w K mg base CX0 (k + 1) f fd ["before", "after"] spWord := by
  refine F.ok scWord (fun vs H Q E h => ?_) (fun cdv A outer s H vs Q E hr h => ?_)
  · obtain ⟨b, v, u, rfl, _⟩ := h
    rfl
  · have hu0 := Nat.lt_of_le_of_lt (Nat.le_add_right _ 64) hr.units
    refine ⟨_, pss_cons (ps_if (pt_cmpR op_isN (pv 0) pe_non (nomark _)) (pss_one (ps_ret pe_str)) pss_nil)
      (pss_cons (ps_if (pt_cmpR op_isN (pv 1) pe_non (nomark _)) (pss_one (ps_ret pe_str)) pss_nil)
      (pss_cons (ps_if (pt_cmpR (op_eqD hr.units) (pe_ix ix_tup (pv 0) pe_int (fun _ _ => rfl)) (pe_ix ix_tup (pv 1) pe_int (fun _ _ => rfl)) (nomark _)) (pss_one (ps_ret pe_str)) pss_nil)
      (pss_one (ps_ret (pe_ifExp (pt_cmpR (op_ltT hu0) (pe_ix ix_tup (pv 0) pe_int (fun _ _ => rfl)) (pe_ix ix_tup (pv 1) pe_int (fun _ _ => rfl)) (nomark _)) pe_str pe_str))))), ?_⟩
    obtain ⟨b, v, u, rfl, h1, h2, q⟩ := h
    unfold wd at q
    refine ⟨_, rfl, rfl, _, rfl, ite2 (fun e => ?_) (fun e => ?_)⟩
    · rw [if_pos (dN.mp e)] at q
      exact q
    have e0 : v ≠ .non := fun z => e (dN.mpr z)
    rw [if_neg e0] at q
    refine ⟨_, rfl, rfl, _, rfl, ite2 (fun e => ?_) (fun e => ?_)⟩
    · rw [if_pos (dN.mp e)] at q
      exact q
    have e1 : u ≠ .non := fun z => e (dN.mpr z)
    rw [if_neg e1] at q
    obtain ⟨x, p, r, ns, fs, t, _⟩ := h1.resolve_left e0
    obtain ⟨y, p2, r2, ms, gs, t2, _⟩ := h2.resolve_left e1
    rw [t.ver, t2.ver] at q
    refine ⟨_, rfl, x, _, 0, .ref p, t.v, rfl, .inl (.inl t.he), rfl, _, rfl, y, _, 0, .ref p2, t2.v, rfl, .inl (.inl t2.he), rfl, _, _, .tup (.inl (.inl t.hp)) (dp_ints ns), .tup (.inl (.inl t2.hp)) (dp_ints ms), sh_ints ns, sh_ints ms, _, rfl, ite2 (fun c => ?_) (fun c => ?_)⟩
    · rw [if_pos c] at q
      exact q
    rw [if_neg c] at q
    refine ⟨_, rfl, x, _, 0, .ref p, t.v, rfl, .inl (.inl t.he), rfl, _, rfl, y, _, 0, .ref p2, t2.v, rfl, .inl (.inl t2.he), rfl, p, p2, ns, ms, rfl, rfl, .inl (.inl t.hp), .inl (.inl t2.hp), _, rfl, ite2 (fun c => ?_) (fun c => ?_)⟩
    · rw [if_pos c] at q
      exact q
    · rw [if_neg c] at q
      exact q
theorem ok_lword {f : Addr} {fd : FuncData} {k : Nat} (F : Fun K "_law_word" "_law_word" sLWord f fd) : FnOk P w K mg base CX0 (k + 1) f fd ["before", "after"] spWord := by
  refine F.ok scLWord (fun vs H Q E h => ?_) (fun cdv A outer s H vs Q E hr h => ?_)
  · obtain ⟨b, v, u, rfl, _⟩ := h
    rfl
  · have hu0 := Nat.lt_of_le_of_lt (Nat.le_add_right _ 64) hr.units
    refine ⟨_, pss_cons (ps_if (pt_mid (PW.pt (pw_or (pt_cmpR op_isN (pv 0) pe_non (nomark _)) (pw_or1 (pt_cmpR op_isN (pv 1) pe_non (nomark _)))))) (pss_one (ps_ret (pe_ifExp (pt_cmpR op_isN (pv 0) pe_non (nomark _)) pe_str pe_str))) pss_nil)
      (pss_cons (ps_if (pt_cmpR (op_eqD hr.units) (pe_ix ix_tup (pv 0) pe_int (fun _ _ => rfl)) (pe_ix ix_tup (pv 1) pe_int (fun _ _ => rfl)) (nomark _)) (pss_one (ps_ret pe_str)) pss_nil)
      (pss_one (ps_ret (pe_ifExp (pt_cmpR (op_ltT hu0) (pe_ix ix_tup (pv 0) pe_int (fun _ _ => rfl)) (pe_ix ix_tup (pv 1) pe_int (fun _ _ => rfl)) (nomark _)) pe_str pe_str)))), ?_⟩
    obtain ⟨b, v, u, rfl, h1, h2, q⟩ := h
    unfold wd at q
    refine ⟨fun c H' => H = H' ∧ (c = true ↔ (v = .non ∨ u = .non)), ?_, ?_⟩
    · refine ⟨_, rfl, rfl, _, rfl, ite2 (fun e => ?_) (fun e => ?_)⟩
      · exact ⟨rfl, fun _ => .inl (dN.mp e), fun _ => rfl⟩
      · exact ⟨_, rfl, rfl, _, rfl, rfl, fun c => .inr (dN.mp c), fun c => dN.mpr (c.resolve_left fun z => e (dN.mpr z))⟩
    rintro c H' ⟨rfl, hc⟩
    refine ite2 (fun e => ?_) (fun e => ?_)
    · refine ⟨_, rfl, rfl, _, rfl, ite2 (fun e2 => ?_) (fun e2 => ?_)⟩
      · rw [if_pos (dN.mp e2)] at q
        exact q
      · have e0 : v ≠ .non := fun z => e2 (dN.mpr z)
        rw [if_neg e0, if_pos ((hc.mp e).resolve_left e0)] at q
        exact q
    have e0 : v ≠ .non := fun z => e (hc.mpr (.inl z))
    have e1 : u ≠ .non := fun z => e (hc.mpr (.inr z))
    rw [if_neg e0, if_neg e1] at q
    obtain ⟨x, p, r, ns, fs, t, _⟩ := h1.resolve_left e0
    obtain ⟨y, p2, r2, ms, gs, t2, _⟩ := h2.resolve_left e1
    rw [t.ver, t2.ver] at q
    refine ⟨_, rfl, x, _, 0, .ref p, t.v, rfl, .inl (.inl t.he), rfl, _, rfl, y, _, 0, .ref p2, t2.v, rfl, .inl (.inl t2.he), rfl, _, _, .tup (.inl (.inl t.hp)) (dp_ints ns), .tup (.inl (.inl t2.hp)) (dp_ints ms), sh_ints ns, sh_ints ms, _, rfl, ite2 (fun c => ?_) (fun c => ?_)⟩
    · rw [if_pos c] at q
      exact q
    rw [if_neg c] at q
    refine ⟨_, rfl, x, _, 0, .ref p, t.v, rfl, .inl (.inl t.he), rfl, _, rfl, y, _, 0, .ref p2, t2.v, rfl, .inl (.inl t2.he), rfl, p, p2, ns, ms, rfl, rfl, .inl (.inl t.hp), .inl (.inl t2.hp), _, rfl, ite2 (fun c => ?_) (fun c => ?_)⟩
    · rw [if_pos c] at q
      exact q
    · rw [if_neg c] at q
      exact q
/-- what the written part says of the classes in the clauses -/
structure Ey (K : PySem.W.Frag) (mg : PySem.Str → Option Value) (CN CP : Addr) : Prop where
  xf : XfC K CN
  no : PySem.W.findIn K (.ref CN) "name" = some none
  nn : PySem.W.exmOne K (.ref CN) (.ref CN) = some true
  gP : mg "PackError" = some (.ref CP)
theorem ok_heard {f fC fG : Addr} {fd fdC fdG : FuncData} {k : Nat} {CN CP fI : Addr} {dI : FuncData} (F : Fun K "_law_heard" "_law_heard" sHeard f fd) (FG : Fun K "changed_lock" "changed_lock" sChg fG fdG) (bG : Binds K fdG ["lock", "changes"] []) (gG : mg "changed_lock" = some (.ref fG))
    (FC : Fun K "lock_copy" "lock_copy" sCopy fC fdC) (bC : Binds K fdC ["lock"] []) (gC : mg "lock_copy" = some (.ref fC)) (T : Ex K mg CN fI dI) (Y : Ey K mg CN CP) (mS : mg "sorted" = none) : FnOk P w K mg base CX0 (k + 4) f fd ["lock", "changes"] spRes := by
  have GG : FnOk P w K mg base (L2.CX P w) (k + 3) fG fdG ["lock", "changes"] (spChg CN) := ok_chg FG FC bC gC T mS
  refine F.ok scHeard (fun vs H Q E h => ?_) (fun cdv A outer s H vs Q E hr h => ?_)
  · obtain ⟨b, d, c, nm, ks, T, ob, rfl, _⟩ := h
    rfl
  · refine ⟨_, pss_one (ps_tryA (c := .ref CN) (i := 2) rfl rfl scHeard.nd rfl rfl ⟨by rfl, by decide, .inl T.gN⟩
      (fun W pn xe tk _ => pss_one (ps_ret (pe_tup (pa_cons pe_str (pa_cons (by exact (pe_callS GG hr rfl gG FG.kp bG (fun σ => passAt tk σ) (by exact (pa_cons (pv 0) (pa_cons (pv 1) pa_nil))))) pa_nil)))))
      (fun a oe cls d pn hz hf => pss_one (ps_ret (pe_tup (pa_cons pe_str (pa_cons (pe_xf Y.xf Y.no hz hf (pv 2)) pa_nil)))))
      (.cons ⟨by rfl, by decide, .inl Y.gP⟩ (fun a oe cls d pn hz hf => pss_one (ps_ret (pe_tup (pa_cons pe_str pa_nil)))) .nil)), ?_⟩
    obtain ⟨b, d, c, nm, ks, T', ob, rfl, hb, hd, hN, hc, hT, q1, q2⟩ := h
    refine ⟨_, rfl, _, rfl, b, d, c, nm, ks, T', ob, rfl, hb, hd, hN, hc, hT, fun n e H' dd s' nd hx => ?_, fun e H' p k' s' R => ⟨by show 2 ≤ sizeLine; decide, fun r nr => q2 e _ r p k' (s'.trans (new_same nr)) (same_no s' nr) upd_same ⟨R.lk.same (new_same nr), R.s, R.v⟩⟩⟩
    exact ⟨true, Y.nn, fun _ a na => ⟨.ref a, rfl, rfl, rfl, dd, _, _, rfl, hx, rfl, by show 2 ≤ sizeLine; decide, fun r nr => q1 n e _ r (s'.trans (new_same nr)) (same_no s' nr) upd_same⟩, fun z => nomatch z⟩
end
end V5
/-! What is alike: rows, words, outcomes. -/
namespace V5
open PySem PySem.Spec PyProof.Rows L2
section
variable {b : Addr} {H : Hp}
theorem ents_shw : ∀ (ks : List (PySem.Str × V)), (∀ p ∈ ks, Ent b H p.2) → ∃ as ts c, Shw H (ks.map (·.2)) 2 as ts c ∧ c ≤ 5000 * ks.length ∧ b ∉ as ∧ ∀ a ∈ as, Low2 H a
  | [], _ => ⟨_, _, _, .nil, by decide, by simp, fun a ha => by cases ha⟩
  | p :: ks, h => by
    obtain ⟨as, t, c, s1, c1, n1, l1⟩ := (h p List.mem_cons_self).shw
    obtain ⟨bs, ts, e, s2, c2, n2, l2⟩ := ents_shw ks fun q hq => h q (List.mem_cons_of_mem _ hq)
    refine ⟨_, _, _, Shw.cons1 s1 s2, by rw [List.length_cons]; omega, ?_, fun a ha => ?_⟩
    · rw [List.mem_append]
      exact fun z => z.elim n1 n2
    · exact (List.mem_append.mp ha).elim (l1 a) (l2 a)
theorem dict_shw {ks : List (PySem.Str × V)} (few : ks.length ≤ 7) (h : ∀ p ∈ ks, p.1 ∈ NMS ∧ Ent b H p.2) :
    ∃ as t c, c ≤ 50000 ∧ b ∉ as ∧ (∀ x ∈ as, Low2 H x) ∧ ∀ d, H d = some (.dK (kk ks)) → Shw H [.ref d] 3 (d :: as) [t] c := by
  obtain ⟨as, ts, c, s, c1, n, l⟩ := ents_shw ks fun p hp => (h p hp).2
  refine ⟨as, dictText (List.zipWith (fun p u => reprText p.1 ++ ": " ++ u) ks ts), 10 + 1010 * ks.length + c + 0, by omega, n, l, fun d hd => ?_⟩
  have z : d ∉ as := fun m => by
    obtain ⟨xs, e, _⟩ := l d m
    rw [hd] at e; cases e
  have := Shw.dic (d := 2) (as := []) (ts := []) (c := 0) ks hd (fun p hp => okT_shw (nms_ok p.1 (h p hp).1)) s z .nil
  rw [List.append_nil] at this
  exact this
theorem Lk.shw {d : Addr} {nm : List PySem.Str} {ks : List (PySem.Str × V)} (h : Lk b H d nm ks) (n : Nm nm) : ∃ as t c, Shw H [.ref d] 3 as [t] c ∧ c ≤ 50000 ∧ b ∉ as := by
  obtain ⟨as, t, c, c1, nb, _, s⟩ := dict_shw (h.few n) fun p hp => ⟨n.ok _ (h.all p hp).1, (h.all p hp).2⟩
  refine ⟨_, t, c, s d h.at_, c1, fun m => ?_⟩
  rcases List.mem_cons.mp m with e | e
  · exact h.nb e.symm
  · exact nb e
/-- three locks -/
theorem three_shw {d1 d2 d3 : Addr} {nm : List PySem.Str} {k1 k2 k3 : List (PySem.Str × V)} (h1 : Lk b H d1 nm k1) (h2 : Lk b H d2 nm k2) (h3 : Lk b H d3 nm k3) (n : Nm nm) : ∃ as ts c, Shw H [.ref d1, .ref d2, .ref d3] 3 as ts c ∧ c ≤ 150000 ∧ b ∉ as := by
  obtain ⟨a1, t1, c1, s1, l1, n1⟩ := h1.shw n
  obtain ⟨a2, t2, c2, s2, l2, n2⟩ := h2.shw n
  obtain ⟨a3, t3, c3, s3, l3, n3⟩ := h3.shw n
  refine ⟨_, _, _, Shw.cons1 s1 (Shw.cons1 s2 s3), by omega, ?_⟩
  rw [List.mem_append, List.mem_append]
  exact fun z => z.elim n1 fun z => z.elim n2 n3
/-- a row, shown -/
theorem row_shw {n : PySem.Str} {u v : V} (hn : n ∈ NMS) (hu : En b H u) (hv : En b H v) : ∃ as t c, c ≤ 12000 ∧ (∀ x ∈ as, ∃ xs, H x = some (.tup xs)) ∧ ∀ r, H r = some (.tup [.str n, u, v]) → Shw H [.ref r] 3 (r :: as) [t] c := by
  obtain ⟨a1, t1, c1, s1, l1, _, w1⟩ := hu.shw
  obtain ⟨a2, t2, c2, s2, l2, _, w2⟩ := hv.shw
  obtain ⟨o1, o2⟩ := okT_shw (nms_ok n hn)
  have S := Shw.str n o1 o2 (Shw.cons1 s1 s2)
  refine ⟨a1 ++ a2, tupleText (reprText n :: ([t1] ++ [t2])), 10 + (1010 + (c1 + c2)) + 0, ?_, fun x hx => ?_, fun r hr => ?_⟩
  case refine_3 =>
    have z : r ∉ a1 ++ a2 := fun m => by
      rcases List.mem_append.mp m with e | e
      · exact (w1 r e).ne hr (v := u) List.mem_cons_self hu.or rfl
      · exact (w2 r e).ne hr (v := u) List.mem_cons_self hu.or rfl
    have := Shw.tup (as := []) (ts := []) (c := 0) hr S z .nil
    rw [List.append_nil] at this
    exact this
  · omega
  · exact (List.mem_append.mp hx).elim (fun e => let ⟨xs, h, _⟩ := w1 x e; ⟨xs, h⟩) (fun e => let ⟨xs, h, _⟩ := w2 x e; ⟨xs, h⟩)
/-- two lists of rows of the same contents -/
theorem rows_shw : ∀ (L1 L2 : List Row), L1.map (·.2) = L2.map (·.2) → (∀ q ∈ L1, H q.1 = some (.tup [.str q.2.1, q.2.2.1, q.2.2.2]) ∧ q.2.1 ∈ NMS ∧ En b H q.2.2.1 ∧ En b H q.2.2.2) → (∀ q ∈ L2, H q.1 = some (.tup [.str q.2.1, q.2.2.1, q.2.2.2])) →
    ∃ as bs ts c, Shw H (rrs L1) 3 as ts c ∧ Shw H (rrs L2) 3 bs ts c ∧ c ≤ 12000 * L1.length ∧ (∀ x ∈ as, ∃ xs, H x = some (.tup xs)) ∧ ∀ x ∈ bs, ∃ xs, H x = some (.tup xs)
  | [], [], _, _, _ => ⟨_, _, _, _, .nil, .nil, by decide, (fun x hx => by cases hx), fun x hx => by cases hx⟩
  | [], _ :: _, h, _, _ => by simp at h
  | _ :: _, [], h, _, _ => by simp at h
  | q :: L1, r :: L2, h, h1, h2 => by
    rw [List.map_cons, List.map_cons] at h
    injection h with e1 e2
    obtain ⟨a1, a2, a3, a4⟩ := h1 q List.mem_cons_self
    have b1 := h2 r List.mem_cons_self
    rw [← e1] at b1
    obtain ⟨as, t, c, c1, w1, s⟩ := row_shw a2 a3 a4
    obtain ⟨bs, cs, ts, e, s1, s2, c2, w2, w3⟩ := rows_shw L1 L2 e2 (fun x hx => h1 x (List.mem_cons_of_mem _ hx)) (fun x hx => h2 x (List.mem_cons_of_mem _ hx))
    refine ⟨_, _, _, _, Shw.cons1 (s q.1 a1) s1, Shw.cons1 (s r.1 b1) s2, by rw [List.length_cons]; omega, fun x hx => ?_, fun x hx => ?_⟩
    · rcases List.mem_append.mp hx with z | z
      · rcases List.mem_cons.mp z with y | y
        · exact ⟨_, y ▸ a1⟩
        · exact w1 x y
      · exact w2 x z
    · rcases List.mem_append.mp hx with z | z
      · rcases List.mem_cons.mp z with y | y
        · exact ⟨_, y ▸ b1⟩
        · exact w1 x y
      · exact w3 x z
theorem list_shw {vs : List V} {as : List Addr} {ts : List PySem.Str} {c d : Nat} {r : Addr} (s : Shw H vs d as ts c) (hr : H r = some (.lst vs)) (z : r ∉ as) : Shw H [.ref r] (d + 1) (r :: as) [listText ts] (10 + c) := by
  have := Shw.lst (as := []) (ts := []) (c := 0) hr s z .nil
  rw [List.append_nil] at this
  exact this
theorem not_tup {r : Addr} {vs : List V} {as : List Addr} (hr : H r = some (.lst vs)) (w : ∀ x ∈ as, ∃ xs, H x = some (.tup xs)) : r ∉ as := fun m => by
  obtain ⟨xs, e⟩ := w r m
  rw [hr] at e; cases e
variable {K : PySem.W.Frag}
theorem eq_or {v : V} (h : v = .non ∨ ∃ z, v = .ref z) (n : Nat) : EqW K H (n + 1) v v := by
  rcases h with rfl | ⟨z, rfl⟩
  · exact EqW.flat rfl
  · exact EqW.same
theorem rows_eq : ∀ (L1 L2 : List Row), L1.map (·.2) = L2.map (·.2) → (∀ q ∈ L1, H q.1 = some (.tup [.str q.2.1, q.2.2.1, q.2.2.2]) ∧ (q.2.2.1 = .non ∨ ∃ z, q.2.2.1 = .ref z) ∧ (q.2.2.2 = .non ∨ ∃ z, q.2.2.2 = .ref z)) → (∀ q ∈ L2, H q.1 = some (.tup [.str q.2.1, q.2.2.1, q.2.2.2])) → Paired (EqW K H 3) (rrs L1) (rrs L2)
  | [], [], _, _, _ => .nil
  | [], _ :: _, h, _, _ => by simp at h
  | _ :: _, [], h, _, _ => by simp at h
  | q :: L1, r :: L2, h, h1, h2 => by
    rw [List.map_cons, List.map_cons] at h
    injection h with e1 e2
    obtain ⟨a1, a2, a3⟩ := h1 q List.mem_cons_self
    have b1 := h2 r List.mem_cons_self
    rw [← e1] at b1
    exact .cons (.inr (.inr (.inr ⟨q.1, r.1, _, _, rfl, rfl, .inl (.inl a1), .inl (.inl b1), .cons (EqW.flat rfl) (.cons (eq_or a2 1) (.cons (eq_or a3 1) .nil))⟩))) (rows_eq L1 L2 e2 (fun x hx => h1 x (List.mem_cons_of_mem _ hx)) (fun x hx => h2 x (List.mem_cons_of_mem _ hx)))
/-- words -/
def WDS : List PySem.Str := ["added", "dropped", "other", "raised", "lowered"]
theorem wds_ok : ∀ x ∈ WDS, okT x = true := by decide +kernel
theorem wd_in (v w : V) : wd H v w ∈ WDS := by
  unfold wd WDS
  split
  · simp
  · split
    · simp
    · split
      · simp
      · split <;> simp
theorem strs_eq : ∀ xs : List PySem.Str, Paired (EqW K H 1) (xs.map V.str) (xs.map V.str)
  | [] => .nil
  | x :: xs => .cons (EqW.flat rfl) (strs_eq xs)
/-- outcomes of a change -/
theorem told_alike {nm : List PySem.Str} {ks : List (PySem.Str × V)} {q1 q2 p1 p2 : Addr} (n : Nm nm) (h1 : Lk b H p1 nm ks) (h2 : Lk b H p2 nm ks) (g1 : H q1 = some (.tup [.str "told", .ref p1])) (g2 : H q2 = some (.tup [.str "told", .ref p2])) :
    EqT K H (EqW K H 3) (.ref q1) (.ref q2) ∧ ∃ as bs t c, c ≤ 60000 ∧ Shw H [.ref q1] 4 as [t] c ∧ Shw H [.ref q2] 4 bs [t] c := by
  refine ⟨⟨q1, q2, _, _, rfl, rfl, .inl (.inl g1), .inl (.inl g2), .cons (EqW.flat rfl) (.cons (.inr (.inr (.inl (.inr ⟨p1, p2, _, _, rfl, rfl, h1.at_, h2.at_, rfl, fun p hp => ?_⟩)))) .nil)⟩, ?_⟩
  · unfold kk at hp
    obtain ⟨q, hq, rfl⟩ := List.mem_map.mp hp
    refine ⟨q.2, by rw [val_kk]; exact val_mem h1.nd hq, ?_⟩
    obtain ⟨e, he⟩ := (h1.all q hq).2.ref
    show EqW K H 2 q.2 q.2
    rw [he]
    exact EqW.same
  · obtain ⟨as, t, c, c1, nb, low, s⟩ := dict_shw (h1.few n) fun p hp => ⟨n.ok _ (h1.all p hp).1, (h1.all p hp).2⟩
    have one : ∀ q p, H q = some (.tup [.str "told", .ref p]) → H p = some (.dK (kk ks)) → Shw H [.ref q] 4 (q :: (p :: as)) [tupleText (reprText "told" :: [t])] (10 + (1010 + c) + 0) := fun q p hq hp => by
      have z : q ∉ p :: as := fun m => by
        rcases List.mem_cons.mp m with e | e
        · rw [e, hp] at hq; cases hq
        · exact (low q e).ne hq (v := .ref p) List.mem_cons_self (.inr ⟨p, rfl⟩) rfl
      have S := Shw.str "told" (by decide) (by decide +kernel) (s p hp)
      have := Shw.tup (as := []) (ts := []) (c := 0) hq S z .nil
      rw [List.append_nil] at this
      exact this
    exact ⟨_, _, _, _, by omega, one q1 p1 g1 h1.at_, one q2 p2 g2 h2.at_⟩
theorem nt_alike {q1 q2 : Addr} {x : PySem.Str} (hx : x ∈ NMS) (g1 : H q1 = some (.tup [.str "not there", .str x])) (g2 : H q2 = some (.tup [.str "not there", .str x])) :
    EqT K H (EqW K H 3) (.ref q1) (.ref q2) ∧ ∃ as bs t c, c ≤ 60000 ∧ Shw H [.ref q1] 4 as [t] c ∧ Shw H [.ref q2] 4 bs [t] c := by
  refine ⟨⟨q1, q2, _, _, rfl, rfl, .inl (.inl g1), .inl (.inl g2), .cons (EqW.flat rfl) (.cons (EqW.flat rfl) .nil)⟩, ?_⟩
  obtain ⟨o1, o2⟩ := okT_shw (nms_ok x hx)
  have one : ∀ q, H q = some (.tup [.str "not there", .str x]) → Shw H [.ref q] 4 ((q :: []) ++ []) [tupleText [reprText "not there", reprText x]] (10 + (1010 + (1010 + 0)) + 0) := fun q hq =>
    Shw.tup (d := 3) hq (Shw.str "not there" (by decide) (by decide +kernel) (Shw.str x o1 o2 .nil)) (by simp) .nil
  exact ⟨_, _, _, _, by decide, one q1 g1, one q2 g2⟩
end
end V5
/-! What the law holds on to. -/
namespace V5
open PySem PySem.Spec PyProof.Rows L2 TL
abbrev sLaw : Stmt := topS 25
abbrev NL : List PySem.Str := ["script", "bag", "turn", "names", "one", "other", "third", "kept", "due", "again", "told", "some", "lock", "name", "before", "after", "row"]
theorem scLaw : FnScope NL ["script"] (defScope sLaw) := ⟨rfl, rfl, rfl, by decide +kernel, rfl, by decide +kernel, by decide +kernel⟩
abbrev sg (a b : Addr) (x2 x3 x4 x5 x6 x7 x8 x9 x10 x11 x12 x13 x14 x15 x16 : Option V) : L2.St := [some (.ref a), some (.ref b), x2, x3, x4, x5, x6, x7, x8, x9, x10, x11, x12, x13, x14, x15, x16]
structure Lw (K : PySem.W.Frag) (mg : PySem.Str → Option Value) (fT fO fM fV fE fB fN fA fNr fCh fBt fAl fHe fLc fWd fLw fCg fCp fAs CN CP fI : Addr) (dT dO dM dV dE dB dN dA dNr dCh dBt dAl dHe dLc dWd dLw dCg dCp dAs dI : FuncData) : Prop where
  D : Drw K mg fT fO fM fV fE dT dO dM dV dE
  X : Ex K mg CN fI dI
  Y : Ey K mg CN CP
  FB : Fun K "_law_bag" "_law_bag" sBag fB dB
  FN : Fun K "_law_names" "_law_names" sNames fN dN
  FA : Fun K "_law_any_lock" "_law_any_lock" sAny fA dA
  FNr : Fun K "_law_near_lock" "_law_near_lock" sNear fNr dNr
  FCh : Fun K "_law_changes" "_law_changes" sChanges fCh dCh
  FBt : Fun K "changes_between" "changes_between" sBetween fBt dBt
  FAl : Fun K "_law_alike" "_law_alike" sAlike fAl dAl
  FHe : Fun K "_law_heard" "_law_heard" sHeard fHe dHe
  FLc : Fun K "_law_changed" "_law_changed" sLChg fLc dLc
  FWd : Fun K "change_word" "change_word" sWord fWd dWd
  FLw : Fun K "_law_word" "_law_word" sLWord fLw dLw
  FCg : Fun K "changed_lock" "changed_lock" sChg fCg dCg
  FCp : Fun K "lock_copy" "lock_copy" sCopy fCp dCp
  FAs : Fun K "_law_ascending_dict" "_law_ascending_dict" sAsc fAs dAs
  bB : Binds K dB ["script"] []
  bN : Binds K dN ["many"] []
  bA : Binds K dA ["bag", "names"] []
  bNr : Binds K dNr ["bag", "lock", "names"] []
  bCh : Binds K dCh ["one", "other"] []
  bBt : Binds K dBt ["one", "other"] []
  bAl : Binds K dAl ["found", "due"] []
  bHe : Binds K dHe ["lock", "changes"] []
  bLc : Binds K dLc ["lock", "changes"] []
  bWd : Binds K dWd ["before", "after"] []
  bLw : Binds K dLw ["before", "after"] []
  bCg : Binds K dCg ["lock", "changes"] []
  bCp : Binds K dCp ["lock"] []
  bAs : Binds K dAs ["found"] []
  gB : mg "_law_bag" = some (.ref fB)
  gN : mg "_law_names" = some (.ref fN)
  gA : mg "_law_any_lock" = some (.ref fA)
  gNr : mg "_law_near_lock" = some (.ref fNr)
  gCh : mg "_law_changes" = some (.ref fCh)
  gBt : mg "changes_between" = some (.ref fBt)
  gAl : mg "_law_alike" = some (.ref fAl)
  gHe : mg "_law_heard" = some (.ref fHe)
  gLc : mg "_law_changed" = some (.ref fLc)
  gWd : mg "change_word" = some (.ref fWd)
  gLw : mg "_law_word" = some (.ref fLw)
  gCg : mg "changed_lock" = some (.ref fCg)
  gCp : mg "lock_copy" = some (.ref fCp)
  gAs : mg "_law_ascending_dict" = some (.ref fAs)
  mRepr : mg "repr" = none
  mAbs : mg "abs" = none
/-- the rows of the changes -/
theorem rws_RC {b d1 d2 : Addr} {H : Hp} {nm : List PySem.Str} {k1 k2 : List (PySem.Str × V)} {ys : List PySem.Str} {L : List Row} (h1 : Lk b H d1 nm k1) (h2 : Lk b H d2 nm k2) (hy : ∀ x, x ∈ ys ↔ x ∈ keysOf k1 ++ keysOf k2)
    (hL : ∀ q ∈ L, H q.1 = some (.tup [.str q.2.1, q.2.2.1, q.2.2.2])) (e : L.map (·.2) = rws H k1 k2 ys) : RC b H nm L := fun q hq => by
  have m : q.2 ∈ rws H k1 k2 ys := by rw [← e]; exact List.mem_map_of_mem hq
  unfold rws at m
  obtain ⟨n, hn, e2⟩ := List.mem_map.mp m
  have n1 := (hy n).mp (List.mem_filter.mp hn).1
  have nn : n ∈ nm := by
    rcases List.mem_append.mp n1 with z | z
    · obtain ⟨p, hp, e3⟩ := List.mem_map.mp z
      exact e3 ▸ (h1.all p hp).1
    · obtain ⟨p, hp, e3⟩ := List.mem_map.mp z
      exact e3 ▸ (h2.all p hp).1
  refine ⟨hL q hq, ?_⟩
  rw [← e2]
  exact ⟨nn, h1.en n, h2.en n⟩
theorem rws_kt {b d1 d2 : Addr} {H H' : Hp} {nm : List PySem.Str} {k1 k2 : List (PySem.Str × V)} (ys : List PySem.Str) (h1 : Lk b H d1 nm k1) (h2 : Lk b H d2 nm k2) (k : KT H H') : rws H' k1 k2 ys = rws H k1 k2 ys := by
  unfold rws
  congr 1
  refine List.filter_congr fun n _ => ?_
  exact ne_kt (h1.en n) (h2.en n) k
theorem fst_kt {b d : Addr} {H H' : Hp} {nm : List PySem.Str} {ks : List (PySem.Str × V)} {T : List Row} (hd : Lk b H d nm ks) (hT : RC b H nm T) (k : KT H H') : fst H' ks (T.map (·.2)) = fst H ks (T.map (·.2)) := by
  unfold fst
  congr 1
  have : ∀ r ∈ T.map (·.2), bad H' ks r = bad H ks r := fun r hr => by
    obtain ⟨q, hq, rfl⟩ := List.mem_map.mp hr
    exact ne_kt (hd.en q.2.1) (hT q hq).2.2.1 k
  generalize T.map (·.2) = rows at this
  induction rows with
  | nil => rfl
  | cons r rows ih =>
    rw [List.find?_cons, List.find?_cons, this r List.mem_cons_self, ih fun x hx => this x (List.mem_cons_of_mem _ hx)]
theorem fst_in {b : Addr} {H : Hp} {nm : List PySem.Str} {ks : List (PySem.Str × V)} {T : List Row} {n : PySem.Str} (hT : RC b H nm T) (e : fst H ks (T.map (·.2)) = some n) : n ∈ nm := by
  unfold fst at e
  cases h : (T.map (·.2)).find? (bad H ks) with
  | none => rw [h] at e; cases e
  | some r =>
    rw [h] at e
    cases e
    obtain ⟨q, hq, rfl⟩ := List.mem_map.mp (List.mem_of_find?_eq_some h)
    exact (hT q hq).2.1
/-- behind the first four statements of a turn -/
structure S6 (b : Addr) (H : Hp) (o1 o2 o3 r0 : Addr) (nm : List PySem.Str) (k1 k2 k3 : List (PySem.Str × V)) (T : List Row) (ys : List PySem.Str) (kp : PySem.Str) : Prop where
  l1 : Lk b H o1 nm k1
  l2 : Lk b H o2 nm k2
  l3 : Lk b H o3 nm k3
  n : Nm nm
  r : H r0 = some (.lst (rrs T))
  rb : r0 ≠ b
  t : RC b H nm T
  e : T.map (·.2) = rws H k1 k2 ys
  as : TX.Asc ys
  m : ∀ x, x ∈ ys ↔ x ∈ keysOf k1 ++ keysOf k2
  k : ∃ as ts c, Shw H [.ref o1, .ref o2, .ref o3] 3 as ts c ∧ c ≤ 150000 ∧ b ∉ as ∧ kp = listText ts
  few : T.length ≤ 14
theorem S6.chb {b : Addr} {H H' : Hp} {o1 o2 o3 r0 : Addr} {nm : List PySem.Str} {k1 k2 k3 : List (PySem.Str × V)} {T : List Row} {ys : List PySem.Str} {kp : PySem.Str} (s : S6 b H o1 o2 o3 r0 nm k1 k2 k3 T ys kp) (B : Bag H b) (c : Chb b H H') : S6 b H' o1 o2 o3 r0 nm k1 k2 k3 T ys kp := by
  have kt := Chb.kt B c
  refine ⟨s.l1.chb B c, s.l2.chb B c, s.l3.chb B c, s.n, c _ _ s.rb s.r, s.rb, fun q hq => ?_, ?_, s.as, s.m, ?_, s.few⟩
  · obtain ⟨a1, a2, a3, a4⟩ := s.t q hq
    exact ⟨kt _ _ a1, a2, a3.kt kt, a4.kt kt⟩
  · rw [s.e, rws_kt ys s.l1 s.l2 kt]
  · obtain ⟨as, ts, cc, a1, a2, a3, a4⟩ := s.k
    exact ⟨as, ts, cc, a1.keep fun x hx o e => c _ _ (fun z => a3 (z ▸ hx)) e, a2, a3, a4⟩
theorem S6.same {b : Addr} {H H' : Hp} {o1 o2 o3 r0 : Addr} {nm : List PySem.Str} {k1 k2 k3 : List (PySem.Str × V)} {T : List Row} {ys : List PySem.Str} {kp : PySem.Str} (s : S6 b H o1 o2 o3 r0 nm k1 k2 k3 T ys kp) (B : Bag H b) (c : Same H H') : S6 b H' o1 o2 o3 r0 nm k1 k2 k3 T ys kp := s.chb B (Chb.same c)
theorem rws_len (H : Hp) {d1 d2 b : Addr} {nm : List PySem.Str} {k1 k2 : List (PySem.Str × V)} {ys : List PySem.Str} (h1 : Lk b H d1 nm k1) (h2 : Lk b H d2 nm k2) (n : Nm nm) (as : TX.Asc ys) (m : ∀ x, x ∈ ys ↔ x ∈ keysOf k1 ++ keysOf k2) : (rws H k1 k2 ys).length ≤ 14 := by
  unfold rws
  rw [List.length_map]
  refine Nat.le_trans (List.length_filter_le _ _) ?_
  have := nodup_le as.2 fun x hx => (m x).mp hx
  rw [List.length_append, keysOf, keysOf, List.length_map, List.length_map] at this
  have := h1.few n
  have := h2.few n
  omega
end V5
/-! Outcomes. -/
namespace V5
open PySem PySem.Spec PyProof.Rows L2 TL
def Out (b : Addr) (H : Hp) (nm : List PySem.Str) (ks : List (PySem.Str × V)) (rows : List (PySem.Str × V × V)) (v : V) : Prop :=
  (∃ q n, v = .ref q ∧ fst H ks rows = some n ∧ n ∈ nm ∧ H q = some (.tup [.str "not there", .str n])) ∨ ∃ q p ks', v = .ref q ∧ fst H ks rows = none ∧ H q = some (.tup [.str "told", .ref p]) ∧ Rs b H p nm ks ks' rows
section
variable {b o c : Addr} {H H' : Hp} {nm : List PySem.Str} {ks : List (PySem.Str × V)} {T : List Row} {v u : V}
theorem Out.same (h : Out b H nm ks (T.map (·.2)) v) (hd : Lk b H o nm ks) (hT : RC b H nm T) (s : Same H H') : Out b H' nm ks (T.map (·.2)) v := by
  have e := fst_kt hd hT (KT.same s)
  rcases h with ⟨q, n, h1, h2, h3, h4⟩ | ⟨q, p, k', h1, h2, h3, h4⟩
  · exact .inl ⟨q, n, h1, e.trans h2, h3, s _ _ h4⟩
  · exact .inr ⟨q, p, k', h1, e.trans h2, s _ _ h3, h4.lk.same s, h4.s, h4.v⟩
theorem res_out {ob : HO} {Q : VK} {E : XK} (hb : H b = some ob) (hd : Lk b H o nm ks) (hN : Nm nm) (hc : Seq H c (rrs T)) (hT : RC b H nm T) (q : ∀ H' v, Same H H' → Out b H' nm ks (T.map (·.2)) v → Q v H') : spRes [.ref o, .ref c] H Q E :=
  ⟨b, o, c, nm, ks, T, ob, rfl, hb, hd, hN, hc, hT, fun n e H' r s _ hr => q H' _ s (.inl ⟨r, n, rfl, (fst_kt hd hT (KT.same s)).trans e, fst_in hT e, hr⟩), fun e H' r p k' s _ hr R => q H' _ s (.inr ⟨r, p, k', rfl, (fst_kt hd hT (KT.same s)).trans e, hr, R⟩)⟩
theorem out_alike {K : PySem.W.Frag} (hN : Nm nm) (h1 : Out b H nm ks (T.map (·.2)) v) (h2 : Out b H nm ks (T.map (·.2)) u) : EqT K H (EqW K H 3) v u ∧ ∃ as bs t c, c ≤ 60000 ∧ Shw H [v] 4 as [t] c ∧ Shw H [u] 4 bs [t] c := by
  rcases h1 with ⟨q, n, rfl, e1, m1, g1⟩ | ⟨q, p, k1, rfl, e1, g1, R1⟩
  · rcases h2 with ⟨r, n2, rfl, e2, m2, g2⟩ | ⟨r, p2, k2, rfl, e2, g2, R2⟩
    · rw [e1] at e2
      cases e2
      exact nt_alike (hN.ok _ m1) g1 g2
    · rw [e1] at e2; cases e2
  · rcases h2 with ⟨r, n2, rfl, e2, m2, g2⟩ | ⟨r, p2, k2, rfl, e2, g2, R2⟩
    · rw [e1] at e2; cases e2
    · have e : k1 = k2 := R1.one R2
      subst e
      exact told_alike hN R1.lk R2.lk g1 g2
theorem alike_of {K : PySem.W.Frag} {Q : VK} {E : XK} (hN : Nm nm) (h1 : Out b H nm ks (T.map (·.2)) v) (h2 : Out b H nm ks (T.map (·.2)) u) (q : Q (.bl true) H) : spAlike K [v, u] H Q E := by
  obtain ⟨e, as, bs, t, c, l, s1, s2⟩ := out_alike (K := K) hN h1 h2
  exact ⟨v, u, 3, 4, as, bs, t, c, c, rfl, by decide, .inr e, s1, s2, by decide, by omega, by omega, q⟩
end
end V5
/-! The law. -/
namespace V5
open PySem PySem.Spec PyProof.Rows L2 TL
theorem cut_take (xs : List V) (k : Nat) : cutV xs none (some ((k : Nat) : Int)) = xs.take k := by
  show (xs.drop 0).take (HT.sIx xs.length xs.length (some ((k : Nat) : Int)) - 0) = xs.take k
  rw [HT.sIx_nat, List.drop_zero, Nat.sub_zero]
  exact List.take_eq_take_iff.mpr (by omega)
def spLaw (K : PySem.W.Frag) : Sp := fun vs H Q _ => ∃ (a : Addr) (ns : List Int), vs = [.ref a] ∧ SqL K H a (ns.map V.int) ∧ ns.length ≤ 63 ∧ ∀ H', Q (.bl true) H'
section
variable {P : Program} {w : World} {K : PySem.W.Frag} {mg : PySem.Str → Option Value} {base : Heap}
theorem ok_law {f : Addr} {fd : FuncData} {fT fO fM fV fE fB fN fA fNr fCh fBt fAl fHe fLc fWd fLw fCg fCp fAs CN CP fI : Addr} {dT dO dM dV dE dB dN dA dNr dCh dBt dAl dHe dLc dWd dLw dCg dCp dAs dI : FuncData} (F : Fun K "law" "law" sLaw f fd)
    (T : Lw K mg fT fO fM fV fE fB fN fA fNr fCh fBt fAl fHe fLc fWd fLw fCg fCp fAs CN CP fI dT dO dM dV dE dB dN dA dNr dCh dBt dAl dHe dLc dWd dLw dCg dCp dAs dI) : Ok0 P w K mg base 9 f fd ["script"] (spLaw K) := by
  have GB : FnOk P w K mg base CX0 8 fB dB ["script"] (spBag K) := ok_bag T.FB T.mAbs
  have GN : FnOk P w K mg base CX0 8 fN dN ["many"] spNames := ok_names T.FN
  have GT : FnOk P w K mg base CX0 8 fT dT ["bag", "many"] spTake := ok_take T.D.FT T.D.mI
  have GO : FnOk P w K mg base CX0 8 fO dO ["bag", "things"] spOne := ok_one T.D.FO T.D.FT T.D.bT T.D.gT T.D.mI T.D.mL
  have GM : FnOk P w K mg base CX0 8 fM dM ["bag", "things"] spMixed := ok_mixed T.D.FM T.D.FT T.D.bT T.D.gT T.D.mI T.D.mL
  have GA : FnOk P w K mg base CX0 8 fA dA ["bag", "names"] spAny := ok_any T.FA T.D
  have GR : FnOk P w K mg base CX0 8 fNr dNr ["bag", "lock", "names"] spNear := ok_near T.FNr T.D
  have GC : FnOk P w K mg base CX0 8 fCh dCh ["one", "other"] spCh := ok_Changes T.FCh T.D.mS T.D.mE T.D.mLi
  have GE : FnOk P w K mg base CX0 8 fBt dBt ["one", "other"] spCh := ok_Between T.FBt T.D.mS T.D.mE T.D.mLi
  have GL : Ok0 P w K mg base 8 fAl dAl ["found", "due"] (spAlike K) := ok_alike T.FAl T.mRepr
  have GH : FnOk P w K mg base CX0 8 fHe dHe ["lock", "changes"] spRes := ok_heard T.FHe T.FCg T.bCg T.gCg T.FCp T.bCp T.gCp T.X T.Y T.D.mS
  have GD : FnOk P w K mg base CX0 8 fLc dLc ["lock", "changes"] spRes := ok_lchg T.FLc T.FAs T.bAs T.gAs T.D.mS T.D.mD
  have GW : FnOk P w K mg base CX0 8 fWd dWd ["before", "after"] spWord := ok_word T.FWd
  have GU : FnOk P w K mg base CX0 8 fLw dLw ["before", "after"] spWord := ok_lword T.FLw
  refine Ok0.mk_of F scLaw (fun vs H Q E h => ?_) (fun cdv A outer s H vs Q E hgd hr h => ?_)
  · obtain ⟨a, ns, rfl, _⟩ := h
    rfl
  · obtain ⟨a, ns, rfl, hS, hl, q⟩ := h
    refine ⟨_, pss_cons (ps_set (i := 1) scLaw.nd rfl (.inl rfl) (pe_call GB hr (by rfl) T.gB T.FB.kp T.bB .nil pass0 (pa_cons (pv 0) pa_nil)))
      (pss_cons (ps_for PassesOwn.never rfl (pi_range1 (by rfl) T.D.mR (pa_cons pe_int pa_nil)) (pg_name (i := 2) scLaw.nd rfl (Or.inl rfl))
        (C8.pss_cut (ps_set (i := 3) scLaw.nd rfl (.inl rfl) (pe_slice sl_list (pe_call GM hr (by rfl) T.D.gM T.D.FM.kp T.D.bM .nil pass0 (pa_cons (pv 1) (pa_cons (pe_callTy call_list_of (by rfl) T.D.mLi (by decide +kernel) (pa_cons (pe_call GN hr (by rfl) T.gN T.FN.kp T.bN .nil pass0 (pa_cons pe_int pa_nil)) pa_nil)) pa_nil))) po_none
            (po_some (pe_call GO hr (by rfl) T.D.gO T.D.FO.kp T.D.bO .nil pass0 (pa_cons (pv 1) (pa_cons (pe_lst (pa_cons pe_int (pa_cons pe_int (pa_cons pe_int (pa_cons pe_int pa_nil))))) pa_nil))))))
        (C8.pss_cut (ps_set (i := 4) scLaw.nd rfl (.inl rfl) (pe_call GA hr (by rfl) T.gA T.FA.kp T.bA .nil pass0 (pa_cons (pv 1) (pa_cons (pv 3) pa_nil))))
        (C8.pss_cut (ps_par (i := 5) (j := 6) rfl scLaw.nd rfl rfl (by decide) rfl rfl (pa_cons (pe_call GR hr (by rfl) T.gNr T.FNr.kp T.bNr .nil pass0 (pa_cons (pv 1) (pa_cons (pv 4) (pa_cons (pv 3) pa_nil)))) (pa_cons (pe_call GR hr (by rfl) T.gNr T.FNr.kp T.bNr .nil pass0 (pa_cons (pv 1) (pa_cons (pv 4) (pa_cons (pv 3) pa_nil)))) pa_nil)) (by rfl))
        (C8.pss_cut (ps_par (i := 7) (j := 8) rfl scLaw.nd rfl rfl (by decide) rfl rfl (pa_cons (pe_callB (call_reprV hgd hr.units) (by rfl) T.mRepr (by decide +kernel) (pa_cons (pe_lst (pa_cons (pv 4) (pa_cons (pv 5) (pa_cons (pv 6) pa_nil)))) pa_nil)) (pa_cons (pe_call GC hr (by rfl) T.gCh T.FCh.kp T.bCh .nil pass0 (pa_cons (pv 4) (pa_cons (pv 5) pa_nil))) pa_nil)) (by rfl))
        (C8.pss_cut (ps_for PassesOwn.never rfl (pi_range1 (by rfl) T.D.mR (pa_cons pe_int pa_nil)) (pg_name (i := 9) scLaw.nd rfl (Or.inl rfl))
          (C8.pss_cut (ps_set (i := 10) scLaw.nd rfl (.inl rfl) (pe_call GE hr (by rfl) T.gBt T.FBt.kp T.bBt .nil pass0 (pa_cons (pv 4) (pa_cons (pv 5) pa_nil))))
          (C8.pss_cut (ps_if (pt_not (pt_val (pe_call00 GL hgd hr (by rfl) T.gAl T.FAl.kp T.bAl (pa_cons (pv 10) (pa_cons (pv 8) pa_nil))))) (pss_one (ps_ret pe_bl)) pss_nil)
          (C8.pss_cut (ps_expr (pe_bm PySem.F.plainAttrs_list PySem.F.slot_list_append PySem.F.type_list_append mt_append (pv 10) (pa_cons pe_non pa_nil)))
          (pss_one (ps_expr (pe_bm0 PySem.F.plainAttrs_list PySem.F.slot_list_reverse PySem.F.type_list_reverse mt_reverse (pv 10))))))))
        (C8.pss_cut (ps_if (pt_not (pt_val (pe_call00 GL hgd hr (by rfl) T.gAl T.FAl.kp T.bAl (pa_cons
            (pe_lc (own := [("name", 13), ("before", 14), ("after", 15)]) (g := gTup K 3 (gCons (gName 13) (gCons (gName 14) (gCons (gName 15) gNil)))) rfl scLaw.nd (pi_list (pv 8)) (blkOk_by (N := NL) (sc := defScope sLaw) (by decide +kernel))
              (fun _ _ _ _ _ => pg_tup rfl (pgs_cons (pg_name (i := 13) scLaw.nd rfl (Or.inl rfl)) (pgs_cons (pg_name (i := 14) scLaw.nd rfl (Or.inl rfl)) (pgs_cons (pg_name (i := 15) scLaw.nd rfl (Or.inl rfl)) pgs_nil)))) (fun _ _ _ _ _ => pts_nil)
              (fun _ _ _ _ _ => pe_call GW hr (by rfl) T.gWd T.FWd.kp T.bWd .nil pass0 (pa_cons (pv 14) (pa_cons (pv 15) pa_nil))))
            (pa_cons (pe_lc (own := [("row", 16)]) (g := gName 16) rfl scLaw.nd (pi_list (pv 8)) (blkOk_by (N := NL) (sc := defScope sLaw) (by decide +kernel))
              (fun _ _ _ _ _ => pg_name (i := 16) scLaw.nd rfl (Or.inl rfl)) (fun _ _ _ _ _ => pts_nil)
              (fun _ _ _ _ _ => pe_call GU hr (by rfl) T.gLw T.FLw.kp T.bLw .nil pass0 (pa_cons (pe_ix (show IxR _ (rIxT K) from ix_tup) (pv 16) pe_int (fun _ _ => rfl)) (pa_cons (pe_ix (show IxR _ (rIxT K) from ix_tup) (pv 16) pe_int (fun _ _ => rfl)) pa_nil)))) pa_nil))))) (pss_one (ps_ret pe_bl)) pss_nil)
        (C8.pss_cut (ps_set (i := 11) scLaw.nd rfl (.inl rfl) (pe_call GM hr (by rfl) T.D.gM T.D.FM.kp T.D.bM .nil pass0 (pa_cons (pv 1) (pa_cons (pv 8) pa_nil))))
        (C8.pss_cut (ps_set (i := 11) scLaw.nd rfl (.inl rfl) (pe_ifExp (pt_cmpR op_eq (pe_call GT hr (by rfl) T.D.gT T.D.FT.kp T.D.bT .nil pass0 (pa_cons (pv 1) (pa_cons pe_int pa_nil))) pe_int (nomark _)) (pe_callTy call_tuple_of (by rfl) T.D.mU (by decide +kernel) (pa_cons (pv 11) pa_nil)) (pv 11)))
        (C8.pss_cut (ps_for PassesOwn.never rfl (pi_tup (pe_tup (pa_cons (pv 4) (pa_cons (pv 6) (pa_cons (pv 5) pa_nil))))) (pg_name (i := 12) scLaw.nd rfl (Or.inl rfl))
          (pss_one (ps_if (pt_not (pt_val (pe_call00 GL hgd hr (by rfl) T.gAl T.FAl.kp T.bAl (pa_cons (pe_call GH hr (by rfl) T.gHe T.FHe.kp T.bHe .nil pass0 (pa_cons (pv 12) (pa_cons (pv 11) pa_nil))) (pa_cons (pe_call GD hr (by rfl) T.gLc T.FLc.kp T.bLc .nil pass0 (pa_cons (pv 12) (pa_cons (pv 11) pa_nil))) pa_nil))))) (pss_one (ps_ret pe_bl)) pss_nil)))
        (pss_one (ps_if (PW.pt (pw_or (pt_not (pt_val (pe_call00 GL hgd hr (by rfl) T.gAl T.FAl.kp T.bAl (pa_cons (pe_call GH hr (by rfl) T.gHe T.FHe.kp T.bHe .nil pass0 (pa_cons (pv 4) (pa_cons (pe_slice sl_list (pv 8) po_none (po_some pe_int)) pa_nil))) (pa_cons (pe_call GD hr (by rfl) T.gLc T.FLc.kp T.bLc .nil pass0 (pa_cons (pv 4) (pa_cons (pe_slice sl_list (pv 8) po_none (po_some pe_int)) pa_nil))) pa_nil)))))
          (pw_or1 (pt_cmpR op_ne (pe_callB (call_reprV hgd hr.units) (by rfl) T.mRepr (by decide +kernel) (pa_cons (pe_lst (pa_cons (pv 4) (pa_cons (pv 5) (pa_cons (pv 6) pa_nil)))) pa_nil)) (pv 7) (nomark _))))) (pss_one (ps_ret pe_bl)) pss_nil))))))))))))
      (pss_one (ps_ret pe_bl))), ?_⟩
    refine ⟨_, rfl, a, ns, rfl, hS, hl, fun H0 b _ _ hB0 => ⟨4, rfl, by decide, by decide, for_range (n := 4) (fun _ σ' H' => (∃ x2 x3 x4 x5 x6 x7 x8 x9 x10 x11 x12 x13 x14 x15 x16, σ' = sg a b x2 x3 x4 x5 x6 x7 x8 x9 x10 x11 x12 x13 x14 x15 x16) ∧ Bag H' b) ⟨⟨_, _, _, _, _, _, _, _, _, _, _, _, _, _, _, rfl⟩, hB0⟩ (fun i σ' H1 hi hP => ?_) (fun σ' H' _ => q H')⟩⟩
    obtain ⟨⟨x2, x3, x4, x5, x6, x7, x8, x9, x10, x11, x12, x13, x14, x15, x16, rfl⟩, B1⟩ := hP
    clear hB0 hS
    -- names
    refine ⟨fun σ' H' => ∃ (y2 : Option V) (tn : Addr) (nm : List PySem.Str), σ' = sg a b y2 (some (.ref tn)) x4 x5 x6 x7 x8 x9 x10 x11 x12 x13 x14 x15 x16 ∧ Bag H' b ∧ H' tn = some (.lst (nm.map V.str)) ∧ tn ≠ b ∧ Nm nm, ?_, ?_⟩
    · refine ⟨_, rfl, rfl, fun H3 p s3 hp => ⟨p, _, rfl, .inr (.inl (.inl hp)), fun l nl => ?_⟩⟩
      have B3 := B1.same s3
      obtain ⟨o3, hb3⟩ := B3.lst
      refine ⟨b, l, _, rfl, B3.same (new_same nl), upd_same, (ne_of_none hb3 nl).symm, by decide, fun H4 r ys c4 B4 nr hr pm rb => ?_⟩
      obtain ⟨zs, pz, rfl⟩ := perm_map_inv pm NMS rfl
      obtain ⟨o4, hb4⟩ := B4.lst
      refine ⟨_, rfl, by show 4 ≤ sizeLine; decide, fun t nt => ⟨b, t, _, rfl, B4.same (new_same nt), upd_same, (ne_of_none hb4 nt).symm, by simp, by show 4 ≤ 1000; decide, fun H5 x c5 B5 hx => ?_⟩⟩
      have hr5 := c5 _ _ rb (new_ne (u := .lst [.int 4, .int 7, .int 2, .int 1]) hr nt)
      have hk : ∃ k : Nat, x = .int (k : Nat) ∧ 1 ≤ k ∧ k ≤ 7 := by
        simp only [List.mem_cons, List.not_mem_nil, or_false] at hx
        rcases hx with e | e | e | e
        · exact ⟨4, e, by decide, by decide⟩
        · exact ⟨7, e, by decide, by decide⟩
        · exact ⟨2, e, by decide, by decide⟩
        · exact ⟨1, e, by decide, by decide⟩
      obtain ⟨k, rfl, k1, k7⟩ := hk
      obtain ⟨o5, hb5⟩ := B5.lst
      refine ⟨_, rfl, r, _, rfl, .inl (.inl hr5), fun tn ntn => ⟨_, tn, zs.take k, rfl, B5.same (new_same ntn), ?_, (ne_of_none hb5 ntn).symm, ?_⟩⟩
      · rw [upd_same]
        have lz : zs.length = 12 := pz.length_eq
        have ec : cutV (zs.map V.str) none (some ((k : Nat) : Int)) = (zs.take k).map V.str := by
          rw [List.map_take]
          exact cut_take _ _
        rw [ec]
      · have lz : zs.length = 12 := pz.length_eq
        refine ⟨(List.take_sublist k zs).nodup (pz.nodup_iff.mpr nms_nd), fun x hx => pz.mem_iff.mp (List.mem_of_mem_take hx), fun e => ?_, by rw [List.length_take]; omega⟩
        have := congrArg List.length e
        rw [List.length_take, lz] at this
        simp at this
        omega
    clear B1
    rintro σ' H2 ⟨y2, tn, nm, rfl, B2, htn, tnb, hN⟩
    -- one
    refine ⟨fun σ' H' => ∃ (o1 : Addr) (k1 : List (PySem.Str × V)), σ' = sg a b y2 (some (.ref tn)) (some (.ref o1)) x5 x6 x7 x8 x9 x10 x11 x12 x13 x14 x15 x16 ∧ Bag H' b ∧ H' tn = some (.lst (nm.map V.str)) ∧ Lk b H' o1 nm k1, ?_, ?_⟩
    · exact ⟨_, rfl, _, rfl, b, tn, nm, rfl, B2, htn, tnb, hN, fun H3 d ks c3 B3 L => ⟨d, ks, rfl, B3, c3 _ _ tnb htn, L⟩⟩
    clear B2 htn
    rintro σ' H3 ⟨o1, k1, rfl, B3, htn, L1⟩
    -- other, third
    refine ⟨fun σ' H' => ∃ (o2 o3 : Addr) (k2 k3 : List (PySem.Str × V)), σ' = sg a b y2 (some (.ref tn)) (some (.ref o1)) (some (.ref o2)) (some (.ref o3)) x7 x8 x9 x10 x11 x12 x13 x14 x15 x16 ∧ Bag H' b ∧ Lk b H' o1 nm k1 ∧ Lk b H' o2 nm k2 ∧ Lk b H' o3 nm k3, ?_, ?_⟩
    · exact ⟨_, rfl, _, rfl, _, rfl, b, o1, tn, nm, k1, rfl, B3, L1, htn, tnb, hN, fun H4 d2 k2 c4 B4 M2 => ⟨_, rfl, _, rfl, _, rfl, b, o1, tn, nm, k1, rfl, B4, L1.chb B3 c4, c4 _ _ tnb htn, tnb, hN, fun H5 d3 k3 c5 B5 M3 => ⟨_, _, rfl, d2, d3, k2, k3, rfl, B5, (L1.chb B3 c4).chb B4 c5, M2.chb B4 c5, M3⟩⟩⟩
    clear B3 htn L1
    rintro σ' H4 ⟨o2, o3, k2, k3, rfl, B4, L1, L2, L3⟩
    -- kept, due
    refine ⟨fun σ' H' => ∃ (r0 : Addr) (T : List Row) (ys : List PySem.Str) (kp : PySem.Str), σ' = sg a b y2 (some (.ref tn)) (some (.ref o1)) (some (.ref o2)) (some (.ref o3)) (some (.str kp)) (some (.ref r0)) x9 x10 x11 x12 x13 x14 x15 x16 ∧ Bag H' b ∧ S6 b H' o1 o2 o3 r0 nm k1 k2 k3 T ys kp, ?_, ?_⟩
    · obtain ⟨as, ts, c, sh, hc, nb⟩ := three_shw L1 L2 L3 hN
      refine ⟨_, rfl, _, rfl, _, rfl, by show 3 ≤ sizeLine; decide, fun l nl => ?_⟩
      have s5 : Same H4 (upd H4 l (.lst [.ref o1, .ref o2, .ref o3])) := new_same nl
      have h5 : upd H4 l (.lst [.ref o1, .ref o2, .ref o3]) l = some (.lst [.ref o1, .ref o2, .ref o3]) := upd_same
      have nl5 : l ∉ as := sh.fresh nl
      generalize upd H4 l (.lst [.ref o1, .ref o2, .ref o3]) = H5 at s5 h5 ⊢
      have sh5 := sh.keep (H' := H5) fun x _ o e => s5 x o e
      refine ⟨_, 4, _, _, _, rfl, list_shw sh5 h5 nl5, by decide, by omega, _, rfl, _, rfl, b, o1, o2, nm, k1, k2, rfl, L1.same s5, L2.same s5, hN, fun H6 r L ys s6 nr hr RLr as6 mm e => ?_⟩
      have s46 := s5.trans s6
      have B6 := B4.same s46
      obtain ⟨o6, hb6⟩ := B4.lst
      have e6 : L.map (·.2) = rws H6 k1 k2 ys := by rw [e, rws_kt ys (L1.same s5) (L2.same s5) (KT.same s6)]
      refine ⟨_, _, rfl, r, L, ys, listText ts, rfl, B6, ⟨L1.same s46, L2.same s46, L3.same s46, hN, hr, (ne_of_none (s5 _ _ hb6) nr).symm, rws_RC (L1.same s46) (L2.same s46) mm (fun q hq => (RLr q hq).2) e6, e6, as6, mm, ⟨as, ts, c, sh.keep fun x _ o e => s46 x o e, hc, nb, rfl⟩, ?_⟩⟩
      have := congrArg List.length e6
      rw [List.length_map] at this
      rw [this]
      exact rws_len H6 (L1.same s46) (L2.same s46) hN as6 mm
    clear B4 L1 L2 L3
    rintro σ' H6 ⟨r0, T0, ys, kp, rfl, B6, S⟩
    -- told again
    refine ⟨fun σ' H' => (∃ (y9 y10 : Option V), σ' = sg a b y2 (some (.ref tn)) (some (.ref o1)) (some (.ref o2)) (some (.ref o3)) (some (.str kp)) (some (.ref r0)) y9 y10 x11 x12 x13 x14 x15 x16) ∧ Bag H' b ∧ S6 b H' o1 o2 o3 r0 nm k1 k2 k3 T0 ys kp, ?_, ?_⟩
    · refine ⟨2, rfl, by decide, by decide, for_range (n := 2) (fun _ σ' H' => (∃ (z9 z10 : Option V), σ' = sg a b y2 (some (.ref tn)) (some (.ref o1)) (some (.ref o2)) (some (.ref o3)) (some (.str kp)) (some (.ref r0)) z9 z10 x11 x12 x13 x14 x15 x16) ∧ Same H6 H') ⟨⟨_, _, rfl⟩, Same.refl _⟩ (fun j σ' H7 hj hP => ?_) (fun σ' H7 hP => ?_)⟩
      · obtain ⟨⟨z9, z10, rfl⟩, s7⟩ := hP
        have S7 := S.same B6 s7
        refine ⟨fun σ' H' => ∃ (y9 : Option V) (l1 : Addr) (L1 : List Row), σ' = sg a b y2 (some (.ref tn)) (some (.ref o1)) (some (.ref o2)) (some (.ref o3)) (some (.str kp)) (some (.ref r0)) y9 (some (.ref l1)) x11 x12 x13 x14 x15 x16 ∧ Same H6 H' ∧ H6 l1 = none ∧ H' l1 = some (.lst (rrs L1)) ∧ (∀ q ∈ L1, H' q.1 = some (.tup [.str q.2.1, q.2.2.1, q.2.2.2])) ∧ L1.map (·.2) = T0.map (·.2), ?_, ?_⟩
        · refine ⟨_, rfl, _, rfl, b, o1, o2, nm, k1, k2, rfl, S7.l1, S7.l2, S7.n, fun H8 r L ys2 s8 nr hr hL as2 mm2 e2 => ⟨_, r, L, rfl, s7.trans s8, same_no s7 nr, hr, fun q hq => (hL q hq).2, ?_⟩⟩
          have ey : ys2 = ys := TX.Asc.one as2 S7.as fun x => (mm2 x).trans (S7.m x).symm
          rw [e2, ey, S7.e]
        clear s7 S7
        rintro σ' H8 ⟨y9, l1, L1, rfl, s8, n1, h1, w1, e1⟩
        have S8 := S.same B6 s8
        have lL : L1.length ≤ 14 := by
          have := congrArg List.length e1
          rw [List.length_map, List.length_map] at this
          rw [this]; exact S8.few
        refine ⟨fun σ' H' => σ' = sg a b y2 (some (.ref tn)) (some (.ref o1)) (some (.ref o2)) (some (.ref o3)) (some (.str kp)) (some (.ref r0)) y9 (some (.ref l1)) x11 x12 x13 x14 x15 x16 ∧ H8 = H', ?_, ?_⟩
        · have full : ∀ q ∈ L1, H8 q.1 = some (.tup [.str q.2.1, q.2.2.1, q.2.2.2]) ∧ q.2.1 ∈ NMS ∧ En b H8 q.2.2.1 ∧ En b H8 q.2.2.2 := fun q hq => by
            have m : q.2 ∈ T0.map (·.2) := by rw [← e1]; exact List.mem_map_of_mem hq
            obtain ⟨r, hr, er⟩ := List.mem_map.mp m
            obtain ⟨a1, a2, a3, a4⟩ := S8.t r hr
            rw [er] at a2 a3 a4
            exact ⟨w1 q hq, S8.n.ok _ a2, a3, a4⟩
          obtain ⟨as, bs, ts, c, u1, u2, u3, u4, u5⟩ := rows_shw L1 T0 e1 full fun q hq => (S8.t q hq).1
          exact ⟨_, rfl, _, rfl, .ref l1, .ref r0, 3, 4, _, _, _, _, _, rfl, by decide, .inl (.inl ⟨l1, r0, _, _, rfl, rfl, .inl (.inl h1), .inl (.inl S8.r), rows_eq L1 T0 e1 (fun q hq => ⟨(full q hq).1, (full q hq).2.2.1.or, (full q hq).2.2.2.or⟩) fun q hq => (S8.t q hq).1⟩),
            list_shw u1 h1 (not_tup h1 u4), list_shw u2 S8.r (not_tup S8.r u5), by decide, by omega, by omega, true, rfl, rfl, rfl⟩
        rintro σ' H9 ⟨rfl, rfl⟩
        have stay : ∀ (H' : Hp) (o : HO), Same H6 H' → Same H6 (upd H' l1 o) := fun H' o s x u e => by rw [upd_ne (ne_of_none e n1)]; exact s _ _ e
        refine ⟨fun σ' H' => σ' = sg a b y2 (some (.ref tn)) (some (.ref o1)) (some (.ref o2)) (some (.ref o3)) (some (.str kp)) (some (.ref r0)) y9 (some (.ref l1)) x11 x12 x13 x14 x15 x16 ∧ Same H6 H' ∧ ∃ zs, H' l1 = some (.lst zs), ?_, ?_⟩
        · exact ⟨_, rfl, .inl ⟨rfl, _, .inl (.inl h1)⟩, l1, rrs L1, .non, rfl, rfl, h1, by rw [List.length_map, sizeLine_eq]; omega, rfl, stay _ _ s8, _, upd_same⟩
        rintro σ' H9 ⟨rfl, s9, zs, h9⟩
        exact ⟨_, rfl, .inl ⟨rfl, _, .inl (.inl h9)⟩, l1, zs, rfl, rfl, h9, ⟨_, _, rfl⟩, stay _ _ s9⟩
      · obtain ⟨⟨z9, z10, rfl⟩, s7⟩ := hP
        exact ⟨⟨_, _, rfl⟩, B6.same s7, S.same B6 s7⟩
    clear B6 S
    rintro σ' H7 ⟨⟨y9, y10, rfl⟩, B7, S7⟩
    -- words
    refine ⟨fun σ' H' => σ' = sg a b y2 (some (.ref tn)) (some (.ref o1)) (some (.ref o2)) (some (.ref o3)) (some (.str kp)) (some (.ref r0)) y9 y10 x11 x12 x13 x14 x15 x16 ∧ Same H7 H', ?_, ?_⟩
    · let ws : List Row → List PySem.Str := fun L => L.map fun q => wd H7 q.2.2.1 q.2.2.2
      have lw : ∀ i, (ws (T0.take i)).length ≤ 14 := fun i => by
        show (List.map _ (T0.take i)).length ≤ 14
        rw [List.length_map, List.length_take]
        have := S7.few
        omega
      refine ⟨_, rfl, r0, rfl, ⟨_, .inl (.inl S7.r)⟩, fun D1 n1 => ?_⟩
      have r1 : r0 ≠ D1 := ne_of_none S7.r n1
      refine lc_list (K := K) (a := r0) (xs := rrs T0) (fun i Hc => Hc D1 = some (.lst ((ws (T0.take i)).map V.str)) ∧ ∀ x o, x ≠ D1 → H7 x = some o → Hc x = some o) ⟨upd_same, fun x o n e => by rw [upd_ne n]; exact e⟩ (fun i Hc _ hP => .inl (.inl (hP.2 _ _ r1 S7.r))) (fun i x Hc hx hP => ?_) (fun H8 hP => ?_)
      · obtain ⟨h1, h2⟩ := hP
        rw [List.getElem?_map] at hx
        cases hz : T0[i]? with
        | none => rw [hz] at hx; cases hx
        | some q =>
          rw [hz] at hx
          cases hx
          obtain ⟨a1, a2, a3, a4⟩ := S7.t q (List.mem_of_getElem? hz)
          have sc : Same H7 Hc := fun x o e => h2 x o (ne_of_none e n1) e
          have kt := KT.same sc
          refine ⟨q.1, _, rfl, .inl (.inl (sc _ _ a1)), rfl, _, _, rfl, _, _, rfl, _, _, rfl, rfl, rfl, _, rfl, _, rfl, b, q.2.2.1, q.2.2.2, rfl, a3.kt kt, a4.kt kt, _, h1, ?_, ?_, fun x o n e => by rw [upd_ne n]; exact h2 x o n e⟩
          · rw [List.length_map, sizeLine_eq]
            have := lw i
            omega
          · have et : T0.take (i + 1) = T0.take i ++ [q] := by rw [List.take_add_one, hz]; rfl
            rw [et, upd_same, wd_kt a3 a4 kt]
            show _ = some (HO.lst ((List.map _ (T0.take i ++ [q])).map V.str))
            rw [List.map_append, List.map_append]
            rfl
      · obtain ⟨h1, h2⟩ := hP
        rw [List.length_map, List.take_of_length_le (Nat.le_refl _)] at h1
        have s8 : Same H7 H8 := fun x o e => h2 x o (ne_of_none e n1) e
        have S8 := S7.same B7 s8
        refine ⟨_, rfl, r0, rfl, ⟨_, .inl (.inl S8.r)⟩, fun D2 n2 => ?_⟩
        have r2 : r0 ≠ D2 := ne_of_none S8.r n2
        have d12 : D1 ≠ D2 := ne_of_none h1 n2
        refine lc_list (K := K) (a := r0) (xs := rrs T0) (fun i Hc => Hc D2 = some (.lst ((ws (T0.take i)).map V.str)) ∧ ∀ x o, x ≠ D2 → H8 x = some o → Hc x = some o) ⟨upd_same, fun x o n e => by rw [upd_ne n]; exact e⟩ (fun i Hc _ hP => .inl (.inl (hP.2 _ _ r2 S8.r))) (fun i x Hc hx hP => ?_) (fun H9 hP => ?_)
        · obtain ⟨g1, g2⟩ := hP
          rw [List.getElem?_map] at hx
          cases hz : T0[i]? with
          | none => rw [hz] at hx; cases hx
          | some q =>
            rw [hz] at hx
            cases hx
            obtain ⟨a1, a2, a3, a4⟩ := S7.t q (List.mem_of_getElem? hz)
            have sc : Same H8 Hc := fun x o e => g2 x o (ne_of_none e n2) e
            have kt := KT.same (s8.trans sc)
            have row := (s8.trans sc) _ _ a1
            refine ⟨rfl, _, rfl, q.1, _, 1, q.2.2.1, rfl, rfl, .inl (.inl row), rfl, _, rfl, q.1, _, 2, q.2.2.2, rfl, rfl, .inl (.inl row), rfl, b, q.2.2.1, q.2.2.2, rfl, a3.kt kt, a4.kt kt, _, g1, ?_, ?_, fun x o n e => by rw [upd_ne n]; exact g2 x o n e⟩
            · rw [List.length_map, sizeLine_eq]
              have := lw i
              omega
            · have et : T0.take (i + 1) = T0.take i ++ [q] := by rw [List.take_add_one, hz]; rfl
              rw [et, upd_same, wd_kt a3 a4 kt]
              show _ = some (HO.lst ((List.map _ (T0.take i ++ [q])).map V.str))
              rw [List.map_append, List.map_append]
              rfl
        · obtain ⟨g1, g2⟩ := hP
          rw [List.length_map, List.take_of_length_le (Nat.le_refl _)] at g1
          have s9 : Same H8 H9 := fun x o e => g2 x o (ne_of_none e n2) e
          have h19 := s9 _ _ h1
          have lw0 : (ws T0).length ≤ 14 := by
            have := lw T0.length
            rw [List.take_of_length_le (Nat.le_refl _)] at this
            exact this
          have wok : ∀ x ∈ ws T0, okT x = true := fun x hx => by
            obtain ⟨q, _, rfl⟩ := List.mem_map.mp hx
            exact wds_ok _ (wd_in _ _)
          obtain ⟨ts, sh⟩ := shw_strs (H := H9) (ws T0) wok
          exact ⟨.ref D1, .ref D2, 1, 1, _, _, _, _, _, rfl, by decide, .inl (.inl ⟨D1, D2, _, _, rfl, rfl, .inl (.inl h19), .inl (.inl g1), strs_eq _⟩), list_shw sh h19 (by simp), list_shw sh g1 (by simp), by decide, by omega, by omega, true, rfl, rfl, s8.trans s9⟩
    rintro σ' H8 ⟨rfl, s8⟩
    have B8 := B7.same s8
    have S8 := S7.same B7 s8
    clear B7 S7 s8
    -- mixed
    refine ⟨fun σ' H' => ∃ (c : Addr) (T1 : List Row), σ' = sg a b y2 (some (.ref tn)) (some (.ref o1)) (some (.ref o2)) (some (.ref o3)) (some (.str kp)) (some (.ref r0)) y9 y10 (some (.ref c)) x12 x13 x14 x15 x16 ∧ Bag H' b ∧ S6 b H' o1 o2 o3 r0 nm k1 k2 k3 T0 ys kp ∧ H' c = some (.lst (rrs T1)) ∧ T1.Perm T0 ∧ c ≠ b, ?_, ?_⟩
    · refine ⟨_, rfl, _, rfl, b, r0, rrs T0, rfl, B8, S8.r, S8.rb, by rw [List.length_map]; have := S8.few; omega, fun H9 r zs c9 B9 nr hr pm rb => ?_⟩
      obtain ⟨T1, p1, rfl⟩ := perm_map_inv pm T0 rfl
      exact ⟨r, T1, rfl, B9, S8.chb B8 c9, hr, p1, rb⟩
    clear B8 S8
    rintro σ' H9 ⟨c, T1, rfl, B9, S9, hc, p1, cb⟩
    -- a list or a tuple
    refine ⟨fun σ' H' => ∃ (c : Addr), σ' = sg a b y2 (some (.ref tn)) (some (.ref o1)) (some (.ref o2)) (some (.ref o3)) (some (.str kp)) (some (.ref r0)) y9 y10 (some (.ref c)) x12 x13 x14 x15 x16 ∧ Bag H' b ∧ S6 b H' o1 o2 o3 r0 nm k1 k2 k3 T0 ys kp ∧ Seq H' c (rrs T1), ?_, ?_⟩
    · refine ⟨_, rfl, b, 2, rfl, B9, by decide, by decide, fun H10 v c10 B10 v0 v1 => ⟨rfl, _, rfl, ite2 (fun e => ?_) (fun e => ?_)⟩⟩
      · exact ⟨_, rfl, c, _, rfl, .inl ⟨.inl (.inl (c10 _ _ cb hc)), fun p np => ⟨p, rfl, B10.same (new_same np), (S9.chb B9 c10).same B10 (new_same np), .inr upd_same⟩⟩⟩
      · exact ⟨_, rfl, c, rfl, B10, S9.chb B9 c10, .inl (c10 _ _ cb hc)⟩
    clear B9 S9 hc cb
    rintro σ' H9 ⟨c, rfl, B9, S9, hc⟩
    have T1ok : RC b H9 nm T1 := fun q hq => S9.t q (p1.mem_iff.mp hq)
    obtain ⟨ob, hb9⟩ := B9.lst
    -- each lock
    refine ⟨fun σ' H' => (∃ (y12 : Option V), σ' = sg a b y2 (some (.ref tn)) (some (.ref o1)) (some (.ref o2)) (some (.ref o3)) (some (.str kp)) (some (.ref r0)) y9 y10 (some (.ref c)) y12 x13 x14 x15 x16) ∧ Same H9 H', ?_, ?_⟩
    · refine ⟨_, rfl, _, rfl, _, rfl, by show 3 ≤ sizeLine; decide, fun t nt => ⟨t, rfl, ⟨_, .inl (.inl upd_same)⟩, ?_⟩⟩
      have ht : upd H9 t (.tup [.ref o1, .ref o3, .ref o2]) t = some (.tup [.ref o1, .ref o3, .ref o2]) := upd_same
      refine for_tup (K := K) (a := t) (xs := [.ref o1, .ref o3, .ref o2]) (fun _ σ' H' => (∃ (y12 : Option V), σ' = sg a b y2 (some (.ref tn)) (some (.ref o1)) (some (.ref o2)) (some (.ref o3)) (some (.str kp)) (some (.ref r0)) y9 y10 (some (.ref c)) y12 x13 x14 x15 x16) ∧ Same H9 H' ∧ H' t = some (.tup [.ref o1, .ref o3, .ref o2])) ⟨⟨_, rfl⟩, new_same nt, ht⟩ (fun _ σ' H' _ hP => .inl (.inl hP.2.2)) (fun j x σ' H10 hx hP => ?_) (fun σ' H10 hP => ⟨hP.1, hP.2.1⟩)
      obtain ⟨⟨y12, rfl⟩, s10, h10⟩ := hP
      have hx2 : ∃ o ks, x = .ref o ∧ Lk b H10 o nm ks := by
        have m := List.mem_of_getElem? hx
        simp only [List.mem_cons, List.not_mem_nil, or_false] at m
        rcases m with e | e | e
        · exact ⟨_, _, e, S9.l1.same s10⟩
        · exact ⟨_, _, e, S9.l3.same s10⟩
        · exact ⟨_, _, e, S9.l2.same s10⟩
      obtain ⟨o, ks, rfl, Lo⟩ := hx2
      have T10 := T1ok.same s10
      refine ⟨_, rfl, _, rfl, ?_⟩
      unfold tNil
      refine res_out (s10 _ _ hb9) Lo S9.n (hc.same s10) T10 fun H11 v s11 O1 => ⟨_, rfl, _, rfl, ?_⟩
      show spRes _ H11 _ _
      refine res_out (s11 _ _ (s10 _ _ hb9)) (Lo.same s11) S9.n ((hc.same s10).same s11) (T10.same s11) fun H12 u s12 O2 => ?_
      exact alike_of S9.n (O1.same (Lo.same s11) (T10.same s11) s12) O2 ⟨true, rfl, ⟨_, rfl⟩, (s10.trans s11).trans s12, (s11.trans s12) _ _ h10⟩
    rintro σ' H10 ⟨⟨y12, rfl⟩, s10⟩
    have B10 := B9.same s10
    have S10 := S9.same B9 s10
    obtain ⟨ob2, hb10⟩ := B10.lst
    clear B9 S9 hc T1ok hb9 s10
    -- the end of a turn
    have RT : RC b H10 nm (T0.take 1) := fun q hq => S10.t q (List.mem_of_mem_take hq)
    have ecut : cutV (rrs T0) none (some 1) = rrs (T0.take 1) := by
      show _ = List.map _ (T0.take 1)
      rw [List.map_take]
      exact cut_take (rrs T0) 1
    obtain ⟨as, ts, cc, sh, hcc, nbs, rfl⟩ := S10.k
    refine ⟨_, rfl, _, rfl, 1, rfl, r0, rrs T0, rfl, .inl (.inl S10.r), fun p np => ?_⟩
    rw [ecut]
    have s11 : Same H10 (upd H10 p (.lst (rrs (T0.take 1)))) := new_same np
    have hp11 : upd H10 p (.lst (rrs (T0.take 1))) p = some (.lst (rrs (T0.take 1))) := upd_same
    generalize upd H10 p (.lst (rrs (T0.take 1))) = H11 at s11 hp11 ⊢
    unfold tNil
    refine res_out (s11 _ _ hb10) (S10.l1.same s11) S10.n (.inl hp11) (RT.same s11) fun H12 v s12 O1 => ⟨_, rfl, _, rfl, 1, rfl, r0, rrs T0, rfl, .inl (.inl ((s11.trans s12) _ _ S10.r)), fun p2 np2 => ?_⟩
    rw [ecut]
    have s13 : Same H12 (upd H12 p2 (.lst (rrs (T0.take 1)))) := new_same np2
    have hp13 : upd H12 p2 (.lst (rrs (T0.take 1))) p2 = some (.lst (rrs (T0.take 1))) := upd_same
    generalize upd H12 p2 (.lst (rrs (T0.take 1))) = H13 at s13 hp13 ⊢
    have s1013 := (s11.trans s12).trans s13
    show spRes _ H13 _ _
    refine res_out (s1013 _ _ hb10) (S10.l1.same s1013) S10.n (.inl hp13) (RT.same s1013) fun H14 u s14 O2 => ?_
    have s1014 := s1013.trans s14
    refine alike_of S10.n (O1.same (S10.l1.same (s11.trans s12)) (RT.same (s11.trans s12)) (s13.trans s14)) O2 ⟨true, rfl, _, rfl, _, rfl, _, rfl, by show 3 ≤ sizeLine; decide, fun l nl => ?_⟩
    have sh14 := sh.keep (H' := H14) fun x _ o e => s1014 x o e
    have nla := sh14.fresh nl
    have s15 : Same H14 (upd H14 l (.lst [.ref o1, .ref o2, .ref o3])) := new_same nl
    have h15 : upd H14 l (.lst [.ref o1, .ref o2, .ref o3]) l = some (.lst [.ref o1, .ref o2, .ref o3]) := upd_same
    generalize upd H14 l (.lst [.ref o1, .ref o2, .ref o3]) = H15 at s15 h15 ⊢
    have sh15 := sh14.keep (H' := H15) fun x _ o e => s15 x o e
    refine ⟨_, 4, _, _, _, rfl, list_shw sh15 h15 nla, by decide, by omega, _, rfl, rfl, _, rfl, ?_⟩
    rw [show decide (V.str (listText ts) = V.str (listText ts)) = true from decide_eq_true rfl]
    exact ⟨⟨_, _, _, _, _, _, _, _, _, _, _, _, _, _, _, rfl⟩, B10.same (s1014.trans s15)⟩
end
end V5
/-! What the top has written. -/
namespace V5
open PySem PySem.Spec PyProof.Rows L2
theorem all_mk {P : Program} {w : World} {K : PySem.W.Frag} {h : Heap} {mg : PySem.Str → Option Value} {fa : Addr} (X : K.In h) (G : h.Ns mainGlobals mg) (hfa : mg "law" = some (.ref fa))
    {fT : Addr} {odT anT : Option Addr} {slT : Array (Option Value)} {ocT kVT dcT pmT cdT ctT : Value} {fO : Addr} {odO anO : Option Addr} {slO : Array (Option Value)} {ocO kVO dcO pmO cdO ctO : Value} {fM : Addr} {odM anM : Option Addr} {slM : Array (Option Value)} {ocM kVM dcM pmM cdM ctM : Value} {fV : Addr} {odV anV : Option Addr} {slV : Array (Option Value)} {ocV kVV dcV pmV cdV ctV : Value} {fE : Addr} {odE anE : Option Addr} {slE : Array (Option Value)} {ocE kVE dcE pmE cdE ctE : Value} {fB : Addr} {odB anB : Option Addr} {slB : Array (Option Value)} {ocB kVB dcB pmB cdB ctB : Value} {fN : Addr} {odN anN : Option Addr} {slN : Array (Option Value)} {ocN kVN dcN pmN cdN ctN : Value} {fA : Addr} {odA anA : Option Addr} {slA : Array (Option Value)} {ocA kVA dcA pmA cdA ctA : Value} {fNr : Addr} {odNr anNr : Option Addr} {slNr : Array (Option Value)} {ocNr kVNr dcNr pmNr cdNr ctNr : Value} {fCh : Addr} {odCh anCh : Option Addr} {slCh : Array (Option Value)} {ocCh kVCh dcCh pmCh cdCh ctCh : Value} {fBt : Addr} {odBt anBt : Option Addr} {slBt : Array (Option Value)} {ocBt kVBt dcBt pmBt cdBt ctBt : Value} {fAl : Addr} {odAl anAl : Option Addr} {slAl : Array (Option Value)} {ocAl kVAl dcAl pmAl cdAl ctAl : Value} {fHe : Addr} {odHe anHe : Option Addr} {slHe : Array (Option Value)} {ocHe kVHe dcHe pmHe cdHe ctHe : Value} {fLc : Addr} {odLc anLc : Option Addr} {slLc : Array (Option Value)} {ocLc kVLc dcLc pmLc cdLc ctLc : Value} {fWd : Addr} {odWd anWd : Option Addr} {slWd : Array (Option Value)} {ocWd kVWd dcWd pmWd cdWd ctWd : Value} {fLw : Addr} {odLw anLw : Option Addr} {slLw : Array (Option Value)} {ocLw kVLw dcLw pmLw cdLw ctLw : Value} {fCg : Addr} {odCg anCg : Option Addr} {slCg : Array (Option Value)} {ocCg kVCg dcCg pmCg cdCg ctCg : Value} {fCp : Addr} {odCp anCp : Option Addr} {slCp : Array (Option Value)} {ocCp kVCp dcCp pmCp cdCp ctCp : Value} {fAs : Addr} {odAs anAs : Option Addr} {slAs : Array (Option Value)} {ocAs kVAs dcAs pmAs cdAs ctAs : Value} {fW : Addr} {odW anW : Option Addr} {slW : Array (Option Value)} {ocW kVW dcW pmW cdW ctW : Value} {cX cP fIn : Addr} {nmX qX : PySem.Str} {NX : Addr} {bsX bmX : List Value} {snX : List PySem.Str} {subX : List Value} {abX : Bool} {colX : Option Bool} {ddX : Option Addr} {maX mbX mcX mdX meX : Option Value} {odIn anIn : Option Addr} {slIn : Array (Option Value)} {ocIn kVIn dcIn pmIn cdIn ctIn : Value}
    (ncX : PySem.W.nsIn K mainGlobals "NotThere" = some (some (.ref cX)))
    (ncP : PySem.W.nsIn K mainGlobals "PackError" = some (some (.ref cP)))
    (xX : K.lookup cX = some (excClassObj nmX qX cX NX bsX bmX true snX subX abX colX ddX maX mbX mcX mdX meX "ValueError.__new__"))
    (jX : PySem.W.findIn K (.ref cX) "__init__" = some (some (.ref fIn)))
    (mIn : K.lookup fIn = some ⟨ocIn, odIn, .func (PySem.W.fnOf "__init__" "NotThere.__init__" (defArgs sInitN) (defBody sInitN) (defScope sInitN) .none kVIn dcIn pmIn anIn cdIn ctIn), slIn⟩)
    (gT : PySem.W.nsIn K mainGlobals "_law_take" = some (some (.ref fT)))
    (gO : PySem.W.nsIn K mainGlobals "_law_one" = some (some (.ref fO)))
    (gM : PySem.W.nsIn K mainGlobals "_law_mixed" = some (some (.ref fM)))
    (gV : PySem.W.nsIn K mainGlobals "_law_version" = some (some (.ref fV)))
    (gE : PySem.W.nsIn K mainGlobals "_law_feature_names" = some (some (.ref fE)))
    (gB : PySem.W.nsIn K mainGlobals "_law_bag" = some (some (.ref fB)))
    (gN : PySem.W.nsIn K mainGlobals "_law_names" = some (some (.ref fN)))
    (gA : PySem.W.nsIn K mainGlobals "_law_any_lock" = some (some (.ref fA)))
    (gNr : PySem.W.nsIn K mainGlobals "_law_near_lock" = some (some (.ref fNr)))
    (gCh : PySem.W.nsIn K mainGlobals "_law_changes" = some (some (.ref fCh)))
    (gBt : PySem.W.nsIn K mainGlobals "changes_between" = some (some (.ref fBt)))
    (gAl : PySem.W.nsIn K mainGlobals "_law_alike" = some (some (.ref fAl)))
    (gHe : PySem.W.nsIn K mainGlobals "_law_heard" = some (some (.ref fHe)))
    (gLc : PySem.W.nsIn K mainGlobals "_law_changed" = some (some (.ref fLc)))
    (gWd : PySem.W.nsIn K mainGlobals "change_word" = some (some (.ref fWd)))
    (gLw : PySem.W.nsIn K mainGlobals "_law_word" = some (some (.ref fLw)))
    (gCg : PySem.W.nsIn K mainGlobals "changed_lock" = some (some (.ref fCg)))
    (gCp : PySem.W.nsIn K mainGlobals "lock_copy" = some (some (.ref fCp)))
    (gAs : PySem.W.nsIn K mainGlobals "_law_ascending_dict" = some (some (.ref fAs)))
    (gW : PySem.W.nsIn K mainGlobals "law" = some (some (.ref fW)))
    (lT : K.lookup fT = some ⟨ocT, odT, .func (PySem.W.fnOf "_law_take" "_law_take" (defArgs sTake) (defBody sTake) (defScope sTake) .none kVT dcT pmT anT cdT ctT), slT⟩)
    (lO : K.lookup fO = some ⟨ocO, odO, .func (PySem.W.fnOf "_law_one" "_law_one" (defArgs sOne) (defBody sOne) (defScope sOne) .none kVO dcO pmO anO cdO ctO), slO⟩)
    (lM : K.lookup fM = some ⟨ocM, odM, .func (PySem.W.fnOf "_law_mixed" "_law_mixed" (defArgs sMixed) (defBody sMixed) (defScope sMixed) .none kVM dcM pmM anM cdM ctM), slM⟩)
    (lV : K.lookup fV = some ⟨ocV, odV, .func (PySem.W.fnOf "_law_version" "_law_version" (defArgs sVersion) (defBody sVersion) (defScope sVersion) .none kVV dcV pmV anV cdV ctV), slV⟩)
    (lE : K.lookup fE = some ⟨ocE, odE, .func (PySem.W.fnOf "_law_feature_names" "_law_feature_names" (defArgs sFeat) (defBody sFeat) (defScope sFeat) .none kVE dcE pmE anE cdE ctE), slE⟩)
    (lB : K.lookup fB = some ⟨ocB, odB, .func (PySem.W.fnOf "_law_bag" "_law_bag" (defArgs sBag) (defBody sBag) (defScope sBag) .none kVB dcB pmB anB cdB ctB), slB⟩)
    (lN : K.lookup fN = some ⟨ocN, odN, .func (PySem.W.fnOf "_law_names" "_law_names" (defArgs sNames) (defBody sNames) (defScope sNames) .none kVN dcN pmN anN cdN ctN), slN⟩)
    (lA : K.lookup fA = some ⟨ocA, odA, .func (PySem.W.fnOf "_law_any_lock" "_law_any_lock" (defArgs sAny) (defBody sAny) (defScope sAny) .none kVA dcA pmA anA cdA ctA), slA⟩)
    (lNr : K.lookup fNr = some ⟨ocNr, odNr, .func (PySem.W.fnOf "_law_near_lock" "_law_near_lock" (defArgs sNear) (defBody sNear) (defScope sNear) .none kVNr dcNr pmNr anNr cdNr ctNr), slNr⟩)
    (lCh : K.lookup fCh = some ⟨ocCh, odCh, .func (PySem.W.fnOf "_law_changes" "_law_changes" (defArgs sChanges) (defBody sChanges) (defScope sChanges) .none kVCh dcCh pmCh anCh cdCh ctCh), slCh⟩)
    (lBt : K.lookup fBt = some ⟨ocBt, odBt, .func (PySem.W.fnOf "changes_between" "changes_between" (defArgs sBetween) (defBody sBetween) (defScope sBetween) .none kVBt dcBt pmBt anBt cdBt ctBt), slBt⟩)
    (lAl : K.lookup fAl = some ⟨ocAl, odAl, .func (PySem.W.fnOf "_law_alike" "_law_alike" (defArgs sAlike) (defBody sAlike) (defScope sAlike) .none kVAl dcAl pmAl anAl cdAl ctAl), slAl⟩)
    (lHe : K.lookup fHe = some ⟨ocHe, odHe, .func (PySem.W.fnOf "_law_heard" "_law_heard" (defArgs sHeard) (defBody sHeard) (defScope sHeard) .none kVHe dcHe pmHe anHe cdHe ctHe), slHe⟩)
    (lLc : K.lookup fLc = some ⟨ocLc, odLc, .func (PySem.W.fnOf "_law_changed" "_law_changed" (defArgs sLChg) (defBody sLChg) (defScope sLChg) .none kVLc dcLc pmLc anLc cdLc ctLc), slLc⟩)
    (lWd : K.lookup fWd = some ⟨ocWd, odWd, .func (PySem.W.fnOf "change_word" "change_word" (defArgs sWord) (defBody sWord) (defScope sWord) .none kVWd dcWd pmWd anWd cdWd ctWd), slWd⟩)
    (lLw : K.lookup fLw = some ⟨ocLw, odLw, .func (PySem.W.fnOf "_law_word" "_law_word" (defArgs sLWord) (defBody sLWord) (defScope sLWord) .none kVLw dcLw pmLw anLw cdLw ctLw), slLw⟩)
    (lCg : K.lookup fCg = some ⟨ocCg, odCg, .func (PySem.W.fnOf "changed_lock" "changed_lock" (defArgs sChg) (defBody sChg) (defScope sChg) .none kVCg dcCg pmCg anCg cdCg ctCg), slCg⟩)
    (lCp : K.lookup fCp = some ⟨ocCp, odCp, .func (PySem.W.fnOf "lock_copy" "lock_copy" (defArgs sCopy) (defBody sCopy) (defScope sCopy) .none kVCp dcCp pmCp anCp cdCp ctCp), slCp⟩)
    (lAs : K.lookup fAs = some ⟨ocAs, odAs, .func (PySem.W.fnOf "_law_ascending_dict" "_law_ascending_dict" (defArgs sAsc) (defBody sAsc) (defScope sAsc) .none kVAs dcAs pmAs anAs cdAs ctAs), slAs⟩)
    (lW : K.lookup fW = some ⟨ocW, odW, .func (PySem.W.fnOf "law" "law" (defArgs sLaw) (defBody sLaw) (defScope sLaw) .none kVW dcW pmW anW cdW ctW), slW⟩)
    (BX : (PySem.W.keepIn K (.ref cX) && (PySem.W.typeIn K (.ref cX) == some (.type "type")) && (PySem.W.subIn K (.ref cX) (.type "BaseException") == some true) && (PySem.W.findIn K (.ref cX) "__setattr__" == some (some (.builtin "object.__setattr__"))) && PySem.HandSPX.refsVE bmX && (PySem.W.findIn K (.ref cX) "name" == some none) && (PySem.W.typeIn K (.ref fIn) == some (.type "function")) && PySem.W.keepIn K (.ref fIn) && PySem.W.codeIn K cdIn "NotThere.__init__" && xfB K cX && (PySem.W.exmOne K (.ref cX) (.ref cX) == some true)) = true)
    (kT : (PySem.W.codeIn K cdT "_law_take" && PySem.W.keepIn K (.ref fT)) = true)
    (kO : (PySem.W.codeIn K cdO "_law_one" && PySem.W.keepIn K (.ref fO)) = true)
    (kM : (PySem.W.codeIn K cdM "_law_mixed" && PySem.W.keepIn K (.ref fM)) = true)
    (kV : (PySem.W.codeIn K cdV "_law_version" && PySem.W.keepIn K (.ref fV)) = true)
    (kE : (PySem.W.codeIn K cdE "_law_feature_names" && PySem.W.keepIn K (.ref fE)) = true)
    (kB : (PySem.W.codeIn K cdB "_law_bag" && PySem.W.keepIn K (.ref fB)) = true)
    (kN : (PySem.W.codeIn K cdN "_law_names" && PySem.W.keepIn K (.ref fN)) = true)
    (kA : (PySem.W.codeIn K cdA "_law_any_lock" && PySem.W.keepIn K (.ref fA)) = true)
    (kNr : (PySem.W.codeIn K cdNr "_law_near_lock" && PySem.W.keepIn K (.ref fNr)) = true)
    (kCh : (PySem.W.codeIn K cdCh "_law_changes" && PySem.W.keepIn K (.ref fCh)) = true)
    (kBt : (PySem.W.codeIn K cdBt "changes_between" && PySem.W.keepIn K (.ref fBt)) = true)
    (kAl : (PySem.W.codeIn K cdAl "_law_alike" && PySem.W.keepIn K (.ref fAl)) = true)
    (kHe : (PySem.W.codeIn K cdHe "_law_heard" && PySem.W.keepIn K (.ref fHe)) = true)
    (kLc : (PySem.W.codeIn K cdLc "_law_changed" && PySem.W.keepIn K (.ref fLc)) = true)
    (kWd : (PySem.W.codeIn K cdWd "change_word" && PySem.W.keepIn K (.ref fWd)) = true)
    (kLw : (PySem.W.codeIn K cdLw "_law_word" && PySem.W.keepIn K (.ref fLw)) = true)
    (kCg : (PySem.W.codeIn K cdCg "changed_lock" && PySem.W.keepIn K (.ref fCg)) = true)
    (kCp : (PySem.W.codeIn K cdCp "lock_copy" && PySem.W.keepIn K (.ref fCp)) = true)
    (kAs : (PySem.W.codeIn K cdAs "_law_ascending_dict" && PySem.W.keepIn K (.ref fAs)) = true)
    (kW : (PySem.W.codeIn K cdW "law" && PySem.W.keepIn K (.ref fW)) = true)
    (BN : ([("int" : PySem.Str), ("len" : PySem.Str), ("range" : PySem.Str), ("tuple" : PySem.Str), ("sorted" : PySem.Str), ("set" : PySem.Str), ("dict" : PySem.Str), ("list" : PySem.Str), ("repr" : PySem.Str), ("abs" : PySem.Str)].all fun x => PySem.W.nsIn K mainGlobals x == some none) = true) :
    ∃ fd : FuncData, (∀ (s : Shared) (v : Value), BindsTo s fd ⟨[v], []⟩ [("script", v)]) ∧ ∀ base : Heap, K.In base → base.Ns mainGlobals mg → Ok0 P w K mg base 9 fa fd ["script"] (spLaw K) := by
  have e := hfa.symm.trans (PySem.W.mg_of X G gW); cases e
  have nn : ∀ x : PySem.Str, x ∈ [("int" : PySem.Str), ("len" : PySem.Str), ("range" : PySem.Str), ("tuple" : PySem.Str), ("sorted" : PySem.Str), ("set" : PySem.Str), ("dict" : PySem.Str), ("list" : PySem.Str), ("repr" : PySem.Str), ("abs" : PySem.Str)] → mg x = none := fun x hx => PySem.W.mg_none_of X G (beq_iff_eq.mp (List.all_eq_true.mp BN x hx))
  have kT' := Bool.and_eq_true_iff.mp kT
  have FT := fun_mk (st := sTake) lT kT'.1 kT'.2
  have bT := FT.binds (ps := ["bag", "many"]) fun _ _ _ _ _ _ us hl => match us, hl with | [_, _], _ => rfl
  have kO' := Bool.and_eq_true_iff.mp kO
  have FO := fun_mk (st := sOne) lO kO'.1 kO'.2
  have bO := FO.binds (ps := ["bag", "things"]) fun _ _ _ _ _ _ us hl => match us, hl with | [_, _], _ => rfl
  have kM' := Bool.and_eq_true_iff.mp kM
  have FM := fun_mk (st := sMixed) lM kM'.1 kM'.2
  have bM := FM.binds (ps := ["bag", "things"]) fun _ _ _ _ _ _ us hl => match us, hl with | [_, _], _ => rfl
  have kV' := Bool.and_eq_true_iff.mp kV
  have FV := fun_mk (st := sVersion) lV kV'.1 kV'.2
  have bV := FV.binds (ps := ["bag"]) fun _ _ _ _ _ _ us hl => match us, hl with | [_], _ => rfl
  have kE' := Bool.and_eq_true_iff.mp kE
  have FE := fun_mk (st := sFeat) lE kE'.1 kE'.2
  have bE := FE.binds (ps := ["bag", "name"]) fun _ _ _ _ _ _ us hl => match us, hl with | [_, _], _ => rfl
  have kB' := Bool.and_eq_true_iff.mp kB
  have FB := fun_mk (st := sBag) lB kB'.1 kB'.2
  have bB := FB.binds (ps := ["script"]) fun _ _ _ _ _ _ us hl => match us, hl with | [_], _ => rfl
  have kN' := Bool.and_eq_true_iff.mp kN
  have FN := fun_mk (st := sNames) lN kN'.1 kN'.2
  have bN := FN.binds (ps := ["many"]) fun _ _ _ _ _ _ us hl => match us, hl with | [_], _ => rfl
  have kA' := Bool.and_eq_true_iff.mp kA
  have FA := fun_mk (st := sAny) lA kA'.1 kA'.2
  have bA := FA.binds (ps := ["bag", "names"]) fun _ _ _ _ _ _ us hl => match us, hl with | [_, _], _ => rfl
  have kNr' := Bool.and_eq_true_iff.mp kNr
  have FNr := fun_mk (st := sNear) lNr kNr'.1 kNr'.2
  have bNr := FNr.binds (ps := ["bag", "lock", "names"]) fun _ _ _ _ _ _ us hl => match us, hl with | [_, _, _], _ => rfl
  have kCh' := Bool.and_eq_true_iff.mp kCh
  have FCh := fun_mk (st := sChanges) lCh kCh'.1 kCh'.2
  have bCh := FCh.binds (ps := ["one", "other"]) fun _ _ _ _ _ _ us hl => match us, hl with | [_, _], _ => rfl
  have kBt' := Bool.and_eq_true_iff.mp kBt
  have FBt := fun_mk (st := sBetween) lBt kBt'.1 kBt'.2
  have bBt := FBt.binds (ps := ["one", "other"]) fun _ _ _ _ _ _ us hl => match us, hl with | [_, _], _ => rfl
  have kAl' := Bool.and_eq_true_iff.mp kAl
  have FAl := fun_mk (st := sAlike) lAl kAl'.1 kAl'.2
  have bAl := FAl.binds (ps := ["found", "due"]) fun _ _ _ _ _ _ us hl => match us, hl with | [_, _], _ => rfl
  have kHe' := Bool.and_eq_true_iff.mp kHe
  have FHe := fun_mk (st := sHeard) lHe kHe'.1 kHe'.2
  have bHe := FHe.binds (ps := ["lock", "changes"]) fun _ _ _ _ _ _ us hl => match us, hl with | [_, _], _ => rfl
  have kLc' := Bool.and_eq_true_iff.mp kLc
  have FLc := fun_mk (st := sLChg) lLc kLc'.1 kLc'.2
  have bLc := FLc.binds (ps := ["lock", "changes"]) fun _ _ _ _ _ _ us hl => match us, hl with | [_, _], _ => rfl
  have kWd' := Bool.and_eq_true_iff.mp kWd
  have FWd := fun_mk (st := sWord) lWd kWd'.1 kWd'.2
  have bWd := FWd.binds (ps := ["before", "after"]) fun _ _ _ _ _ _ us hl => match us, hl with | [_, _], _ => rfl
  have kLw' := Bool.and_eq_true_iff.mp kLw
  have FLw := fun_mk (st := sLWord) lLw kLw'.1 kLw'.2
  have bLw := FLw.binds (ps := ["before", "after"]) fun _ _ _ _ _ _ us hl => match us, hl with | [_, _], _ => rfl
  have kCg' := Bool.and_eq_true_iff.mp kCg
  have FCg := fun_mk (st := sChg) lCg kCg'.1 kCg'.2
  have bCg := FCg.binds (ps := ["lock", "changes"]) fun _ _ _ _ _ _ us hl => match us, hl with | [_, _], _ => rfl
  have kCp' := Bool.and_eq_true_iff.mp kCp
  have FCp := fun_mk (st := sCopy) lCp kCp'.1 kCp'.2
  have bCp := FCp.binds (ps := ["lock"]) fun _ _ _ _ _ _ us hl => match us, hl with | [_], _ => rfl
  have kAs' := Bool.and_eq_true_iff.mp kAs
  have FAs := fun_mk (st := sAsc) lAs kAs'.1 kAs'.2
  have bAs := FAs.binds (ps := ["found"]) fun _ _ _ _ _ _ us hl => match us, hl with | [_], _ => rfl
  have kW' := Bool.and_eq_true_iff.mp kW
  have FW := fun_mk (st := sLaw) lW kW'.1 kW'.2
  have bW := FW.binds (ps := ["script"]) fun _ _ _ _ _ _ us hl => match us, hl with | [_], _ => rfl
  simp only [Bool.and_eq_true, beq_iff_eq] at BX
  obtain ⟨⟨⟨⟨⟨⟨⟨⟨⟨⟨w1, w2⟩, w3⟩, w4⟩, w5⟩, w6⟩, w7⟩, w8⟩, w9⟩, w10⟩, w11⟩ := BX
  have FIn := fun_mk (st := sInitN) mIn w9 w8
  have bIn := FIn.binds (ps := ["self", "name"]) fun _ _ _ _ _ _ us hl => match us, hl with | [_, _], _ => rfl
  have D : Drw K mg fT fO fM fV fE _ _ _ _ _ := ⟨FT, FO, FM, FV, FE, bT, bO, bM, bV, bE, PySem.W.mg_of X G gT, PySem.W.mg_of X G gO, PySem.W.mg_of X G gM, PySem.W.mg_of X G gV, PySem.W.mg_of X G gE, (nn "int" (by decide +kernel)), (nn "len" (by decide +kernel)), (nn "range" (by decide +kernel)), (nn "tuple" (by decide +kernel)), (nn "sorted" (by decide +kernel)), (nn "set" (by decide +kernel)), (nn "dict" (by decide +kernel)), (nn "list" (by decide +kernel))⟩
  have X1 : Ex K mg cX fIn _ := ⟨PySem.W.mg_of X G ncX, ⟨⟨_, _, _, _, _, _, _, _, _, _, _, _, _, _, _, xX, w5⟩, w4, w3, w2, w1⟩, jX, w7, w6, FIn, bIn⟩
  have X2 : Ey K mg cX cP := ⟨xfB_ok w10, w6, w11, PySem.W.mg_of X G ncP⟩
  have L : Lw K mg fT fO fM fV fE fB fN fA fNr fCh fBt fAl fHe fLc fWd fLw fCg fCp fAs cX cP fIn _ _ _ _ _ _ _ _ _ _ _ _ _ _ _ _ _ _ _ _ := ⟨D, X1, X2, FB, FN, FA, FNr, FCh, FBt, FAl, FHe, FLc, FWd, FLw, FCg, FCp, FAs, bB, bN, bA, bNr, bCh, bBt, bAl, bHe, bLc, bWd, bLw, bCg, bCp, bAs, PySem.W.mg_of X G gB, PySem.W.mg_of X G gN, PySem.W.mg_of X G gA, PySem.W.mg_of X G gNr, PySem.W.mg_of X G gCh, PySem.W.mg_of X G gBt, PySem.W.mg_of X G gAl, PySem.W.mg_of X G gHe, PySem.W.mg_of X G gLc, PySem.W.mg_of X G gWd, PySem.W.mg_of X G gLw, PySem.W.mg_of X G gCg, PySem.W.mg_of X G gCp, PySem.W.mg_of X G gAs, (nn "repr" (by decide +kernel)), (nn "abs" (by decide +kernel))⟩
  exact ⟨PySem.W.fnOf "law" "law" (defArgs sLaw) (defBody sLaw) (defScope sLaw) .none kVW dcW pmW anW cdW ctW, fun s v => .of_eq rfl, fun base _ _ => ok_law FW L⟩
end V5
open PySem PySem.W PyProof.Rows
set_option maxHeartbeats 0 in
theorem PySem.Challenge.cw_packsworn_k50_changes_of_locks_holds : PySem.Challenge.rw_packsworn_k50_changes_of_locks.Holds := by
  w_on; o_law; k_head; (case hw => w_witness2)
  k_fill
  refine V5.walk_of0 (l := PySem.Challenge.rw_packsworn_k50_changes_of_locks) (n := 63) (k := 9) (x := "script") (sp := fun K => V5.spLaw K) rfl (by decide) rfl ⟨rfl, by decide, by decide⟩ (fun w h Y => PySem.W.kIn_of Y) ?F (fun _ _ a ns hl _ hS => ⟨a, ns, rfl, hS, hl, fun _ => rfl⟩)
  case F =>
    intro w mg fa h KX G hmg
    refine' V5.all_mk KX G hmg ?ncX ?ncP ?xX ?jX ?mIn ?gT ?gO ?gM ?gV ?gE ?gB ?gN ?gA ?gNr ?gCh ?gBt ?gAl ?gHe ?gLc ?gWd ?gLw ?gCg ?gCp ?gAs ?gW ?lT ?lO ?lM ?lV ?lE ?lB ?lN ?lA ?lNr ?lCh ?lBt ?lAl ?lHe ?lLc ?lWd ?lLw ?lCg ?lCp ?lAs ?lW ?BX ?kT ?kO ?kM ?kV ?kE ?kB ?kN ?kA ?kNr ?kCh ?kBt ?kAl ?kHe ?kLc ?kWd ?kLw ?kCg ?kCp ?kAs ?kW ?BN
    (case ncX => first | k_is | k_exc | kernel_rfl)
    (case ncP => first | k_is | k_exc | kernel_rfl)
    (case xX => first | k_is | k_exc | kernel_rfl)
    (case jX => first | k_is | k_exc | kernel_rfl)
    (case mIn => first | k_is | k_exc | kernel_rfl)
    (case gT => first | k_is | k_exc | kernel_rfl)
    (case gO => first | k_is | k_exc | kernel_rfl)
    (case gM => first | k_is | k_exc | kernel_rfl)
    (case gV => first | k_is | k_exc | kernel_rfl)
    (case gE => first | k_is | k_exc | kernel_rfl)
    (case gB => first | k_is | k_exc | kernel_rfl)
    (case gN => first | k_is | k_exc | kernel_rfl)
    (case gA => first | k_is | k_exc | kernel_rfl)
    (case gNr => first | k_is | k_exc | kernel_rfl)
    (case gCh => first | k_is | k_exc | kernel_rfl)
    (case gBt => first | k_is | k_exc | kernel_rfl)
    (case gAl => first | k_is | k_exc | kernel_rfl)
    (case gHe => first | k_is | k_exc | kernel_rfl)
    (case gLc => first | k_is | k_exc | kernel_rfl)
    (case gWd => first | k_is | k_exc | kernel_rfl)
    (case gLw => first | k_is | k_exc | kernel_rfl)
    (case gCg => first | k_is | k_exc | kernel_rfl)
    (case gCp => first | k_is | k_exc | kernel_rfl)
    (case gAs => first | k_is | k_exc | kernel_rfl)
    (case gW => first | k_is | k_exc | kernel_rfl)
    (case lT => first | k_is | k_exc | kernel_rfl)
    (case lO => first | k_is | k_exc | kernel_rfl)
    (case lM => first | k_is | k_exc | kernel_rfl)
    (case lV => first | k_is | k_exc | kernel_rfl)
    (case lE => first | k_is | k_exc | kernel_rfl)
    (case lB => first | k_is | k_exc | kernel_rfl)
    (case lN => first | k_is | k_exc | kernel_rfl)
    (case lA => first | k_is | k_exc | kernel_rfl)
    (case lNr => first | k_is | k_exc | kernel_rfl)
    (case lCh => first | k_is | k_exc | kernel_rfl)
    (case lBt => first | k_is | k_exc | kernel_rfl)
    (case lAl => first | k_is | k_exc | kernel_rfl)
    (case lHe => first | k_is | k_exc | kernel_rfl)
    (case lLc => first | k_is | k_exc | kernel_rfl)
    (case lWd => first | k_is | k_exc | kernel_rfl)
    (case lLw => first | k_is | k_exc | kernel_rfl)
    (case lCg => first | k_is | k_exc | kernel_rfl)
    (case lCp => first | k_is | k_exc | kernel_rfl)
    (case lAs => first | k_is | k_exc | kernel_rfl)
    (case lW => first | k_is | k_exc | kernel_rfl)
    (case BX => first | k_is | k_exc | kernel_rfl)
    (case kT => first | k_is | k_exc | kernel_rfl)
    (case kO => first | k_is | k_exc | kernel_rfl)
    (case kM => first | k_is | k_exc | kernel_rfl)
    (case kV => first | k_is | k_exc | kernel_rfl)
    (case kE => first | k_is | k_exc | kernel_rfl)
    (case kB => first | k_is | k_exc | kernel_rfl)
    (case kN => first | k_is | k_exc | kernel_rfl)
    (case kA => first | k_is | k_exc | kernel_rfl)
    (case kNr => first | k_is | k_exc | kernel_rfl)
    (case kCh => first | k_is | k_exc | kernel_rfl)
    (case kBt => first | k_is | k_exc | kernel_rfl)
    (case kAl => first | k_is | k_exc | kernel_rfl)
    (case kHe => first | k_is | k_exc | kernel_rfl)
    (case kLc => first | k_is | k_exc | kernel_rfl)
    (case kWd => first | k_is | k_exc | kernel_rfl)
    (case kLw => first | k_is | k_exc | kernel_rfl)
    (case kCg => first | k_is | k_exc | kernel_rfl)
    (case kCp => first | k_is | k_exc | kernel_rfl)
    (case kAs => first | k_is | k_exc | kernel_rfl)
    (case kW => first | k_is | k_exc | kernel_rfl)
    (case BN => first | k_is | k_exc | kernel_rfl)
